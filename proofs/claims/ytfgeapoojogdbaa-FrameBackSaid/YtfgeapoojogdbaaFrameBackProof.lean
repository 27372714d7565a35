import Derived.Test.YtfgeapoojogdbaaRows
import Derived.Test.YtfgeapoojogdbaaProg
import Derived.Test.YtfgeapoojogdbaaBytes
import Derived.Test.YtfgeapoojogdbaaNumBe
import Derived.Test.YtfgeapoojogdbaaFrMath
import Derived.Test.YtfgeapoojogdbaaFrFrame
import Derived.Test.YtfgeapoojogdbaaFrRef
import Derived.Test.YtfgeapoojogdbaaFrRefP
import Derived.Test.YtfgeapoojogdbaaFrRefS
import Derived.Test.YtfgeapoojogdbaaFrEq
import Derived.Test.YtfgeapoojogdbaaFrBack
import Derived.Test.YtfgeapoojogdbaaFrCode
import Derived.Test.YtfgeapoojogdbaaFrAwake
import Derived.Deep.CutRange
import Derived.Lib.Hide
import Derived.Outline
import Derived.IntWalk
import Derived.WalkSpells
import Derived.WalkLawsBesides
import Derived.Laws.Rows
import Derived.WalkKit
import Derived.ProofKit
import Derived.OpenShut
import Derived.ShutString
import Derived.ChangeOld
import Derived.Below
namespace Go.Proofs.Ytfgeapoojogdbaa.frameBack
open Go Go.ChangeShapes Go.WideShapes Go.ChangeAt Go.RowKit Bytes Fr
open Go.ChangeMaps (open_string shut_string)
set_option linter.unusedVariables false

theorem own : ownKnob Try.prog.godebug = none := by kernel_rfl
theorem laidOut : laidOutB Try.prog = true := by kernel_rfl

set_option maxHeartbeats 8000000 in
set_option maxRecDepth 100000 in
theorem walk (f0 : Frm) (s1 : ByteArray) (s2 : ByteArray) (w : World) (hf0 : Okf f0) (hd0 : f0.data.size ≤ maxLen) (hs1 : s1.size ≤ maxLen) (hs2 : s2.size ≤ maxLen) :
    Calls Try.prog 6 #[.agg #[.int .u8 (f0.ty : Int), .int .u8 (f0.fl : Int), .int .u32 (f0.st : Int), .string f0.data], .string s1, .string s2] w fun e w' => e = .returned (.bool true) ∧ Below w.heap.size w w' := by
  obtain ⟨hX0, hB0⟩ := boxF_new w f0
  obtain ⟨X, hX⟩ : ∃ X, w.heap.size = X := ⟨_, rfl⟩
  have HX0 := Lib.hid (hX ▸ hX0)
  have HB0 := Lib.hid hB0
  clear hX0 hB0
  go_enter Try.func6, Try.ntmps6
  go_upto_region 1 with fail
  generalize w.alloc (.cells #[.int .u8 (f0.ty : Int), .int .u8 (f0.fl : Int), .int .u32 (f0.st : Int), .string f0.data] 24) = W at *
  clear hX
  go_wp2_with fail
  refine (awake_is W).mono ?_
  rintro e w1 ⟨rfl, hB1⟩
  have HB1 := Lib.hid (HB0.out.trans (hB1.mono HB0.out.size))
  have HX1 := Lib.hid (HX0.out.below hB1)
  clear hB1 HX0 HB0
  obtain ⟨a0, a1, a2, a3⟩ := HX1.out.c
  by_cases hbig : 40000 < f0.data.size
  · have b1 : (40000 : Int) < (f0.data.size : Int) := by omega
    go_wp2_with fail
    go_ret
    exact ⟨rfl, HB1.out⟩
  have b1 : ¬ ((40000 : Int) < (f0.data.size : Int)) := by omega
  have b1d : decide ((40000 : Int) < (f0.data.size : Int)) = false := decide_eq_false b1
  by_cases hbig2 : 1000 < s1.size
  · have b2 : (1000 : Int) < (s1.size : Int) := by omega
    go_wp2_with fail
    go_ret
    exact ⟨rfl, HB1.out⟩
  have b2 : ¬ ((1000 : Int) < (s1.size : Int)) := by omega
  have b2d : decide ((1000 : Int) < (s1.size : Int)) = false := decide_eq_false b2
  by_cases hbig3 : 40000 < s2.size
  · have b3 : (40000 : Int) < (s2.size : Int) := by omega
    go_wp2_with fail
    go_ret
    exact ⟨rfl, HB1.out⟩
  have b3 : ¬ ((40000 : Int) < (s2.size : Int)) := by omega
  have b3d : decide ((40000 : Int) < (s2.size : Int)) = false := decide_eq_false b3
  obtain ⟨⟨l, c⟩, hq⟩ : ∃ z, printF f0 = z := ⟨_, rfl⟩
  obtain ⟨r, hr⟩ : ∃ r, mk l = r := ⟨_, rfl⟩
  have HQ := Lib.hid hq
  have HRR := Lib.hid hr
  have hd2 : f0.data.size ≤ 1000000 := by omega
  clear hq hr
  go_wp2_with fail
  refine (cprint_is f0 l c r w1 hf0 hd2 HQ HRR).mono ?_
  rintro e w2 ⟨rfl, hB2⟩
  have HX2 := Lib.hid (HX1.out.below hB2)
  have HB2 := Lib.hid (HB1.out.trans (hB2.mono HB1.out.size))
  clear hB2 a0 a1 a2 a3
  by_cases hc : c = 0
  · subst c
    obtain ⟨hpar, hlen, hsz⟩ := back_parse hf0 HQ.out s1.data.toList
    have hcutl := back_cut HQ.out hlen hsz
    have hrs : r.size = l.length := by rw [← HRR.out, mk_size]
    have HP1 := Lib.hid (show parseF (r ++ s1) = (f0, l.length, 0) by rw [← hpar]; congr 1; rw [← HRR.out]; exact list_inj (by rw [cat_list, mk_list, mk_list]))
    have HP2 := Lib.hid (show parseF (r.extract 0 (8 + f0.data.size)) = (noF, 0, 2) by rw [← hcutl, show 8 + f0.data.size = l.length - 1 by omega]; congr 1; exact list_inj (by rw [extract_list, mk_list, ← HRR.out, mk_list, List.drop_zero]))
    have hcat : (r ++ s1).size ≤ 1000000 := by rw [ByteArray.size_append]; omega
    clear hpar hcutl
    go_wp2_with fail
    refine (cparse_is (r ++ s1) f0 l.length 0 w2 hcat HP1).mono ?_
    rintro e w3 ⟨rfl, hB3⟩
    unfold frV
    have hB3a := hB3.trans (((Below.refl _ w3).alloc (Nat.le_refl _) (.cells #[.int .u8 (f0.ty : Int), .int .u8 (f0.fl : Int), .int .u32 (f0.st : Int), .string f0.data] 24)).mono hB3.size)
    have HY3 := Lib.hid (boxF_new w3 f0).1
    have HX3 := Lib.hid (HX2.out.below hB3a)
    have HB3 := Lib.hid (HB2.out.trans (hB3a.mono HB2.out.size))
    clear hB3 hB3a
    go_upto_region 6 with fail
    generalize w3.alloc (.cells #[.int .u8 (f0.ty : Int), .int .u8 (f0.fl : Int), .int .u32 (f0.st : Int), .string f0.data] 24) = w4 at *
    obtain ⟨Y, hY⟩ : ∃ Y, w3.heap.size = Y := ⟨_, rfl⟩
    rw [hY] at HY3 ⊢
    clear hY
    have hext : (r.extract 0 (8 + f0.data.size)).size ≤ 1000000 := by rw [ByteArray.size_extract]; omega
    refine (cparse_is (r.extract 0 (8 + f0.data.size)) noF 0 2 w4 hext HP2).mono ?_
    rintro e w5 ⟨rfl, hB5⟩
    unfold frV
    have hB5a := hB5.trans (((Below.refl _ w5).alloc (Nat.le_refl _) (.cells #[.int .u8 (noF.ty : Int), .int .u8 (noF.fl : Int), .int .u32 (noF.st : Int), .string noF.data] 24)).mono hB5.size)
    have HY5 := Lib.hid (HY3.out.below hB5a)
    have HX5 := Lib.hid (HX3.out.below hB5a)
    have HB5 := Lib.hid (HB3.out.trans (hB5a.mono HB3.out.size))
    clear hB5 hB5a HX3 HY3 HB3
    have HSAME := Lib.hid (frm_same' f0)
    have hsm := HSAME.out (w5.alloc (.cells #[.int .u8 (noF.ty : Int), .int .u8 (noF.fl : Int), .int .u32 (noF.st : Int), .string noF.data] 24))
    obtain ⟨a0, a1, a2, a3⟩ := HX5.out.c
    obtain ⟨y0, y1, y2, y3⟩ := HY5.out.c
    go_wp2_with fail
    have HBz := HB5
    generalize w5.alloc (.cells #[.int .u8 (noF.ty : Int), .int .u8 (noF.fl : Int), .int .u32 (noF.st : Int), .string noF.data] 24) = wz at HBz ⊢
    clear a0 a1 a2 a3 y0 y1 y2 y3 hsm HX5 HY5 HB5
    obtain ⟨⟨g, n, d⟩, hp⟩ : ∃ z, parseF s2 = z := ⟨_, rfl⟩
    have HP := Lib.hid hp
    clear hp
    have hs22 : s2.size ≤ 1000000 := by omega
    refine (cparse_is s2 g n d wz hs22 HP).mono ?_
    rintro e u1 ⟨rfl, hC1⟩
    unfold frV
    have hC1a := hC1.trans (((Below.refl _ u1).alloc (Nat.le_refl _) (.cells #[.int .u8 (g.ty : Int), .int .u8 (g.fl : Int), .int .u32 (g.st : Int), .string g.data] 24)).mono hC1.size)
    have HG1 := Lib.hid (boxF_new u1 g).1
    have HC1 := Lib.hid (HBz.out.trans (hC1a.mono HBz.out.size))
    clear hC1 hC1a
    obtain ⟨g0, g1, g2, g3⟩ := HG1.out.c
    by_cases hd : d = 0
    · subst d
      obtain ⟨hg, hgd, l2, hpr, hln, hn9, hns, h5, h6, hst⟩ := back_print HP.out
      obtain ⟨u, hu⟩ : ∃ u, mk l2 = u := ⟨_, rfl⟩
      have HPR := Lib.hid hpr
      have HU := Lib.hid hu
      have hus : u.size = n := by rw [← hu, mk_size, hln]
      have hgd2 : g.data.size ≤ 1000000 := by omega
      clear hpr hu
      go_wp2_with fail
      refine (cprint_is g l2 0 u _ hg hgd2 HPR HU).mono ?_
      rintro e u2 ⟨rfl, hC2⟩
      have HC2 := Lib.hid (HC1.out.trans ((hC2.trans (Below.refl _ u2).drew).mono HC1.out.size))
      clear hC2
      obtain rfl : n = u.size := hus.symm
      have hn9z : (9 : Int) ≤ (u.size : Int) := by omega
      have hnsz : (u.size : Int) ≤ (s2.size : Int) := by omega
      have e5 : u.extract 0 5 = s2.extract 0 5 := list_inj (by rw [extract_list, extract_list, List.drop_zero, List.drop_zero, ← h5, ← HU.out, mk_list])
      have e6 : u.extract 6 u.size = s2.extract 6 u.size := list_inj (by rw [extract_list, extract_list, ← h6, ← HU.out, mk_list, mk_size, List.take_length])
      have c5 : ((u.extract 0 5).toList == (s2.extract 0 5).toList) = true := by rw [e5]; exact beq_self_eq_true _
      have c6 : ((u.extract 6 u.size).toList == (s2.extract 6 u.size).toList) = true := by rw [e6]; exact beq_self_eq_true _
      obtain ⟨x, hx⟩ : ∃ x, x = u[5]'(by omega) := ⟨_, rfl⟩
      obtain ⟨y, hy⟩ : ∃ y, y = s2[5]'(by omega) := ⟨_, rfl⟩
      have hxy : x.toNat % 128 = y.toNat % 128 := by
        rw [hx, hy, ← getD_byte (s := u), ← getD_byte (s := s2), ← HU.out, mk_list, hst]
        rfl
      have ix : ∀ h : 5 < u.size, u[5]'h = x := fun _ => hx.symm
      have iy : ∀ h : 5 < s2.size, s2[5]'h = y := fun _ => hy.symm
      have cxy : ((x.toNat : Int) % 128 == (y.toNat : Int) % 128) = true := by simp; omega
      clear hx hy e5 e6 h5 h6 hst
      go_wp2_with fail
      go_region
      go_wp2_with fail
      go_ret
      exact ⟨rfl, HC2.out⟩
    · have hn0 : n = 0 := parse_none HP.out hd
      subst n
      have hdd : ((d : Int) == 0) = false := by simp; omega
      go_wp2_with fail
      go_ret
      exact ⟨rfl, HC1.out⟩
  · have hcc : ((c : Int) == 0) = false := by simp; omega
    have hno : 2147483647 < f0.st ∨ 16384 < f0.data.size := by
      have hq := HQ.out
      unfold printF at hq
      by_cases h1 : 2147483647 < f0.st
      · exact Or.inl h1
      · rw [if_neg h1] at hq
        by_cases h2 : 16384 < f0.data.size
        · exact Or.inr h2
        · rw [if_neg h2] at hq
          injection hq with _ hq
          exact absurd hq.symm hc
    obtain ⟨a0, a1, a2, a3⟩ := HX2.out.c
    have HBz := HB2
    obtain ⟨wz, rfl⟩ : ∃ x : World, x = w2 := ⟨_, rfl⟩
    rcases hno with hno | hno
    · have k1 : ¬ ((f0.st : Int) ≤ 2147483647) := by omega
      have k1d : decide ((f0.st : Int) ≤ 2147483647) = false := decide_eq_false k1
      go_wp2_with fail
      obtain ⟨⟨g, n, d⟩, hp⟩ : ∃ z, parseF s2 = z := ⟨_, rfl⟩
      have HP := Lib.hid hp
      clear hp
      have hs22 : s2.size ≤ 1000000 := by omega
      refine (cparse_is s2 g n d wz hs22 HP).mono ?_
      rintro e u1 ⟨rfl, hC1⟩
      unfold frV
      have hC1a := hC1.trans (((Below.refl _ u1).alloc (Nat.le_refl _) (.cells #[.int .u8 (g.ty : Int), .int .u8 (g.fl : Int), .int .u32 (g.st : Int), .string g.data] 24)).mono hC1.size)
      have HG1 := Lib.hid (boxF_new u1 g).1
      have HC1 := Lib.hid (HBz.out.trans (hC1a.mono HBz.out.size))
      clear hC1 hC1a
      obtain ⟨g0, g1, g2, g3⟩ := HG1.out.c
      by_cases hd : d = 0
      · subst d
        obtain ⟨hg, hgd, l2, hpr, hln, hn9, hns, h5, h6, hst⟩ := back_print HP.out
        obtain ⟨u, hu⟩ : ∃ u, mk l2 = u := ⟨_, rfl⟩
        have HPR := Lib.hid hpr
        have HU := Lib.hid hu
        have hus : u.size = n := by rw [← hu, mk_size, hln]
        have hgd2 : g.data.size ≤ 1000000 := by omega
        clear hpr hu
        go_wp2_with fail
        refine (cprint_is g l2 0 u _ hg hgd2 HPR HU).mono ?_
        rintro e u2 ⟨rfl, hC2⟩
        have HC2 := Lib.hid (HC1.out.trans ((hC2.trans (Below.refl _ u2).drew).mono HC1.out.size))
        clear hC2
        obtain rfl : n = u.size := hus.symm
        have hn9z : (9 : Int) ≤ (u.size : Int) := by omega
        have hnsz : (u.size : Int) ≤ (s2.size : Int) := by omega
        have e5 : u.extract 0 5 = s2.extract 0 5 := list_inj (by rw [extract_list, extract_list, List.drop_zero, List.drop_zero, ← h5, ← HU.out, mk_list])
        have e6 : u.extract 6 u.size = s2.extract 6 u.size := list_inj (by rw [extract_list, extract_list, ← h6, ← HU.out, mk_list, mk_size, List.take_length])
        have c5 : ((u.extract 0 5).toList == (s2.extract 0 5).toList) = true := by rw [e5]; exact beq_self_eq_true _
        have c6 : ((u.extract 6 u.size).toList == (s2.extract 6 u.size).toList) = true := by rw [e6]; exact beq_self_eq_true _
        obtain ⟨x, hx⟩ : ∃ x, x = u[5]'(by omega) := ⟨_, rfl⟩
        obtain ⟨y, hy⟩ : ∃ y, y = s2[5]'(by omega) := ⟨_, rfl⟩
        have hxy : x.toNat % 128 = y.toNat % 128 := by
          rw [hx, hy, ← getD_byte (s := u), ← getD_byte (s := s2), ← HU.out, mk_list, hst]
          rfl
        have ix : ∀ h : 5 < u.size, u[5]'h = x := fun _ => hx.symm
        have iy : ∀ h : 5 < s2.size, s2[5]'h = y := fun _ => hy.symm
        have cxy : ((x.toNat : Int) % 128 == (y.toNat : Int) % 128) = true := by simp; omega
        clear hx hy e5 e6 h5 h6 hst
        go_wp2_with fail
        go_region
        go_wp2_with fail
        go_ret
        exact ⟨rfl, HC2.out⟩
      · have hn0 : n = 0 := parse_none HP.out hd
        subst n
        have hdd : ((d : Int) == 0) = false := by simp; omega
        go_wp2_with fail
        go_ret
        exact ⟨rfl, HC1.out⟩
    · have k1 : ¬ ((f0.data.size : Int) ≤ 16384) := by omega
      have k1d : decide ((f0.data.size : Int) ≤ 16384) = false := decide_eq_false k1
      by_cases hst0 : f0.st ≤ 2147483647
      · have k2 : (f0.st : Int) ≤ 2147483647 := by omega
        go_wp2_with fail
        obtain ⟨⟨g, n, d⟩, hp⟩ : ∃ z, parseF s2 = z := ⟨_, rfl⟩
        have HP := Lib.hid hp
        clear hp
        have hs22 : s2.size ≤ 1000000 := by omega
        refine (cparse_is s2 g n d wz hs22 HP).mono ?_
        rintro e u1 ⟨rfl, hC1⟩
        unfold frV
        have hC1a := hC1.trans (((Below.refl _ u1).alloc (Nat.le_refl _) (.cells #[.int .u8 (g.ty : Int), .int .u8 (g.fl : Int), .int .u32 (g.st : Int), .string g.data] 24)).mono hC1.size)
        have HG1 := Lib.hid (boxF_new u1 g).1
        have HC1 := Lib.hid (HBz.out.trans (hC1a.mono HBz.out.size))
        clear hC1 hC1a
        obtain ⟨g0, g1, g2, g3⟩ := HG1.out.c
        by_cases hd : d = 0
        · subst d
          obtain ⟨hg, hgd, l2, hpr, hln, hn9, hns, h5, h6, hst⟩ := back_print HP.out
          obtain ⟨u, hu⟩ : ∃ u, mk l2 = u := ⟨_, rfl⟩
          have HPR := Lib.hid hpr
          have HU := Lib.hid hu
          have hus : u.size = n := by rw [← hu, mk_size, hln]
          have hgd2 : g.data.size ≤ 1000000 := by omega
          clear hpr hu
          go_wp2_with fail
          refine (cprint_is g l2 0 u _ hg hgd2 HPR HU).mono ?_
          rintro e u2 ⟨rfl, hC2⟩
          have HC2 := Lib.hid (HC1.out.trans ((hC2.trans (Below.refl _ u2).drew).mono HC1.out.size))
          clear hC2
          obtain rfl : n = u.size := hus.symm
          have hn9z : (9 : Int) ≤ (u.size : Int) := by omega
          have hnsz : (u.size : Int) ≤ (s2.size : Int) := by omega
          have e5 : u.extract 0 5 = s2.extract 0 5 := list_inj (by rw [extract_list, extract_list, List.drop_zero, List.drop_zero, ← h5, ← HU.out, mk_list])
          have e6 : u.extract 6 u.size = s2.extract 6 u.size := list_inj (by rw [extract_list, extract_list, ← h6, ← HU.out, mk_list, mk_size, List.take_length])
          have c5 : ((u.extract 0 5).toList == (s2.extract 0 5).toList) = true := by rw [e5]; exact beq_self_eq_true _
          have c6 : ((u.extract 6 u.size).toList == (s2.extract 6 u.size).toList) = true := by rw [e6]; exact beq_self_eq_true _
          obtain ⟨x, hx⟩ : ∃ x, x = u[5]'(by omega) := ⟨_, rfl⟩
          obtain ⟨y, hy⟩ : ∃ y, y = s2[5]'(by omega) := ⟨_, rfl⟩
          have hxy : x.toNat % 128 = y.toNat % 128 := by
            rw [hx, hy, ← getD_byte (s := u), ← getD_byte (s := s2), ← HU.out, mk_list, hst]
            rfl
          have ix : ∀ h : 5 < u.size, u[5]'h = x := fun _ => hx.symm
          have iy : ∀ h : 5 < s2.size, s2[5]'h = y := fun _ => hy.symm
          have cxy : ((x.toNat : Int) % 128 == (y.toNat : Int) % 128) = true := by simp; omega
          clear hx hy e5 e6 h5 h6 hst
          go_wp2_with fail
          go_region
          go_wp2_with fail
          go_ret
          exact ⟨rfl, HC2.out⟩
        · have hn0 : n = 0 := parse_none HP.out hd
          subst n
          have hdd : ((d : Int) == 0) = false := by simp; omega
          go_wp2_with fail
          go_ret
          exact ⟨rfl, HC1.out⟩
      · have k2 : ¬ ((f0.st : Int) ≤ 2147483647) := by omega
        have k2d : decide ((f0.st : Int) ≤ 2147483647) = false := decide_eq_false k2
        go_wp2_with fail
        obtain ⟨⟨g, n, d⟩, hp⟩ : ∃ z, parseF s2 = z := ⟨_, rfl⟩
        have HP := Lib.hid hp
        clear hp
        have hs22 : s2.size ≤ 1000000 := by omega
        refine (cparse_is s2 g n d wz hs22 HP).mono ?_
        rintro e u1 ⟨rfl, hC1⟩
        unfold frV
        have hC1a := hC1.trans (((Below.refl _ u1).alloc (Nat.le_refl _) (.cells #[.int .u8 (g.ty : Int), .int .u8 (g.fl : Int), .int .u32 (g.st : Int), .string g.data] 24)).mono hC1.size)
        have HG1 := Lib.hid (boxF_new u1 g).1
        have HC1 := Lib.hid (HBz.out.trans (hC1a.mono HBz.out.size))
        clear hC1 hC1a
        obtain ⟨g0, g1, g2, g3⟩ := HG1.out.c
        by_cases hd : d = 0
        · subst d
          obtain ⟨hg, hgd, l2, hpr, hln, hn9, hns, h5, h6, hst⟩ := back_print HP.out
          obtain ⟨u, hu⟩ : ∃ u, mk l2 = u := ⟨_, rfl⟩
          have HPR := Lib.hid hpr
          have HU := Lib.hid hu
          have hus : u.size = n := by rw [← hu, mk_size, hln]
          have hgd2 : g.data.size ≤ 1000000 := by omega
          clear hpr hu
          go_wp2_with fail
          refine (cprint_is g l2 0 u _ hg hgd2 HPR HU).mono ?_
          rintro e u2 ⟨rfl, hC2⟩
          have HC2 := Lib.hid (HC1.out.trans ((hC2.trans (Below.refl _ u2).drew).mono HC1.out.size))
          clear hC2
          obtain rfl : n = u.size := hus.symm
          have hn9z : (9 : Int) ≤ (u.size : Int) := by omega
          have hnsz : (u.size : Int) ≤ (s2.size : Int) := by omega
          have e5 : u.extract 0 5 = s2.extract 0 5 := list_inj (by rw [extract_list, extract_list, List.drop_zero, List.drop_zero, ← h5, ← HU.out, mk_list])
          have e6 : u.extract 6 u.size = s2.extract 6 u.size := list_inj (by rw [extract_list, extract_list, ← h6, ← HU.out, mk_list, mk_size, List.take_length])
          have c5 : ((u.extract 0 5).toList == (s2.extract 0 5).toList) = true := by rw [e5]; exact beq_self_eq_true _
          have c6 : ((u.extract 6 u.size).toList == (s2.extract 6 u.size).toList) = true := by rw [e6]; exact beq_self_eq_true _
          obtain ⟨x, hx⟩ : ∃ x, x = u[5]'(by omega) := ⟨_, rfl⟩
          obtain ⟨y, hy⟩ : ∃ y, y = s2[5]'(by omega) := ⟨_, rfl⟩
          have hxy : x.toNat % 128 = y.toNat % 128 := by
            rw [hx, hy, ← getD_byte (s := u), ← getD_byte (s := s2), ← HU.out, mk_list, hst]
            rfl
          have ix : ∀ h : 5 < u.size, u[5]'h = x := fun _ => hx.symm
          have iy : ∀ h : 5 < s2.size, s2[5]'h = y := fun _ => hy.symm
          have cxy : ((x.toNat : Int) % 128 == (y.toNat : Int) % 128) = true := by simp; omega
          clear hx hy e5 e6 h5 h6 hst
          go_wp2_with fail
          go_region
          go_wp2_with fail
          go_ret
          exact ⟨rfl, HC2.out⟩
        · have hn0 : n = 0 := parse_none HP.out hd
          subst n
          have hdd : ((d : Int) == 0) = false := by simp; omega
          go_wp2_with fail
          go_ret
          exact ⟨rfl, HC1.out⟩

set_option maxRecDepth 100000 in
theorem lifted (os : Os) (started : os.Started) (H : Type) (enc : TypeId × Value → H) :
    ReturnsInHanded {} Try.checked os 6 .any (Rows.frameBackSpec.pre6 enc Try.prog Try.f6 Rows.frameBackRow.domain false) (Rows.frameBackSpec.post enc Try.prog Try.f6 false true false false) := by
  refine returnsInHanded_of_change (C := Try.checked) own started (by kernel_rfl) Try.func6
    (ChangeSpec.witness6 (enc := enc) (C := Try.checked) false ⟨#[], #[.agg #[.int .u8 0, .int .u8 0, .int .u32 0, .string ByteArray.empty], .string ByteArray.empty, .string ByteArray.empty], []⟩ 8 (by kernel_rfl) (by kernel_rfl) (by kernel_rfl) (by kernel_rfl)) ?_
  intro W base args ds gs before hval0 hW hcnd _
  have hval : ∀ (j : Nat) t v, Try.f6.params[j]? = some t → args[j]? = some v → Value.okWide Try.prog W .any base t v := hval0
  have hW' := hW
  obtain ⟨p, q, hA0, hV, rfl, hfz, hnd⟩ := hW
  have hA : DataW.TrodAll enc Try.prog W 0 (fun _ => true) true Try.f6.params.toList args.toList ds p := hA0
  rw [Try.params6] at hA hval
  obtain ⟨v0, vs0, d0, ds0, p0, q0, hargs, rfl, rfl, h0, r0⟩ := trodAll_cons hA
  obtain ⟨v1, vs1, d1, ds1, p1, q1, rfl, rfl, rfl, h1, r1⟩ := trodAll_cons r0
  obtain ⟨v2, vs2, d2, ds2, p2, q2, rfl, rfl, rfl, h2, r2⟩ := trodAll_cons r1
  obtain ⟨rfl, rfl, rfl⟩ := trodAll_nil r2
  obtain rfl : args = #[v0, v1, v2] := by cases args; simp_all
  obtain ⟨rfl, rfl⟩ := trodVars_none hV
  have k0 := h0
  have lt0 : ∀ x ∈ p0, x.block < W.heap.size := by obtain ⟨m, hm⟩ := k0; exact DataW.trod_lt m _ _ _ hm
  obtain ⟨f0, rfl, hf0, hd0⟩ := came_frm (hval 0 24 v0 rfl rfl) h0
  obtain ⟨s1, rfl, rfl, rfl, ws1⟩ := open_string Try.underlying9 (hval 1 9 v1 rfl rfl) h1
  obtain ⟨s2, rfl, rfl, rfl, ws2⟩ := open_string Try.underlying9 (hval 2 9 v2 rfl rfl) h2
  clear hA0 hval0
  refine (walk f0 s1 s2 W hf0 hd0 ws1 ws2).mono fun e W' ⟨he, bel⟩ => ?_
  subst he
  exact ⟨_, rfl, _, _, _, [], _, [], hW', trodAll_mk1 (shut_bool Try.underlying4 _), (trodAll_cons_mk (Below.trod laidOut (by kernel_rfl) (of_decide_eq_true (by kernel_rfl)) k0 bel lt0) (trodAll_cons_mk (shut_string Try.underlying9 ws1) (trodAll_cons_mk (shut_string Try.underlying9 ws2) trodAll_mk0))), rfl, bel.frame _, fun h => by cases h⟩

theorem over : Rows.frameBackRow.holds Try.pinned (OpenSpec.ofChange Rows.frameBackSpec) :=
  OpenClaim.holds_of_wide 6 Try.f6 rfl rfl rfl rfl rfl rfl rfl ⟨rfl, rfl, rfl, rfl, rfl⟩ rfl rfl rfl rfl rfl (by kernel_rfl) Try.func6 (by kernel_rfl)
    (of_decide_eq_true (by kernel_rfl)) (by unfold Func.isWrapper; first | (rw [if_pos (by decide +kernel)]; kernel_rfl) | (rw [if_neg (by decide +kernel)]; exact ⟨rfl, rfl⟩))
    (fun os started H enc _ => lifted os started H enc)

theorem proved : Rows.FrameBackSaid := over
#print axioms proved
end Go.Proofs.Ytfgeapoojogdbaa.frameBack
