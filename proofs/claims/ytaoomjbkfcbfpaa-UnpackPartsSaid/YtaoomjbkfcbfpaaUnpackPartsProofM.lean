/- Proves UnpackParts: two blocks whose fields come one behind the other are as one block with these, but for a size, which may stand ahead of fields alone. No condition. -/
import Derived.Test.YtaoomjbkfcbfpaaRows
import Derived.Test.YtaoomjbkfcbfpaaStrs
import Derived.Test.YtaoomjbkfcbfpaaUpMath
import Derived.Test.YtaoomjbkfcbfpaaUnpackPartsProofG1
import Derived.Test.YtaoomjbkfcbfpaaUpFew
import Derived.Test.YtaoomjbkfcbfpaaUnpackPartsProofG2
import Derived.Deep.CutRange
import Derived.WalkKit
import Derived.ProofKit
import Derived.OpenShut
import Derived.ShutString
import Derived.ChangeOld
import Derived.Below
namespace Go.Proofs.Ytaoomjbkfcbfpaa.unpackParts
open Go.ChangeShapes Go.WideShapes Go.ChangeAt Go.RowKit Tb Up Bytes
open Go.ChangeMaps (open_string shut_string)
set_option linter.unusedVariables false

theorem own : ownKnob Try.prog.godebug = none := by kernel_rfl
theorem laidOut : laidOutB Try.prog = true := by kernel_rfl

set_option maxRecDepth 100000 in
set_option maxHeartbeats 8000000 in
theorem walk (a0 : Option Addr) (len0 cap0 : Nat) (s1 s2 : ByteArray) (L : List (List UInt8)) (w : World) (hw1 : s1.size ≤ maxLen) (hw2 : s2.size ≤ maxLen) (hl : len0 ≤ maxLen) (hL : L.length = len0) (hR : Strs.RdS w w.heap.size a0 L) :
    Calls Try.prog 5 #[.slice a0 len0 cap0, .string s1, .string s2] w fun e w' => e = .returned (.bool true) ∧ Below w.heap.size w w' := by
  have hI := Lib.hid hR
  have HL := Lib.hid hL
  clear hR
  have hnb : len0 ≤ 9223372036854775807 := by unfold maxLen at hl; omega
  by_cases h2 : (20 : Int) < len0
  · go_enter Try.func5, Try.ntmps5
    go_wp2_with fail
    refine (awake_is _).mono ?_
    rintro e w1 ⟨rfl, hB⟩
    go_wp2_with fail
    refine (few_is a0 len0 cap0 L w1 (Lib.hid (hI.out.on hB hB.size)) HL hl).mono ?_
    rintro e w2 (⟨rfl, rfl, _⟩ | ⟨rfl, rfl⟩)
    · go_wp2_with fail
      go_ret
      exact ⟨rfl, hB⟩
    · go_wp2_with fail
      go_ret
      exact ⟨rfl, hB⟩
  by_cases h3 : (1000 : Int) < s1.size
  · go_enter Try.func5, Try.ntmps5
    go_wp2_with fail
    refine (awake_is _).mono ?_
    rintro e w1 ⟨rfl, hB⟩
    go_wp2_with fail
    refine (few_is a0 len0 cap0 L w1 (Lib.hid (hI.out.on hB hB.size)) HL hl).mono ?_
    rintro e w2 (⟨rfl, rfl, _⟩ | ⟨rfl, rfl⟩)
    · go_wp2_with fail
      go_ret
      exact ⟨rfl, hB⟩
    · go_wp2_with fail
      go_ret
      exact ⟨rfl, hB⟩
  by_cases h4 : (1000 : Int) < s2.size
  · go_enter Try.func5, Try.ntmps5
    go_wp2_with fail
    refine (awake_is _).mono ?_
    rintro e w1 ⟨rfl, hB⟩
    go_wp2_with fail
    refine (few_is a0 len0 cap0 L w1 (Lib.hid (hI.out.on hB hB.size)) HL hl).mono ?_
    rintro e w2 (⟨rfl, rfl, _⟩ | ⟨rfl, rfl⟩)
    · go_wp2_with fail
      go_ret
      exact ⟨rfl, hB⟩
    · go_wp2_with fail
      go_ret
      exact ⟨rfl, hB⟩
  have hle : len0 ≤ 20 := by omega
  have hle1 : s1.size ≤ 1000 := by omega
  have hle2 : s2.size ≤ 1000 := by omega
  go_enter Try.func5, Try.ntmps5
  go_wp2_with fail
  refine (awake_is _).mono ?_
  rintro e w1 ⟨rfl, hB⟩
  go_wp2_with fail
  refine (few_is a0 len0 cap0 L w1 (Lib.hid (hI.out.on hB hB.size)) HL hl).mono ?_
  rintro e w2 (⟨rfl, rfl, HF⟩ | ⟨rfl, rfl⟩)
  rotate_left
  · go_wp2_with fail
    go_ret
    exact ⟨rfl, hB⟩
  have H2 := Lib.hid hB
  clear hB
  go_wp2_with fail
  refine (unew_is w2).mono ?_
  rintro e w3 ⟨d1, g1, b1, rfl, hD, hB3, l1, l2, l3⟩
  have hs2 := H2.out.size
  have HS := Lib.hid (show DL w w3 d1 g1 b1 (newT 4096, false) from ⟨hD, H2.out.trans (hB3.mono hs2), by omega⟩)
  clear hD hB3 l1 l2 l3 hs2
  go_wp2_with fail
  refine (unew_is w3).mono ?_
  rintro e w4 ⟨d2, g2, b2, rfl, hD, hB4, l1, l2, l3⟩
  have HS2 := Lib.hid (show DD w w4 d1 g1 b1 d2 g2 b2 (newT 4096, false) (newT 4096, false) from by
    have hl := HS.out.dec.lt
    have hs := HS.out.fr.size
    exact ⟨HS.out.below hB4, ⟨hD, HS.out.fr.trans (hB4.mono hs), by omega⟩, by omega, by omega, by omega⟩)
  clear hD hB4 l1 l2 l3
  go_wp2_with fail
  go_loopw [9] (fun i wr => ∃ (k b1 b2 : Nat) (D : Dec), k ≤ len0 ∧ i = .int .i64 (k : Int) ∧ Hid (DD w wr d1 g1 b1 d2 g2 b2 D D)) (fun i _ => len0 - (intOf i).toNat)
  case atStart => exact ⟨0, b1, b2, _, Nat.zero_le _, rfl, HS2⟩
  case round =>
    obtain ⟨k, b1, b2, D, hk, rfl, hS⟩ := hrel
    by_cases hlt : k < len0
    · have hli : (k : Int) < (len0 : Int) := by omega
      have hk0 : (0 : Int) ≤ (k : Int) := by omega
      obtain ⟨ad, rfl, hab, hcell⟩ := hI.out.get (k := k) (by rw [HL.out]; exact hlt)
      have hsz := HF.out k hlt
      obtain ⟨s, hs⟩ : ∃ s, blkAt L k = s := ⟨_, rfl⟩
      have hcell2 : w.cell? (ad.add k) = some (.string s) := by rw [hcell, ← hs]; rfl
      rw [hs] at hsz
      have e1 : IntKind.i64.wrap ((k : Int) + 1) = ((k + 1 : Nat) : Int) := by rw [IntKind.wrap_i64]; omega
      have HC := Lib.hid (show ∀ W, Below w.heap.size w W → W.cell? (ad.add k) = some (.string s) from fun W hB => (hB.cell (by rw [Strs.add_block]; exact hab)).trans hcell2)
      obtain ⟨⟨D', out, x⟩, hRR⟩ : ∃ R, Up.read D s = R := ⟨_, rfl⟩
      have HRR := Lib.hid hRR
      have c5 := HC.out wr hS.out.c1.fr
      clear hcell hcell2 hs hRR
      go_wp2_with fail
      refine (read_any d1 g1 b1 D s (D', out, x) wr hS.out.c1.dec (by omega) HRR).mono ?_
      rintro e w5 ⟨v, rfl, hO, b3, hD5, hK5, hb3, _⟩
      have HS5 := Lib.hid (hS.out.read hD5 hK5 hb3)
      have c6 := HC.out w5 HS5.out.c1.fr
      clear hO hD5 hK5 hb3 c5
      go_wp2_with fail
      refine (read_any d2 g2 b2 D s (D', out, x) w5 HS5.out.c2.dec (by omega) HRR).mono ?_
      rintro e w6 ⟨v6, rfl, hO, b4, hD6, hK6, hb4, _⟩
      have HS6 := Lib.hid ((HS5.out.swap.read hD6 hK6 hb4).swap)
      clear hO hD6 hK6 hb4 c6
      go_wp2_with fail
      go_roundw
      case rel => exact ⟨k + 1, b3, b4, D', by omega, rfl, HS6⟩
      case measure => simp [intOf] <;> omega
    · have hli : ¬ ((k : Int) < (len0 : Int)) := by omega
      obtain ⟨⟨D1, l, x1⟩, hR1⟩ : ∃ R, Up.read D s1 = R := ⟨_, rfl⟩
      obtain ⟨⟨D2, m, x2⟩, hR2⟩ : ∃ R, Up.read D1 s2 = R := ⟨_, rfl⟩
      have HR1 := Lib.hid hR1
      have HR2 := Lib.hid hR2
      have HL1 := Lib.hid (show l.length ≤ 64 from by have := read_len D s1; rw [hR1] at this; exact this)
      have HL2 := Lib.hid (show m.length ≤ 64 from by have := read_len D1 s2; rw [hR2] at this; exact this)
      clear hR1 hR2
      go_wp2_with fail
      refine (read_any d1 g1 b1 D s1 (D1, l, x1) wr hS.out.c1.dec (by omega) HR1).mono ?_
      rintro e w5 ⟨v5, rfl, hO5, b3, hD5, hK5, hb3, hsp5⟩
      have HS5 := Lib.hid (hS.out.read hD5 hK5 hb3)
      have HO5 := Lib.hid hO5
      have HP5 := Lib.hid hsp5
      have HB5 := Lib.hid hS.out.c1.dec.lt
      have HB52 := Lib.hid hS.out.c2.dec.lt
      clear hO5 hD5 hK5 hb3 hsp5
      go_wp2_with fail
      refine (read_any d1 g1 b3 D1 s2 (D2, m, x2) w5 HS5.out.c1.dec (by omega) HR2).mono ?_
      rintro e w6 ⟨v6, rfl, hO6, b4, hD6, hK6, hb4, _⟩
      have HS6 := Lib.hid (HS5.out.read hD6 hK6 hb4)
      have HB6 := Lib.hid HS5.out.c2.dec.lt
      have hO56 := own_same (w' := w6) HO5.out (fun k hk => by
        have hk2 := HO5.out.lt k hk
        have hk3 := HB5.out
        exact hK6.block k hk2.2 (by omega) (by omega) (HP5.out k hk))
      obtain ⟨A5, c5, rfl⟩ := own_sl hO56
      obtain ⟨A6, c6, rfl⟩ := own_sl hO6
      have HO56 := Lib.hid hO56
      have HO6 := Lib.hid hO6
      clear hO56 hO6 hD6 hK6 hb4
      by_cases hx1 : x1 = 0
      · by_cases hx2 : x2 = 0
        · subst hx1
          subst hx2
          obtain ⟨n1, hn1⟩ : ∃ n1, l.length = n1 := ⟨_, rfl⟩
          obtain ⟨n2, hn2⟩ : ∃ n2, m.length = n2 := ⟨_, rfl⟩
          have hz0 : (((0 : Nat) : Int) == 0) = true := rfl
          have hz1 : (((0 : Nat) : Int) != 0) = false := rfl
          have HN1 := Lib.hid hn1
          have HN2 := Lib.hid hn2
          have hb1 := HL1.out
          have hb2 := HL2.out
          have hd := read_ways D s1
          rw [HR1.out] at hd
          have hdn : D.2 = false ∧ ∃ t1, D1 = (t1, false) := by
            rcases hd with ⟨_, h⟩ | ⟨h, t, o, _, h2⟩ | ⟨_, t, x, hx, h2⟩
            · injection h with _ h; injection h with _ h; cases h
            · injection h2 with h2 _; exact ⟨h, t, h2⟩
            · injection h2 with _ h2; injection h2 with _ h2; exact absurd h2.symm hx
          obtain ⟨hdn, t1, rfl⟩ := hdn
          have hd2 := read_ways (t1, false) s2
          rw [HR2.out] at hd2
          have hdn2 : ∃ t2, D2 = (t2, false) := by
            rcases hd2 with ⟨h, _⟩ | ⟨_, t, o, _, h2⟩ | ⟨_, t, x, hx, h2⟩
            · cases h
            · injection h2 with h2 _; exact ⟨t, h2⟩
            · injection h2 with _ h2; injection h2 with _ h2; exact absurd h2.symm hx
          obtain ⟨t2, rfl⟩ := hdn2
          have HD := Lib.hid hdn
          clear hd hd2 hdn
          rw [hn1] at hb1 HO56 ⊢
          rw [hn2] at hb2 HO6 ⊢
          clear hn1 hn2
          have e5 : IntKind.i64.wrap ((n1 : Int) + (n2 : Int)) = ((n1 + n2 : Nat) : Int) := by rw [IntKind.wrap_i64]; omega
          have HREST := Lib.hid (show ¬ (64 < n1 + n2) → ¬ (0 < s2.size ∧ isSize s2 0 ∧ 0 < l.length) → Up.read D (s1 ++ s2) = ((t2, false), l ++ m, 0) from fun h64 hc => parts HD.out HR1.out HR2.out (by rw [HN1.out, HN2.out]; omega) hc)
          go_upto_region 15 with fail
          go_cut [99] from 74 to 98 (fun v wx => wx = w6 ∧ ∃ q : Bool, v = .bool q ∧ Hid (q = false → n1 + n2 ≤ 64 ∧ Up.read D (s1 ++ s2) = ((t2, false), l ++ m, 0)))
          case first =>
            by_cases h64 : 64 < n1 + n2
            · have h64i : (64 : Int) < ((n1 + n2 : Nat) : Int) := by omega
              clear h64
              go_wp2_with fail
              go_meet
              exact ⟨rfl, _, rfl, Lib.hid (fun h => by simp at h)⟩
            have h64i : ¬ ((64 : Int) < ((n1 + n2 : Nat) : Int)) := by omega
            by_cases h0 : 0 < s2.size
            · have h0i : (0 : Int) < (s2.size : Int) := by omega
              obtain ⟨u, hu⟩ : ∃ u, s2[0]'h0 = u := ⟨_, rfl⟩
              have hbu := byte_at h0
              rw [hu] at hbu
              have hub := u.toNat_lt
              by_cases h32 : 32 ≤ u.toNat
              · have h32i : (32 : Int) ≤ (u.toNat : Int) := by omega
                by_cases h63 : u.toNat ≤ 63
                · have h63i : (u.toNat : Int) ≤ 63 := by omega
                  by_cases hl0 : 0 < n1
                  · have hl0i : (0 : Int) < (n1 : Int) := by omega
                    go_wp2_with fail
                    go_meet
                    exact ⟨rfl, _, rfl, Lib.hid (fun h => by simp at h)⟩
                  · have hl0i : ¬ ((0 : Int) < (n1 : Int)) := by omega
                    have HRD := Lib.hid (show n1 + n2 ≤ 64 ∧ _ from ⟨by omega, HREST.out h64 (fun h => by rw [HN1.out] at h; omega)⟩)
                    go_wp2_with fail
                    go_meet
                    exact ⟨rfl, _, rfl, Lib.hid (fun _ => HRD.out)⟩
                · have h63i : ¬ ((u.toNat : Int) ≤ 63) := by omega
                  have HRD := Lib.hid (show n1 + n2 ≤ 64 ∧ _ from ⟨by omega, HREST.out h64 (fun h => by have := h.2.1.2; omega)⟩)
                  go_wp2_with fail
                  go_meet
                  exact ⟨rfl, _, rfl, Lib.hid (fun _ => HRD.out)⟩
              · have h32i : ¬ ((32 : Int) ≤ (u.toNat : Int)) := by omega
                have HRD := Lib.hid (show n1 + n2 ≤ 64 ∧ _ from ⟨by omega, HREST.out h64 (fun h => by have := h.2.1.1; omega)⟩)
                go_wp2_with fail
                go_meet
                exact ⟨rfl, _, rfl, Lib.hid (fun _ => HRD.out)⟩
            · have h0i : ¬ ((0 : Int) < (s2.size : Int)) := by omega
              have HRD := Lib.hid (show n1 + n2 ≤ 64 ∧ _ from ⟨by omega, HREST.out h64 (fun h => h0 h.1)⟩)
              go_wp2_with fail
              go_meet
              exact ⟨rfl, _, rfl, Lib.hid (fun _ => HRD.out)⟩
          case rest =>
            obtain ⟨rfl, q, rfl, hq⟩ := hcut
            cases q with
            | true =>
              go_wp2_with fail
              go_ret
              exact ⟨rfl, HS6.out.c1.fr⟩
            | false =>
              obtain ⟨h64, hrd⟩ := hq.out rfl
              have HRD := Lib.hid hrd
              clear hrd hq
              go_wp2_with fail
              refine (read_any d2 g2 b2 D (s1 ++ s2) ((t2, false), l ++ m, 0) wc HS6.out.c2.dec (by rw [cat_size]; omega) HRD).mono ?_
              rintro e w7 ⟨v7, rfl, hO7, b5, hD7, hK7, hb5, _⟩
              have HS7 := Lib.hid ((HS6.out.swap.read hD7 hK7 hb5).swap)
              have hlt2 := HB52.out
              have hlt3 := HB6.out
              have hO57 := own_same (w' := w7) HO56.out (fun k hk => by
                have hk2 := HO56.out.lt k hk
                exact hK7.block k hk2.2 (by omega) (by omega) (by omega))
              have hO67 := own_same (w' := w7) HO6.out (fun k hk => by
                have hk2 := HO6.out.lt k hk
                exact hK7.block k hk2.2 (by omega) (by omega) (by omega))
              have hlm : (l ++ m).length = n1 + n2 := by rw [List.length_append, HN1.out, HN2.out]
              rw [hlm] at hO7
              obtain ⟨A7, c7, rfl⟩ := own_sl hO7
              have hBL := (Below.refl _ w7).alloc (Nat.le_refl _) (.cells #[] 47)
              obtain ⟨Aa, ca, wa, hrun1, hOa, hGa⟩ := run_append_flds (own_empty w7) (own_same hO57 (fun k hk => hBL.block k (hO57.lt k hk).2)) (by omega) hBL.size 33
              have hBa : Below w7.heap.size w7 wa := hBL.grown hGa hBL.size (fun k hk => by injection hk with hk; have hk' : w7.heap.size = k := hk; omega)
              obtain ⟨Ab, cb, wb, hrun2, hOb, hGb⟩ := run_append_flds hOa (own_same hO67 (fun k hk => hBa.block k (hO67.lt k hk).2)) (by omega) hBa.size 33
              have hBb : Below w7.heap.size w7 wb := hBa.grown hGb hBa.size (fun k hk => (hOa.lt k hk).1)
              rw [List.nil_append] at hOb
              rw [Nat.zero_add] at hOb hrun1 hrun2
              have HSA := Lib.hid (fsame_is wc.heap.size w7.heap.size (n1 + n2) _ _ (l ++ m) wb (own_same hO7 (fun k hk => hBb.block k (hO7.lt k hk).2)) hOb hlm (by omega))
              have HRUN1 := Lib.hid hrun1
              have HRUN2 := Lib.hid hrun2
              have HBb := Lib.hid hBb
              clear hO7 hD7 hK7 hb5 hO57 hO67 hBL hOa hGa hBa hOb hGb hBb hrun1 hrun2
              go_wp2_with (first | (at_builtin; refine wpList_append_gd (by rfl) _ _ _ rfl _ _ _ rfl rfl HRUN1.out ?_) | (at_builtin; refine wpList_append_gd (by rfl) _ _ _ rfl _ _ _ rfl rfl HRUN2.out ?_) | fail)
              refine HSA.out.mono ?_
              rintro e wq ⟨rfl, hBc⟩
              have HS8 := Lib.hid (HS7.out.below (HBb.out.trans (hBc.mono HBb.out.size)))
              clear hBc
              go_wp2_with fail
              refine (table_any d1 g1 b4 (t2, false) wq HS8.out.c1.dec).mono ?_
              rintro e wd ⟨gA, rfl, _, hBd, bA, hTA, _⟩
              have HS9 := Lib.hid (HS8.out.below hBd)
              have HTA := Lib.hid hTA
              clear hBd hTA
              go_wp2_with fail
              refine (table_any d2 g2 b5 (t2, false) wd HS9.out.c2.dec).mono ?_
              rintro e we ⟨gB, rfl, _, hBe, bB, hTB, _⟩
              have HS10 := Lib.hid (HS9.out.below hBe)
              have HTA2 := Lib.hid (HTA.out.below hBe)
              have HTB := Lib.hid hTB
              clear hBe hTB
              go_wp2_with fail
              refine (two_same gA bA gB bB t2 we HTA2.out HTB.out (Ok4.fit HS10.out.c1.dec.ok4)).mono ?_
              rintro e wf ⟨rfl, hBf⟩
              have HS11 := Lib.hid (HS10.out.below hBf)
              go_wp2_with fail
              go_ret
              exact ⟨rfl, HS11.out.c1.fr⟩
        · have hxz : ((x2 : Int) == 0) = false := beq_eq_false_iff_ne.2 (by omega)
          have hxy : ((x2 : Int) != 0) = true := bne_iff_ne.2 (by omega)
          subst hx1
          go_wp2_with fail
          go_ret
          exact ⟨rfl, HS6.out.c1.fr⟩
      · have hxz : ((x1 : Int) == 0) = false := beq_eq_false_iff_ne.2 (by omega)
        have hxy : ((x1 : Int) != 0) = true := bne_iff_ne.2 (by omega)
        go_wp2_with fail
        go_ret
        exact ⟨rfl, HS6.out.c1.fr⟩
set_option maxRecDepth 100000 in
theorem lifted (os : Os) (started : os.Started) (H : Type) (enc : TypeId × Value → H) :
    ReturnsInHanded {} Try.checked os 5 .any (Rows.unpackPartsSpec.pre6 enc Try.prog Try.f5 Rows.unpackPartsRow.domain false) (Rows.unpackPartsSpec.post enc Try.prog Try.f5 false true false false) := by
  refine returnsInHanded_of_change (C := Try.checked) own started (by kernel_rfl) Try.func5
    (ChangeSpec.witness6 (enc := enc) (C := Try.checked) false ⟨#[], #[.slice none 0 0, .string ByteArray.empty, .string ByteArray.empty], []⟩ 8 (by kernel_rfl) (by kernel_rfl) (by kernel_rfl) (by kernel_rfl)) ?_
  intro W base args ds gs before hval0 hW hcnd _
  have hval : ∀ (j : Nat) t v, Try.f5.params[j]? = some t → args[j]? = some v → Value.okWide Try.prog W .any base t v := hval0
  have hW' := hW
  obtain ⟨p, q, hA0, hV, rfl, hfz, hnd⟩ := hW
  have hA : DataW.TrodAll enc Try.prog W 0 (fun _ => true) true Try.f5.params.toList args.toList ds p := hA0
  rw [Try.params5] at hA hval
  obtain ⟨v0, vs0, d0, ds0, p0, q0, hargs, rfl, rfl, h0, r0⟩ := trodAll_cons hA
  obtain ⟨v1, vs1, d1, ds1, p1, q1, rfl, rfl, rfl, h1, r1⟩ := trodAll_cons r0
  obtain ⟨v2, vs2, d2, ds2, p2, q2, rfl, rfl, rfl, h2, r2⟩ := trodAll_cons r1
  obtain ⟨rfl, rfl, rfl⟩ := trodAll_nil r2
  obtain rfl : args = #[v0, v1, v2] := by cases args; simp_all
  obtain ⟨rfl, rfl⟩ := trodVars_none hV
  obtain ⟨a0, len0, cap0, rfl⟩ := okWide_slice Try.underlying22 (hval 0 22 v0 rfl rfl)
  have k0 := h0
  have lt0 : ∀ x ∈ p0, x.block < W.heap.size := by obtain ⟨m, hm⟩ := k0; exact DataW.trod_lt m _ _ _ hm
  obtain ⟨hl0, L0, hN0, hR0⟩ : len0 ≤ maxLen ∧ ∃ L : List (List UInt8), L.length = len0 ∧ Strs.RdS W W.heap.size a0 L := by
    obtain ⟨fuel, hf⟩ := h0
    exact rds_of_trod hf
  obtain ⟨s1, rfl, rfl, rfl, ws1⟩ := open_string Try.underlying9 (hval 1 9 v1 rfl rfl) h1
  obtain ⟨s2, rfl, rfl, rfl, ws2⟩ := open_string Try.underlying9 (hval 2 9 v2 rfl rfl) h2
  clear hA0 hval0
  refine (walk a0 len0 cap0 s1 s2 L0 W  ws1 ws2 hl0 hN0 hR0).mono fun e W' ⟨he, bel⟩ => ?_
  subst he
  exact ⟨_, rfl, _, _, _, [], _, [], hW', trodAll_mk1 (shut_bool Try.underlying4 _), (trodAll_cons_mk (Below.trod laidOut (by kernel_rfl) (of_decide_eq_true (by kernel_rfl)) k0 bel lt0) (trodAll_cons_mk (shut_string Try.underlying9 ws1) (trodAll_cons_mk (shut_string Try.underlying9 ws2) trodAll_mk0))), rfl, bel.frame _, fun h => by cases h⟩

theorem over : Rows.unpackPartsRow.holds Try.pinned (OpenSpec.ofChange Rows.unpackPartsSpec) :=
  OpenClaim.holds_of_wide 5 Try.f5 rfl rfl rfl rfl rfl rfl rfl ⟨rfl, rfl, rfl, rfl, rfl⟩ rfl rfl rfl rfl rfl (by kernel_rfl) Try.func5 (by kernel_rfl)
    (of_decide_eq_true (by kernel_rfl)) (by unfold Func.isWrapper; first | (rw [if_pos (by decide +kernel)]; kernel_rfl) | (rw [if_neg (by decide +kernel)]; exact ⟨rfl, rfl⟩))
    (fun os started H enc _ => lifted os started H enc)

theorem proved : Rows.UnpackPartsSaid := over
#print axioms proved
end Go.Proofs.Ytaoomjbkfcbfpaa.unpackParts
