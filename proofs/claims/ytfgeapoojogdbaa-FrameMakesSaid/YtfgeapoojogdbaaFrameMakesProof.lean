import Derived.Test.YtfgeapoojogdbaaRows
import Derived.Test.YtfgeapoojogdbaaProg
import Derived.Test.YtfgeapoojogdbaaBytes
import Derived.Test.YtfgeapoojogdbaaNumBe
import Derived.Test.YtfgeapoojogdbaaFrMath
import Derived.Test.YtfgeapoojogdbaaFrFrame
import Derived.Test.YtfgeapoojogdbaaNumRefPut
import Derived.Test.YtfgeapoojogdbaaFrRef
import Derived.Test.YtfgeapoojogdbaaFrRefS
import Derived.Test.YtfgeapoojogdbaaFrEq
import Derived.Test.YtfgeapoojogdbaaFrMake
import Derived.Test.YtfgeapoojogdbaaFrSets
import Derived.Test.YtfgeapoojogdbaaFrCode
import Derived.Test.YtfgeapoojogdbaaFrAwake
import Derived.Deep.CutRange
import Derived.Deep.RegionHeld3
import Derived.LoopTactic
import Derived.Lib.Hide
import Derived.Outline
import Derived.IntWalk
import Derived.WalkSpells
import Derived.WalkLawsBesides
import Derived.Laws.Rows
import Derived.WalkKit
import Derived.ProofKit
import Derived.OpenShut
import Derived.ShutString
import Derived.ChangeOld
import Derived.Below
namespace Go.Proofs.Ytfgeapoojogdbaa.frameMakes
open Go Go.ChangeShapes Go.WideShapes Go.ChangeAt Go.RowKit Bytes Fr
open Go.ChangeMaps (open_string shut_string)
set_option linter.unusedVariables false

theorem own : ownKnob Try.prog.godebug = none := by kernel_rfl
theorem laidOut : laidOutB Try.prog = true := by kernel_rfl

set_option maxHeartbeats 8000000 in
set_option maxRecDepth 100000 in
theorem walk (a0 : Option Addr) (len0 cap0 : Nat) (L0 : List (Nat × Nat)) (m1 : Nat) (m2 : Nat) (w : World) (hl0 : len0 ≤ maxLen) (hL0 : L0.length = len0) (hR0 : RdSt w w.heap.size a0 L0) (hz0 : a0 = none → cap0 = 0 ∧ len0 = 0) (hm1 : m1 ≤ 4294967295) (hm2 : m2 ≤ 4294967295) :
    Calls Try.prog 5 #[.slice a0 len0 cap0, .int .u32 (m1 : Int), .int .u32 (m2 : Int)] w fun e w' => e = .returned (.bool true) ∧ Below w.heap.size w w' := by
  go_enter Try.func5, Try.ntmps5
  go_wp2_with fail
  refine (awake_is w).mono ?_
  rintro e w1 ⟨rfl, hB1⟩
  have HB1 := Lib.hid hB1
  clear hB1
  by_cases hbig : 2000 < len0
  · have b1 : (2000 : Int) < (len0 : Int) := by omega
    go_wp2_with fail
    go_ret
    exact ⟨rfl, HB1.out⟩
  have b1 : ¬ ((2000 : Int) < (len0 : Int)) := by omega
  have b1d : decide ((2000 : Int) < (len0 : Int)) = false := decide_eq_false b1
  have HR := Lib.hid hR0
  have HL := Lib.hid hL0
  have HZ := Lib.hid hz0
  clear hR0 hL0 hz0 hbig
  go_wp2_with fail
  go_loopw [7, 8] (fun s i wr => ∃ (k : Nat) (t : ByteArray), k ≤ len0 ∧ i = .int .i64 (k : Int) ∧ s = .string t ∧ Hid (t.data.toList = setB (L0.take k)) ∧ Hid (Below w.heap.size w wr)) (fun _ i _ => len0 - (intOf i).toNat)
  case atStart => exact ⟨0, ⟨#[]⟩, Nat.zero_le _, rfl, rfl, Lib.hid rfl, HB1⟩
  case round =>
    obtain ⟨k, t, hk, rfl, rfl, ht, hBw⟩ := hrel
    by_cases hlt : k < len0
    · have hki : (k : Int) < (len0 : Int) := by omega
      have hkl : k < L0.length := by rw [HL.out]; exact hlt
      obtain ⟨b0, off, rfl, hb0, c0, c1, hx1, hx2⟩ := HR.out k hkl
      have d0 : wr.cell? ⟨b0, off + k * 2, none⟩ = some (.int .u16 ((setAt L0 k).1 : Int)) := (hBw.out.cell (p := ⟨b0, off + k * 2, none⟩) hb0).trans c0
      have d1 : wr.cell? ⟨b0, off + k * 2 + 1, none⟩ = some (.int .u32 ((setAt L0 k).2 : Int)) := (hBw.out.cell (p := ⟨b0, off + k * 2 + 1, none⟩) hb0).trans c1
      have hcat := setB_take hkl
      obtain ⟨x, hx⟩ : ∃ x, (setAt L0 k).1 = x := ⟨_, rfl⟩
      obtain ⟨y, hy⟩ : ∃ y, (setAt L0 k).2 = y := ⟨_, rfl⟩
      rw [hx] at d0 hx1 hcat
      rw [hy] at d1 hx2 hcat
      have ewx : IntKind.u64.wrap (x : Int) = (x : Int) := by rw [IntKind.wrap_u64]; omega
      have ewy : IntKind.u64.wrap (y : Int) = (y : Int) := by rw [IntKind.wrap_u64]; omega
      have hts : t.size ≤ 12000 := by
        have h := congrArg List.length ht.out
        rw [setB_len, List.length_take, size_l] at h
        omega
      obtain ⟨r1, hr1⟩ : ∃ r1, mk (t.data.toList ++ beTail x 2) = r1 := ⟨_, rfl⟩
      obtain ⟨r2, hr2⟩ : ∃ r2, mk (t.data.toList ++ beTail x 2 ++ beTail y 4) = r2 := ⟨_, rfl⟩
      have hr1s : r1.size ≤ 12002 := by
        rw [← hr1, mk_size, List.length_append, beTail_length, size_l]
        omega
      have hw0 : Below w.heap.size w wr := hBw.out
      have hp1 : ∀ V : World, V.cell? ⟨b0, off + k * 2, none⟩ = some (.int .u16 (x : Int)) ∧ V.cell? ⟨b0, off + k * 2 + 1, none⟩ = some (.int .u32 (y : Int)) ∧ Below w.heap.size w V → Calls Try.prog 17 #[.string t, .int .u64 (x : Int), .int .i64 2] V fun e w' => e = .returned (.string r1) ∧ w'.cell? ⟨b0, off + k * 2, none⟩ = some (.int .u16 (x : Int)) ∧ w'.cell? ⟨b0, off + k * 2 + 1, none⟩ = some (.int .u32 (y : Int)) ∧ Below w.heap.size w w' := by
        rintro V ⟨e0, e1, hV⟩
        refine (refPut_is t r1 x 2 V (by omega) (by decide) (by omega) (Lib.hid (by rw [← hr1]; rfl))).mono ?_
        rintro e w' ⟨he, hB⟩
        exact ⟨he, (hB.cell (World.block_lt_of_cell? V _ e0)).trans e0, (hB.cell (World.block_lt_of_cell? V _ e1)).trans e1, hV.trans (hB.mono hV.size)⟩
      have hp2 : ∀ V : World, V.cell? ⟨b0, off + k * 2, none⟩ = some (.int .u16 (x : Int)) ∧ V.cell? ⟨b0, off + k * 2 + 1, none⟩ = some (.int .u32 (y : Int)) ∧ Below w.heap.size w V → Calls Try.prog 17 #[.string r1, .int .u64 (y : Int), .int .i64 4] V fun e w' => e = .returned (.string r2) ∧ w'.cell? ⟨b0, off + k * 2, none⟩ = some (.int .u16 (x : Int)) ∧ w'.cell? ⟨b0, off + k * 2 + 1, none⟩ = some (.int .u32 (y : Int)) ∧ Below w.heap.size w w' := by
        rintro V ⟨e0, e1, hV⟩
        refine (refPut_is r1 r2 y 4 V (by omega) (by decide) (by omega) (Lib.hid (by rw [← hr1, ← hr2]; rfl))).mono ?_
        rintro e w' ⟨he, hB⟩
        exact ⟨he, (hB.cell (World.block_lt_of_cell? V _ e0)).trans e0, (hB.cell (World.block_lt_of_cell? V _ e1)).trans e1, hV.trans (hB.mono hV.size)⟩
      have HP1 := Lib.hid hp1
      have HP2 := Lib.hid hp2
      have HT2 : Hid (r2.data.toList = setB (L0.take (k + 1))) := Lib.hid (by rw [← hr2, hcat, ← ht.out]; rfl)
      clear hp1 hp2 hr1 hr2 hcat hx hy hr1s hts c0 c1 hkl
      go_upto_region 9 with fail
      have hw1 : Below w.heap.size w wr.drew := hw0.drew
      go_region_held3 (fun V => V.cell? ⟨b0, off + k * 2, none⟩ = some (.int .u16 (x : Int)) ∧ V.cell? ⟨b0, off + k * 2 + 1, none⟩ = some (.int .u32 (y : Int)) ∧ Below w.heap.size w V) (go_keep) (first | (go_at_call 17; (with_reducible refine (HP1.out _ ?_).mono ?_); (simp [*]); rintro e w2 ⟨rfl, e0, e1, hB2⟩) | (go_at_call 17; (with_reducible refine (HP2.out _ ?_).mono ?_); (simp [*]); rintro e w3 ⟨rfl, f0, f1, hB3⟩))
      all_goals
        have HB3 := Lib.hid hB3
        go_wp2_with fail
        go_roundw
        case rel => exact ⟨k + 1, r2, by omega, by go_num, rfl, HT2, HB3⟩
        case measure => simp [intOf]; omega
    · have hkn : k = len0 := by omega
      subst hkn
      have htl : t.data.toList = setB L0 := by
        have h : L0.take k = L0 := by rw [← HL.out]; exact List.take_length
        rw [ht.out, h]
      have hmk : mk (setB L0) = t := by rw [← htl]; exact mk_data t
      have HMK := Lib.hid hmk
      have hts : t.size ≤ 12000 := by
        have h := congrArg List.length htl
        rw [setB_len, size_l, HL.out] at h
        omega
      obtain ⟨c, hc⟩ : ∃ c, m1 % 2147483648 = c := ⟨_, rfl⟩
      obtain ⟨d, hd⟩ : ∃ d, m2 % 2147483648 = d := ⟨_, rfl⟩
      have hcb : c < 2147483648 := by omega
      have hdb : d < 2147483648 := by omega
      have tc1 : (m1 : Int).tmod 2147483648 = (c : Int) := by rw [Int.tmod_eq_emod_of_nonneg (by omega)]; omega
      have tc2 : (m1 : Int) % 2147483648 = (c : Int) := by omega
      have td1 : (m2 : Int).tmod 2147483648 = (d : Int) := by rw [Int.tmod_eq_emod_of_nonneg (by omega)]; omega
      have td2 : (m2 : Int) % 2147483648 = (d : Int) := by omega
      have ewb : IntKind.u64.wrap (m2 : Int) = (m2 : Int) := by rw [IntKind.wrap_u64]; omega
      have ewc : IntKind.u64.wrap (c : Int) = (c : Int) := by rw [IntKind.wrap_u64]; omega
      obtain ⟨r4, hr4⟩ : ∃ r, mk (beTail m2 4) = r := ⟨_, rfl⟩
      obtain ⟨c4, hc4⟩ : ∃ r, mk (beTail c 4) = r := ⟨_, rfl⟩
      have hr4s : r4.size = 4 := by rw [← hr4, mk_size, beTail_length]
      have hc4s : c4.size = 4 := by rw [← hc4, mk_size, beTail_length]
      have hg8 : mk (beTail c 4 ++ beTail m2 4) = c4 ++ r4 := by rw [← hc4, ← hr4, mk_cat]
      have HPB := Lib.hid (fun W : World => refPut_is ⟨#[]⟩ r4 m2 4 W (by decide) (by decide) (by omega) (Lib.hid (by rw [← hr4]; rfl)))
      have HPC := Lib.hid (fun W : World => refPut_is ⟨#[]⟩ c4 c 4 W (by decide) (by decide) (by omega) (Lib.hid (by rw [← hc4]; rfl)))
      have HRS : Hid (∀ W : World, Calls Try.prog 19 #[.int .u32 (m1 : Int), .int .u32 (m2 : Int)] W fun e w' => e = .returned (.agg #[.int .u8 3, .int .u8 0, .int .u32 (c : Int), .string r4]) ∧ Below W.heap.size W w') := Lib.hid (fun W => by
        refine (creset_is m1 m2 W hm1 hm2).mono ?_
        rintro e w' ⟨he, hB⟩
        refine ⟨?_, hB⟩
        rw [he]
        unfold frV resetF
        rw [hc, hr4]
        rfl)
      have HGO : Hid (∀ W : World, Calls Try.prog 20 #[.int .u32 (m1 : Int), .int .u32 (m2 : Int)] W fun e w' => e = .returned (.agg #[.int .u8 7, .int .u8 0, .int .u32 0, .string (c4 ++ r4)]) ∧ Below W.heap.size W w') := Lib.hid (fun W => by
        refine (cgoaway_is m1 m2 W hm1 hm2).mono ?_
        rintro e w' ⟨he, hB⟩
        refine ⟨?_, hB⟩
        rw [he]
        unfold frV goF
        rw [hc, hg8]
        rfl)
      have HWI : Hid (∀ W : World, Calls Try.prog 21 #[.int .u32 (m2 : Int), .int .u32 (m1 : Int)] W fun e w' => e = .returned (.agg #[.int .u8 8, .int .u8 0, .int .u32 (d : Int), .string c4]) ∧ Below W.heap.size W w') := Lib.hid (fun W => by
        refine (cwindow_is m2 m1 W hm2 hm1).mono ?_
        rintro e w' ⟨he, hB⟩
        refine ⟨?_, hB⟩
        rw [he]
        unfold frV winF
        rw [hc, hd, hc4]
        rfl)
      have HSET : Hid (∀ (W : World) (A : Option Addr) (cp : Nat), RdSt W W.heap.size A L0 → Calls Try.prog 18 #[.slice A k cp] W fun e w' => e = .returned (.agg #[.int .u8 4, .int .u8 0, .int .u32 0, .string t]) ∧ Below W.heap.size W w') := Lib.hid (fun W A cp hA => by
        refine (cset_is A k cp L0 W (Lib.hid hA) HL (by omega)).mono ?_
        rintro e w' ⟨he, hB⟩
        refine ⟨?_, hB⟩
        rw [he]
        unfold frV setF
        rw [hmk]
        rfl)
      have HE1 : Hid (∀ W : World, (binOp .eql 24 (.agg #[.int .u8 4, .int .u8 0, .int .u32 0, .string t]) (.agg #[.int .u8 4, .int .u8 0, .int .u32 0, .string t])).run Try.prog W = .ok (.bool true) W) := Lib.hid (fun W => frm_same ⟨4, 0, 0, t⟩ W)
      have HE2 : Hid (∀ W : World, (binOp .eql 24 (.agg #[.int .u8 3, .int .u8 0, .int .u32 (c : Int), .string r4]) (.agg #[.int .u8 3, .int .u8 0, .int .u32 (c : Int), .string r4])).run Try.prog W = .ok (.bool true) W) := Lib.hid (fun W => frm_same ⟨3, 0, c, r4⟩ W)
      have HE3 : Hid (∀ W : World, (binOp .eql 24 (.agg #[.int .u8 7, .int .u8 0, .int .u32 0, .string (c4 ++ r4)]) (.agg #[.int .u8 7, .int .u8 0, .int .u32 0, .string (c4 ++ r4)])).run Try.prog W = .ok (.bool true) W) := Lib.hid (fun W => frm_same ⟨7, 0, 0, c4 ++ r4⟩ W)
      have HE4 : Hid (∀ W : World, (binOp .eql 24 (.agg #[.int .u8 8, .int .u8 0, .int .u32 (d : Int), .string c4]) (.agg #[.int .u8 8, .int .u8 0, .int .u32 (d : Int), .string c4])).run Try.prog W = .ok (.bool true) W) := Lib.hid (fun W => frm_same ⟨8, 0, d, c4⟩ W)
      have hbnd : ∀ j, j < L0.length → (setAt L0 j).1 < 65536 ∧ (setAt L0 j).2 < 4294967296 := fun j hj => by
        obtain ⟨_, _, _, _, _, _, h⟩ := HR.out j hj
        exact h
      have HBND := Lib.hid hbnd
      have hsrc : RdSt wr w.heap.size a0 L0 := HR.out.on hBw.out (Nat.le_refl _)
      have HSRC := Lib.hid hsrc
      clear hmk hc hd hr4 hc4 hg8 hbnd hsrc htl ht hlt
      go_wp2_with fail
      refine (HPB.out _).mono ?_
      rintro e w2 ⟨rfl, hB2⟩
      have HB2 := Lib.hid (hBw.out.trans (hB2.mono hBw.out.size))
      have HSRC2 := Lib.hid (HSRC.out.on (hB2.mono hBw.out.size) (Nat.le_refl _))
      clear hB2 HSRC
      go_wp2_with (at_builtin; refine wpList_append_sets rfl _ _ rfl w2.heap.size _ rfl (own_empty w2) k cap0 a0 L0 rfl HL.out HZ.out w.heap.size ?c1 ?c2 ?c3 ?_)
      case c1 => exact HSRC2.out.on (((Below.refl _ w2).alloc (Nat.le_refl _) _).mono HB2.out.size) (Nat.le_refl _)
      case c2 => omega
      case c3 => simp
      intro v' w3 hown hgrow
      obtain ⟨A, cp, rfl, hrd⟩ := own_sets hown HL.out.symm HBND.out
      have hB3 : Below w2.heap.size w2 w3 := ((Below.refl _ w2).alloc (Nat.le_refl _) (.cells #[] 47)).grown hgrow (by simp) (fun b hb => by simp [Value.ownBlock] at hb; omega)
      have HS3 := Lib.hid (HSET.out w3 A cp hrd)
      have HB3 := Lib.hid (HB2.out.trans (hB3.mono HB2.out.size))
      clear hown hgrow hrd hB3
      go_wp2_with fail
      refine HS3.out.mono ?_
      rintro e w4 ⟨rfl, hB4⟩
      have HB4 := Lib.hid (HB3.out.trans (hB4.mono HB3.out.size))
      clear hB4 HS3
      go_upto_region 13 with fail
      obtain ⟨hX5, hB5⟩ := boxF_new w4 ⟨4, 0, 0, t⟩
      obtain ⟨w5, hw5⟩ : ∃ w5, w4.alloc (.cells #[.int .u8 4, .int .u8 0, .int .u32 0, .string t] 24) = w5 := ⟨_, rfl⟩
      have HX5 : Hid (BoxF w5 w4.heap.size ⟨4, 0, 0, t⟩) := Lib.hid (hw5 ▸ hX5)
      have HB5 : Hid (Below w.heap.size w w5) := Lib.hid (HB4.out.trans ((show Below w4.heap.size w4 w5 from hw5 ▸ hB5).mono HB4.out.size))
      rw [hw5]
      clear hX5 hB5 hw5
      obtain ⟨x0, x1, x2, x3⟩ := HX5.out.c
      have he1 := HE1.out w5
      go_wp2_with fail
      refine (HRS.out _).mono ?_
      rintro e w6 ⟨rfl, hB6⟩
      have HB6 := Lib.hid (HB5.out.trans (hB6.mono HB5.out.size))
      have he2 := HE2.out w6
      clear hB6 x0 x1 x2 x3 he1
      go_wp2_with fail
      refine (HGO.out _).mono ?_
      rintro e w7 ⟨rfl, hB7⟩
      have HB7 := Lib.hid (HB6.out.trans (hB7.mono HB6.out.size))
      clear hB7 he2
      go_wp2_with fail
      refine (HPC.out _).mono ?_
      rintro e w8 ⟨rfl, hB8⟩
      have HB8 := Lib.hid (HB7.out.trans (hB8.mono HB7.out.size))
      have he3 := HE3.out w8
      clear hB8
      go_wp2_with fail
      refine (HWI.out _).mono ?_
      rintro e w9 ⟨rfl, hB9⟩
      have HB9 := Lib.hid (HB8.out.trans (hB9.mono HB8.out.size))
      clear hB9 he3
      go_wp2_with fail
      refine (HPC.out _).mono ?_
      rintro e w10 ⟨rfl, hB10⟩
      have HB10 := Lib.hid (HB9.out.trans (hB10.mono HB9.out.size))
      have he4 := HE4.out w10
      clear hB10
      go_wp2_with fail
      go_ret
      exact ⟨rfl, HB10.out⟩

set_option maxRecDepth 100000 in
theorem lifted (os : Os) (started : os.Started) (H : Type) (enc : TypeId × Value → H) :
    ReturnsInHanded {} Try.checked os 5 .any (Rows.frameMakesSpec.pre6 enc Try.prog Try.f5 Rows.frameMakesRow.domain false) (Rows.frameMakesSpec.post enc Try.prog Try.f5 false true false false) := by
  refine returnsInHanded_of_change (C := Try.checked) own started (by kernel_rfl) Try.func5
    (ChangeSpec.witness6 (enc := enc) (C := Try.checked) false ⟨#[], #[.slice none 0 0, .int .u32 0, .int .u32 0], []⟩ 8 (by kernel_rfl) (by kernel_rfl) (by kernel_rfl) (by kernel_rfl)) ?_
  intro W base args ds gs before hval0 hW hcnd _
  have hval : ∀ (j : Nat) t v, Try.f5.params[j]? = some t → args[j]? = some v → Value.okWide Try.prog W .any base t v := hval0
  have hW' := hW
  obtain ⟨p, q, hA0, hV, rfl, hfz, hnd⟩ := hW
  have hA : DataW.TrodAll enc Try.prog W 0 (fun _ => true) true Try.f5.params.toList args.toList ds p := hA0
  rw [Try.params5] at hA hval
  obtain ⟨v0, vs0, d0, ds0, p0, q0, hargs, rfl, rfl, h0, r0⟩ := trodAll_cons hA
  obtain ⟨v1, vs1, d1, ds1, p1, q1, rfl, rfl, rfl, h1, r1⟩ := trodAll_cons r0
  obtain ⟨v2, vs2, d2, ds2, p2, q2, rfl, rfl, rfl, h2, r2⟩ := trodAll_cons r1
  obtain ⟨rfl, rfl, rfl⟩ := trodAll_nil r2
  obtain rfl : args = #[v0, v1, v2] := by cases args; simp_all
  obtain ⟨rfl, rfl⟩ := trodVars_none hV
  obtain ⟨a0, len0, cap0, rfl⟩ := okWide_slice Try.underlying42 (hval 0 42 v0 rfl rfl)
  have k0 := h0
  have lt0 : ∀ x ∈ p0, x.block < W.heap.size := by obtain ⟨m, hm⟩ := k0; exact DataW.trod_lt m _ _ _ hm
  obtain ⟨hl0, L0, hN0, hR0⟩ : len0 ≤ maxLen ∧ ∃ L : List (Nat × Nat), L.length = len0 ∧ RdSt W W.heap.size a0 L := by
    obtain ⟨fuel, hf⟩ := h0
    exact rdst_of_trod hf
  have hz0 : a0 = none → cap0 = 0 ∧ len0 = 0 := by
    obtain ⟨fuel, hf⟩ := h0
    exact nil_of_trod hf
  obtain ⟨z1, rfl, rfl, rfl, wf1⟩ := open_int Try.underlying22 (hval 1 22 v1 rfl rfl) h1
  have bd1 := bounds_u32 wf1
  obtain ⟨m1, rfl⟩ := Int.eq_ofNat_of_zero_le bd1.1
  obtain ⟨z2, rfl, rfl, rfl, wf2⟩ := open_int Try.underlying22 (hval 2 22 v2 rfl rfl) h2
  have bd2 := bounds_u32 wf2
  obtain ⟨m2, rfl⟩ := Int.eq_ofNat_of_zero_le bd2.1
  clear hA0 hval0
  refine (walk a0 len0 cap0 L0 m1 m2 W hl0 hN0 hR0 hz0 (by omega) (by omega)).mono fun e W' ⟨he, bel⟩ => ?_
  subst he
  exact ⟨_, rfl, _, _, _, [], _, [], hW', trodAll_mk1 (shut_bool Try.underlying4 _), (trodAll_cons_mk (Below.trod laidOut (by kernel_rfl) (of_decide_eq_true (by kernel_rfl)) k0 bel lt0) (trodAll_cons_mk (shut_int Try.underlying22 wf1) (trodAll_cons_mk (shut_int Try.underlying22 wf2) trodAll_mk0))), rfl, bel.frame _, fun h => by cases h⟩

theorem over : Rows.frameMakesRow.holds Try.pinned (OpenSpec.ofChange Rows.frameMakesSpec) :=
  OpenClaim.holds_of_wide 5 Try.f5 rfl rfl rfl rfl rfl rfl rfl ⟨rfl, rfl, rfl, rfl, rfl⟩ rfl rfl rfl rfl rfl (by kernel_rfl) Try.func5 (by kernel_rfl)
    (of_decide_eq_true (by kernel_rfl)) (by unfold Func.isWrapper; first | (rw [if_pos (by decide +kernel)]; kernel_rfl) | (rw [if_neg (by decide +kernel)]; exact ⟨rfl, rfl⟩))
    (fun os started H enc _ => lifted os started H enc)

theorem proved : Rows.FrameMakesSaid := over
#print axioms proved
end Go.Proofs.Ytfgeapoojogdbaa.frameMakes
