import Derived.Test.YteddepmiejlemaaRows
import Derived.Test.YteddepmiejlemaaProg
import Derived.Test.YteddepmiejlemaaBytes
import Derived.Test.YteddepmiejlemaaNumBe
import Derived.Test.YteddepmiejlemaaFrMath
import Derived.Test.YteddepmiejlemaaFrFrame
import Derived.Test.YteddepmiejlemaaFrSets
import Derived.Test.YteddepmiejlemaaSeMath
import Derived.Test.YteddepmiejlemaaSeRef
import Derived.Test.YteddepmiejlemaaSePar
import Derived.Test.YteddepmiejlemaaSeSame
import Derived.Test.YteddepmiejlemaaSeEq
import Derived.Test.YteddepmiejlemaaSeVal
import Derived.Test.YteddepmiejlemaaSeCode
import Derived.Test.YteddepmiejlemaaSeAwake
import Derived.LoopTactic
import Derived.Lib.Hide
import Derived.Outline
import Derived.IntWalk
import Derived.WalkSpells
import Derived.WalkLawsBesides
import Derived.Laws.Rows
import Derived.WalkKit
import Derived.ProofKit
import Derived.OpenShut
import Derived.ShutString
import Derived.ChangeOld
import Derived.Below
namespace Go.Proofs.Yteddepmiejlemaa.settingsApply
open Go Go.ChangeShapes Go.WideShapes Go.ChangeAt Go.RowKit Bytes Fr Se
open Go.ChangeMaps (open_string shut_string)
set_option linter.unusedVariables false

theorem own : ownKnob Try.prog.godebug = none := by kernel_rfl
theorem laidOut : laidOutB Try.prog = true := by kernel_rfl

set_option maxHeartbeats 8000000 in
set_option maxRecDepth 100000 in
theorem walk (q0 : Bool) (a1 : Option Addr) (len1 cap1 : Nat) (L1 : List (Nat × Nat)) (a2 : Option Addr) (len2 cap2 : Nat) (L2 : List (Nat × Nat)) (w : World) (hl1 : len1 ≤ maxLen) (hL1 : L1.length = len1) (hR1 : RdSt w w.heap.size a1 L1) (hz1 : a1 = none → cap1 = 0 ∧ len1 = 0) (hl2 : len2 ≤ maxLen) (hL2 : L2.length = len2) (hR2 : RdSt w w.heap.size a2 L2) (hz2 : a2 = none → cap2 = 0 ∧ len2 = 0) :
    Calls Try.prog 3 #[.bool q0, .slice a1 len1 cap1, .slice a2 len2 cap2] w fun e w' => e = .returned (.bool true) ∧ Below w.heap.size w w' := by
  have hset : ∀ {L : List (Nat × Nat)} {n : Nat} {a : Option Addr} {W : World} {B : Nat}, L.length = n → RdSt W B a L → ∀ x ∈ L, x.1 < 65536 ∧ x.2 < 4294967296 := fun hl h => set_mem (fun j hj => by
    obtain ⟨_, _, _, _, _, _, r⟩ := h j hj
    exact r)
  have HM1 := Lib.hid (hset hL1 hR1)
  have HL1 := Lib.hid hL1
  have HL2 := Lib.hid hL2
  have HZ1 := Lib.hid hz1
  obtain ⟨⟨u, c⟩, hu⟩ : ∃ z, applyS defV q0 L1 = z := ⟨_, rfl⟩
  obtain ⟨⟨t, d⟩, ht⟩ : ∃ z, applyS u q0 L2 = z := ⟨_, rfl⟩
  have hcb : c ≤ 3 := by
    have h := codeL_le q0 L1
    unfold applyS at hu
    split at hu <;> (injection hu with _ e; omega)
  have hdb : d ≤ 3 := by
    have h := codeL_le q0 L2
    unfold applyS at ht
    split at ht <;> (injection ht with _ e; omega)
  have HU := Lib.hid hu
  have HT := Lib.hid ht
  clear hset hL1 hL2 hz1 hz2 hu ht
  go_enter Try.func3, Try.ntmps3
  go_wp2_with fail
  refine (sawake_is w).mono ?_
  rintro e w1 ⟨rfl, hB1⟩
  have HB1 := Lib.hid hB1
  have HR1 := Lib.hid hR1
  have HR2 := Lib.hid hR2
  clear hB1 hR1 hR2
  by_cases h1 : (2000 : Int) < (len1 : Int)
  · go_wp2_with fail
    go_ret
    exact ⟨rfl, HB1.out⟩
  have h1d : decide ((2000 : Int) < (len1 : Int)) = false := decide_eq_false h1
  by_cases h2 : (2000 : Int) < (len2 : Int)
  · go_wp2_with fail
    go_ret
    exact ⟨rfl, HB1.out⟩
  have h2d : decide ((2000 : Int) < (len2 : Int)) = false := decide_eq_false h2
  have hn1 : len1 ≤ 2000 := by omega
  have hn2 : len2 ≤ 2000 := by omega
  go_wp2_with fail
  refine (cdef_is _).mono ?_
  rintro e w2 ⟨rfl, hB2⟩
  have HB2 := Lib.hid (HB1.out.trans (hB2.mono HB1.out.size))
  clear hB2 HB1
  have hEB := (Below.refl _ w2).alloc (Nat.le_refl _) (.cells #[] 48)
  have hEX := HB2.out.trans (hEB.mono HB2.out.size)
  have HE1 := Lib.hid (HR1.out.on hEX hEX.size)
  have HEB := Lib.hid hEB
  clear hEB hEX
  go_wp2_with (at_builtin; refine wpList_append_sets rfl _ _ rfl w2.heap.size _ rfl (own_empty w2) len1 cap1 a1 L1 rfl HL1.out HZ1.out _ HE1.out ?c1 ?c2 ?_)
  case c1 => omega
  case c2 => simp
  intro v' w3 hown hgrow
  obtain ⟨A, cp, rfl, hrd⟩ := rd_own hown HL1.out HM1.out
  have hB3 := HEB.out.grown hgrow (by simp) (fun k hk => ((own_empty w2).lt k hk).1)
  have HRA := Lib.hid hrd
  have HB3 := Lib.hid (HB2.out.trans (hB3.mono HB2.out.size))
  clear hown hgrow hB3 hrd HE1 HEB HB2
  go_wp2_with fail
  refine (capply_is defV u q0 A len1 cp c L1 w3 HRA HL1 (by omega) HU).mono ?_
  rintro e w4 ⟨rfl, hB4⟩
  have HB4 := Lib.hid (HB3.out.trans (hB4.mono HB3.out.size))
  clear hB4 HRA HB3
  unfold valV
  go_upto_region 6 with fail
  obtain ⟨hX, hBX, hsz⟩ := boxV_new w4 u
  obtain ⟨w5, hw5⟩ : ∃ w5, w4.alloc (.cells #[.int .u32 (u.table : Int), .int .u32 (u.streams : Int), .int .u32 (u.window : Int), .int .u32 (u.frame : Int), .int .u32 (u.list : Int), .bool u.push] 26) = w5 := ⟨_, rfl⟩
  rw [hw5] at hX hBX hsz ⊢
  obtain ⟨X, hXX⟩ : ∃ X, w4.heap.size = X := ⟨_, rfl⟩
  have HB5 := Lib.hid (HB4.out.trans (hBX.mono HB4.out.size))
  have hXg : w.heap.size ≤ X := by rw [← hXX]; exact HB4.out.size
  rw [hXX] at hX hsz ⊢
  have HX5 := Lib.hid hX
  clear hw5 hXX hX hBX hsz HB4
  go_wp2_with fail
  refine (sdef_is _).mono ?_
  rintro e w6 ⟨rfl, hB6⟩
  have HX6 := Lib.hid (HX5.out.below hB6)
  have HB6 := Lib.hid (HB5.out.trans (hB6.mono HB5.out.size))
  clear hB6 HB5 HX5
  go_wp2_with fail
  refine (sapply_is defV u q0 a1 len1 cap1 c L1 w6 (Lib.hid (HR1.out.on HB6.out HB6.out.size)) HL1 (by omega) HU).mono ?_
  rintro e w7 ⟨rfl, hB7⟩
  have HX7 := Lib.hid (HX6.out.below hB7)
  have HB7 := Lib.hid (HB6.out.trans (hB7.mono HB6.out.size))
  clear hB7 HB6 HX6
  unfold refV rCs
  go_upto_region 7 with fail
  obtain ⟨hY, hBY, hsz⟩ := boxR_new w7 u
  unfold rCs at hY hBY hsz
  obtain ⟨w8, hw8⟩ : ∃ w8, w7.alloc (.cells #[.int .u32 0, .int .u32 (u.table : Int), .int .u32 (pushN u : Int), .int .u32 (u.streams : Int), .int .u32 (u.window : Int), .int .u32 (u.frame : Int), .int .u32 (u.list : Int)] 32) = w8 := ⟨_, rfl⟩
  rw [hw8] at hY hBY hsz ⊢
  obtain ⟨Y, hYY⟩ : ∃ Y, w7.heap.size = Y := ⟨_, rfl⟩
  have HX8 := Lib.hid (HX7.out.below hBY)
  have HB8 := Lib.hid (HB7.out.trans (hBY.mono HB7.out.size))
  have hYg : w.heap.size ≤ Y := by rw [← hYY]; exact HB7.out.size
  have hXY : X ≠ Y := by rw [← hYY]; exact Nat.ne_of_lt HX7.out.lt
  rw [hYY] at hY hsz ⊢
  have HY8 : Hid (BoxR w8 Y u) := Lib.hid hY
  clear hw8 hYY hY hBY hsz HB7 HX7
  go_wp2_with fail
  refine (cdef_is _).mono ?_
  rintro e w9 ⟨rfl, hB9⟩
  have HX9 := Lib.hid (HX8.out.below hB9)
  have HY9 := Lib.hid (HY8.out.below hB9)
  have HB9 := Lib.hid (HB8.out.trans (hB9.mono HB8.out.size))
  clear hB9 HB8 HX8 HY8
  go_wp2_with fail
  refine (sdef_is _).mono ?_
  rintro e w10 ⟨rfl, hB10⟩
  have HX10 := Lib.hid (HX9.out.below hB10)
  have HY10 := Lib.hid (HY9.out.below hB10)
  have HB10 := Lib.hid (HB9.out.trans (hB10.mono HB9.out.size))
  clear hB10 HB9 HX9 HY9
  go_wp2_with fail
  refine (ssame_is defV w10).mono ?_
  rintro e w11 ⟨rfl, hB11⟩
  have HX11 := Lib.hid (HX10.out.below hB11)
  have HY11 := Lib.hid (HY10.out.below hB11)
  have HB11 := Lib.hid (HB10.out.trans (hB11.mono HB10.out.size))
  clear hB11 HB10 HX10 HY10
  obtain ⟨x0, x1, x2, x3, x4, x5⟩ := HX11.out.cells
  obtain ⟨y0, y1, y2, y3, y4, y5, y6⟩ := HY11.out.cells
  have hwc : IntKind.i64.wrap (c : Int) = (c : Int) := by rw [IntKind.wrap_i64]; omega
  have hcc : ((c : Int) != (c : Int)) = false := by simp
  go_wp2_with fail
  refine (ssame_is u w11).mono ?_
  rintro e w12 ⟨rfl, hB12⟩
  have HX12 := Lib.hid (HX11.out.below hB12)
  have HY12 := Lib.hid (HY11.out.below hB12)
  have HB12 := Lib.hid (HB11.out.trans (hB12.mono HB11.out.size))
  clear hB12 HB11 HX11 HY11 x0 x1 x2 x3 x4 x5 y0 y1 y2 y3 y4 y5 y6
  obtain ⟨x0, x1, x2, x3, x4, x5⟩ := HX12.out.cells
  go_wp2_with fail
  refine (capply_is u t q0 a2 len2 cap2 d L2 w12 (Lib.hid (HR2.out.on HB12.out HB12.out.size)) HL2 (by omega) HT).mono ?_
  rintro e w13 ⟨rfl, hB13⟩
  have HX13 := Lib.hid (HX12.out.below hB13)
  have HY13 := Lib.hid (HY12.out.below hB13)
  have HB13 := Lib.hid (HB12.out.trans (hB13.mono HB12.out.size))
  clear hB13 HB12 HX12 HY12 x0 x1 x2 x3 x4 x5 hwc hcc
  obtain ⟨x0, x1, x2, x3, x4, x5⟩ := HX13.out.cells
  have z0 := HX13.out.frz 0
  have z1 := HX13.out.frz 1
  have z2 := HX13.out.frz 2
  have z3 := HX13.out.frz 3
  have z4 := HX13.out.frz 4
  have z5 := HX13.out.frz 5
  obtain ⟨w14, hw14⟩ : ∃ w14, putV w13 X t = w14 := ⟨_, rfl⟩
  have hX14 := HX13.out.put t
  have hB14 := putV_below (u := t) HB13.out hXg
  have hY14 : BoxR (putV w13 X t) Y u := (putV_other (fun e => hXY e.symm)).trans HY13.out
  rw [hw14] at hX14 hB14 hY14
  unfold putV at hw14
  unfold valV
  go_upto_region 10 with fail
  have HX14 := Lib.hid hX14
  have HB14 := Lib.hid hB14
  have HY14 := Lib.hid hY14
  clear hw14 hX14 hB14 hY14 HX13 HY13 HB13 x0 x1 x2 x3 x4 x5 z0 z1 z2 z3 z4 z5
  obtain ⟨y0, y1, y2, y3, y4, y5, y6⟩ := HY14.out.cells
  go_wp2_with fail
  refine (sapply_is u t q0 a2 len2 cap2 d L2 w14 (Lib.hid (HR2.out.on HB14.out HB14.out.size)) HL2 (by omega) HT).mono ?_
  rintro e w15 ⟨rfl, hB15⟩
  have HX15 := Lib.hid (HX14.out.below hB15)
  have HY15 := Lib.hid (HY14.out.below hB15)
  have HB15 := Lib.hid (HB14.out.trans (hB15.mono HB14.out.size))
  clear hB15 HX14 HY14 HB14 y0 y1 y2 y3 y4 y5 y6
  obtain ⟨y0, y1, y2, y3, y4, y5, y6⟩ := HY15.out.cells
  have z0 := HY15.out.frz 0
  have z1 := HY15.out.frz 1
  have z2 := HY15.out.frz 2
  have z3 := HY15.out.frz 3
  have z4 := HY15.out.frz 4
  have z5 := HY15.out.frz 5
  have z6 := HY15.out.frz 6
  obtain ⟨w16, hw16⟩ : ∃ w16, putR w15 Y t = w16 := ⟨_, rfl⟩
  have hY16 := HY15.out.put2 t
  have hB16 := putR_below (u := t) HB15.out hYg
  have hX16 : BoxV (putR w15 Y t) X t := (putR_other hXY).trans HX15.out
  rw [hw16] at hX16 hB16 hY16
  unfold putR at hw16
  unfold refV rCs
  go_upto_region 11 with fail
  have HX16 := Lib.hid hX16
  have HB16 := Lib.hid hB16
  have HY16 := Lib.hid hY16
  clear hw16 hX16 hB16 hY16 HX15 HY15 HB15 y0 y1 y2 y3 y4 y5 y6 z0 z1 z2 z3 z4 z5 z6
  obtain ⟨x0, x1, x2, x3, x4, x5⟩ := HX16.out.cells
  obtain ⟨y0, y1, y2, y3, y4, y5, y6⟩ := HY16.out.cells
  have hwd : IntKind.i64.wrap (d : Int) = (d : Int) := by rw [IntKind.wrap_i64]; omega
  have hdd : ((d : Int) == (d : Int)) = true := by simp
  go_wp2_with fail
  refine (ssame_is t w16).mono ?_
  rintro e w17 ⟨rfl, hB17⟩
  have HB17 := Lib.hid (HB16.out.trans (hB17.mono HB16.out.size))
  go_wp2_with fail
  go_ret
  exact ⟨rfl, HB17.out⟩

set_option maxRecDepth 100000 in
theorem lifted (os : Os) (started : os.Started) (H : Type) (enc : TypeId × Value → H) :
    ReturnsInHanded {} Try.checked os 3 .any (Rows.settingsApplySpec.pre6 enc Try.prog Try.f3 Rows.settingsApplyRow.domain false) (Rows.settingsApplySpec.post enc Try.prog Try.f3 false true false false) := by
  refine returnsInHanded_of_change (C := Try.checked) own started (by kernel_rfl) Try.func3
    (ChangeSpec.witness6 (enc := enc) (C := Try.checked) false ⟨#[], #[.bool false, .slice none 0 0, .slice none 0 0], []⟩ 8 (by kernel_rfl) (by kernel_rfl) (by kernel_rfl) (by kernel_rfl)) ?_
  intro W base args ds gs before hval0 hW hcnd _
  have hval : ∀ (j : Nat) t v, Try.f3.params[j]? = some t → args[j]? = some v → Value.okWide Try.prog W .any base t v := hval0
  have hW' := hW
  obtain ⟨p, q, hA0, hV, rfl, hfz, hnd⟩ := hW
  have hA : DataW.TrodAll enc Try.prog W 0 (fun _ => true) true Try.f3.params.toList args.toList ds p := hA0
  rw [Try.params3] at hA hval
  obtain ⟨v0, vs0, d0, ds0, p0, q0, hargs, rfl, rfl, h0, r0⟩ := trodAll_cons hA
  obtain ⟨v1, vs1, d1, ds1, p1, q1, rfl, rfl, rfl, h1, r1⟩ := trodAll_cons r0
  obtain ⟨v2, vs2, d2, ds2, p2, q2, rfl, rfl, rfl, h2, r2⟩ := trodAll_cons r1
  obtain ⟨rfl, rfl, rfl⟩ := trodAll_nil r2
  obtain rfl : args = #[v0, v1, v2] := by cases args; simp_all
  obtain ⟨rfl, rfl⟩ := trodVars_none hV
  have k0 := h0
  have lt0 : ∀ x ∈ p0, x.block < W.heap.size := by obtain ⟨m, hm⟩ := k0; exact DataW.trod_lt m _ _ _ hm
  obtain ⟨q0, rfl⟩ := okWide_bool Try.underlying4 (hval 0 4 v0 rfl rfl)
  obtain ⟨a1, len1, cap1, rfl⟩ := okWide_slice Try.underlying22 (hval 1 22 v1 rfl rfl)
  have k1 := h1
  have lt1 : ∀ x ∈ p1, x.block < W.heap.size := by obtain ⟨m, hm⟩ := k1; exact DataW.trod_lt m _ _ _ hm
  obtain ⟨hl1, L1, hN1, hR1⟩ : len1 ≤ maxLen ∧ ∃ L : List (Nat × Nat), L.length = len1 ∧ RdSt W W.heap.size a1 L := by
    obtain ⟨fuel, hf⟩ := h1
    exact rdst_of_trod hf
  have hz1 : a1 = none → cap1 = 0 ∧ len1 = 0 := by
    obtain ⟨fuel, hf⟩ := h1
    exact nil_of_trod hf
  obtain ⟨a2, len2, cap2, rfl⟩ := okWide_slice Try.underlying22 (hval 2 22 v2 rfl rfl)
  have k2 := h2
  have lt2 : ∀ x ∈ p2, x.block < W.heap.size := by obtain ⟨m, hm⟩ := k2; exact DataW.trod_lt m _ _ _ hm
  obtain ⟨hl2, L2, hN2, hR2⟩ : len2 ≤ maxLen ∧ ∃ L : List (Nat × Nat), L.length = len2 ∧ RdSt W W.heap.size a2 L := by
    obtain ⟨fuel, hf⟩ := h2
    exact rdst_of_trod hf
  have hz2 : a2 = none → cap2 = 0 ∧ len2 = 0 := by
    obtain ⟨fuel, hf⟩ := h2
    exact nil_of_trod hf
  clear hA0 hval0
  refine (walk q0 a1 len1 cap1 L1 a2 len2 cap2 L2 W hl1 hN1 hR1 hz1 hl2 hN2 hR2 hz2).mono fun e W' ⟨he, bel⟩ => ?_
  subst he
  exact ⟨_, rfl, _, _, _, [], _, [], hW', trodAll_mk1 (shut_bool Try.underlying4 _), (trodAll_cons_mk (Below.trod laidOut (by kernel_rfl) (of_decide_eq_true (by kernel_rfl)) k0 bel lt0) (trodAll_cons_mk (Below.trod laidOut (by kernel_rfl) (of_decide_eq_true (by kernel_rfl)) k1 bel lt1) (trodAll_cons_mk (Below.trod laidOut (by kernel_rfl) (of_decide_eq_true (by kernel_rfl)) k2 bel lt2) trodAll_mk0))), rfl, bel.frame _, fun h => by cases h⟩

theorem over : Rows.settingsApplyRow.holds Try.pinned (OpenSpec.ofChange Rows.settingsApplySpec) :=
  OpenClaim.holds_of_wide 3 Try.f3 rfl rfl rfl rfl rfl rfl rfl ⟨rfl, rfl, rfl, rfl, rfl⟩ rfl rfl rfl rfl rfl (by kernel_rfl) Try.func3 (by kernel_rfl)
    (of_decide_eq_true (by kernel_rfl)) (by unfold Func.isWrapper; first | (rw [if_pos (by decide +kernel)]; kernel_rfl) | (rw [if_neg (by decide +kernel)]; exact ⟨rfl, rfl⟩))
    (fun os started H enc _ => lifted os started H enc)

theorem proved : Rows.SettingsApplySaid := over
#print axioms proved
end Go.Proofs.Yteddepmiejlemaa.settingsApply
