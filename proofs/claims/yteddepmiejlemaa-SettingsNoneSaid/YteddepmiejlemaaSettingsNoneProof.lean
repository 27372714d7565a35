import Derived.Test.YteddepmiejlemaaRows
import Derived.Test.YteddepmiejlemaaProg
import Derived.Test.YteddepmiejlemaaBytes
import Derived.Test.YteddepmiejlemaaNumBe
import Derived.Test.YteddepmiejlemaaFrMath
import Derived.Test.YteddepmiejlemaaFrFrame
import Derived.Test.YteddepmiejlemaaFrSets
import Derived.Test.YteddepmiejlemaaSeMath
import Derived.Test.YteddepmiejlemaaSeRef
import Derived.Test.YteddepmiejlemaaSePar
import Derived.Test.YteddepmiejlemaaSeSame
import Derived.Test.YteddepmiejlemaaSeEq
import Derived.Test.YteddepmiejlemaaSeVal
import Derived.Test.YteddepmiejlemaaSeCode
import Derived.Test.YteddepmiejlemaaSeAwake
import Derived.LoopTactic
import Derived.Deep.CutRange
import Derived.Lib.Hide
import Derived.Outline
import Derived.IntWalk
import Derived.WalkSpells
import Derived.WalkLawsBesides
import Derived.Laws.Rows
import Derived.WalkKit
import Derived.ProofKit
import Derived.OpenShut
import Derived.ShutString
import Derived.ChangeOld
import Derived.Below
namespace Go.Proofs.Yteddepmiejlemaa.settingsNone
open Go Go.ChangeShapes Go.WideShapes Go.ChangeAt Go.RowKit Bytes Fr Se
open Go.ChangeMaps (open_string shut_string)
set_option linter.unusedVariables false

theorem own : ownKnob Try.prog.godebug = none := by kernel_rfl
theorem laidOut : laidOutB Try.prog = true := by kernel_rfl

set_option maxHeartbeats 8000000 in
set_option maxRecDepth 100000 in
theorem walk (q0 : Bool) (a1 : Option Addr) (len1 cap1 : Nat) (L1 : List (Nat × Nat)) (m2 : Nat) (m3 : Nat) (w : World) (hl1 : len1 ≤ maxLen) (hL1 : L1.length = len1) (hR1 : RdSt w w.heap.size a1 L1) (hz1 : a1 = none → cap1 = 0 ∧ len1 = 0) (hm2 : m2 ≤ 65535) (hm3 : m3 ≤ 4294967295) :
    Calls Try.prog 7 #[.bool q0, .slice a1 len1 cap1, .int .u16 (m2 : Int), .int .u32 (m3 : Int)] w fun e w' => e = .returned (.bool true) ∧ Below w.heap.size w w' := by
  have hM1 : ∀ x ∈ L1, x.1 < 65536 ∧ x.2 < 4294967296 := set_mem (fun j hj => by
    obtain ⟨_, _, _, _, _, _, r⟩ := hR1 j hj
    exact r)
  have HME : Hid (∀ x ∈ weave (m2, m3) L1 ++ [(m2, m3)], x.1 < 65536 ∧ x.2 < 4294967296) := Lib.hid (fun x hx => by
    rcases List.mem_append.1 hx with h | h
    · rcases weave_mem _ h with e | e
      · rw [e]; exact ⟨by omega, by omega⟩
      · exact hM1 x e
    · rw [List.mem_singleton] at h
      rw [h]; exact ⟨by omega, by omega⟩)
  have HL1 := Lib.hid hL1
  have HZ1 := Lib.hid hz1
  have HR1 := Lib.hid hR1
  obtain ⟨⟨u, c⟩, hu⟩ : ∃ z, applyS defV q0 L1 = z := ⟨_, rfl⟩
  have HU := Lib.hid hu
  clear hL1 hz1 hR1 hu hM1
  go_enter Try.func7, Try.ntmps7
  go_wp2_with fail
  refine (sawake_is w).mono ?_
  rintro e w1 ⟨rfl, hB1⟩
  have HB1 := Lib.hid hB1
  clear hB1
  by_cases h1 : (500 : Int) < (len1 : Int)
  · go_wp2_with fail
    go_ret
    exact ⟨rfl, HB1.out⟩
  have h1d : decide ((500 : Int) < (len1 : Int)) = false := decide_eq_false h1
  have hn1 : len1 ≤ 500 := by omega
  by_cases hin : 1 ≤ m2 ∧ m2 ≤ 6
  · have ha : (1 : Int) ≤ (m2 : Int) := by omega
    have hb : (m2 : Int) ≤ 6 := by omega
    clear hin
    go_wp2_with fail
    go_ret
    exact ⟨rfl, HB1.out⟩
  have hot : m2 = 0 ∨ 6 < m2 := by omega
  have HOT := Lib.hid hot
  clear hin
  go_upto_region 3 with fail
  go_cut [27] from 17 to 27 (fun v wx => v = .bool false ∧ w1 = wx)
  case first =>
    rcases hot with h | h
    · have ha : ¬ (1 : Int) ≤ (m2 : Int) := by omega
      have had : decide ((1 : Int) ≤ (m2 : Int)) = false := decide_eq_false ha
      clear h
      go_wp2_with fail
      go_meet
      exact ⟨rfl, rfl⟩
    · have ha : (1 : Int) ≤ (m2 : Int) := by omega
      have hb : ¬ (m2 : Int) ≤ 6 := by omega
      have hbd : decide ((m2 : Int) ≤ 6) = false := decide_eq_false hb
      clear h
      go_wp2_with fail
      go_meet
      exact ⟨rfl, rfl⟩
  case rest =>
    obtain ⟨rfl, rfl⟩ := hcut
    clear hot
    obtain ⟨g, hg⟩ : ∃ g, w.heap.size = g := ⟨_, rfl⟩
    have G := Lib.hid hg
    have HB1g : Hid (Below g w w1) := Lib.hid (by rw [← hg]; exact HB1.out)
    have HRg : Hid (RdSt w g a1 L1) := Lib.hid (by rw [← hg]; exact HR1.out)
    clear hg HB1 HR1
    obtain ⟨i0, hi, hz0, hz1, hz2⟩ := info_parts infoS
    have HI := Lib.hid hi
    have HY0 := Lib.hid hz0
    have HY1 := Lib.hid hz1
    have HY2 := Lib.hid hz2
    clear hi hz0 hz1 hz2
    go_wp2_with fail
    go_loopw [9, 10] (fun o i wr => ∃ k : Nat, k ≤ len1 ∧ i = .int .i64 (k : Int) ∧ Hid (wr.ownsRow g 48 2 o (2 * k) (setCs (weave (m2, m3) (L1.take k)))) ∧ Hid (Below g w wr)) (fun _ i _ => len1 - (intOf i).toNat)
    case atStart => exact ⟨0, Nat.zero_le _, rfl, Lib.hid ⟨rfl, .inl ⟨rfl, rfl⟩⟩, HB1g⟩
    case round =>
      obtain ⟨k, hk, rfl, hO, hBw⟩ := hrel
      have hgw : Hid (g ≤ wr.heap.size) := Lib.hid (by have := hBw.out.size; have := G.out; omega)
      by_cases hlt : k < len1
      · have hki : (k : Int) < (len1 : Int) := by omega
        have hk0 : (0 : Int) ≤ (k : Int) := by omega
        have hkl : k < L1.length := by rw [HL1.out]; exact hlt
        have hst := weave_step (m2, m3) hkl
        obtain ⟨b0, off, rfl, hb0, c0, c1, hx1, hx2⟩ := HRg.out k hkl
        have d0 : wr.cell? ⟨b0, off + k * 2, none⟩ = some (.int .u16 ((setAt L1 k).1 : Int)) := (hBw.out.cell (p := ⟨b0, off + k * 2, none⟩) hb0).trans c0
        have d1 : wr.cell? ⟨b0, off + k * 2 + 1, none⟩ = some (.int .u32 ((setAt L1 k).2 : Int)) := (hBw.out.cell (p := ⟨b0, off + k * 2 + 1, none⟩) hb0).trans c1
        obtain ⟨⟨x, y⟩, hxy⟩ : ∃ z, setAt L1 k = z := ⟨_, rfl⟩
        rw [hxy] at d0 d1 hst
        have HST := Lib.hid hst
        clear c0 c1 hxy hst hx1 hx2 hkl
        go_wp2_with (at_builtin; refine wpList_append_own _ rfl _ _ 22 rfl g 48 i0 (.agg #[.int .u16 0, .int .u32 0]) 2 8 Try.underlying22 HI.out HY0.out HY1.out HY2.out rfl (by decide) _ _ _ rfl (hO.out.alloc _) ⟨wr.heap.size, 0, none⟩ 2 2 (setCs [(m2, m3), (x, y)]) rfl rfl ?c1 ?c2 ?c3 ?c4 ?c5 ?_)
        case c1 => intro j u hj; exact hj
        case c2 => exact setCs_one
        case c3 => unfold maxLen; omega
        case c4 => omega
        case c5 => have := hgw.out; simp; omega
        intro v' w3 hown hgrow _
        rw [← setCs_cat, ← HST.out] at hown
        have HO3 : Hid (w3.ownsRow g 48 2 v' (2 * (k + 1)) (setCs (weave (m2, m3) (L1.take (k + 1))))) := Lib.hid hown
        have HB3 := Lib.hid ((hBw.out.alloc hgw.out _).grown hgrow (by have := hgw.out; simp; omega) (fun j hj => (hO.out.lt j hj).1))
        clear hown hgrow
        go_wp2_with fail
        go_roundw
        case rel => exact ⟨k + 1, by omega, by go_num, HO3, HB3⟩
        case measure => simp [intOf]; omega
      · have hkn : k = len1 := by omega
        have hnk : ¬ ((k : Int) < (len1 : Int)) := by omega
        have hO2 := hO.out
        rw [show L1.take k = L1 from by rw [show k = L1.length by rw [HL1.out]; omega]; exact List.take_length] at hO2
        have HO2 := Lib.hid hO2
        clear hO hO2
        go_wp2_with (at_builtin; refine wpList_append_own _ rfl _ _ 22 rfl g 48 i0 (.agg #[.int .u16 0, .int .u32 0]) 2 8 Try.underlying22 HI.out HY0.out HY1.out HY2.out rfl (by decide) _ _ _ rfl (HO2.out.alloc _) ⟨wr.heap.size, 0, none⟩ 1 1 (setCs [(m2, m3)]) rfl rfl ?c1 ?c2 ?c3 ?c4 ?c5 ?_)
        case c1 => intro j u hj; exact hj
        case c2 => exact setCs_one
        case c3 => unfold maxLen; omega
        case c4 => omega
        case c5 => have := hgw.out; simp; omega
        intro v' w3 hown hgrow _
        rw [← setCs_cat] at hown
        have hB3 := (hBw.out.alloc hgw.out (.cells #[.int .u16 (m2 : Int), .int .u32 (m3 : Int)] 48)).grown hgrow (by have := hgw.out; simp; omega) (fun j hj => (HO2.out.lt j hj).1)
        have HLM : Hid ((weave (m2, m3) L1 ++ [(m2, m3)]).length = 2 * len1 + 1) := Lib.hid (by rw [List.length_append, weave_len, HL1.out]; rfl)
        obtain ⟨A, cp, rfl, hrd⟩ := rd_own hown HLM.out HME.out
        have HRA := Lib.hid (RdSt.all hrd)
        have HB3 : Hid (Below w.heap.size w w3) := Lib.hid (by rw [G.out]; exact hB3)
        have HAP : Hid (applyS defV q0 (weave (m2, m3) L1 ++ [(m2, m3)]) = (u, c)) := Lib.hid ((weave_apply HOT.out L1 defV).trans HU.out)
        have HR0 : Hid (RdSt w w.heap.size a1 L1) := Lib.hid (by rw [G.out]; exact HRg.out)
        clear hown hgrow hB3 hrd HO2 hBw HRg
        go_wp2_with fail
        refine (cdef_is _).mono ?_
        rintro e w4 ⟨rfl, hB4⟩
        have HRB := Lib.hid (RdSt.all (HRA.out w4 hB4))
        have HB4 := Lib.hid (HB3.out.trans (hB4.mono HB3.out.size))
        clear hB4 HB3 HRA
        go_wp2_with fail
        refine (capply_is defV u q0 a1 len1 cap1 c L1 w4 (Lib.hid (HR0.out.on HB4.out HB4.out.size)) HL1 (by omega) HU).mono ?_
        rintro e w5 ⟨rfl, hB5⟩
        have HRC := Lib.hid (RdSt.all (HRB.out w5 hB5))
        have HB5 := Lib.hid (HB4.out.trans (hB5.mono HB4.out.size))
        clear hB5 HB4 HRB
        unfold valV
        go_upto_region 12 with fail
        obtain ⟨hX, hBX, hsz⟩ := boxV_new w5 u
        obtain ⟨wa, hwa⟩ : ∃ wa, w5.alloc (.cells #[.int .u32 (u.table : Int), .int .u32 (u.streams : Int), .int .u32 (u.window : Int), .int .u32 (u.frame : Int), .int .u32 (u.list : Int), .bool u.push] 26) = wa := ⟨_, rfl⟩
        rw [hwa] at hX hBX hsz ⊢
        have HRD := Lib.hid (RdSt.all (HRC.out wa hBX))
        have HBa := Lib.hid (HB5.out.trans (hBX.mono HB5.out.size))
        obtain ⟨X, hXX⟩ : ∃ X, w5.heap.size = X := ⟨_, rfl⟩
        rw [hXX] at hX hsz ⊢
        have HXa := Lib.hid hX
        clear hwa hXX hX hBX hsz HB5 HRC
        go_wp2_with fail
        refine (cdef_is _).mono ?_
        rintro e w6 ⟨rfl, hB6⟩
        have HRE := Lib.hid (HRD.out w6 hB6)
        have HX6 := Lib.hid (HXa.out.below hB6)
        have HB6 := Lib.hid (HBa.out.trans (hB6.mono HBa.out.size))
        clear hB6 HBa HXa HRD
        go_wp2_with fail
        refine (capply_is defV u q0 A (2 * len1 + 1) cp c _ w6 HRE HLM (by omega) HAP).mono ?_
        rintro e w7 ⟨rfl, hB7⟩
        have HX7 := Lib.hid (HX6.out.below hB7)
        have HB7 := Lib.hid (HB6.out.trans (hB7.mono HB6.out.size))
        clear hB7 HB6 HX6 HRE
        unfold valV
        go_upto_region 13 with fail
        obtain ⟨hX, hBX, hsz⟩ := boxV_new w7 u
        obtain ⟨wb, hwb⟩ : ∃ wb, w7.alloc (.cells #[.int .u32 (u.table : Int), .int .u32 (u.streams : Int), .int .u32 (u.window : Int), .int .u32 (u.frame : Int), .int .u32 (u.list : Int), .bool u.push] 26) = wb := ⟨_, rfl⟩
        rw [hwb] at hX hBX hsz ⊢
        have HXb := Lib.hid (HX7.out.below hBX)
        have HBb := Lib.hid (HB7.out.trans (hBX.mono HB7.out.size))
        obtain ⟨Y, hYY⟩ : ∃ Y, w7.heap.size = Y := ⟨_, rfl⟩
        rw [hYY] at hX hsz ⊢
        have HYb := Lib.hid hX
        clear hwb hYY hX hBX hsz HB7 HX7
        obtain ⟨x0, x1, x2, x3, x4, x5⟩ := HXb.out.cells
        obtain ⟨y0, y1, y2, y3, y4, y5⟩ := HYb.out.cells
        have HSAME : Hid (∀ (v : Vals) (W : World), (binOp .eql 26 (.agg #[.int .u32 (v.table : Int), .int .u32 (v.streams : Int), .int .u32 (v.window : Int), .int .u32 (v.frame : Int), .int .u32 (v.list : Int), .bool v.push]) (.agg #[.int .u32 (v.table : Int), .int .u32 (v.streams : Int), .int .u32 (v.window : Int), .int .u32 (v.frame : Int), .int .u32 (v.list : Int), .bool v.push])).run Try.prog W = .ok (.bool true) W) := Lib.hid (fun v W => val_same v W)
        have hcc : ((c : Int) == (c : Int)) = true := beq_self_eq_true _
        go_wp2_with (rw [HSAME.out])
        go_ret
        exact ⟨rfl, HBb.out⟩

set_option maxRecDepth 100000 in
theorem lifted (os : Os) (started : os.Started) (H : Type) (enc : TypeId × Value → H) :
    ReturnsInHanded {} Try.checked os 7 .any (Rows.settingsNoneSpec.pre6 enc Try.prog Try.f7 Rows.settingsNoneRow.domain false) (Rows.settingsNoneSpec.post enc Try.prog Try.f7 false true false false) := by
  refine returnsInHanded_of_change (C := Try.checked) own started (by kernel_rfl) Try.func7
    (ChangeSpec.witness6 (enc := enc) (C := Try.checked) false ⟨#[], #[.bool false, .slice none 0 0, .int .u16 0, .int .u32 0], []⟩ 8 (by kernel_rfl) (by kernel_rfl) (by kernel_rfl) (by kernel_rfl)) ?_
  intro W base args ds gs before hval0 hW hcnd _
  have hval : ∀ (j : Nat) t v, Try.f7.params[j]? = some t → args[j]? = some v → Value.okWide Try.prog W .any base t v := hval0
  have hW' := hW
  obtain ⟨p, q, hA0, hV, rfl, hfz, hnd⟩ := hW
  have hA : DataW.TrodAll enc Try.prog W 0 (fun _ => true) true Try.f7.params.toList args.toList ds p := hA0
  rw [Try.params7] at hA hval
  obtain ⟨v0, vs0, d0, ds0, p0, q0, hargs, rfl, rfl, h0, r0⟩ := trodAll_cons hA
  obtain ⟨v1, vs1, d1, ds1, p1, q1, rfl, rfl, rfl, h1, r1⟩ := trodAll_cons r0
  obtain ⟨v2, vs2, d2, ds2, p2, q2, rfl, rfl, rfl, h2, r2⟩ := trodAll_cons r1
  obtain ⟨v3, vs3, d3, ds3, p3, q3, rfl, rfl, rfl, h3, r3⟩ := trodAll_cons r2
  obtain ⟨rfl, rfl, rfl⟩ := trodAll_nil r3
  obtain rfl : args = #[v0, v1, v2, v3] := by cases args; simp_all
  obtain ⟨rfl, rfl⟩ := trodVars_none hV
  have k0 := h0
  have lt0 : ∀ x ∈ p0, x.block < W.heap.size := by obtain ⟨m, hm⟩ := k0; exact DataW.trod_lt m _ _ _ hm
  obtain ⟨q0, rfl⟩ := okWide_bool Try.underlying4 (hval 0 4 v0 rfl rfl)
  obtain ⟨a1, len1, cap1, rfl⟩ := okWide_slice Try.underlying22 (hval 1 22 v1 rfl rfl)
  have k1 := h1
  have lt1 : ∀ x ∈ p1, x.block < W.heap.size := by obtain ⟨m, hm⟩ := k1; exact DataW.trod_lt m _ _ _ hm
  obtain ⟨hl1, L1, hN1, hR1⟩ : len1 ≤ maxLen ∧ ∃ L : List (Nat × Nat), L.length = len1 ∧ RdSt W W.heap.size a1 L := by
    obtain ⟨fuel, hf⟩ := h1
    exact rdst_of_trod hf
  have hz1 : a1 = none → cap1 = 0 ∧ len1 = 0 := by
    obtain ⟨fuel, hf⟩ := h1
    exact nil_of_trod hf
  obtain ⟨z2, rfl, rfl, rfl, wf2⟩ := open_int Try.underlying46 (hval 2 46 v2 rfl rfl) h2
  have bd2 := bounds_u16 wf2
  obtain ⟨m2, rfl⟩ := Int.eq_ofNat_of_zero_le bd2.1
  obtain ⟨z3, rfl, rfl, rfl, wf3⟩ := open_int Try.underlying24 (hval 3 24 v3 rfl rfl) h3
  have bd3 := bounds_u32 wf3
  obtain ⟨m3, rfl⟩ := Int.eq_ofNat_of_zero_le bd3.1
  clear hA0 hval0
  refine (walk q0 a1 len1 cap1 L1 m2 m3 W hl1 hN1 hR1 hz1 (by omega) (by omega)).mono fun e W' ⟨he, bel⟩ => ?_
  subst he
  exact ⟨_, rfl, _, _, _, [], _, [], hW', trodAll_mk1 (shut_bool Try.underlying4 _), (trodAll_cons_mk (Below.trod laidOut (by kernel_rfl) (of_decide_eq_true (by kernel_rfl)) k0 bel lt0) (trodAll_cons_mk (Below.trod laidOut (by kernel_rfl) (of_decide_eq_true (by kernel_rfl)) k1 bel lt1) (trodAll_cons_mk (shut_int Try.underlying46 wf2) (trodAll_cons_mk (shut_int Try.underlying24 wf3) trodAll_mk0)))), rfl, bel.frame _, fun h => by cases h⟩

theorem over : Rows.settingsNoneRow.holds Try.pinned (OpenSpec.ofChange Rows.settingsNoneSpec) :=
  OpenClaim.holds_of_wide 7 Try.f7 rfl rfl rfl rfl rfl rfl rfl ⟨rfl, rfl, rfl, rfl, rfl⟩ rfl rfl rfl rfl rfl (by kernel_rfl) Try.func7 (by kernel_rfl)
    (of_decide_eq_true (by kernel_rfl)) (by unfold Func.isWrapper; first | (rw [if_pos (by decide +kernel)]; kernel_rfl) | (rw [if_neg (by decide +kernel)]; exact ⟨rfl, rfl⟩))
    (fun os started H enc _ => lifted os started H enc)

theorem proved : Rows.SettingsNoneSaid := over
#print axioms proved
end Go.Proofs.Yteddepmiejlemaa.settingsNone
