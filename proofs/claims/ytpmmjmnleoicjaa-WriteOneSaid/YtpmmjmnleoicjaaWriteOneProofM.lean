/- Proves WriteOne: unlike messages have unlike bytes. No condition. -/
import Derived.Test.YtpmmjmnleoicjaaRows
import Derived.Test.YtpmmjmnleoicjaaWriteOneProofG2
import Derived.Test.YtpmmjmnleoicjaaWriteOneProofG3
import Derived.Test.YtpmmjmnleoicjaaWriteOneProofG6
import Derived.WalkKit
import Derived.ProofKit
import Derived.OpenShut
import Derived.ShutString
import Derived.ChangeOld
import Derived.Below
import Derived.Lib.Hide
import Derived.Laws.Rows
import Derived.Laws.AppendOwn
import Derived.Deep.AppendLies
import Derived.Outline
import Derived.IntWalk
import Derived.WalkSpells
import Derived.WalkLawsBesides
import Derived.Deep.CutBlock
namespace Go.Proofs.Ytpmmjmnleoicjaa.writeOne
open Go.ChangeShapes Go.WideShapes Go.ChangeAt Go.RowKit
open Bytes Strs Nums NmMath MsgMath NameMath RecMath DatMath WrMath WrRound
set_option linter.unusedVariables false

theorem own : ownKnob Try.prog.godebug = none := by kernel_rfl
theorem laidOut : laidOutB Try.prog = true := by kernel_rfl
/-- Both texts are alike just if both messages are. -/
theorem alike {M N : Msg} {s t : ByteArray} (hM : FewM M) (hN : FewM N) (h1 : writeM M = (s.data.toList, 0)) (h2 : writeM N = (t.data.toList, 0)) : decide (s = t) = true ↔ M = N := by
  rw [decide_eq_true_eq]
  rcases writeM_cases h1 with ⟨_, c1, e1, l1⟩ | ⟨h, _⟩ | ⟨h, _⟩
  · rcases writeM_cases h2 with ⟨_, c2, e2, l2⟩ | ⟨h, _⟩ | ⟨h, _⟩
    · have r1 := rd_back hM c1 (by rw [← e1]; exact l1)
      have r2 := rd_back hN c2 (by rw [← e2]; exact l2)
      constructor
      · intro h
        subst h
        rw [← e1] at r1
        rw [← e2, r1] at r2
        injection r2
      · intro h
        subst h
        rw [h1] at h2
        injection h2 with h2 _
        exact list_inj h2
    · cases h
    · exact absurd rfl h
  · cases h
  · exact absurd rfl h
theorem ne_zero {c : Nat} (h : c ≠ 0) : ((c : Int) != 0) = true := bne_iff_ne.2 (by omega)
theorem checkM_qs {M : Msg} {o : List UInt8} (h : writeM M = (o, 0)) : checkM M = 0 := by
  rcases writeM_cases h with ⟨_, c1, _, _⟩ | ⟨h, _⟩ | ⟨h, _⟩
  · exact c1
  · cases h
  · exact absurd rfl h
set_option maxHeartbeats 8000000 in
set_option maxRecDepth 100000 in
theorem walk (M N : Msg) (Aq Aa An Ax Bq Ba Bn Bx : Option Addr) (nq na nn nx cq ca cn cx mq ma mn mx dq da dn dx : Nat) (Za Zn Zx Ya Yn Yx : List RecZ) (w : World) (hv : Hid (MsgV w w.heap.size M Aq Aa An Ax nq na nn nx ca cn cx Za Zn Zx)) (hbig : Hid (BigM M)) (hv' : Hid (MsgV w w.heap.size N Bq Ba Bn Bx mq ma mn mx da dn dx Ya Yn Yx)) (hbig' : Hid (BigM N)) :
    Calls Try.prog 5 #[.agg (msgA M.id M.flags Aq nq cq Aa na ca An nn cn Ax nx cx), .agg (msgA N.id N.flags Bq mq dq Ba ma da Bn mn dn Bx mx dx)] w fun e w' => e = .returned (.bool true) ∧ Below w.heap.size w w' := by
  obtain ⟨id, hid⟩ : ∃ n, M.id = n := ⟨_, rfl⟩
  obtain ⟨fl, hfl⟩ : ∃ n, M.flags = n := ⟨_, rfl⟩
  obtain ⟨jd, hjd⟩ : ∃ n, N.id = n := ⟨_, rfl⟩
  obtain ⟨gl, hgl⟩ : ∃ n, N.flags = n := ⟨_, rfl⟩
  obtain ⟨g, hg⟩ : ∃ g, w.heap.size = g := ⟨_, rfl⟩
  obtain ⟨w0, hw0⟩ : ∃ wa, w.alloc (.cells (msgA id fl Aq nq cq Aa na ca An nn cn Ax nx cx) 26) = wa := ⟨_, rfl⟩
  obtain ⟨wa, hwa⟩ : ∃ wa, w0.alloc (.cells (msgA jd gl Bq mq dq Ba ma da Bn mn dn Bx mx dx) 26) = wa := ⟨_, rfl⟩
  have hb0 : Below g w w0 := by rw [← hw0, ← hg]; exact (Below.refl _ _).alloc (Nat.le_refl _) _
  have hx0 : w0.heap[g]? = some (.cells (msgA id fl Aq nq cq Aa na ca An nn cn Ax nx cx) 26 (0, 0)) := by rw [← hw0, ← hg]; exact heap_alloc_new w _
  have hs0 : w0.heap.size = g + 1 := by rw [← hw0, ← hg]; simp
  have hba : Below g w wa := by rw [← hwa]; exact hb0.alloc (by omega) _
  have hx : wa.heap[g]? = some (.cells (msgA id fl Aq nq cq Aa na ca An nn cn Ax nx cx) 26 (0, 0)) := by rw [← hwa]; exact old_at hx0
  have hy : wa.heap[g + 1]? = some (.cells (msgA jd gl Bq mq dq Ba ma da Bn mn dn Bx mx dx) 26 (0, 0)) := by rw [← hwa, ← hs0]; exact heap_alloc_new w0 _
  have hsa : wa.heap.size = g + 2 := by rw [← hwa]; simp [hs0]
  have hv0 := hv.out
  have hv1 := hv'.out
  rw [hg] at hv0 hv1
  have HV := Lib.hid hv0
  have HW := Lib.hid hv1
  have HG := Lib.hid hg
  have HID := Lib.hid hid
  have HFL := Lib.hid hfl
  have HJD := Lib.hid hjd
  have HGL := Lib.hid hgl
  have HBA := Lib.hid hba
  have HX := Lib.hid hx
  have HY := Lib.hid hy
  have HSA := Lib.hid hsa
  rw [hid, hfl, hjd, hgl, hg]
  clear hba hx hy hsa hid hfl hjd hgl hv0 hv1 hv hv' hb0 hx0
  go_enter Try.func5, Try.ntmps5
  go_wp2_with fail
  clear hs0
  refine (awakeW_any _).mono ?_
  rintro e w1 ⟨rfl, hB1⟩
  have HB1 : Hid (Below (g + 2) wa w1) := by have h := hB1; rw [HSA.out] at h; exact h
  have HS1 : Hid (g + 2 ≤ w1.heap.size) := by have h := HB1.out.size; rw [HSA.out] at h; exact h
  have HE1 : Hid (Below g w w1) := HBA.out.trans (HB1.out.mono (by omega))
  have hx1 := (HB1.out.block g (by omega)).trans HX.out
  have hy1 := (HB1.out.block (g + 1) (by omega)).trans HY.out
  have HF1 := Lib.hid (fewM_any M Aq Aa An Ax nq na nn nx cq ca cn cx g Za Zn Zx w1 (HV.out.on HE1.out (Nat.le_refl _)) (by have := HS1.out; omega) hbig)
  rw [HID.out, HFL.out] at HF1
  have k0 := cell_of_row _ _ 0 _ _ _ hx1
  have k1 := cell_of_row _ _ 1 _ _ _ hx1
  have k2 := cell_of_row _ _ 2 _ _ _ hx1
  have k3 := cell_of_row _ _ 3 _ _ _ hx1
  have k4 := cell_of_row _ _ 4 _ _ _ hx1
  have k5 := cell_of_row _ _ 5 _ _ _ hx1
  clear hB1 hx1 hy1
  clear hwa hw0 hg
  go_wp2_with fail
  refine HF1.out.mono ?_
  rintro e w2 ⟨bb, rfl, hbb, hB2⟩
  have HB2 : Hid (Below (g + 2) wa w2) := HB1.out.trans (hB2.mono HS1.out)
  have HS2 : Hid (g + 2 ≤ w2.heap.size) := by have h := HB2.out.size; rw [HSA.out] at h; exact h
  have HE2 : Hid (Below g w w2) := HBA.out.trans (HB2.out.mono (by omega))
  have hx2 := (HB2.out.block g (by omega)).trans HX.out
  have hy2 := (HB2.out.block (g + 1) (by omega)).trans HY.out
  have HBB := Lib.hid hbb
  clear hbb k0 k1 k2 k3 k4 k5 HF1
  cases bb with
  | false =>
    go_wp2_with fail
    go_ret
    exact ⟨rfl, HE2.out⟩
  | true =>
  have HFM := Lib.hid (HBB.out rfl).1
  have HF2 := Lib.hid (fewM_any N Bq Ba Bn Bx mq ma mn mx dq da dn dx g Ya Yn Yx w2 (HW.out.on HE2.out (Nat.le_refl _)) (by have := HS2.out; omega) hbig')
  rw [HJD.out, HGL.out] at HF2
  have j0 := cell_of_row _ _ 0 _ _ _ hy2
  have j1 := cell_of_row _ _ 1 _ _ _ hy2
  have j2 := cell_of_row _ _ 2 _ _ _ hy2
  have j3 := cell_of_row _ _ 3 _ _ _ hy2
  have j4 := cell_of_row _ _ 4 _ _ _ hy2
  have j5 := cell_of_row _ _ 5 _ _ _ hy2
  clear hB2 hx2 hy2
  clear HBB
  go_wp2_with fail
  refine HF2.out.mono ?_
  rintro e w3 ⟨bb, rfl, hbb, hB3⟩
  have HB3 : Hid (Below (g + 2) wa w3) := HB2.out.trans (hB3.mono HS2.out)
  have HS3 : Hid (g + 2 ≤ w3.heap.size) := by have h := HB3.out.size; rw [HSA.out] at h; exact h
  have HE3 : Hid (Below g w w3) := HBA.out.trans (HB3.out.mono (by omega))
  have hx3 := (HB3.out.block g (by omega)).trans HX.out
  have hy3 := (HB3.out.block (g + 1) (by omega)).trans HY.out
  have HBB := Lib.hid hbb
  clear hbb j0 j1 j2 j3 j4 j5 HF2
  cases bb with
  | false =>
    go_wp2_with fail
    go_ret
    exact ⟨rfl, HE3.out⟩
  | true =>
  have HFN := Lib.hid (HBB.out rfl).1
  obtain ⟨⟨o, code⟩, hwm⟩ : ∃ S, writeM M = S := ⟨_, rfl⟩
  obtain ⟨s1, hout⟩ : ∃ s, mk o = s := ⟨_, rfl⟩
  have ho : o = s1.data.toList := by rw [← hout, mk_list]
  subst ho
  have HWM := Lib.hid hwm
  have HCM := Lib.hid (fun W (h : Below g w W) (hs : g ≤ W.heap.size) => write_w M Aq Aa An Ax nq na nn nx cq ca cn cx g code s1 Za Zn Zx W (HV.out.on h (Nat.le_refl _)) hs HFM.out hwm)
  clear hout hwm
  obtain ⟨⟨o, kode⟩, hwm⟩ : ∃ S, writeM N = S := ⟨_, rfl⟩
  obtain ⟨s2, hout⟩ : ∃ s, mk o = s := ⟨_, rfl⟩
  have ho : o = s2.data.toList := by rw [← hout, mk_list]
  subst ho
  have HWN := Lib.hid hwm
  have HCN := Lib.hid (fun W (h : Below g w W) (hs : g ≤ W.heap.size) => write_w N Bq Ba Bn Bx mq ma mn mx dq da dn dx g kode s2 Ya Yn Yx W (HW.out.on h (Nat.le_refl _)) hs HFN.out hwm)
  clear hout hwm
  rw [HID.out, HFL.out] at HCM
  rw [HJD.out, HGL.out] at HCN
  have HAL : Hid (code = 0 → kode = 0 → ∀ W : World, ∀ (h : Below g w W), g ≤ W.heap.size → Calls Try.prog 19 #[.agg (msgA id fl Aq nq cq Aa na ca An nn cn Ax nx cx), .agg (msgA jd gl Bq mq dq Ba ma da Bn mn dn Bx mx dx)] W fun e w' => e = .returned (.bool (decide (s1 = s2))) ∧ Below W.heap.size W w') := by
    intro h1 h2 W h hs
    subst h1 h2
    have h5 := same_any M N Aq Aa An Ax Bq Ba Bn Bx cq ca cn cx dq da dn dx nq na nn nx mq ma mn mx Za Ya Zn Yn Zx Yx (decide (s1 = s2)) W (HV.out.on h hs) (HW.out.on h hs) (few_small HFM.out (checkM_ok (checkM_qs HWM.out)).2.1) (few_small HFN.out (checkM_ok (checkM_qs HWN.out)).2.1) (alike HFM.out HFN.out HWM.out HWN.out)
    rw [HID.out, HFL.out, HJD.out, HGL.out] at h5
    exact h5
  have k0 := cell_of_row _ _ 0 _ _ _ hx3
  have k1 := cell_of_row _ _ 1 _ _ _ hx3
  have k2 := cell_of_row _ _ 2 _ _ _ hx3
  have k3 := cell_of_row _ _ 3 _ _ _ hx3
  have k4 := cell_of_row _ _ 4 _ _ _ hx3
  have k5 := cell_of_row _ _ 5 _ _ _ hx3
  clear hB3 hx3 hy3
  clear HBB HWM HWN
  go_wp2_with fail
  refine (HCM.out _ HE3.out (by have := HS3.out; omega)).mono ?_
  rintro e w4 ⟨rfl, hB4⟩
  have HB4 : Hid (Below (g + 2) wa w4) := HB3.out.trans (hB4.mono HS3.out)
  have HS4 : Hid (g + 2 ≤ w4.heap.size) := by have h := HB4.out.size; rw [HSA.out] at h; exact h
  have HE4 : Hid (Below g w w4) := HBA.out.trans (HB4.out.mono (by omega))
  have hx4 := (HB4.out.block g (by omega)).trans HX.out
  have hy4 := (HB4.out.block (g + 1) (by omega)).trans HY.out
  clear k0 k1 k2 k3 k4 k5
  have j0 := cell_of_row _ _ 0 _ _ _ hy4
  have j1 := cell_of_row _ _ 1 _ _ _ hy4
  have j2 := cell_of_row _ _ 2 _ _ _ hy4
  have j3 := cell_of_row _ _ 3 _ _ _ hy4
  have j4 := cell_of_row _ _ 4 _ _ _ hy4
  have j5 := cell_of_row _ _ 5 _ _ _ hy4
  clear hB4 hx4 hy4
  go_wp2_with fail
  refine (HCN.out _ HE4.out (by have := HS4.out; omega)).mono ?_
  rintro e w5 ⟨rfl, hB5⟩
  have HB5 : Hid (Below (g + 2) wa w5) := HB4.out.trans (hB5.mono HS4.out)
  have HS5 : Hid (g + 2 ≤ w5.heap.size) := by have h := HB5.out.size; rw [HSA.out] at h; exact h
  have HE5 : Hid (Below g w w5) := HBA.out.trans (HB5.out.mono (by omega))
  have hx5 := (HB5.out.block g (by omega)).trans HX.out
  have hy5 := (HB5.out.block (g + 1) (by omega)).trans HY.out
  clear j0 j1 j2 j3 j4 j5 HCM HCN
  by_cases hc : code = 0
  · subst hc
    by_cases hd : kode = 0
    · subst hd
      have k0 := cell_of_row _ _ 0 _ _ _ hx5
      have k1 := cell_of_row _ _ 1 _ _ _ hx5
      have k2 := cell_of_row _ _ 2 _ _ _ hx5
      have k3 := cell_of_row _ _ 3 _ _ _ hx5
      have k4 := cell_of_row _ _ 4 _ _ _ hx5
      have k5 := cell_of_row _ _ 5 _ _ _ hx5
      have j0 := cell_of_row _ _ 0 _ _ _ hy5
      have j1 := cell_of_row _ _ 1 _ _ _ hy5
      have j2 := cell_of_row _ _ 2 _ _ _ hy5
      have j3 := cell_of_row _ _ 3 _ _ _ hy5
      have j4 := cell_of_row _ _ 4 _ _ _ hy5
      have j5 := cell_of_row _ _ 5 _ _ _ hy5
      have HAS := Lib.hid (HAL.out rfl rfl)
      obtain ⟨z, hz⟩ : ∃ z, decide (s1 = s2) = z := ⟨_, rfl⟩
      have fz : (s1.toList == s2.toList) = z := by rw [eq_toList]; exact hz
      rw [hz] at HAS
      clear hB5 hx5 hy5 HAL hz
      go_wp2_with fail
      refine (HAS.out _ HE5.out (by have := HS5.out; omega)).mono ?_
      rintro e w6 ⟨rfl, hB6⟩
      have HE6 : Hid (Below g w w6) := HE5.out.trans (hB6.mono (by have := HS5.out; omega))
      have fzz : (z == z) = true := beq_self_eq_true _
      clear hB6 k0 k1 k2 k3 k4 k5 j0 j1 j2 j3 j4 j5
      go_wp2_with fail
      go_ret
      exact ⟨rfl, HE6.out⟩
    · have hn := ne_zero hd
      clear hB5 hx5 hy5 HAL hd
      go_wp2_with fail
      go_ret
      exact ⟨rfl, HE5.out⟩
  · have hn := ne_zero hc
    clear hB5 hx5 hy5 HAL hc
    go_wp2_with fail
    go_ret
    exact ⟨rfl, HE5.out⟩

/-- A message that came in is one as may come in. -/
theorem came_v {w : World} {v : Value} {M : Msg} {Aq Aa An Ax : Option Addr} {cq ca cn cx : Nat} {Za Zn Zx : List RecZ} (h : CameMsg w v M Aq Aa An Ax cq ca cn cx Za Zn Zx) : MsgV w w.heap.size M Aq Aa An Ax M.qs.length M.an.length M.ns.length M.ad.length ca cn cx Za Zn Zx ∧ BigM M :=
  ⟨⟨h.at_, rfl, rfl, rfl, rfl, h.nils.1, h.nils.2.1, h.nils.2.2⟩, ⟨h.id, h.flags, h.lens.1, h.lens.2.1, h.lens.2.2.1, h.lens.2.2.2, h.qs, h.recs⟩⟩

set_option maxRecDepth 100000 in
theorem lifted (os : Os) (started : os.Started) (H : Type) (enc : TypeId × Value → H) :
    ReturnsInHanded {} Try.checked os 5 .any (Rows.writeOneSpec.pre6 enc Try.prog Try.f5 Rows.writeOneRow.domain false) (Rows.writeOneSpec.post enc Try.prog Try.f5 false true false false) := by
  refine returnsInHanded_of_change (C := Try.checked) own started (by kernel_rfl) Try.func5
    (ChangeSpec.witness6 (enc := enc) (C := Try.checked) false ⟨#[], #[.agg #[.int .u16 0, .int .u16 0, .slice none 0 0, .slice none 0 0, .slice none 0 0, .slice none 0 0], .agg #[.int .u16 0, .int .u16 0, .slice none 0 0, .slice none 0 0, .slice none 0 0, .slice none 0 0]], []⟩ 8 (by kernel_rfl) (by kernel_rfl) (by kernel_rfl) (by kernel_rfl)) ?_
  intro W base args ds gs before hval0 hW hcnd _
  have hval : ∀ (j : Nat) t v, Try.f5.params[j]? = some t → args[j]? = some v → Value.okWide Try.prog W .any base t v := hval0
  have hW' := hW
  obtain ⟨p, q, hA0, hV, rfl, hfz, hnd⟩ := hW
  have hA : DataW.TrodAll enc Try.prog W 0 (fun _ => true) true Try.f5.params.toList args.toList ds p := hA0
  rw [Try.params5] at hA hval
  obtain ⟨v0, vs0, d0, ds0, p0, q0, hargs, rfl, rfl, h0, r0⟩ := trodAll_cons hA
  obtain ⟨v1, vs1, d1, ds1, p1, q1, rfl, rfl, rfl, h1, r1⟩ := trodAll_cons r0
  obtain ⟨rfl, rfl, rfl⟩ := trodAll_nil r1
  obtain rfl : args = #[v0, v1] := by cases args; simp_all
  obtain ⟨rfl, rfl⟩ := trodVars_none hV
  have k00 := h0
  have lt0 : ∀ x ∈ p0, x.block < W.heap.size := by obtain ⟨m, hm⟩ := k00; exact DataW.trod_lt m _ _ _ hm
  obtain ⟨M, Aq, Aa, An, Ax, cq, ca, cn, cx, Za, Zn, Zx, hc0⟩ := came_msg (hval 0 26 v0 rfl rfl) h0
  obtain ⟨hmv, hbg⟩ := came_v hc0
  obtain rfl := hc0.val
  have k10 := h1
  have lt1 : ∀ x ∈ p1, x.block < W.heap.size := by obtain ⟨m, hm⟩ := k10; exact DataW.trod_lt m _ _ _ hm
  obtain ⟨N, Bq, Ba, Bn, Bx, dq, da, dn, dx, Ya, Yn, Yx, hc1⟩ := came_msg (hval 1 26 v1 rfl rfl) h1
  obtain ⟨hmv', hbg'⟩ := came_v hc1
  obtain rfl := hc1.val
  clear hA0 hval0
  refine (walk M N Aq Aa An Ax Bq Ba Bn Bx _ _ _ _ cq ca cn cx _ _ _ _ dq da dn dx Za Zn Zx Ya Yn Yx W hmv hbg hmv' hbg').mono fun e W' ⟨he, bel⟩ => ?_
  subst he
  exact ⟨_, rfl, _, _, _, [], _, [], hW', trodAll_mk1 (shut_bool Try.underlying4 _), (trodAll_cons_mk (Below.trod laidOut (by kernel_rfl) (of_decide_eq_true (by kernel_rfl)) k00 bel lt0) (trodAll_cons_mk (Below.trod laidOut (by kernel_rfl) (of_decide_eq_true (by kernel_rfl)) k10 bel lt1) trodAll_mk0)), rfl, bel.frame _, fun h => by cases h⟩

theorem over : Rows.writeOneRow.holds Try.pinned (OpenSpec.ofChange Rows.writeOneSpec) :=
  OpenClaim.holds_of_wide 5 Try.f5 rfl rfl rfl rfl rfl rfl rfl ⟨rfl, rfl, rfl, rfl, rfl⟩ rfl rfl rfl rfl rfl (by kernel_rfl) Try.func5 (by kernel_rfl)
    (of_decide_eq_true (by kernel_rfl)) (by unfold Func.isWrapper; first | (rw [if_pos (by decide +kernel)]; kernel_rfl) | (rw [if_neg (by decide +kernel)]; exact ⟨rfl, rfl⟩))
    (fun os started H enc _ => lifted os started H enc)

theorem proved : Rows.WriteOneSaid := over
#print axioms proved
end Go.Proofs.Ytpmmjmnleoicjaa.writeOne
