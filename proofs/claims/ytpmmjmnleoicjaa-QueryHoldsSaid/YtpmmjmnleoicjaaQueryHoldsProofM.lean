/- Proves QueryHolds: whether any message is negative, and how long it holds, is as the document says. No condition. -/
import Derived.Test.YtpmmjmnleoicjaaRows
import Derived.Test.YtpmmjmnleoicjaaQueryHoldsProofG1
import Derived.Test.YtpmmjmnleoicjaaQueryHoldsProofG2
import Derived.Test.YtpmmjmnleoicjaaQueryHoldsProofG4
import Derived.Test.YtpmmjmnleoicjaaQueryHoldsProofG5
import Derived.WalkKit
import Derived.ProofKit
import Derived.OpenShut
import Derived.ShutString
import Derived.ChangeOld
import Derived.Below
import Derived.Lib.Hide
import Derived.Laws.Rows
import Derived.Outline
import Derived.IntWalk
import Derived.WalkSpells
import Derived.WalkLawsBesides
import Derived.Deep.RegionHeld3
import Derived.Deep.Draws
namespace Go.Proofs.Ytpmmjmnleoicjaa.queryHolds
open Go.ChangeShapes Go.WideShapes Go.ChangeAt Go.RowKit
open Bytes Strs Nums MsgMath NameMath RecMath WrMath QrMath
set_option linter.unusedVariables false

theorem own : ownKnob Try.prog.godebug = none := by kernel_rfl
theorem laidOut : laidOutB Try.prog = true := by kernel_rfl
set_option maxHeartbeats 8000000 in
set_option maxRecDepth 100000 in
theorem walk (M : Msg) (Aq Aa An Ax : Option Addr) (nq na nn nx cq ca cn cx : Nat) (Za Zn Zx : List RecZ) (w : World) (hv : Hid (MsgV w w.heap.size M Aq Aa An Ax nq na nn nx ca cn cx Za Zn Zx)) (hbig : Hid (BigM M)) :
    Calls Try.prog 7 #[.agg (msgA M.id M.flags Aq nq cq Aa na ca An nn cn Ax nx cx)] w fun e w' => e = .returned (.bool true) ∧ Below w.heap.size w w' := by
  obtain ⟨id, hid⟩ : ∃ n, M.id = n := ⟨_, rfl⟩
  obtain ⟨fl, hfl⟩ : ∃ n, M.flags = n := ⟨_, rfl⟩
  obtain ⟨g, hg⟩ : ∃ g, w.heap.size = g := ⟨_, rfl⟩
  obtain ⟨wa, hwa⟩ : ∃ wa, w.alloc (.cells (msgA id fl Aq nq cq Aa na ca An nn cn Ax nx cx) 26) = wa := ⟨_, rfl⟩
  have hba : Below g w wa := by rw [← hwa, ← hg]; exact (Below.refl _ _).alloc (Nat.le_refl _) _
  have hbx : wa.heap[g]? = some (.cells (msgA id fl Aq nq cq Aa na ca An nn cn Ax nx cx) 26 (0, 0)) := by rw [← hwa, ← hg]; exact heap_alloc_new w _
  have hsa : wa.heap.size = g + 1 := by rw [← hwa, ← hg]; simp
  have hv0 := hv.out
  rw [hg] at hv0
  have HV := Lib.hid hv0
  have HG := Lib.hid hg
  have HID := Lib.hid hid
  have HFL := Lib.hid hfl
  have HBA := Lib.hid hba
  have HBX := Lib.hid hbx
  have HSA := Lib.hid hsa
  rw [hid, hfl, hg]
  clear hba hbx hsa hid hfl hv0 hv
  go_enter Try.func7, Try.ntmps7
  go_wp2_with fail
  refine (awake8_any _).mono ?_
  rintro e w1 ⟨rfl, hB1⟩
  have HB1 : Hid (Below (g + 1) wa w1) := by have := hB1; rw [HSA.out] at this; exact this
  have hx1 := (HB1.out.block g (Nat.lt_succ_self g)).trans HBX.out
  have HW1 : Hid (Below g w w1) := HBA.out.trans (HB1.out.mono (Nat.le_succ _))
  have HS1 : Hid (g + 1 ≤ w1.heap.size) := by have := HB1.out.size; rw [HSA.out] at this; exact this
  have HFW := Lib.hid (fewM_any M Aq Aa An Ax nq na nn nx cq ca cn cx g Za Zn Zx w1 (HV.out.on HW1.out (Nat.le_refl _)) (by have := HS1.out; omega) hbig)
  rw [HID.out, HFL.out] at HFW
  have k0 := cell_of_row _ _ 0 _ _ _ hx1
  have k1 := cell_of_row _ _ 1 _ _ _ hx1
  have k2 := cell_of_row _ _ 2 _ _ _ hx1
  have k3 := cell_of_row _ _ 3 _ _ _ hx1
  have k4 := cell_of_row _ _ 4 _ _ _ hx1
  have k5 := cell_of_row _ _ 5 _ _ _ hx1
  clear hB1 hx1 hwa hg
  go_wp2_with fail
  refine HFW.out.mono ?_
  rintro e w2 ⟨bb, rfl, hbb, hB2⟩
  have HB2 : Hid (Below (g + 1) wa w2) := HB1.out.trans (hB2.mono HS1.out)
  have HW2 : Hid (Below g w w2) := HBA.out.trans (HB2.out.mono (Nat.le_succ _))
  have hx2 := (HB2.out.block g (Nat.lt_succ_self g)).trans HBX.out
  have HBB := Lib.hid hbb
  clear hB2 hbb k0 k1 k2 k3 k4 k5
  cases bb with
  | false =>
    go_wp2_with fail
    go_ret
    exact ⟨rfl, HW2.out⟩
  | true =>
  have k0 := cell_of_row _ _ 0 _ _ _ hx2
  have k1 := cell_of_row _ _ 1 _ _ _ hx2
  have k2 := cell_of_row _ _ 2 _ _ _ hx2
  have k3 := cell_of_row _ _ 3 _ _ _ hx2
  have k4 := cell_of_row _ _ 4 _ _ _ hx2
  have k5 := cell_of_row _ _ 5 _ _ _ hx2
  have HQM := Lib.hid (HBB.out rfl).2.2
  obtain ⟨q, hq⟩ : ∃ q, negM M = q := ⟨_, rfl⟩
  obtain ⟨T, hT⟩ : ∃ T, leastM M = T := ⟨_, rfl⟩
  have M1 := fun W (h : Below g w W) (hW : g ≤ W.heap.size) => negative_w M Aq Aa An Ax nq na nn nx cq ca cn cx g Za Zn Zx q W (HV.out.on h (Nat.le_refl _)) hW HQM.out.few hq
  have M2 := fun W (h : Below g w W) (hW : g ≤ W.heap.size) => refNegative_w M Aq Aa An Ax nq na nn nx cq ca cn cx g Za Zn Zx q W (HV.out.on h (Nat.le_refl _)) hW HQM.out.few hq
  have M3 := fun W (h : Below g w W) (hW : g ≤ W.heap.size) => least_w M Aq Aa An Ax nq na nn nx cq ca cn cx g Za Zn Zx T W (HV.out.on h (Nat.le_refl _)) hW HQM.out hT
  have M4 := fun W (h : Below g w W) (hW : g ≤ W.heap.size) => refLeast_w M Aq Aa An Ax nq na nn nx cq ca cn cx g Za Zn Zx T W (HV.out.on h (Nat.le_refl _)) hW HQM.out hT
  rw [HID.out, HFL.out] at M1 M2 M3 M4
  have C1 := Lib.hid (fun W hs h => held6 ⟨g, 0, none⟩ ⟨g, 1, none⟩ ⟨g, 2, none⟩ ⟨g, 3, none⟩ ⟨g, 4, none⟩ ⟨g, 5, none⟩ (.int .u16 id) (.int .u16 fl) (.slice Aq nq cq) (.slice Aa na ca) (.slice An nn cn) (.slice Ax nx cx) M1 W hs h)
  have C2 := Lib.hid (fun W hs h => held6 ⟨g, 0, none⟩ ⟨g, 1, none⟩ ⟨g, 2, none⟩ ⟨g, 3, none⟩ ⟨g, 4, none⟩ ⟨g, 5, none⟩ (.int .u16 id) (.int .u16 fl) (.slice Aq nq cq) (.slice Aa na ca) (.slice An nn cn) (.slice Ax nx cx) M2 W hs h)
  have C3 := Lib.hid (fun W hs h => held6 ⟨g, 0, none⟩ ⟨g, 1, none⟩ ⟨g, 2, none⟩ ⟨g, 3, none⟩ ⟨g, 4, none⟩ ⟨g, 5, none⟩ (.int .u16 id) (.int .u16 fl) (.slice Aq nq cq) (.slice Aa na ca) (.slice An nn cn) (.slice Ax nx cx) M3 W hs h)
  have C4 := Lib.hid (fun W hs h => held6 ⟨g, 0, none⟩ ⟨g, 1, none⟩ ⟨g, 2, none⟩ ⟨g, 3, none⟩ ⟨g, 4, none⟩ ⟨g, 5, none⟩ (.int .u16 id) (.int .u16 fl) (.slice Aq nq cq) (.slice Aa na ca) (.slice An nn cn) (.slice Ax nx cx) M4 W hs h)
  have HGW : Hid (∀ W : World, W.cell? ⟨g, 0, none⟩ = some (.int .u16 id) → g ≤ W.heap.size) := fun W h => by have h2 : g < W.heap.size := World.block_lt_of_cell? W _ h; omega
  have h0 : Below g w w2.drew := HW2.out.drew
  have fq : (q == q) = true := beq_self_eq_true _
  have fT : ((T : Int) == (T : Int)) = true := beq_self_eq_true _
  clear hx2 HBB hq hT M1 M2 M3 M4
  go_wp2_with fail
  go_region_held3 (fun w' => w'.cell? ⟨g, 0, none⟩ = some (.int .u16 id) ∧ w'.cell? ⟨g, 1, none⟩ = some (.int .u16 fl) ∧ w'.cell? ⟨g, 2, none⟩ = some (.slice Aq nq cq) ∧ w'.cell? ⟨g, 3, none⟩ = some (.slice Aa na ca) ∧ w'.cell? ⟨g, 4, none⟩ = some (.slice An nn cn) ∧ w'.cell? ⟨g, 5, none⟩ = some (.slice Ax nx cx) ∧ Below g w w') (go_keep) (first | (go_at_call 29; (with_reducible refine (C1.out _ (HGW.out _ ?_) ?_).mono ?_); (simp [*]); (simp [*]); rintro e w5 ⟨rfl, c0, c1, c2, c3, c4, c5, hG⟩) | (go_at_call 30; (with_reducible refine (C2.out _ (HGW.out _ ?_) ?_).mono ?_); (simp [*]); (simp [*]); rintro e w6 ⟨rfl, c0, c1, c2, c3, c4, c5, hG⟩) | (go_at_call 31; (with_reducible refine (C3.out _ (HGW.out _ ?_) ?_).mono ?_); (simp [*]); (simp [*]); rintro e w7 ⟨rfl, c0, c1, c2, c3, c4, c5, hG⟩) | (go_at_call 32; (with_reducible refine (C4.out _ (HGW.out _ ?_) ?_).mono ?_); (simp [*]); (simp [*]); rintro e w8 ⟨rfl, c0, c1, c2, c3, c4, c5, hG⟩))
  all_goals
    go_wp2_with fail
    go_ret
    exact ⟨rfl, by assumption⟩

/-- A message that came in is one as may come in. -/
theorem came_v {w : World} {v : Value} {M : Msg} {Aq Aa An Ax : Option Addr} {cq ca cn cx : Nat} {Za Zn Zx : List RecZ} (h : CameMsg w v M Aq Aa An Ax cq ca cn cx Za Zn Zx) : MsgV w w.heap.size M Aq Aa An Ax M.qs.length M.an.length M.ns.length M.ad.length ca cn cx Za Zn Zx ∧ BigM M :=
  ⟨⟨h.at_, rfl, rfl, rfl, rfl, h.nils.1, h.nils.2.1, h.nils.2.2⟩, ⟨h.id, h.flags, h.lens.1, h.lens.2.1, h.lens.2.2.1, h.lens.2.2.2, h.qs, h.recs⟩⟩

set_option maxRecDepth 100000 in
theorem lifted (os : Os) (started : os.Started) (H : Type) (enc : TypeId × Value → H) :
    ReturnsInHanded {} Try.checked os 7 .any (Rows.queryHoldsSpec.pre6 enc Try.prog Try.f7 Rows.queryHoldsRow.domain false) (Rows.queryHoldsSpec.post enc Try.prog Try.f7 false true false false) := by
  refine returnsInHanded_of_change (C := Try.checked) own started (by kernel_rfl) Try.func7
    (ChangeSpec.witness6 (enc := enc) (C := Try.checked) false ⟨#[], #[.agg #[.int .u16 0, .int .u16 0, .slice none 0 0, .slice none 0 0, .slice none 0 0, .slice none 0 0]], []⟩ 8 (by kernel_rfl) (by kernel_rfl) (by kernel_rfl) (by kernel_rfl)) ?_
  intro W base args ds gs before hval0 hW hcnd _
  have hval : ∀ (j : Nat) t v, Try.f7.params[j]? = some t → args[j]? = some v → Value.okWide Try.prog W .any base t v := hval0
  have hW' := hW
  obtain ⟨p, q, hA0, hV, rfl, hfz, hnd⟩ := hW
  have hA : DataW.TrodAll enc Try.prog W 0 (fun _ => true) true Try.f7.params.toList args.toList ds p := hA0
  rw [Try.params7] at hA hval
  obtain ⟨v0, vs0, d0, ds0, p0, q0, hargs, rfl, rfl, h0, r0⟩ := trodAll_cons hA
  obtain ⟨rfl, rfl, rfl⟩ := trodAll_nil r0
  obtain rfl : args = #[v0] := by cases args; simp_all
  obtain ⟨rfl, rfl⟩ := trodVars_none hV
  have k00 := h0
  have lt0 : ∀ x ∈ p0, x.block < W.heap.size := by obtain ⟨m, hm⟩ := k00; exact DataW.trod_lt m _ _ _ hm
  obtain ⟨M, Aq, Aa, An, Ax, cq, ca, cn, cx, Za, Zn, Zx, hc0⟩ := came_msg (hval 0 26 v0 rfl rfl) h0
  obtain ⟨hmv, hbg⟩ := came_v hc0
  obtain rfl := hc0.val
  clear hA0 hval0
  refine (walk M Aq Aa An Ax _ _ _ _ cq ca cn cx Za Zn Zx W hmv hbg).mono fun e W' ⟨he, bel⟩ => ?_
  subst he
  exact ⟨_, rfl, _, _, _, [], _, [], hW', trodAll_mk1 (shut_bool Try.underlying4 _), (trodAll_cons_mk (Below.trod laidOut (by kernel_rfl) (of_decide_eq_true (by kernel_rfl)) k00 bel lt0) trodAll_mk0), rfl, bel.frame _, fun h => by cases h⟩

theorem over : Rows.queryHoldsRow.holds Try.pinned (OpenSpec.ofChange Rows.queryHoldsSpec) :=
  OpenClaim.holds_of_wide 7 Try.f7 rfl rfl rfl rfl rfl rfl rfl ⟨rfl, rfl, rfl, rfl, rfl⟩ rfl rfl rfl rfl rfl (by kernel_rfl) Try.func7 (by kernel_rfl)
    (of_decide_eq_true (by kernel_rfl)) (by unfold Func.isWrapper; first | (rw [if_pos (by decide +kernel)]; kernel_rfl) | (rw [if_neg (by decide +kernel)]; exact ⟨rfl, rfl⟩))
    (fun os started H enc _ => lifted os started H enc)

theorem proved : Rows.QueryHoldsSaid := over
#print axioms proved
end Go.Proofs.Ytpmmjmnleoicjaa.queryHolds
