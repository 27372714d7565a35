/- Proves WriteBytes: any message has just the document's bytes, or is refused with its error; it stays as it was. No condition. -/
import Derived.Test.YtpmmjmnleoicjaaRows
import Derived.Test.YtpmmjmnleoicjaaWriteBytesProofG2
import Derived.Test.YtpmmjmnleoicjaaWriteBytesProofG9
import Derived.Test.YtpmmjmnleoicjaaWriteBytesProofG7
import Derived.Test.YtpmmjmnleoicjaaWriteBytesProofG3
import Derived.Test.YtpmmjmnleoicjaaWriteBytesProofG10
import Derived.WalkKit
import Derived.ProofKit
import Derived.OpenShut
import Derived.ShutString
import Derived.ChangeOld
import Derived.Below
import Derived.SizedLaws
import Derived.Lib.Hide
import Derived.Laws.Rows
import Derived.Outline
import Derived.IntWalk
import Derived.WalkSpells
import Derived.WalkLawsBesides
import Derived.Deep.RegionHeld3
import Derived.Deep.Draws
import Derived.Deep.Heap
import Derived.Deep.Cut
import Derived.Deep.CutBlock
import Derived.Deep.CutRange
namespace Go.Proofs.Ytpmmjmnleoicjaa.writeBytes
open Go.ChangeShapes Go.WideShapes Go.ChangeAt Go.RowKit
open Bytes Strs Nums MsgMath NameMath RecMath WrMath QrMath WrRound
set_option linter.unusedVariables false
set_option linter.unusedSimpArgs false

theorem own : ownKnob Try.prog.godebug = none := by kernel_rfl
theorem laidOut : laidOutB Try.prog = true := by kernel_rfl
theorem small_q {M : Msg} (h : QM M) : SmallM M := ⟨h.few.nq, h.few.na, h.few.nn, h.few.nx, fun R hR => (h.recs R hR).1⟩
theorem held12 {f : FuncId} {args : Array Value} {ret : Value} {g : Nat} {w0 : World} (a0 a1 a2 a3 a4 a5 a6 a7 a8 a9 a10 a11 : Addr) (v0 v1 v2 v3 v4 v5 v6 v7 v8 v9 v10 v11 : Value) (C : ∀ W, Below g w0 W → g ≤ W.heap.size → Calls Try.prog f args W fun e w' => e = .returned ret ∧ Below W.heap.size W w') (w : World) (hg : g ≤ w.heap.size) (hc : w.cell? a0 = some v0 ∧ w.cell? a1 = some v1 ∧ w.cell? a2 = some v2 ∧ w.cell? a3 = some v3 ∧ w.cell? a4 = some v4 ∧ w.cell? a5 = some v5 ∧ w.cell? a6 = some v6 ∧ w.cell? a7 = some v7 ∧ w.cell? a8 = some v8 ∧ w.cell? a9 = some v9 ∧ w.cell? a10 = some v10 ∧ w.cell? a11 = some v11 ∧ Below g w0 w) :
    Calls Try.prog f args w fun e w' => e = .returned ret ∧ w'.cell? a0 = some v0 ∧ w'.cell? a1 = some v1 ∧ w'.cell? a2 = some v2 ∧ w'.cell? a3 = some v3 ∧ w'.cell? a4 = some v4 ∧ w'.cell? a5 = some v5 ∧ w'.cell? a6 = some v6 ∧ w'.cell? a7 = some v7 ∧ w'.cell? a8 = some v8 ∧ w'.cell? a9 = some v9 ∧ w'.cell? a10 = some v10 ∧ w'.cell? a11 = some v11 ∧ Below g w0 w' := by
  obtain ⟨h0, h1, h2, h3, h4, h5, h6, h7, h8, h9, h10, h11, hH⟩ := hc
  refine (C w hH hg).mono ?_
  rintro e w' ⟨rfl, hB⟩
  have far : ∀ {a : Addr} {v : Value}, w.cell? a = some v → w'.cell? a = some v := fun h => (hB.cell (World.block_lt_of_cell? w _ h)).trans h
  exact ⟨rfl, far h0, far h1, far h2, far h3, far h4, far h5, far h6, far h7, far h8, far h9, far h10, far h11, hH.trans (hB.mono hg)⟩
set_option maxHeartbeats 16000000 in
set_option maxRecDepth 100000 in
theorem walk (M : Msg) (Aq Aa An Ax : Option Addr) (nq na nn nx cq ca cn cx : Nat) (Za Zn Zx : List RecZ) (w : World) (hv : Hid (MsgV w w.heap.size M Aq Aa An Ax nq na nn nx ca cn cx Za Zn Zx)) (hbig : Hid (BigM M)) (HZ : Hid (ZNil Za ∧ ZNil Zn ∧ ZNil Zx)) :
    Calls Try.prog 3 #[.agg (msgA M.id M.flags Aq nq cq Aa na ca An nn cn Ax nx cx)] w fun e w' => e = .returned (.bool true) ∧ Below w.heap.size w w' := by
  obtain ⟨id, hid⟩ : ∃ n, M.id = n := ⟨_, rfl⟩
  obtain ⟨fl, hfl⟩ : ∃ n, M.flags = n := ⟨_, rfl⟩
  obtain ⟨g, hg⟩ : ∃ g, w.heap.size = g := ⟨_, rfl⟩
  obtain ⟨wa, hwa⟩ : ∃ wa, w.alloc (.cells (msgA id fl Aq nq cq Aa na ca An nn cn Ax nx cx) 26) = wa := ⟨_, rfl⟩
  have HBA : Hid (Below g w wa) := by rw [← hwa, ← hg]; exact (Below.refl _ _).alloc (Nat.le_refl _) _
  have HBX : Hid (wa.heap[g]? = some (.cells (msgA id fl Aq nq cq Aa na ca An nn cn Ax nx cx) 26 (0, 0))) := by rw [← hwa, ← hg]; exact heap_alloc_new w _
  have HSA : Hid (wa.heap.size = g + 1) := by show _ = _; rw [← hwa, ← hg]; simp
  have hv0 := hv.out
  rw [hg] at hv0
  have HV := Lib.hid hv0
  have HID := Lib.hid hid
  have HFL := Lib.hid hfl
  rw [hid, hfl, hg]
  clear hid hfl hv0 hv
  go_enter Try.func3, Try.ntmps3
  go_wp2_with fail
  refine (awakeW_any _).mono ?_
  rintro e w1 ⟨rfl, hB1⟩
  have HB1 : Hid (Below (g + 1) wa w1) := by have := hB1; rw [HSA.out] at this; exact this
  have hx1 := (HB1.out.block g (Nat.lt_succ_self g)).trans HBX.out
  have HW1 : Hid (Below g w w1) := HBA.out.trans (HB1.out.mono (Nat.le_succ _))
  have HS1 : Hid (g + 1 ≤ w1.heap.size) := by have := HB1.out.size; rw [HSA.out] at this; exact this
  have HFW := Lib.hid (fewM_any M Aq Aa An Ax nq na nn nx cq ca cn cx g Za Zn Zx w1 (HV.out.on HW1.out (Nat.le_refl _)) (by have := HS1.out; omega) hbig)
  rw [HID.out, HFL.out] at HFW
  have k0 := cell_of_row _ _ 0 _ _ _ hx1
  have k1 := cell_of_row _ _ 1 _ _ _ hx1
  have k2 := cell_of_row _ _ 2 _ _ _ hx1
  have k3 := cell_of_row _ _ 3 _ _ _ hx1
  have k4 := cell_of_row _ _ 4 _ _ _ hx1
  have k5 := cell_of_row _ _ 5 _ _ _ hx1
  clear hB1 hx1 hwa hg
  go_wp2_with fail
  refine HFW.out.mono ?_
  rintro e w2 ⟨bb, rfl, hbq, hB2⟩
  have HB2 : Hid (Below (g + 1) wa w2) := HB1.out.trans (hB2.mono HS1.out)
  have HW2 : Hid (Below g w w2) := HBA.out.trans (HB2.out.mono (Nat.le_succ _))
  have HS2 : Hid (g + 1 ≤ w2.heap.size) := by have := HB2.out.size; rw [HSA.out] at this; exact this
  have hx2 := (HB2.out.block g (Nat.lt_succ_self g)).trans HBX.out
  have HBB := Lib.hid hbq
  clear hB2 hbq k0 k1 k2 k3 k4 k5 HFW
  cases bb with
  | false =>
    go_wp2_with fail
    go_ret
    exact ⟨rfl, HW2.out⟩
  | true =>
  have k0 := cell_of_row _ _ 0 _ _ _ hx2
  have k1 := cell_of_row _ _ 1 _ _ _ hx2
  have k2 := cell_of_row _ _ 2 _ _ _ hx2
  have k3 := cell_of_row _ _ 3 _ _ _ hx2
  have k4 := cell_of_row _ _ 4 _ _ _ hx2
  have k5 := cell_of_row _ _ 5 _ _ _ hx2
  have HQM := Lib.hid (HBB.out rfl).2.2
  have HCP := Lib.hid (copiedM_w M Aq Aa An Ax nq na nn nx cq ca cn cx g Za Zn Zx w2 (HV.out.on HW2.out (Nat.le_refl g)) (by have := HS2.out; omega) HQM HZ)
  rw [HID.out, HFL.out] at HCP
  clear hx2 HBB
  go_wp2_with fail
  refine HCP.out.mono ?_
  rintro e w3 ⟨vq, va, vn, vx, he, hrows, n3⟩
  obtain ⟨Dq, Da, Dn, Dx, dq, da, dn, dx, Ya, Yn, Yx, rfl, rfl, rfl, rfl, hmv⟩ := rows_v hrows
  rw [HV.out.eq, HV.out.ea, HV.out.en, HV.out.ex] at hmv he
  rw [HID.out, HFL.out] at he
  subst he
  have K3 : Hid (Below (g + 1) wa w3) := HB2.out.trans (n3.mono HS2.out)
  have s3 : g + 1 ≤ w3.heap.size := by have := K3.out.size; rw [HSA.out] at this; exact this
  obtain ⟨b1, hb1⟩ : ∃ b, w3.heap.size = b := ⟨_, rfl⟩
  obtain ⟨w4, hw4⟩ : ∃ v, w3.alloc (.cells #[.int .u16 id, .int .u16 fl, .slice Dq nq dq, .slice Da na da, .slice Dn nn dn, .slice Dx nx dx] 26) = v := ⟨_, rfl⟩
  have n4 : Below b1 w3 w4 := by rw [← hw4, ← hb1]; exact (Below.refl _ _).alloc (Nat.le_refl _) _
  have HT4 : Hid (w4.heap[b1]? = some (.cells #[.int .u16 id, .int .u16 fl, .slice Dq nq dq, .slice Da na da, .slice Dn nn dn, .slice Dx nx dx] 26 (0, 0))) := by rw [← hw4, ← hb1]; exact heap_alloc_new w3 _
  have S4 : Hid (w4.heap.size = b1 + 1) := by show _ = _; rw [← hw4, ← hb1]; simp
  rw [hb1] at hmv s3
  have HTV : Hid (MsgV w4 b1 M Dq Da Dn Dx nq na nn nx da dn dx Ya Yn Yx) := hmv.on n4 (Nat.le_refl _)
  have KT : Hid (Below (g + 1) wa w4) := K3.out.trans (n4.mono s3)
  have HGB : Hid (g + 1 ≤ b1) := s3
  have HW4 := Lib.hid hw4
  clear HCP hrows n3 hmv n4 hw4 s3 k0 k1 k2 k3 k4 k5
  go_upto_region 6 with fail
  rw [HW4.out]
  clear hb1
  have m0 := cell_of_row _ _ 0 _ _ _ HT4.out
  have m1 := cell_of_row _ _ 1 _ _ _ HT4.out
  have m2 := cell_of_row _ _ 2 _ _ _ HT4.out
  have m3 := cell_of_row _ _ 3 _ _ _ HT4.out
  have m4 := cell_of_row _ _ 4 _ _ _ HT4.out
  have m5 := cell_of_row _ _ 5 _ _ _ HT4.out
  obtain ⟨P, hP⟩ : ∃ P, writeM M = P := ⟨_, rfl⟩
  obtain ⟨ol, code⟩ := P
  obtain ⟨out, hout⟩ : ∃ s, mk ol = s := ⟨_, rfl⟩
  have hol : ol = out.data.toList := by rw [← hout, mk_list]
  rw [hol] at hP
  have HP := Lib.hid hP
  have HWR := Lib.hid (write_w M Dq Da Dn Dx nq na nn nx dq da dn dx b1 code out Ya Yn Yx w4 HTV (by rw [S4.out]; omega) HQM.out.few hP)
  rw [HID.out, HFL.out] at HWR
  clear hP hol hout
  go_wp2_with fail
  refine HWR.out.mono ?_
  rintro e w5 ⟨rfl, hB5⟩
  have N5 : Hid (Below (b1 + 1) w4 w5) := by have h := hB5; rw [S4.out] at h; exact h
  have S5 : Hid (b1 + 1 ≤ w5.heap.size) := by have h := N5.out.size; rw [S4.out] at h; exact h
  have K5 : Hid (Below (g + 1) wa w5) := KT.out.trans (N5.out.mono (by have := HGB.out; omega))
  have hx5 := (K5.out.block g (by have := HSA.out; omega)).trans HBX.out
  clear hB5 HWR m0 m1 m2 m3 m4 m5
  have k0 := cell_of_row _ _ 0 _ _ _ hx5
  have k1 := cell_of_row _ _ 1 _ _ _ hx5
  have k2 := cell_of_row _ _ 2 _ _ _ hx5
  have k3 := cell_of_row _ _ 3 _ _ _ hx5
  have k4 := cell_of_row _ _ 4 _ _ _ hx5
  have k5 := cell_of_row _ _ 5 _ _ _ hx5
  have HWF := Lib.hid (refWrite_w M Aq Aa An Ax nq na nn nx cq ca cn cx g Za Zn Zx w5 (HV.out.on (HBA.out.trans (K5.out.mono (Nat.le_succ g))) (Nat.le_refl g)) (by have := S5.out; have := HGB.out; omega) HQM.out.few)
  rw [HID.out, HFL.out] at HWF
  clear hx5
  go_wp2_with fail
  refine HWF.out.mono ?_
  rintro e w6 ⟨o2, c2, rfl, ho2, hB6⟩
  have hP2 := HP.out
  rw [ho2] at hP2
  injection hP2 with hP3 hP4
  obtain rfl : o2 = out := list_inj hP3
  obtain rfl : c2 = code := hP4
  have N6 : Hid (Below (b1 + 1) w4 w6) := N5.out.trans (hB6.mono S5.out)
  have S6 : Hid (b1 + 1 ≤ w6.heap.size) := by have h := N6.out.size; rw [S4.out] at h; exact h
  have K6 : Hid (Below (g + 1) wa w6) := KT.out.trans (N6.out.mono (by have := HGB.out; omega))
  have hx6 := (K6.out.block g (by have := HSA.out; omega)).trans HBX.out
  have hy6 := (N6.out.block b1 (by have := S4.out; omega)).trans HT4.out
  clear hB6 ho2 HWF hP3 k0 k1 k2 k3 k4 k5
  have k0 := cell_of_row _ _ 0 _ _ _ hx6
  have k1 := cell_of_row _ _ 1 _ _ _ hx6
  have k2 := cell_of_row _ _ 2 _ _ _ hx6
  have k3 := cell_of_row _ _ 3 _ _ _ hx6
  have k4 := cell_of_row _ _ 4 _ _ _ hx6
  have k5 := cell_of_row _ _ 5 _ _ _ hx6
  have m0 := cell_of_row _ _ 0 _ _ _ hy6
  have m1 := cell_of_row _ _ 1 _ _ _ hy6
  have m2 := cell_of_row _ _ 2 _ _ _ hy6
  have m3 := cell_of_row _ _ 3 _ _ _ hy6
  have m4 := cell_of_row _ _ 4 _ _ _ hy6
  have m5 := cell_of_row _ _ 5 _ _ _ hy6
  have HB6 : Hid (∀ W, Below (b1 + 1) w4 W → Below g w W) := fun W h => HBA.out.trans ((KT.out.trans (h.mono (by have := HGB.out; omega))).mono (by omega))
  obtain ⟨E, hE⟩ : ∃ E, checkM M = E := ⟨_, rfl⟩
  have M1 := fun W (h : Below (b1 + 1) w4 W) (hs : b1 + 1 ≤ W.heap.size) => check_w M id fl Aq Aa An Ax nq na nn nx cq ca cn cx g E Za Zn Zx W (HV.out.on (HB6.out W h) (Nat.le_refl g)) (by have := HGB.out; omega) HQM.out.few hE
  have M2 := fun W (h : Below (b1 + 1) w4 W) (hs : b1 + 1 ≤ W.heap.size) => refCheckM_w M id fl Aq Aa An Ax nq na nn nx cq ca cn cx g E Za Zn Zx W (HV.out.on (HB6.out W h) (Nat.le_refl g)) (by have := HGB.out; omega) HQM.out.few hE
  have M3 := fun W (h : Below (b1 + 1) w4 W) (hs : b1 + 1 ≤ W.heap.size) => same_any M M Dq Da Dn Dx Aq Aa An Ax dq da dn dx cq ca cn cx nq na nn nx nq na nn nx Ya Za Yn Zn Yx Zx true W (HTV.out.on (h.mono (Nat.le_succ b1)) (by omega)) (HV.out.on (HB6.out W h) (by have := HGB.out; omega)) (small_q HQM.out) (small_q HQM.out) ⟨fun _ => rfl, fun _ => rfl⟩
  rw [HID.out, HFL.out] at M3
  have C1 := Lib.hid (fun W hs h => held12 ⟨g, 0, none⟩ ⟨g, 1, none⟩ ⟨g, 2, none⟩ ⟨g, 3, none⟩ ⟨g, 4, none⟩ ⟨g, 5, none⟩ ⟨b1, 0, none⟩ ⟨b1, 1, none⟩ ⟨b1, 2, none⟩ ⟨b1, 3, none⟩ ⟨b1, 4, none⟩ ⟨b1, 5, none⟩ (.int .u16 id) (.int .u16 fl) (.slice Aq nq cq) (.slice Aa na ca) (.slice An nn cn) (.slice Ax nx cx) (.int .u16 id) (.int .u16 fl) (.slice Dq nq dq) (.slice Da na da) (.slice Dn nn dn) (.slice Dx nx dx) M1 W hs h)
  have C2 := Lib.hid (fun W hs h => held12 ⟨g, 0, none⟩ ⟨g, 1, none⟩ ⟨g, 2, none⟩ ⟨g, 3, none⟩ ⟨g, 4, none⟩ ⟨g, 5, none⟩ ⟨b1, 0, none⟩ ⟨b1, 1, none⟩ ⟨b1, 2, none⟩ ⟨b1, 3, none⟩ ⟨b1, 4, none⟩ ⟨b1, 5, none⟩ (.int .u16 id) (.int .u16 fl) (.slice Aq nq cq) (.slice Aa na ca) (.slice An nn cn) (.slice Ax nx cx) (.int .u16 id) (.int .u16 fl) (.slice Dq nq dq) (.slice Da na da) (.slice Dn nn dn) (.slice Dx nx dx) M2 W hs h)
  have C3 := Lib.hid (fun W hs h => held12 ⟨g, 0, none⟩ ⟨g, 1, none⟩ ⟨g, 2, none⟩ ⟨g, 3, none⟩ ⟨g, 4, none⟩ ⟨g, 5, none⟩ ⟨b1, 0, none⟩ ⟨b1, 1, none⟩ ⟨b1, 2, none⟩ ⟨b1, 3, none⟩ ⟨b1, 4, none⟩ ⟨b1, 5, none⟩ (.int .u16 id) (.int .u16 fl) (.slice Aq nq cq) (.slice Aa na ca) (.slice An nn cn) (.slice Ax nx cx) (.int .u16 id) (.int .u16 fl) (.slice Dq nq dq) (.slice Da na da) (.slice Dn nn dn) (.slice Dx nx dx) M3 W hs h)
  have HGR : Hid (∀ W : World, W.cell? ⟨b1, 0, none⟩ = some (.int .u16 id) → b1 + 1 ≤ W.heap.size) := fun W h => by have h2 : b1 < W.heap.size := World.block_lt_of_cell? W _ h; omega
  have h0 : Below (b1 + 1) w4 w6.drew := N6.out.drew
  have fq0 : (o2.toList == o2.toList) = true := beq_self_eq_true _
  have fq1 : ((c2 : Int) == (c2 : Int)) = true := beq_self_eq_true _
  have fq2 : ((E : Int) == (E : Int)) = true := beq_self_eq_true _
  clear hx6 hy6 hE M1 M2 M3
  go_upto_region 8 with fail
  go_region_held3 (fun w' => w'.cell? ⟨g, 0, none⟩ = some (.int .u16 id) ∧ w'.cell? ⟨g, 1, none⟩ = some (.int .u16 fl) ∧ w'.cell? ⟨g, 2, none⟩ = some (.slice Aq nq cq) ∧ w'.cell? ⟨g, 3, none⟩ = some (.slice Aa na ca) ∧ w'.cell? ⟨g, 4, none⟩ = some (.slice An nn cn) ∧ w'.cell? ⟨g, 5, none⟩ = some (.slice Ax nx cx) ∧ w'.cell? ⟨b1, 0, none⟩ = some (.int .u16 id) ∧ w'.cell? ⟨b1, 1, none⟩ = some (.int .u16 fl) ∧ w'.cell? ⟨b1, 2, none⟩ = some (.slice Dq nq dq) ∧ w'.cell? ⟨b1, 3, none⟩ = some (.slice Da na da) ∧ w'.cell? ⟨b1, 4, none⟩ = some (.slice Dn nn dn) ∧ w'.cell? ⟨b1, 5, none⟩ = some (.slice Dx nx dx) ∧ Below (b1 + 1) w4 w') (first | assumption | go_keep) (first | (go_at_call 17; (with_reducible refine (C1.out _ (HGR.out _ ?_) ?_).mono ?_); (simp [*]); (first | assumption | (simp [*])); rintro e w7 ⟨rfl, c0, c1, c2, c3, c4, c5, c6, c7, c8, c9, c10, c11, hG7⟩) | (go_at_call 18; (with_reducible refine (C2.out _ (HGR.out _ ?_) ?_).mono ?_); (simp [*]); (first | assumption | (simp [*])); rintro e w8 ⟨rfl, c0, c1, c2, c3, c4, c5, c6, c7, c8, c9, c10, c11, hG8⟩) | (go_at_call 19; (with_reducible refine (C3.out _ (HGR.out _ ?_) ?_).mono ?_); (simp [*]); (first | assumption | (simp [*])); rintro e w9 ⟨rfl, c0, c1, c2, c3, c4, c5, c6, c7, c8, c9, c10, c11, hG9⟩))
  all_goals
    go_wp2_with fail
    go_ret
    exact ⟨rfl, HB6.out _ (by assumption)⟩

/-- A message that came in is one as may come in. -/
theorem came_v {w : World} {v : Value} {M : Msg} {Aq Aa An Ax : Option Addr} {cq ca cn cx : Nat} {Za Zn Zx : List RecZ} (h : CameMsg w v M Aq Aa An Ax cq ca cn cx Za Zn Zx) : MsgV w w.heap.size M Aq Aa An Ax M.qs.length M.an.length M.ns.length M.ad.length ca cn cx Za Zn Zx ∧ BigM M :=
  ⟨⟨h.at_, rfl, rfl, rfl, rfl, h.nils.1, h.nils.2.1, h.nils.2.2⟩, ⟨h.id, h.flags, h.lens.1, h.lens.2.1, h.lens.2.2.1, h.lens.2.2.2, h.qs, h.recs⟩⟩

set_option maxRecDepth 100000 in
theorem lifted (os : Os) (started : os.Started) (H : Type) (enc : TypeId × Value → H) :
    ReturnsInHanded {} Try.checked os 3 .any (Rows.writeBytesSpec.pre6 enc Try.prog Try.f3 Rows.writeBytesRow.domain false) (Rows.writeBytesSpec.post enc Try.prog Try.f3 false true false false) := by
  refine returnsInHanded_of_change_sized (C := Try.checked) own started (by kernel_rfl) Try.func3
    (ChangeSpec.witness6 (enc := enc) (C := Try.checked) false ⟨#[], #[.agg #[.int .u16 0, .int .u16 0, .slice none 0 0, .slice none 0 0, .slice none 0 0, .slice none 0 0]], []⟩ 8 (by kernel_rfl) (by kernel_rfl) (by kernel_rfl) (by kernel_rfl)) ?_
  intro W base args ds gs before hval0 hW hcnd hsz0 _
  have hval : ∀ (j : Nat) t v, Try.f3.params[j]? = some t → args[j]? = some v → Value.okWide Try.prog W .any base t v := hval0
  have hW' := hW
  obtain ⟨p, q, hA0, hV, rfl, hfz, hnd⟩ := hW
  have hA : DataW.TrodAll enc Try.prog W 0 (fun _ => true) true Try.f3.params.toList args.toList ds p := hA0
  rw [Try.params3] at hA hval
  obtain ⟨v0, vs0, d0, ds0, p0, q0, hargs, rfl, rfl, h0, r0⟩ := trodAll_cons hA
  obtain ⟨rfl, rfl, rfl⟩ := trodAll_nil r0
  obtain rfl : args = #[v0] := by cases args; simp_all
  obtain ⟨rfl, rfl⟩ := trodVars_none hV
  have hsz : (DataW.weightsEach Try.prog (Try.f3.params.toList ++ Rows.writeBytesSpec.plain.varTypes Try.prog) ([d0] ++ [])).all (· ≤ reachBytes) = true := hsz0
  have k00 := h0
  have lt0 : ∀ x ∈ p0, x.block < W.heap.size := by obtain ⟨m, hm⟩ := k00; exact DataW.trod_lt m _ _ _ hm
  obtain ⟨M0, Aq0, Aa0, An0, Ax0, cq0, ca0, cn0, cx0, Za0, Zn0, Zx0, hc0⟩ := came_msg (hval 0 26 v0 rfl rfl) h0
  obtain ⟨hmv0, hbg0⟩ := came_v hc0
  obtain rfl := hc0.val
  have hsd0 := came_sized h0 hmv0.at_ hmv0.eq (r := reachBytes) (fun n hn => by have h := List.all_eq_true.1 hsz n (DataW.weights_mem_each (j := 0) (t := 26) (d := d0) (by rw [Try.params3]; rfl) rfl n hn); simpa using h)
  have hzn0 := came_znil h0 hmv0.at_ hmv0.rows.1.2.1 hmv0.rows.2.1.2.1 hmv0.rows.2.2.2.1
  clear hA0 hval0
  refine (walk M0 Aq0 Aa0 An0 Ax0 _ _ _ _ cq0 ca0 cn0 cx0 Za0 Zn0 Zx0 W hmv0 hbg0 hzn0).mono fun e W' ⟨he, bel⟩ => ?_
  subst he
  exact ⟨_, rfl, _, _, _, [], _, [], hW', trodAll_mk1 (shut_bool Try.underlying4 _), (trodAll_cons_mk (Below.trod laidOut (by kernel_rfl) (of_decide_eq_true (by kernel_rfl)) k00 bel lt0) trodAll_mk0), rfl, bel.frame _, fun h => by cases h⟩

theorem over : Rows.writeBytesRow.holds Try.pinned (OpenSpec.ofChange Rows.writeBytesSpec) :=
  OpenClaim.holds_of_wide 3 Try.f3 rfl rfl rfl rfl rfl rfl rfl ⟨rfl, rfl, rfl, rfl, rfl⟩ rfl rfl rfl rfl rfl (by kernel_rfl) Try.func3 (by kernel_rfl)
    (of_decide_eq_true (by kernel_rfl)) (by unfold Func.isWrapper; first | (rw [if_pos (by decide +kernel)]; kernel_rfl) | (rw [if_neg (by decide +kernel)]; exact ⟨rfl, rfl⟩))
    (fun os started H enc _ => lifted os started H enc)

theorem proved : Rows.WriteBytesSaid := over
#print axioms proved
end Go.Proofs.Ytpmmjmnleoicjaa.writeBytes
