/- Proves QueryTime: what was aged twice was aged by the sum; how long an answer that isn't negative holds falls by just what went by, to 0 at least; of a negative one it never rises. No condition. -/
import Derived.Test.YtpmmjmnleoicjaaRows
import Derived.Test.YtpmmjmnleoicjaaQueryTimeProofX
import Derived.Test.YtpmmjmnleoicjaaQueryFailsProofG2
import Derived.Test.YtpmmjmnleoicjaaQueryFailsProofG5
import Derived.Test.YtpmmjmnleoicjaaNumMath
import Derived.WalkKit
import Derived.ProofKit
import Derived.OpenShut
import Derived.ShutString
import Derived.ChangeOld
import Derived.Below
import Derived.SizedLaws
import Derived.Lib.Hide
import Derived.Laws.Rows
import Derived.Outline
import Derived.IntWalk
import Derived.WalkSpells
import Derived.WalkLawsBesides
import Derived.Deep.RegionHeld3
import Derived.Deep.Draws
import Derived.Deep.Heap
namespace Go.Proofs.Ytpmmjmnleoicjaa.queryTime
open Go.ChangeShapes Go.WideShapes Go.ChangeAt Go.RowKit
open Bytes Strs Nums MsgMath NameMath RecMath WrMath QrMath QrRows QrTimes NumMath
set_option linter.unusedVariables false
set_option linter.unusedSimpArgs false

theorem own : ownKnob Try.prog.godebug = none := by kernel_rfl
theorem laidOut : laidOutB Try.prog = true := by kernel_rfl
theorem wf_w64 {z : Int} (h : (Lit.int .u64 z).wf = true) : ∃ k : Nat, z = (k : Int) ∧ k ≤ 18446744073709551615 := by
  have h' : 0 ≤ z ∧ z ≤ 18446744073709551615 := by
    have h2 : IntKind.u64.min ≤ z ∧ z ≤ IntKind.u64.max := by simpa [Lit.wf] using h
    exact h2
  exact ⟨z.toNat, by omega, by omega⟩
theorem wrap_t {t : Nat} (h : t ≤ 4294967295) : IntKind.u32.wrap (t : Int) = (t : Int) := by
  have e : IntKind.u32.wrap (t : Int) = (t : Int) % 4294967296 := by simp [IntKind.wrap, IntKind.bits, IntKind.signed]
  rw [e]; omega
theorem ret_int {k : IntKind} {a b : Int} (h : a = b) : Ending.returned (.int k a) = .returned (.int k b) := by rw [h]
set_option maxHeartbeats 400000 in
theorem refadd64_any (a b : Int) (w : World) (ha0 : 0 ≤ a) (ha : a ≤ 18446744073709551615) (hb0 : 0 ≤ b) (hb : b ≤ 18446744073709551615) :
    Calls Try.prog 41 #[.int .u64 a, .int .u64 b] w fun e w' => e = .returned (.int .u64 (sat64 (a + b))) ∧ w = w' := by
  by_cases h : 18446744073709551615 < a + b
  · have e := sat64_of_lt h
    have H := Lib.hid e; clear e
    go_enter Try.func41, Try.ntmps41
    go_wp2
    go_ret
    exact ⟨ret_int H.out.symm, rfl⟩
  · have e := sat64_of_le (show a + b ≤ _ by omega)
    have H := Lib.hid e; clear e
    go_enter Try.func41, Try.ntmps41
    go_wp2
    go_ret
    exact ⟨ret_int H.out.symm, rfl⟩
set_option maxHeartbeats 16000000 in
set_option maxRecDepth 100000 in
theorem walk (M : Msg) (Aq Aa An Ax : Option Addr) (nq na nn nx cq ca cn cx : Nat) (Za Zn Zx : List RecZ) (a b : Nat) (w : World) (hv : Hid (MsgV w w.heap.size M Aq Aa An Ax nq na nn nx ca cn cx Za Zn Zx)) (hbig : Hid (BigM M)) (HZ : Hid (ZNil Za ∧ ZNil Zn ∧ ZNil Zx)) (HNM : Hid (∀ q ∈ M.qs, q.name.length ≤ cloneMost)) (hab : a ≤ 18446744073709551615) (hbb : b ≤ 18446744073709551615) :
    Calls Try.prog 10 #[.agg (msgA M.id M.flags Aq nq cq Aa na ca An nn cn Ax nx cx), .int .u64 a, .int .u64 b] w fun e w' => e = .returned (.bool true) ∧ Below w.heap.size w w' := by
  obtain ⟨id, hid⟩ : ∃ n, M.id = n := ⟨_, rfl⟩
  obtain ⟨fl, hfl⟩ : ∃ n, M.flags = n := ⟨_, rfl⟩
  obtain ⟨g, hg⟩ : ∃ g, w.heap.size = g := ⟨_, rfl⟩
  obtain ⟨wa, hwa⟩ : ∃ wa, w.alloc (.cells (msgA id fl Aq nq cq Aa na ca An nn cn Ax nx cx) 26) = wa := ⟨_, rfl⟩
  have HBA : Hid (Below g w wa) := by rw [← hwa, ← hg]; exact (Below.refl _ _).alloc (Nat.le_refl _) _
  have HBX : Hid (wa.heap[g]? = some (.cells (msgA id fl Aq nq cq Aa na ca An nn cn Ax nx cx) 26 (0, 0))) := by rw [← hwa, ← hg]; exact heap_alloc_new w _
  have HSA : Hid (wa.heap.size = g + 1) := by show _ = _; rw [← hwa, ← hg]; simp
  have hv0 := hv.out
  rw [hg] at hv0
  have HV := Lib.hid hv0
  have HID := Lib.hid hid
  have HFL := Lib.hid hfl
  rw [hid, hfl, hg]
  clear hid hfl hv0 hv
  go_enter Try.func10, Try.ntmps10
  go_wp2_with fail
  refine (awake8_any _).mono ?_
  rintro e w1 ⟨rfl, hB1⟩
  have HB1 : Hid (Below (g + 1) wa w1) := by have := hB1; rw [HSA.out] at this; exact this
  have hx1 := (HB1.out.block g (Nat.lt_succ_self g)).trans HBX.out
  have HW1 : Hid (Below g w w1) := HBA.out.trans (HB1.out.mono (Nat.le_succ _))
  have HS1 : Hid (g + 1 ≤ w1.heap.size) := by have := HB1.out.size; rw [HSA.out] at this; exact this
  have HFW := Lib.hid (fewM_any M Aq Aa An Ax nq na nn nx cq ca cn cx g Za Zn Zx w1 (HV.out.on HW1.out (Nat.le_refl _)) (by have := HS1.out; omega) hbig)
  rw [HID.out, HFL.out] at HFW
  have k0 := cell_of_row _ _ 0 _ _ _ hx1
  have k1 := cell_of_row _ _ 1 _ _ _ hx1
  have k2 := cell_of_row _ _ 2 _ _ _ hx1
  have k3 := cell_of_row _ _ 3 _ _ _ hx1
  have k4 := cell_of_row _ _ 4 _ _ _ hx1
  have k5 := cell_of_row _ _ 5 _ _ _ hx1
  clear hB1 hx1 hwa hg
  go_wp2_with fail
  refine HFW.out.mono ?_
  rintro e w2 ⟨bb, rfl, hbq, hB2⟩
  have HB2 : Hid (Below (g + 1) wa w2) := HB1.out.trans (hB2.mono HS1.out)
  have HW2 : Hid (Below g w w2) := HBA.out.trans (HB2.out.mono (Nat.le_succ _))
  have HS2 : Hid (g + 1 ≤ w2.heap.size) := by have := HB2.out.size; rw [HSA.out] at this; exact this
  have hx2 := (HB2.out.block g (Nat.lt_succ_self g)).trans HBX.out
  have HBB := Lib.hid hbq
  clear hB2 hbq k0 k1 k2 k3 k4 k5 HFW
  cases bb with
  | false =>
    go_wp2_with fail
    go_ret
    exact ⟨rfl, HW2.out⟩
  | true =>
  have k0 := cell_of_row _ _ 0 _ _ _ hx2
  have k1 := cell_of_row _ _ 1 _ _ _ hx2
  have k2 := cell_of_row _ _ 2 _ _ _ hx2
  have k3 := cell_of_row _ _ 3 _ _ _ hx2
  have k4 := cell_of_row _ _ 4 _ _ _ hx2
  have k5 := cell_of_row _ _ 5 _ _ _ hx2
  have HQM := Lib.hid (HBB.out rfl).2.2
  have H1 := Lib.hid (age_held a M Aq Aa An Ax nq na nn nx cq ca cn cx g (g + 1) Za Zn Zx [(⟨g, 0, none⟩, (.int .u16 id)), (⟨g, 1, none⟩, (.int .u16 fl)), (⟨g, 2, none⟩, (.slice Aq nq cq)), (⟨g, 3, none⟩, (.slice Aa na ca)), (⟨g, 4, none⟩, (.slice An nn cn)), (⟨g, 5, none⟩, (.slice Ax nx cx))] wa w2 (HV.out.on HW2.out (Nat.le_refl g)) (by have := HS2.out; omega) HZ HQM hab HNM HS2.out (fun p hp => by simp only [List.mem_cons, List.not_mem_nil, or_false] at hp; rcases hp with rfl | rfl | rfl | rfl | rfl | rfl <;> assumption) HB2.out)
  rw [HID.out, HFL.out] at H1
  clear hx2 HBB
  go_wp2_with fail
  refine H1.out.mono ?_
  rintro e w3 ⟨Dq, Da, Dn, Dx, dq, da, dn, dx, Ya, Yn, Yx, he, hV, hZ, hcs, HB3⟩
  have he' : e = .returned (.agg #[.int .u16 id, .int .u16 fl, .slice Dq nq dq, .slice Da na da, .slice Dn nn dn, .slice Dx nx dx]) := by rw [← HID.out, ← HFL.out]; exact he
  subst he'
  have HS3 : Hid (g + 1 ≤ w3.heap.size) := by have := HB3.size; rw [HSA.out] at this; exact this
  have H2 := Lib.hid (age_held b (ageM a M) Dq Da Dn Dx nq na nn nx dq da dn dx w3.heap.size (g + 1) Ya Yn Yx [(⟨g, 0, none⟩, (.int .u16 id)), (⟨g, 1, none⟩, (.int .u16 fl)), (⟨g, 2, none⟩, (.slice Aq nq cq)), (⟨g, 3, none⟩, (.slice Aa na ca)), (⟨g, 4, none⟩, (.slice An nn cn)), (⟨g, 5, none⟩, (.slice Ax nx cx))] wa w3 hV (Nat.le_refl _) hZ (qm_age HQM.out) hbb HNM.out HS3.out hcs HB3)
  have hia : (ageM a M).id = id := HID.out
  have hfa : (ageM a M).flags = fl := HFL.out
  rw [hia, hfa] at H2
  clear H1 he hV hZ hcs k0 k1 k2 k3 k4 k5 hia hfa
  go_wp2_with fail
  refine H2.out.mono ?_
  rintro e w4 ⟨Cq, Ca, Cn, Cx, eq, ea, en, ex, Xa, Xn, Xx, he, hV, hZ, hcs, HB4⟩
  have he' : e = .returned (.agg #[.int .u16 id, .int .u16 fl, .slice Cq nq eq, .slice Ca na ea, .slice Cn nn en, .slice Cx nx ex]) := by have h : e = .returned (.agg (msgA M.id M.flags Cq nq eq Ca na ea Cn nn en Cx nx ex)) := he; rw [HID.out, HFL.out] at h; exact h
  subst he'
  have s4 : g + 1 ≤ w4.heap.size := by have := HB4.size; rw [HSA.out] at this; exact this
  obtain ⟨b1, hb1⟩ : ∃ b, w4.heap.size = b := ⟨_, rfl⟩
  obtain ⟨w5, hw5⟩ : ∃ v, w4.alloc (.cells #[.int .u16 id, .int .u16 fl, .slice Cq nq eq, .slice Ca na ea, .slice Cn nn en, .slice Cx nx ex] 26) = v := ⟨_, rfl⟩
  have n5 : Below b1 w4 w5 := by rw [← hw5, ← hb1]; exact (Below.refl _ _).alloc (Nat.le_refl _) _
  have HT5 : Hid (w5.heap[b1]? = some (.cells #[.int .u16 id, .int .u16 fl, .slice Cq nq eq, .slice Ca na ea, .slice Cn nn en, .slice Cx nx ex] 26 (0, 0))) := by rw [← hw5, ← hb1]; exact heap_alloc_new w4 _
  have S5 : Hid (w5.heap.size = b1 + 1) := by show _ = _; rw [← hw5, ← hb1]; simp
  have hV5 := hV.out
  rw [hb1] at hV5 s4
  have HTV : Hid (MsgV w5 b1 (ageM b (ageM a M)) Cq Ca Cn Cx nq na nn nx ea en ex Xa Xn Xx) := hV5.on n5 (Nat.le_refl _)
  have KT : Hid (Below (g + 1) wa w5) := HB4.trans (n5.mono s4)
  have HGB : Hid (g + 1 ≤ b1) := s4
  have HW5 := Lib.hid hw5
  clear H2 he hV hZ hcs hV5 n5 hw5 HB3 HB4 HS3 s4
  go_upto_region 6 with fail
  rw [HW5.out]
  clear hb1
  have hx5 := (KT.out.block g (by have := HSA.out; omega)).trans HBX.out
  have k0 := cell_of_row _ _ 0 _ _ _ hx5
  have k1 := cell_of_row _ _ 1 _ _ _ hx5
  have k2 := cell_of_row _ _ 2 _ _ _ hx5
  have k3 := cell_of_row _ _ 3 _ _ _ hx5
  have k4 := cell_of_row _ _ 4 _ _ _ hx5
  have k5 := cell_of_row _ _ 5 _ _ _ hx5
  have m0 := cell_of_row _ _ 0 _ _ _ HT5.out
  have m1 := cell_of_row _ _ 1 _ _ _ HT5.out
  have m2 := cell_of_row _ _ 2 _ _ _ HT5.out
  have m3 := cell_of_row _ _ 3 _ _ _ HT5.out
  have m4 := cell_of_row _ _ 4 _ _ _ HT5.out
  have m5 := cell_of_row _ _ 5 _ _ _ HT5.out
  obtain ⟨n, hn⟩ : ∃ n : Nat, sat64 ((a : Int) + (b : Int)) = (n : Int) := sat_nat a b
  have hnb : n ≤ 18446744073709551615 := by have h := sat_of hab hbb hn; omega
  have HTM : Hid (ageM b (ageM a M) = ageM n M) := age_twice (fun R hR => (HQM.out.recs R hR).2.2.2) (sat_of hab hbb hn)
  have HSM : Hid (SmallM M) := small_of HQM.out
  have CADD := Lib.hid (fun W => refadd64_any (a : Int) (b : Int) W (by omega) (by omega) (by omega) (by omega))
  rw [hn] at CADD
  have CN : Hid (∀ W : World, b1 + 1 ≤ W.heap.size → (W.cell? ⟨g, 0, none⟩ = some (.int .u16 id) ∧ W.cell? ⟨g, 1, none⟩ = some (.int .u16 fl) ∧ W.cell? ⟨g, 2, none⟩ = some (.slice Aq nq cq) ∧ W.cell? ⟨g, 3, none⟩ = some (.slice Aa na ca) ∧ W.cell? ⟨g, 4, none⟩ = some (.slice An nn cn) ∧ W.cell? ⟨g, 5, none⟩ = some (.slice Ax nx cx) ∧ W.cell? ⟨b1, 0, none⟩ = some (.int .u16 id) ∧ W.cell? ⟨b1, 1, none⟩ = some (.int .u16 fl) ∧ W.cell? ⟨b1, 2, none⟩ = some (.slice Cq nq eq) ∧ W.cell? ⟨b1, 3, none⟩ = some (.slice Ca na ea) ∧ W.cell? ⟨b1, 4, none⟩ = some (.slice Cn nn en) ∧ W.cell? ⟨b1, 5, none⟩ = some (.slice Cx nx ex) ∧ Below (b1 + 1) w5 W) → Calls Try.prog 33 #[.agg #[.int .u16 id, .int .u16 fl, .slice Aq nq cq, .slice Aa na ca, .slice An nn cn, .slice Ax nx cx], .int .u64 (n : Int)] W fun e w' => ∃ Dq Da Dn Dx dq da dn dx Ya Yn Yx, e = .returned (.agg #[.int .u16 id, .int .u16 fl, .slice Dq nq dq, .slice Da na da, .slice Dn nn dn, .slice Dx nx dx]) ∧ Hid (MsgV w' w'.heap.size (ageM n M) Dq Da Dn Dx nq na nn nx da dn dx Ya Yn Yx) ∧ Hid (ZNil Ya ∧ ZNil Yn ∧ ZNil Yx) ∧ w'.cell? ⟨g, 0, none⟩ = some (.int .u16 id) ∧ w'.cell? ⟨g, 1, none⟩ = some (.int .u16 fl) ∧ w'.cell? ⟨g, 2, none⟩ = some (.slice Aq nq cq) ∧ w'.cell? ⟨g, 3, none⟩ = some (.slice Aa na ca) ∧ w'.cell? ⟨g, 4, none⟩ = some (.slice An nn cn) ∧ w'.cell? ⟨g, 5, none⟩ = some (.slice Ax nx cx) ∧ w'.cell? ⟨b1, 0, none⟩ = some (.int .u16 id) ∧ w'.cell? ⟨b1, 1, none⟩ = some (.int .u16 fl) ∧ w'.cell? ⟨b1, 2, none⟩ = some (.slice Cq nq eq) ∧ w'.cell? ⟨b1, 3, none⟩ = some (.slice Ca na ea) ∧ w'.cell? ⟨b1, 4, none⟩ = some (.slice Cn nn en) ∧ w'.cell? ⟨b1, 5, none⟩ = some (.slice Cx nx ex) ∧ Below (b1 + 1) w5 w') := by
    intro W hW hc
    obtain ⟨z0, z1, z2, z3, z4, z5, z6, z7, z8, z9, z10, z11, hH⟩ := hc
    have hWg : Below (g + 1) wa W := KT.out.trans (hH.mono (by have := HGB.out; omega))
    have ha := age_held n M Aq Aa An Ax nq na nn nx cq ca cn cx g (b1 + 1) Za Zn Zx [(⟨g, 0, none⟩, (.int .u16 id)), (⟨g, 1, none⟩, (.int .u16 fl)), (⟨g, 2, none⟩, (.slice Aq nq cq)), (⟨g, 3, none⟩, (.slice Aa na ca)), (⟨g, 4, none⟩, (.slice An nn cn)), (⟨g, 5, none⟩, (.slice Ax nx cx)), (⟨b1, 0, none⟩, (.int .u16 id)), (⟨b1, 1, none⟩, (.int .u16 fl)), (⟨b1, 2, none⟩, (.slice Cq nq eq)), (⟨b1, 3, none⟩, (.slice Ca na ea)), (⟨b1, 4, none⟩, (.slice Cn nn en)), (⟨b1, 5, none⟩, (.slice Cx nx ex))] w5 W (HV.out.on (HBA.out.trans (hWg.mono (Nat.le_succ g))) (Nat.le_refl g)) (by have h := hWg.size; rw [HSA.out] at h; omega) HZ.out HQM.out hnb HNM.out hW (fun p hp => by simp only [List.mem_cons, List.not_mem_nil, or_false] at hp; rcases hp with rfl | rfl | rfl | rfl | rfl | rfl | rfl | rfl | rfl | rfl | rfl | rfl <;> assumption) hH
    rw [HID.out, HFL.out] at ha
    refine ha.mono ?_
    rintro e w' ⟨Dq, Da, Dn, Dx, dq, da, dn, dx, Ya, Yn, Yx, rfl, hV, hZ, hcs, hbl⟩
    exact ⟨Dq, Da, Dn, Dx, dq, da, dn, dx, Ya, Yn, Yx, by rw [HID.out, HFL.out], hV, hZ, hcs (⟨g, 0, none⟩, (.int .u16 id)) (by simp), hcs (⟨g, 1, none⟩, (.int .u16 fl)) (by simp), hcs (⟨g, 2, none⟩, (.slice Aq nq cq)) (by simp), hcs (⟨g, 3, none⟩, (.slice Aa na ca)) (by simp), hcs (⟨g, 4, none⟩, (.slice An nn cn)) (by simp), hcs (⟨g, 5, none⟩, (.slice Ax nx cx)) (by simp), hcs (⟨b1, 0, none⟩, (.int .u16 id)) (by simp), hcs (⟨b1, 1, none⟩, (.int .u16 fl)) (by simp), hcs (⟨b1, 2, none⟩, (.slice Cq nq eq)) (by simp), hcs (⟨b1, 3, none⟩, (.slice Ca na ea)) (by simp), hcs (⟨b1, 4, none⟩, (.slice Cn nn en)) (by simp), hcs (⟨b1, 5, none⟩, (.slice Cx nx ex)) (by simp), hbl⟩
  have CO : Hid (∀ W : World, b1 + 1 ≤ W.heap.size → (W.cell? ⟨g, 0, none⟩ = some (.int .u16 id) ∧ W.cell? ⟨g, 1, none⟩ = some (.int .u16 fl) ∧ W.cell? ⟨g, 2, none⟩ = some (.slice Aq nq cq) ∧ W.cell? ⟨g, 3, none⟩ = some (.slice Aa na ca) ∧ W.cell? ⟨g, 4, none⟩ = some (.slice An nn cn) ∧ W.cell? ⟨g, 5, none⟩ = some (.slice Ax nx cx) ∧ W.cell? ⟨b1, 0, none⟩ = some (.int .u16 id) ∧ W.cell? ⟨b1, 1, none⟩ = some (.int .u16 fl) ∧ W.cell? ⟨b1, 2, none⟩ = some (.slice Cq nq eq) ∧ W.cell? ⟨b1, 3, none⟩ = some (.slice Ca na ea) ∧ W.cell? ⟨b1, 4, none⟩ = some (.slice Cn nn en) ∧ W.cell? ⟨b1, 5, none⟩ = some (.slice Cx nx ex) ∧ Below (b1 + 1) w5 W) → Calls Try.prog 33 #[.agg #[.int .u16 id, .int .u16 fl, .slice Aq nq cq, .slice Aa na ca, .slice An nn cn, .slice Ax nx cx], .int .u64 0] W fun e w' => ∃ Dq Da Dn Dx dq da dn dx Ya Yn Yx, e = .returned (.agg #[.int .u16 id, .int .u16 fl, .slice Dq nq dq, .slice Da na da, .slice Dn nn dn, .slice Dx nx dx]) ∧ Hid (MsgV w' w'.heap.size (ageM 0 M) Dq Da Dn Dx nq na nn nx da dn dx Ya Yn Yx) ∧ Hid (ZNil Ya ∧ ZNil Yn ∧ ZNil Yx) ∧ w'.cell? ⟨g, 0, none⟩ = some (.int .u16 id) ∧ w'.cell? ⟨g, 1, none⟩ = some (.int .u16 fl) ∧ w'.cell? ⟨g, 2, none⟩ = some (.slice Aq nq cq) ∧ w'.cell? ⟨g, 3, none⟩ = some (.slice Aa na ca) ∧ w'.cell? ⟨g, 4, none⟩ = some (.slice An nn cn) ∧ w'.cell? ⟨g, 5, none⟩ = some (.slice Ax nx cx) ∧ w'.cell? ⟨b1, 0, none⟩ = some (.int .u16 id) ∧ w'.cell? ⟨b1, 1, none⟩ = some (.int .u16 fl) ∧ w'.cell? ⟨b1, 2, none⟩ = some (.slice Cq nq eq) ∧ w'.cell? ⟨b1, 3, none⟩ = some (.slice Ca na ea) ∧ w'.cell? ⟨b1, 4, none⟩ = some (.slice Cn nn en) ∧ w'.cell? ⟨b1, 5, none⟩ = some (.slice Cx nx ex) ∧ Below (b1 + 1) w5 w') := by
    intro W hW hc
    obtain ⟨z0, z1, z2, z3, z4, z5, z6, z7, z8, z9, z10, z11, hH⟩ := hc
    have hWg : Below (g + 1) wa W := KT.out.trans (hH.mono (by have := HGB.out; omega))
    have ha := age_held 0 M Aq Aa An Ax nq na nn nx cq ca cn cx g (b1 + 1) Za Zn Zx [(⟨g, 0, none⟩, (.int .u16 id)), (⟨g, 1, none⟩, (.int .u16 fl)), (⟨g, 2, none⟩, (.slice Aq nq cq)), (⟨g, 3, none⟩, (.slice Aa na ca)), (⟨g, 4, none⟩, (.slice An nn cn)), (⟨g, 5, none⟩, (.slice Ax nx cx)), (⟨b1, 0, none⟩, (.int .u16 id)), (⟨b1, 1, none⟩, (.int .u16 fl)), (⟨b1, 2, none⟩, (.slice Cq nq eq)), (⟨b1, 3, none⟩, (.slice Ca na ea)), (⟨b1, 4, none⟩, (.slice Cn nn en)), (⟨b1, 5, none⟩, (.slice Cx nx ex))] w5 W (HV.out.on (HBA.out.trans (hWg.mono (Nat.le_succ g))) (Nat.le_refl g)) (by have h := hWg.size; rw [HSA.out] at h; omega) HZ.out HQM.out (by decide) HNM.out hW (fun p hp => by simp only [List.mem_cons, List.not_mem_nil, or_false] at hp; rcases hp with rfl | rfl | rfl | rfl | rfl | rfl | rfl | rfl | rfl | rfl | rfl | rfl <;> assumption) hH
    rw [HID.out, HFL.out] at ha
    refine ha.mono ?_
    rintro e w' ⟨Dq, Da, Dn, Dx, dq, da, dn, dx, Ya, Yn, Yx, rfl, hV, hZ, hcs, hbl⟩
    exact ⟨Dq, Da, Dn, Dx, dq, da, dn, dx, Ya, Yn, Yx, by rw [HID.out, HFL.out], hV, hZ, hcs (⟨g, 0, none⟩, (.int .u16 id)) (by simp), hcs (⟨g, 1, none⟩, (.int .u16 fl)) (by simp), hcs (⟨g, 2, none⟩, (.slice Aq nq cq)) (by simp), hcs (⟨g, 3, none⟩, (.slice Aa na ca)) (by simp), hcs (⟨g, 4, none⟩, (.slice An nn cn)) (by simp), hcs (⟨g, 5, none⟩, (.slice Ax nx cx)) (by simp), hcs (⟨b1, 0, none⟩, (.int .u16 id)) (by simp), hcs (⟨b1, 1, none⟩, (.int .u16 fl)) (by simp), hcs (⟨b1, 2, none⟩, (.slice Cq nq eq)) (by simp), hcs (⟨b1, 3, none⟩, (.slice Ca na ea)) (by simp), hcs (⟨b1, 4, none⟩, (.slice Cn nn en)) (by simp), hcs (⟨b1, 5, none⟩, (.slice Cx nx ex)) (by simp), hbl⟩
  have CS1 : Hid (∀ (Dq Da Dn Dx : Option Addr) (dq da dn dx : Nat) (Ya Yn Yx : List RecZ) (W : World), b1 + 1 ≤ W.heap.size → (W.cell? ⟨g, 0, none⟩ = some (.int .u16 id) ∧ W.cell? ⟨g, 1, none⟩ = some (.int .u16 fl) ∧ W.cell? ⟨g, 2, none⟩ = some (.slice Aq nq cq) ∧ W.cell? ⟨g, 3, none⟩ = some (.slice Aa na ca) ∧ W.cell? ⟨g, 4, none⟩ = some (.slice An nn cn) ∧ W.cell? ⟨g, 5, none⟩ = some (.slice Ax nx cx) ∧ W.cell? ⟨b1, 0, none⟩ = some (.int .u16 id) ∧ W.cell? ⟨b1, 1, none⟩ = some (.int .u16 fl) ∧ W.cell? ⟨b1, 2, none⟩ = some (.slice Cq nq eq) ∧ W.cell? ⟨b1, 3, none⟩ = some (.slice Ca na ea) ∧ W.cell? ⟨b1, 4, none⟩ = some (.slice Cn nn en) ∧ W.cell? ⟨b1, 5, none⟩ = some (.slice Cx nx ex) ∧ Below (b1 + 1) w5 W) → Hid (MsgV W W.heap.size (ageM n M) Dq Da Dn Dx nq na nn nx da dn dx Ya Yn Yx) → Calls Try.prog 19 #[.agg #[.int .u16 id, .int .u16 fl, .slice Cq nq eq, .slice Ca na ea, .slice Cn nn en, .slice Cx nx ex], .agg #[.int .u16 id, .int .u16 fl, .slice Dq nq dq, .slice Da na da, .slice Dn nn dn, .slice Dx nx dx]] W fun e w' => e = .returned (.bool true) ∧ w'.cell? ⟨g, 0, none⟩ = some (.int .u16 id) ∧ w'.cell? ⟨g, 1, none⟩ = some (.int .u16 fl) ∧ w'.cell? ⟨g, 2, none⟩ = some (.slice Aq nq cq) ∧ w'.cell? ⟨g, 3, none⟩ = some (.slice Aa na ca) ∧ w'.cell? ⟨g, 4, none⟩ = some (.slice An nn cn) ∧ w'.cell? ⟨g, 5, none⟩ = some (.slice Ax nx cx) ∧ w'.cell? ⟨b1, 0, none⟩ = some (.int .u16 id) ∧ w'.cell? ⟨b1, 1, none⟩ = some (.int .u16 fl) ∧ w'.cell? ⟨b1, 2, none⟩ = some (.slice Cq nq eq) ∧ w'.cell? ⟨b1, 3, none⟩ = some (.slice Ca na ea) ∧ w'.cell? ⟨b1, 4, none⟩ = some (.slice Cn nn en) ∧ w'.cell? ⟨b1, 5, none⟩ = some (.slice Cx nx ex) ∧ Below (b1 + 1) w5 w') := by
    intro Dq Da Dn Dx dq da dn dx Ya Yn Yx W hW hc hV
    obtain ⟨z0, z1, z2, z3, z4, z5, z6, z7, z8, z9, z10, z11, hH⟩ := hc
    have hWg : Below (g + 1) wa W := KT.out.trans (hH.mono (by have := HGB.out; omega))
    have hWs : g + 1 ≤ W.heap.size := by have h := hWg.size; rw [HSA.out] at h; exact h
    have HVM : Hid (MsgV W W.heap.size M Aq Aa An Ax nq na nn nx ca cn cx Za Zn Zx) := HV.out.on (HBA.out.trans (hWg.mono (Nat.le_succ g))) (by omega)
    have HVT : Hid (MsgV W W.heap.size (ageM b (ageM a M)) Cq Ca Cn Cx nq na nn nx ea en ex Xa Xn Xx) := HTV.out.on (hH.mono (Nat.le_succ b1)) (by omega)
    have ha := same_held (ageM b (ageM a M)) (ageM n M) Cq Ca Cn Cx Dq Da Dn Dx eq ea en ex dq da dn dx nq na nn nx nq na nn nx (b1 + 1) Xa Ya Xn Yn Xx Yx true [(⟨g, 0, none⟩, (.int .u16 id)), (⟨g, 1, none⟩, (.int .u16 fl)), (⟨g, 2, none⟩, (.slice Aq nq cq)), (⟨g, 3, none⟩, (.slice Aa na ca)), (⟨g, 4, none⟩, (.slice An nn cn)), (⟨g, 5, none⟩, (.slice Ax nx cx)), (⟨b1, 0, none⟩, (.int .u16 id)), (⟨b1, 1, none⟩, (.int .u16 fl)), (⟨b1, 2, none⟩, (.slice Cq nq eq)), (⟨b1, 3, none⟩, (.slice Ca na ea)), (⟨b1, 4, none⟩, (.slice Cn nn en)), (⟨b1, 5, none⟩, (.slice Cx nx ex))] w5 W HVT hV (small_of (qm_age (qm_age HQM.out))) (small_of (qm_age HQM.out)) ⟨fun _ => HTM.out, fun _ => rfl⟩ hW (fun p hp => by simp only [List.mem_cons, List.not_mem_nil, or_false] at hp; rcases hp with rfl | rfl | rfl | rfl | rfl | rfl | rfl | rfl | rfl | rfl | rfl | rfl <;> assumption) hH
    have i1 : (ageM b (ageM a M)).id = id := HID.out
    have i2 : (ageM b (ageM a M)).flags = fl := HFL.out
    have i3 : (ageM n M).id = id := HID.out
    have i4 : (ageM n M).flags = fl := HFL.out
    rw [i1, i2, i3, i4] at ha
    refine ha.mono ?_
    rintro e w' ⟨rfl, hcs, hbl⟩
    exact ⟨rfl, hcs (⟨g, 0, none⟩, (.int .u16 id)) (by simp), hcs (⟨g, 1, none⟩, (.int .u16 fl)) (by simp), hcs (⟨g, 2, none⟩, (.slice Aq nq cq)) (by simp), hcs (⟨g, 3, none⟩, (.slice Aa na ca)) (by simp), hcs (⟨g, 4, none⟩, (.slice An nn cn)) (by simp), hcs (⟨g, 5, none⟩, (.slice Ax nx cx)) (by simp), hcs (⟨b1, 0, none⟩, (.int .u16 id)) (by simp), hcs (⟨b1, 1, none⟩, (.int .u16 fl)) (by simp), hcs (⟨b1, 2, none⟩, (.slice Cq nq eq)) (by simp), hcs (⟨b1, 3, none⟩, (.slice Ca na ea)) (by simp), hcs (⟨b1, 4, none⟩, (.slice Cn nn en)) (by simp), hcs (⟨b1, 5, none⟩, (.slice Cx nx ex)) (by simp), hbl⟩
  have CS2 : Hid (∀ (Dq Da Dn Dx : Option Addr) (dq da dn dx : Nat) (Ya Yn Yx : List RecZ) (W : World), b1 + 1 ≤ W.heap.size → (W.cell? ⟨g, 0, none⟩ = some (.int .u16 id) ∧ W.cell? ⟨g, 1, none⟩ = some (.int .u16 fl) ∧ W.cell? ⟨g, 2, none⟩ = some (.slice Aq nq cq) ∧ W.cell? ⟨g, 3, none⟩ = some (.slice Aa na ca) ∧ W.cell? ⟨g, 4, none⟩ = some (.slice An nn cn) ∧ W.cell? ⟨g, 5, none⟩ = some (.slice Ax nx cx) ∧ W.cell? ⟨b1, 0, none⟩ = some (.int .u16 id) ∧ W.cell? ⟨b1, 1, none⟩ = some (.int .u16 fl) ∧ W.cell? ⟨b1, 2, none⟩ = some (.slice Cq nq eq) ∧ W.cell? ⟨b1, 3, none⟩ = some (.slice Ca na ea) ∧ W.cell? ⟨b1, 4, none⟩ = some (.slice Cn nn en) ∧ W.cell? ⟨b1, 5, none⟩ = some (.slice Cx nx ex) ∧ Below (b1 + 1) w5 W) → Hid (MsgV W W.heap.size (ageM 0 M) Dq Da Dn Dx nq na nn nx da dn dx Ya Yn Yx) → Calls Try.prog 19 #[.agg #[.int .u16 id, .int .u16 fl, .slice Dq nq dq, .slice Da na da, .slice Dn nn dn, .slice Dx nx dx], .agg #[.int .u16 id, .int .u16 fl, .slice Aq nq cq, .slice Aa na ca, .slice An nn cn, .slice Ax nx cx]] W fun e w' => e = .returned (.bool true) ∧ w'.cell? ⟨g, 0, none⟩ = some (.int .u16 id) ∧ w'.cell? ⟨g, 1, none⟩ = some (.int .u16 fl) ∧ w'.cell? ⟨g, 2, none⟩ = some (.slice Aq nq cq) ∧ w'.cell? ⟨g, 3, none⟩ = some (.slice Aa na ca) ∧ w'.cell? ⟨g, 4, none⟩ = some (.slice An nn cn) ∧ w'.cell? ⟨g, 5, none⟩ = some (.slice Ax nx cx) ∧ w'.cell? ⟨b1, 0, none⟩ = some (.int .u16 id) ∧ w'.cell? ⟨b1, 1, none⟩ = some (.int .u16 fl) ∧ w'.cell? ⟨b1, 2, none⟩ = some (.slice Cq nq eq) ∧ w'.cell? ⟨b1, 3, none⟩ = some (.slice Ca na ea) ∧ w'.cell? ⟨b1, 4, none⟩ = some (.slice Cn nn en) ∧ w'.cell? ⟨b1, 5, none⟩ = some (.slice Cx nx ex) ∧ Below (b1 + 1) w5 w') := by
    intro Dq Da Dn Dx dq da dn dx Ya Yn Yx W hW hc hV
    obtain ⟨z0, z1, z2, z3, z4, z5, z6, z7, z8, z9, z10, z11, hH⟩ := hc
    have hWg : Below (g + 1) wa W := KT.out.trans (hH.mono (by have := HGB.out; omega))
    have hWs : g + 1 ≤ W.heap.size := by have h := hWg.size; rw [HSA.out] at h; exact h
    have HVM : Hid (MsgV W W.heap.size M Aq Aa An Ax nq na nn nx ca cn cx Za Zn Zx) := HV.out.on (HBA.out.trans (hWg.mono (Nat.le_succ g))) (by omega)
    have ha := same_held (ageM 0 M) M Dq Da Dn Dx Aq Aa An Ax dq da dn dx cq ca cn cx nq na nn nx nq na nn nx (b1 + 1) Ya Za Yn Zn Yx Zx true [(⟨g, 0, none⟩, (.int .u16 id)), (⟨g, 1, none⟩, (.int .u16 fl)), (⟨g, 2, none⟩, (.slice Aq nq cq)), (⟨g, 3, none⟩, (.slice Aa na ca)), (⟨g, 4, none⟩, (.slice An nn cn)), (⟨g, 5, none⟩, (.slice Ax nx cx)), (⟨b1, 0, none⟩, (.int .u16 id)), (⟨b1, 1, none⟩, (.int .u16 fl)), (⟨b1, 2, none⟩, (.slice Cq nq eq)), (⟨b1, 3, none⟩, (.slice Ca na ea)), (⟨b1, 4, none⟩, (.slice Cn nn en)), (⟨b1, 5, none⟩, (.slice Cx nx ex))] w5 W hV HVM (small_of (qm_age HQM.out)) HSM ⟨fun _ => age_zero, fun _ => rfl⟩ hW (fun p hp => by simp only [List.mem_cons, List.not_mem_nil, or_false] at hp; rcases hp with rfl | rfl | rfl | rfl | rfl | rfl | rfl | rfl | rfl | rfl | rfl | rfl <;> assumption) hH
    have i3 : (ageM 0 M).id = id := HID.out
    have i4 : (ageM 0 M).flags = fl := HFL.out
    rw [i3, i4, HID.out, HFL.out] at ha
    refine ha.mono ?_
    rintro e w' ⟨rfl, hcs, hbl⟩
    exact ⟨rfl, hcs (⟨g, 0, none⟩, (.int .u16 id)) (by simp), hcs (⟨g, 1, none⟩, (.int .u16 fl)) (by simp), hcs (⟨g, 2, none⟩, (.slice Aq nq cq)) (by simp), hcs (⟨g, 3, none⟩, (.slice Aa na ca)) (by simp), hcs (⟨g, 4, none⟩, (.slice An nn cn)) (by simp), hcs (⟨g, 5, none⟩, (.slice Ax nx cx)) (by simp), hcs (⟨b1, 0, none⟩, (.int .u16 id)) (by simp), hcs (⟨b1, 1, none⟩, (.int .u16 fl)) (by simp), hcs (⟨b1, 2, none⟩, (.slice Cq nq eq)) (by simp), hcs (⟨b1, 3, none⟩, (.slice Ca na ea)) (by simp), hcs (⟨b1, 4, none⟩, (.slice Cn nn en)) (by simp), hcs (⟨b1, 5, none⟩, (.slice Cx nx ex)) (by simp), hbl⟩
  have HGR : Hid (∀ W : World, W.cell? ⟨b1, 0, none⟩ = some (.int .u16 id) → b1 + 1 ≤ W.heap.size) := fun W h => by have h2 : b1 < W.heap.size := World.block_lt_of_cell? W _ h; omega
  have h0 : Below (b1 + 1) w5 w5.drew := (Below.refl _ _).drew
  clear hx5 hn
  go_wp2_with fail
  go_region_held3 (fun w' => w'.cell? ⟨g, 0, none⟩ = some (.int .u16 id) ∧ w'.cell? ⟨g, 1, none⟩ = some (.int .u16 fl) ∧ w'.cell? ⟨g, 2, none⟩ = some (.slice Aq nq cq) ∧ w'.cell? ⟨g, 3, none⟩ = some (.slice Aa na ca) ∧ w'.cell? ⟨g, 4, none⟩ = some (.slice An nn cn) ∧ w'.cell? ⟨g, 5, none⟩ = some (.slice Ax nx cx) ∧ w'.cell? ⟨b1, 0, none⟩ = some (.int .u16 id) ∧ w'.cell? ⟨b1, 1, none⟩ = some (.int .u16 fl) ∧ w'.cell? ⟨b1, 2, none⟩ = some (.slice Cq nq eq) ∧ w'.cell? ⟨b1, 3, none⟩ = some (.slice Ca na ea) ∧ w'.cell? ⟨b1, 4, none⟩ = some (.slice Cn nn en) ∧ w'.cell? ⟨b1, 5, none⟩ = some (.slice Cx nx ex) ∧ Below (b1 + 1) w5 w') (first | assumption | go_keep) (first | (go_at_call 41; (with_reducible refine (CADD.out _).mono ?_); rintro e w6 ⟨rfl, rfl⟩) | (go_at_call 33; (with_reducible refine (CN.out _ (HGR.out _ ?_) ?_ ).mono ?_); (simp [*]); (first | assumption | (simp [*])); rintro e w7 ⟨Dq, Da, Dn, Dx, dq, da, dn, dx, Ya, Yn, Yx, rfl, HD7, HZ7, c0, c1, c2, c3, c4, c5, c6, c7, c8, c9, c10, c11, hG7⟩) | (go_at_call 33; (with_reducible refine (CO.out _ (HGR.out _ ?_) ?_ ).mono ?_); (simp [*]); (first | assumption | (simp [*])); rintro e w8 ⟨Gq, Ga, Gn, Gx, hq, ha, hn, hx, Ua, Un, Ux, rfl, HD8, HZ8, c0, c1, c2, c3, c4, c5, c6, c7, c8, c9, c10, c11, hG8⟩) | (go_at_call 19; (with_reducible refine (CS1.out Dq Da Dn Dx dq da dn dx Ya Yn Yx _ (HGR.out _ ?_) ?_ HD7).mono ?_); (simp [*]); (first | assumption | (simp [*])); rintro e w9 ⟨rfl, c0, c1, c2, c3, c4, c5, c6, c7, c8, c9, c10, c11, hG9⟩) | (go_at_call 19; (with_reducible refine (CS2.out Gq Ga Gn Gx hq ha hn hx Ua Un Ux _ (HGR.out _ ?_) ?_ HD8).mono ?_); (simp [*]); (first | assumption | (simp [*])); rintro e w10 ⟨rfl, c0, c1, c2, c3, c4, c5, c6, c7, c8, c9, c10, c11, hG10⟩))
  have K10 : Hid (Below (g + 1) wa w10) := KT.out.trans (hG10.mono (by have := HGB.out; omega))
  have HS10 : Hid (g + 1 ≤ w10.heap.size) := by have := K10.out.size; rw [HSA.out] at this; exact this
  clear c0 c1 c2 c3 c4 c5 c6 c7 c8 c9 c10 c11 k0 k1 k2 k3 k4 k5 m0 m1 m2 m3 m4 m5 CN CO CS1 CS2 CADD HD7 HZ7 HD8 HZ8 HGR h0 hG7 hG8 hG9 hG10 HTV HTM HT5 KT S5 HW5 hnb
  obtain ⟨T0, hT0⟩ : ∃ T, leastM M = T := ⟨_, rfl⟩
  obtain ⟨T1, hT1⟩ : ∃ T, leastM (ageM a M) = T := ⟨_, rfl⟩
  obtain ⟨q, hq⟩ : ∃ q, negM M = q := ⟨_, rfl⟩
  have HLE : Hid (T1 ≤ T0) := by show _ ≤ _; rw [← hT0, ← hT1]; exact least_le
  have HBD : Hid (T0 ≤ 4294967295) := by show _ ≤ _; rw [← hT0]; exact least_bound (fun R hR => (HQM.out.recs R hR).2.2.2)
  have HFALL : Hid (q = false → T1 = T0 - a) := fun e => by rw [← hT0, ← hT1]; exact least_age (hq.trans e)
  have HQ0 := Lib.hid hq
  have HQ1 : Hid (negM (ageM a M) = q) := (neg_age (a := a) (M := M)).trans hq
  have HT0 := Lib.hid hT0
  have HT1 := Lib.hid hT1
  clear hT0 hT1 hq
  have CL0 : Hid (∀  (W : World), g + 1 ≤ W.heap.size → (W.cell? ⟨g, 0, none⟩ = some (.int .u16 id) ∧ W.cell? ⟨g, 1, none⟩ = some (.int .u16 fl) ∧ W.cell? ⟨g, 2, none⟩ = some (.slice Aq nq cq) ∧ W.cell? ⟨g, 3, none⟩ = some (.slice Aa na ca) ∧ W.cell? ⟨g, 4, none⟩ = some (.slice An nn cn) ∧ W.cell? ⟨g, 5, none⟩ = some (.slice Ax nx cx) ∧ Below (g + 1) wa W) →  Calls Try.prog 31 #[.agg #[.int .u16 id, .int .u16 fl, .slice Aq nq cq, .slice Aa na ca, .slice An nn cn, .slice Ax nx cx]] W fun e w' => e = .returned (.int .u32 T0) ∧ w'.cell? ⟨g, 0, none⟩ = some (.int .u16 id) ∧ w'.cell? ⟨g, 1, none⟩ = some (.int .u16 fl) ∧ w'.cell? ⟨g, 2, none⟩ = some (.slice Aq nq cq) ∧ w'.cell? ⟨g, 3, none⟩ = some (.slice Aa na ca) ∧ w'.cell? ⟨g, 4, none⟩ = some (.slice An nn cn) ∧ w'.cell? ⟨g, 5, none⟩ = some (.slice Ax nx cx) ∧ Below (g + 1) wa w') := by
    intro  W hW hc 
    obtain ⟨z0, z1, z2, z3, z4, z5, hH⟩ := hc
    have hvm := HV.out.on (HBA.out.trans (hH.mono (Nat.le_succ g))) (Nat.le_refl g)
    have ha := least_w M Aq Aa An Ax nq na nn nx cq ca cn cx g Za Zn Zx T0 W hvm (by omega) HQM.out HT0.out
    rw [HID.out, HFL.out] at ha
    refine ha.mono ?_
    rintro e w' ⟨rfl, hbl⟩
    have far : ∀ {a : Addr} {v : Value}, W.cell? a = some v → w'.cell? a = some v := fun h => (hbl.cell (World.block_lt_of_cell? W _ h)).trans h
    exact ⟨rfl, far z0, far z1, far z2, far z3, far z4, far z5, hH.trans (hbl.mono hW)⟩
  have CL1 : Hid (∀ (Dq Da Dn Dx : Option Addr) (dq da dn dx : Nat) (Ya Yn Yx : List RecZ) (W : World), g + 1 ≤ W.heap.size → (W.cell? ⟨g, 0, none⟩ = some (.int .u16 id) ∧ W.cell? ⟨g, 1, none⟩ = some (.int .u16 fl) ∧ W.cell? ⟨g, 2, none⟩ = some (.slice Aq nq cq) ∧ W.cell? ⟨g, 3, none⟩ = some (.slice Aa na ca) ∧ W.cell? ⟨g, 4, none⟩ = some (.slice An nn cn) ∧ W.cell? ⟨g, 5, none⟩ = some (.slice Ax nx cx) ∧ Below (g + 1) wa W) → Hid (MsgV W W.heap.size (ageM a M) Dq Da Dn Dx nq na nn nx da dn dx Ya Yn Yx) →  Calls Try.prog 31 #[.agg #[.int .u16 id, .int .u16 fl, .slice Dq nq dq, .slice Da na da, .slice Dn nn dn, .slice Dx nx dx]] W fun e w' => e = .returned (.int .u32 T1) ∧ w'.cell? ⟨g, 0, none⟩ = some (.int .u16 id) ∧ w'.cell? ⟨g, 1, none⟩ = some (.int .u16 fl) ∧ w'.cell? ⟨g, 2, none⟩ = some (.slice Aq nq cq) ∧ w'.cell? ⟨g, 3, none⟩ = some (.slice Aa na ca) ∧ w'.cell? ⟨g, 4, none⟩ = some (.slice An nn cn) ∧ w'.cell? ⟨g, 5, none⟩ = some (.slice Ax nx cx) ∧ Below (g + 1) wa w') := by
    intro Dq Da Dn Dx dq da dn dx Ya Yn Yx W hW hc hV
    obtain ⟨z0, z1, z2, z3, z4, z5, hH⟩ := hc
    have hvm := HV.out.on (HBA.out.trans (hH.mono (Nat.le_succ g))) (Nat.le_refl g)
    have ha := least_w (ageM a M) Dq Da Dn Dx nq na nn nx dq da dn dx W.heap.size Ya Yn Yx T1 W hV (Nat.le_refl _) (qm_age HQM.out) HT1.out
    have i3 : (ageM a M).id = id := HID.out
    have i4 : (ageM a M).flags = fl := HFL.out
    rw [i3, i4] at ha
    refine ha.mono ?_
    rintro e w' ⟨rfl, hbl⟩
    have far : ∀ {a : Addr} {v : Value}, W.cell? a = some v → w'.cell? a = some v := fun h => (hbl.cell (World.block_lt_of_cell? W _ h)).trans h
    exact ⟨rfl, far z0, far z1, far z2, far z3, far z4, far z5, hH.trans (hbl.mono hW)⟩
  have CG0 : Hid (∀  (W : World), g + 1 ≤ W.heap.size → (W.cell? ⟨g, 0, none⟩ = some (.int .u16 id) ∧ W.cell? ⟨g, 1, none⟩ = some (.int .u16 fl) ∧ W.cell? ⟨g, 2, none⟩ = some (.slice Aq nq cq) ∧ W.cell? ⟨g, 3, none⟩ = some (.slice Aa na ca) ∧ W.cell? ⟨g, 4, none⟩ = some (.slice An nn cn) ∧ W.cell? ⟨g, 5, none⟩ = some (.slice Ax nx cx) ∧ Below (g + 1) wa W) →  Calls Try.prog 29 #[.agg #[.int .u16 id, .int .u16 fl, .slice Aq nq cq, .slice Aa na ca, .slice An nn cn, .slice Ax nx cx]] W fun e w' => e = .returned (.bool q) ∧ w'.cell? ⟨g, 0, none⟩ = some (.int .u16 id) ∧ w'.cell? ⟨g, 1, none⟩ = some (.int .u16 fl) ∧ w'.cell? ⟨g, 2, none⟩ = some (.slice Aq nq cq) ∧ w'.cell? ⟨g, 3, none⟩ = some (.slice Aa na ca) ∧ w'.cell? ⟨g, 4, none⟩ = some (.slice An nn cn) ∧ w'.cell? ⟨g, 5, none⟩ = some (.slice Ax nx cx) ∧ Below (g + 1) wa w') := by
    intro  W hW hc 
    obtain ⟨z0, z1, z2, z3, z4, z5, hH⟩ := hc
    have hvm := HV.out.on (HBA.out.trans (hH.mono (Nat.le_succ g))) (Nat.le_refl g)
    have ha := negative_w M Aq Aa An Ax nq na nn nx cq ca cn cx g Za Zn Zx q W hvm (by omega) HQM.out.few HQ0.out
    rw [HID.out, HFL.out] at ha
    refine ha.mono ?_
    rintro e w' ⟨rfl, hbl⟩
    have far : ∀ {a : Addr} {v : Value}, W.cell? a = some v → w'.cell? a = some v := fun h => (hbl.cell (World.block_lt_of_cell? W _ h)).trans h
    exact ⟨rfl, far z0, far z1, far z2, far z3, far z4, far z5, hH.trans (hbl.mono hW)⟩
  have CG1 : Hid (∀ (Dq Da Dn Dx : Option Addr) (dq da dn dx : Nat) (Ya Yn Yx : List RecZ) (W : World), g + 1 ≤ W.heap.size → (W.cell? ⟨g, 0, none⟩ = some (.int .u16 id) ∧ W.cell? ⟨g, 1, none⟩ = some (.int .u16 fl) ∧ W.cell? ⟨g, 2, none⟩ = some (.slice Aq nq cq) ∧ W.cell? ⟨g, 3, none⟩ = some (.slice Aa na ca) ∧ W.cell? ⟨g, 4, none⟩ = some (.slice An nn cn) ∧ W.cell? ⟨g, 5, none⟩ = some (.slice Ax nx cx) ∧ Below (g + 1) wa W) → Hid (MsgV W W.heap.size (ageM a M) Dq Da Dn Dx nq na nn nx da dn dx Ya Yn Yx) →  Calls Try.prog 29 #[.agg #[.int .u16 id, .int .u16 fl, .slice Dq nq dq, .slice Da na da, .slice Dn nn dn, .slice Dx nx dx]] W fun e w' => e = .returned (.bool q) ∧ w'.cell? ⟨g, 0, none⟩ = some (.int .u16 id) ∧ w'.cell? ⟨g, 1, none⟩ = some (.int .u16 fl) ∧ w'.cell? ⟨g, 2, none⟩ = some (.slice Aq nq cq) ∧ w'.cell? ⟨g, 3, none⟩ = some (.slice Aa na ca) ∧ w'.cell? ⟨g, 4, none⟩ = some (.slice An nn cn) ∧ w'.cell? ⟨g, 5, none⟩ = some (.slice Ax nx cx) ∧ Below (g + 1) wa w') := by
    intro Dq Da Dn Dx dq da dn dx Ya Yn Yx W hW hc hV
    obtain ⟨z0, z1, z2, z3, z4, z5, hH⟩ := hc
    have hvm := HV.out.on (HBA.out.trans (hH.mono (Nat.le_succ g))) (Nat.le_refl g)
    have ha := negative_w (ageM a M) Dq Da Dn Dx nq na nn nx dq da dn dx W.heap.size Ya Yn Yx q W hV (Nat.le_refl _) (qm_age HQM.out).few HQ1.out
    have i3 : (ageM a M).id = id := HID.out
    have i4 : (ageM a M).flags = fl := HFL.out
    rw [i3, i4] at ha
    refine ha.mono ?_
    rintro e w' ⟨rfl, hbl⟩
    have far : ∀ {a : Addr} {v : Value}, W.cell? a = some v → w'.cell? a = some v := fun h => (hbl.cell (World.block_lt_of_cell? W _ h)).trans h
    exact ⟨rfl, far z0, far z1, far z2, far z3, far z4, far z5, hH.trans (hbl.mono hW)⟩
  have CA : Hid (∀ W : World, g + 1 ≤ W.heap.size → (W.cell? ⟨g, 0, none⟩ = some (.int .u16 id) ∧ W.cell? ⟨g, 1, none⟩ = some (.int .u16 fl) ∧ W.cell? ⟨g, 2, none⟩ = some (.slice Aq nq cq) ∧ W.cell? ⟨g, 3, none⟩ = some (.slice Aa na ca) ∧ W.cell? ⟨g, 4, none⟩ = some (.slice An nn cn) ∧ W.cell? ⟨g, 5, none⟩ = some (.slice Ax nx cx) ∧ Below (g + 1) wa W) → Calls Try.prog 33 #[.agg #[.int .u16 id, .int .u16 fl, .slice Aq nq cq, .slice Aa na ca, .slice An nn cn, .slice Ax nx cx], .int .u64 (a : Int)] W fun e w' => ∃ Dq Da Dn Dx dq da dn dx Ya Yn Yx, e = .returned (.agg #[.int .u16 id, .int .u16 fl, .slice Dq nq dq, .slice Da na da, .slice Dn nn dn, .slice Dx nx dx]) ∧ Hid (MsgV w' w'.heap.size (ageM a M) Dq Da Dn Dx nq na nn nx da dn dx Ya Yn Yx) ∧ Hid (ZNil Ya ∧ ZNil Yn ∧ ZNil Yx) ∧ w'.cell? ⟨g, 0, none⟩ = some (.int .u16 id) ∧ w'.cell? ⟨g, 1, none⟩ = some (.int .u16 fl) ∧ w'.cell? ⟨g, 2, none⟩ = some (.slice Aq nq cq) ∧ w'.cell? ⟨g, 3, none⟩ = some (.slice Aa na ca) ∧ w'.cell? ⟨g, 4, none⟩ = some (.slice An nn cn) ∧ w'.cell? ⟨g, 5, none⟩ = some (.slice Ax nx cx) ∧ Below (g + 1) wa w') := by
    intro W hW hc
    obtain ⟨z0, z1, z2, z3, z4, z5, hH⟩ := hc
    have hWg : Below (g + 1) wa W := hH
    have ha := age_held a M Aq Aa An Ax nq na nn nx cq ca cn cx g (g + 1) Za Zn Zx [(⟨g, 0, none⟩, (.int .u16 id)), (⟨g, 1, none⟩, (.int .u16 fl)), (⟨g, 2, none⟩, (.slice Aq nq cq)), (⟨g, 3, none⟩, (.slice Aa na ca)), (⟨g, 4, none⟩, (.slice An nn cn)), (⟨g, 5, none⟩, (.slice Ax nx cx))] wa W (HV.out.on (HBA.out.trans (hWg.mono (Nat.le_succ g))) (Nat.le_refl g)) (by have h := hWg.size; rw [HSA.out] at h; omega) HZ.out HQM.out hab HNM.out hW (fun p hp => by simp only [List.mem_cons, List.not_mem_nil, or_false] at hp; rcases hp with rfl | rfl | rfl | rfl | rfl | rfl <;> assumption) hH
    rw [HID.out, HFL.out] at ha
    refine ha.mono ?_
    rintro e w' ⟨Dq, Da, Dn, Dx, dq, da, dn, dx, Ya, Yn, Yx, rfl, hV, hZ, hcs, hbl⟩
    exact ⟨Dq, Da, Dn, Dx, dq, da, dn, dx, Ya, Yn, Yx, by rw [HID.out, HFL.out], hV, hZ, hcs (⟨g, 0, none⟩, (.int .u16 id)) (by simp), hcs (⟨g, 1, none⟩, (.int .u16 fl)) (by simp), hcs (⟨g, 2, none⟩, (.slice Aq nq cq)) (by simp), hcs (⟨g, 3, none⟩, (.slice Aa na ca)) (by simp), hcs (⟨g, 4, none⟩, (.slice An nn cn)) (by simp), hcs (⟨g, 5, none⟩, (.slice Ax nx cx)) (by simp), hbl⟩
  have HGR : Hid (∀ W : World, W.cell? ⟨g, 0, none⟩ = some (.int .u16 id) → g + 1 ≤ W.heap.size) := fun W h => by have h2 : g < W.heap.size := World.block_lt_of_cell? W _ h; omega
  have hx10 := (K10.out.block g (by have := HSA.out; omega)).trans HBX.out
  have k0 := cell_of_row _ _ 0 _ _ _ hx10
  have k1 := cell_of_row _ _ 1 _ _ _ hx10
  have k2 := cell_of_row _ _ 2 _ _ _ hx10
  have k3 := cell_of_row _ _ 3 _ _ _ hx10
  have k4 := cell_of_row _ _ 4 _ _ _ hx10
  have k5 := cell_of_row _ _ 5 _ _ _ hx10
  have h0 : Below (g + 1) wa w10.drew := K10.out.drew
  clear hx10
  go_upto_region 8 with fail
  go_region_held3 (fun w' => w'.cell? ⟨g, 0, none⟩ = some (.int .u16 id) ∧ w'.cell? ⟨g, 1, none⟩ = some (.int .u16 fl) ∧ w'.cell? ⟨g, 2, none⟩ = some (.slice Aq nq cq) ∧ w'.cell? ⟨g, 3, none⟩ = some (.slice Aa na ca) ∧ w'.cell? ⟨g, 4, none⟩ = some (.slice An nn cn) ∧ w'.cell? ⟨g, 5, none⟩ = some (.slice Ax nx cx) ∧ Below (g + 1) wa w') (first | assumption | go_keep) (first | (go_at_call 31; (with_reducible refine (CL0.out _ (HGR.out _ ?_) ?_ ).mono ?_); (simp [*]); (first | assumption | (simp [*])); rintro e w11 ⟨rfl, c0, c1, c2, c3, c4, c5, hG11⟩) | (go_at_call 33; (with_reducible refine (CA.out _ (HGR.out _ ?_) ?_ ).mono ?_); (simp [*]); (first | assumption | (simp [*])); rintro e w12 ⟨Dq, Da, Dn, Dx, dq, da, dn, dx, Ya, Yn, Yx, rfl, HD12, HZ12, c0, c1, c2, c3, c4, c5, hG12⟩) | (go_at_call 31; (with_reducible refine (CL1.out Dq Da Dn Dx dq da dn dx Ya Yn Yx _ (HGR.out _ ?_) ?_ HD12).mono ?_); (simp [*]); (first | assumption | (simp [*])); rintro e w13 ⟨rfl, c0, c1, c2, c3, c4, c5, hG13⟩))
  have K13 : Hid (Below (g + 1) wa w13) := hG13
  clear c0 c1 c2 c3 c4 c5 k0 k1 k2 k3 k4 k5 HD12 HZ12 h0 hG11 hG12 hG13
  have hx13 := (K13.out.block g (by have := HSA.out; omega)).trans HBX.out
  have k0 := cell_of_row _ _ 0 _ _ _ hx13
  have k1 := cell_of_row _ _ 1 _ _ _ hx13
  have k2 := cell_of_row _ _ 2 _ _ _ hx13
  have k3 := cell_of_row _ _ 3 _ _ _ hx13
  have k4 := cell_of_row _ _ 4 _ _ _ hx13
  have k5 := cell_of_row _ _ 5 _ _ _ hx13
  have h0 : Below (g + 1) wa w13.drew := K13.out.drew
  have fgt : decide (T0 < T1) = false := decide_eq_false (by have := HLE.out; omega)
  have fq1 : (q != q) = false := bne_self_eq_false q
  have fq2 : (q == q) = true := beq_self_eq_true q
  clear hx13
  go_upto_region 9 with fail
  go_region_held3 (fun w' => w'.cell? ⟨g, 0, none⟩ = some (.int .u16 id) ∧ w'.cell? ⟨g, 1, none⟩ = some (.int .u16 fl) ∧ w'.cell? ⟨g, 2, none⟩ = some (.slice Aq nq cq) ∧ w'.cell? ⟨g, 3, none⟩ = some (.slice Aa na ca) ∧ w'.cell? ⟨g, 4, none⟩ = some (.slice An nn cn) ∧ w'.cell? ⟨g, 5, none⟩ = some (.slice Ax nx cx) ∧ Below (g + 1) wa w') (first | assumption | go_keep) (first | (go_at_call 29; (with_reducible refine (CG0.out _ (HGR.out _ ?_) ?_ ).mono ?_); (simp [*]); (first | assumption | (simp [*])); rintro e w14 ⟨rfl, c0, c1, c2, c3, c4, c5, hG14⟩) | (go_at_call 33; (with_reducible refine (CA.out _ (HGR.out _ ?_) ?_ ).mono ?_); (simp [*]); (first | assumption | (simp [*])); rintro e w15 ⟨Dq, Da, Dn, Dx, dq, da, dn, dx, Ya, Yn, Yx, rfl, HD15, HZ15, c0, c1, c2, c3, c4, c5, hG15⟩) | (go_at_call 29; (with_reducible refine (CG1.out Dq Da Dn Dx dq da dn dx Ya Yn Yx _ (HGR.out _ ?_) ?_ HD15).mono ?_); (simp [*]); (first | assumption | (simp [*])); rintro e w16 ⟨rfl, c0, c1, c2, c3, c4, c5, hG16⟩))
  have K16 : Hid (Below (g + 1) wa w16) := hG16
  clear c0 c1 c2 c3 c4 c5 k0 k1 k2 k3 k4 k5 HD15 HZ15 h0 hG14 hG15 hG16 fq1 fq2
  have hx16 := (K16.out.block g (by have := HSA.out; omega)).trans HBX.out
  have k0 := cell_of_row _ _ 0 _ _ _ hx16
  have k1 := cell_of_row _ _ 1 _ _ _ hx16
  have k2 := cell_of_row _ _ 2 _ _ _ hx16
  have k3 := cell_of_row _ _ 3 _ _ _ hx16
  have k4 := cell_of_row _ _ 4 _ _ _ hx16
  have k5 := cell_of_row _ _ 5 _ _ _ hx16
  have hs16 : g + 1 ≤ w16.heap.size := by have := K16.out.size; rw [HSA.out] at this; exact this
  have HN := Lib.hid (negative_w M Aq Aa An Ax nq na nn nx cq ca cn cx g Za Zn Zx q w16 (HV.out.on (HBA.out.trans (K16.out.mono (Nat.le_succ g))) (Nat.le_refl g)) (by omega) HQM.out.few HQ0.out)
  rw [HID.out, HFL.out] at HN
  clear hx16 hs16
  go_wp2_with fail
  refine HN.out.mono ?_
  rintro e w17 ⟨rfl, hB17⟩
  have K17 : Hid (Below g w w17) := HBA.out.trans ((K16.out.trans (hB17.mono (by have := K16.out.size; rw [HSA.out] at this; omega))).mono (Nat.le_succ g))
  clear hB17 HN k0 k1 k2 k3 k4 k5
  cases q with
  | true =>
    go_wp2_with fail
    go_ret
    exact ⟨rfl, K17.out⟩
  | false =>
  have HF2 : Hid (T1 = T0 - a) := HFALL.out rfl
  go_upto_region 13 with fail
  have hfall : T1 = T0 - a := HF2.out
  have hbd : T0 ≤ 4294967295 := HBD.out
  by_cases hge : T0 ≤ a
  · have fge : decide (T0 ≤ a) = true := decide_eq_true hge
    have fz : ((T1 : Int) == 0) = true := beq_iff_eq.2 (by omega)
    go_wp2_with fail
    go_ret
    exact ⟨rfl, K17.out⟩
  · have fge : decide (T0 ≤ a) = false := decide_eq_false hge
    have fsub : IntKind.u32.wrap ((T0 : Int) - (a : Int)) = (T1 : Int) := by { have e : (T0 : Int) - (a : Int) = (T1 : Int) := (by omega); rw [e]; exact wrap_t (by omega) }
    have feq : ((T1 : Int) == (T1 : Int)) = true := beq_self_eq_true _
    clear hfall
    go_wp2_with fail
    go_ret
    exact ⟨rfl, K17.out⟩

/-- A message that came in is one as may come in. -/
theorem came_v {w : World} {v : Value} {M : Msg} {Aq Aa An Ax : Option Addr} {cq ca cn cx : Nat} {Za Zn Zx : List RecZ} (h : CameMsg w v M Aq Aa An Ax cq ca cn cx Za Zn Zx) : MsgV w w.heap.size M Aq Aa An Ax M.qs.length M.an.length M.ns.length M.ad.length ca cn cx Za Zn Zx ∧ BigM M :=
  ⟨⟨h.at_, rfl, rfl, rfl, rfl, h.nils.1, h.nils.2.1, h.nils.2.2⟩, ⟨h.id, h.flags, h.lens.1, h.lens.2.1, h.lens.2.2.1, h.lens.2.2.2, h.qs, h.recs⟩⟩

set_option maxRecDepth 100000 in
theorem lifted (os : Os) (started : os.Started) (H : Type) (enc : TypeId × Value → H) :
    ReturnsInHanded {} Try.checked os 10 .any (Rows.queryTimeSpec.pre6 enc Try.prog Try.f10 Rows.queryTimeRow.domain false) (Rows.queryTimeSpec.post enc Try.prog Try.f10 false true false false) := by
  refine returnsInHanded_of_change_sized (C := Try.checked) own started (by kernel_rfl) Try.func10
    (ChangeSpec.witness6 (enc := enc) (C := Try.checked) false ⟨#[], #[.agg #[.int .u16 0, .int .u16 0, .slice none 0 0, .slice none 0 0, .slice none 0 0, .slice none 0 0], .int .u64 0, .int .u64 0], []⟩ 8 (by kernel_rfl) (by kernel_rfl) (by kernel_rfl) (by kernel_rfl)) ?_
  intro W base args ds gs before hval0 hW hcnd hsz0 _
  have hval : ∀ (j : Nat) t v, Try.f10.params[j]? = some t → args[j]? = some v → Value.okWide Try.prog W .any base t v := hval0
  have hW' := hW
  obtain ⟨p, q, hA0, hV, rfl, hfz, hnd⟩ := hW
  have hA : DataW.TrodAll enc Try.prog W 0 (fun _ => true) true Try.f10.params.toList args.toList ds p := hA0
  rw [Try.params10] at hA hval
  obtain ⟨v0, vs0, d0, ds0, p0, q0, hargs, rfl, rfl, h0, r0⟩ := trodAll_cons hA
  obtain ⟨v1, vs1, d1, ds1, p1, q1, rfl, rfl, rfl, h1, r1⟩ := trodAll_cons r0
  obtain ⟨v2, vs2, d2, ds2, p2, q2, rfl, rfl, rfl, h2, r2⟩ := trodAll_cons r1
  obtain ⟨rfl, rfl, rfl⟩ := trodAll_nil r2
  obtain rfl : args = #[v0, v1, v2] := by cases args; simp_all
  obtain ⟨rfl, rfl⟩ := trodVars_none hV
  have hsz : (DataW.weightsEach Try.prog (Try.f10.params.toList ++ Rows.queryTimeSpec.plain.varTypes Try.prog) ([d0, d1, d2] ++ [])).all (· ≤ reachBytes) = true := hsz0
  have k00 := h0
  have lt0 : ∀ x ∈ p0, x.block < W.heap.size := by obtain ⟨m, hm⟩ := k00; exact DataW.trod_lt m _ _ _ hm
  obtain ⟨M0, Aq0, Aa0, An0, Ax0, cq0, ca0, cn0, cx0, Za0, Zn0, Zx0, hc0⟩ := came_msg (hval 0 26 v0 rfl rfl) h0
  obtain ⟨hmv0, hbg0⟩ := came_v hc0
  obtain rfl := hc0.val
  have hsd0 := came_sized h0 hmv0.at_ hmv0.eq (r := reachBytes) (fun n hn => by have h := List.all_eq_true.1 hsz n (DataW.weights_mem_each (j := 0) (t := 26) (d := d0) (by rw [Try.params10]; rfl) rfl n hn); simpa using h)
  have hzn0 := came_znil h0 hmv0.at_ hmv0.rows.1.2.1 hmv0.rows.2.1.2.1 hmv0.rows.2.2.2.1
  obtain ⟨z1, rfl, rfl, rfl, wf1⟩ := open_int Try.underlying52 (hval 1 52 v1 rfl rfl) h1
  have wf10 := wf1
  obtain ⟨m1, rfl, hm1⟩ := wf_w64 wf1
  obtain ⟨z2, rfl, rfl, rfl, wf2⟩ := open_int Try.underlying52 (hval 2 52 v2 rfl rfl) h2
  have wf20 := wf2
  obtain ⟨m2, rfl, hm2⟩ := wf_w64 wf2
  clear hA0 hval0
  refine (walk M0 Aq0 Aa0 An0 Ax0 _ _ _ _ cq0 ca0 cn0 cx0 Za0 Zn0 Zx0 m1 m2 W hmv0 hbg0 hzn0 (fun q hq => Nat.le_trans (hsd0 q hq) (by decide)) hm1 hm2).mono fun e W' ⟨he, bel⟩ => ?_
  subst he
  exact ⟨_, rfl, _, _, _, [], _, [], hW', trodAll_mk1 (shut_bool Try.underlying4 _), (trodAll_cons_mk (Below.trod laidOut (by kernel_rfl) (of_decide_eq_true (by kernel_rfl)) k00 bel lt0) (trodAll_cons_mk (shut_int Try.underlying52 wf10) (trodAll_cons_mk (shut_int Try.underlying52 wf20) trodAll_mk0))), rfl, bel.frame _, fun h => by cases h⟩

theorem over : Rows.queryTimeRow.holds Try.pinned (OpenSpec.ofChange Rows.queryTimeSpec) :=
  OpenClaim.holds_of_wide 10 Try.f10 rfl rfl rfl rfl rfl rfl rfl ⟨rfl, rfl, rfl, rfl, rfl⟩ rfl rfl rfl rfl rfl (by kernel_rfl) Try.func10 (by kernel_rfl)
    (of_decide_eq_true (by kernel_rfl)) (by unfold Func.isWrapper; first | (rw [if_pos (by decide +kernel)]; kernel_rfl) | (rw [if_neg (by decide +kernel)]; exact ⟨rfl, rfl⟩))
    (fun os started H enc _ => lifted os started H enc)

theorem proved : Rows.QueryTimeSaid := over
#print axioms proved
end Go.Proofs.Ytpmmjmnleoicjaa.queryTime
