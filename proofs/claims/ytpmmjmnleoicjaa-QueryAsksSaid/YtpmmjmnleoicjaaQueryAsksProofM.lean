/- Proves QueryAsks: any message asks just the document's key, or none; the query of any key is just the document's; and whether an answer fits a query is as the document says. No condition. -/
import Derived.Test.YtpmmjmnleoicjaaRows
import Derived.Test.YtpmmjmnleoicjaaQueryAsksProofX
import Derived.Test.YtpmmjmnleoicjaaQueryFailsProofG2
import Derived.Test.YtpmmjmnleoicjaaQueryFailsProofG5
import Derived.WalkKit
import Derived.ProofKit
import Derived.OpenShut
import Derived.ShutString
import Derived.ChangeOld
import Derived.Below
import Derived.Lib.Hide
import Derived.Laws.Rows
import Derived.Outline
import Derived.IntWalk
import Derived.WalkSpells
import Derived.WalkLawsBesides
import Derived.Deep.RegionHeld3
import Derived.Deep.Draws
import Derived.Deep.Heap
namespace Go.Proofs.Ytpmmjmnleoicjaa.queryAsks
open Go.ChangeShapes Go.WideShapes Go.ChangeAt Go.RowKit
open Bytes Strs Nums MsgMath NameMath RecMath WrMath QrMath QrRows
set_option linter.unusedVariables false
set_option linter.unusedSimpArgs false

theorem own : ownKnob Try.prog.godebug = none := by kernel_rfl
theorem laidOut : laidOutB Try.prog = true := by kernel_rfl
/-- What Ask tells, in one form. -/
theorem ask_form (O : Option Ky) : ∃ (y : ByteArray) (yk yl : Nat) (yd : Bool) (c : Nat), ∀ e, AskRet O e → e = .returned (.tuple #[.agg #[.string y, .int .u16 yk, .int .u16 yl, .bool yd], .int .i64 c]) := by
  cases O with
  | none => exact ⟨⟨#[]⟩, 0, 0, false, 107, fun e h => h⟩
  | some k => exact ⟨mk k.name, k.kind, k.cls, k.wants, 0, fun e h => h⟩
theorem small_make {id : Nat} {k : Ky} : SmallM (makeM id k) := by
  refine ⟨by show 1 ≤ 1000; omega, Nat.zero_le _, Nat.zero_le _, ?_, ?_⟩
  · unfold makeM
    split <;> simp
  · intro R hR
    unfold recsM makeM at hR
    simp only [List.nil_append] at hR
    split at hR
    · rw [List.mem_singleton] at hR
      subst hR
      exact small_opt
    · cases hR
theorem held18 {f : FuncId} {args : Array Value} {ret : Value} {g : Nat} {w0 : World} (a0 a1 a2 a3 a4 a5 a6 a7 a8 a9 a10 a11 a12 a13 a14 a15 a16 a17 : Addr) (v0 v1 v2 v3 v4 v5 v6 v7 v8 v9 v10 v11 v12 v13 v14 v15 v16 v17 : Value) (C : ∀ W, Below g w0 W → g ≤ W.heap.size → Calls Try.prog f args W fun e w' => e = .returned ret ∧ Below W.heap.size W w') (w : World) (hg : g ≤ w.heap.size) (hc : w.cell? a0 = some v0 ∧ w.cell? a1 = some v1 ∧ w.cell? a2 = some v2 ∧ w.cell? a3 = some v3 ∧ w.cell? a4 = some v4 ∧ w.cell? a5 = some v5 ∧ w.cell? a6 = some v6 ∧ w.cell? a7 = some v7 ∧ w.cell? a8 = some v8 ∧ w.cell? a9 = some v9 ∧ w.cell? a10 = some v10 ∧ w.cell? a11 = some v11 ∧ w.cell? a12 = some v12 ∧ w.cell? a13 = some v13 ∧ w.cell? a14 = some v14 ∧ w.cell? a15 = some v15 ∧ w.cell? a16 = some v16 ∧ w.cell? a17 = some v17 ∧ Below g w0 w) :
    Calls Try.prog f args w fun e w' => e = .returned ret ∧ w'.cell? a0 = some v0 ∧ w'.cell? a1 = some v1 ∧ w'.cell? a2 = some v2 ∧ w'.cell? a3 = some v3 ∧ w'.cell? a4 = some v4 ∧ w'.cell? a5 = some v5 ∧ w'.cell? a6 = some v6 ∧ w'.cell? a7 = some v7 ∧ w'.cell? a8 = some v8 ∧ w'.cell? a9 = some v9 ∧ w'.cell? a10 = some v10 ∧ w'.cell? a11 = some v11 ∧ w'.cell? a12 = some v12 ∧ w'.cell? a13 = some v13 ∧ w'.cell? a14 = some v14 ∧ w'.cell? a15 = some v15 ∧ w'.cell? a16 = some v16 ∧ w'.cell? a17 = some v17 ∧ Below g w0 w' := by
  obtain ⟨h0, h1, h2, h3, h4, h5, h6, h7, h8, h9, h10, h11, h12, h13, h14, h15, h16, h17, hH⟩ := hc
  refine (C w hH hg).mono ?_
  rintro e w' ⟨rfl, hB⟩
  have far : ∀ {a : Addr} {v : Value}, w.cell? a = some v → w'.cell? a = some v := fun h => (hB.cell (World.block_lt_of_cell? w _ h)).trans h
  exact ⟨rfl, far h0, far h1, far h2, far h3, far h4, far h5, far h6, far h7, far h8, far h9, far h10, far h11, far h12, far h13, far h14, far h15, far h16, far h17, hH.trans (hB.mono hg)⟩
set_option maxHeartbeats 32000000 in
set_option maxRecDepth 100000 in
theorem walk (M : Msg) (Aq Aa An Ax : Option Addr) (nq na nn nx cq ca cn cx : Nat) (Za Zn Zx : List RecZ) (id : Nat) (x : ByteArray) (kk kl : Nat) (kd : Bool) (w : World) (hv : Hid (MsgV w w.heap.size M Aq Aa An Ax nq na nn nx ca cn cx Za Zn Zx)) (hbig : Hid (BigM M)) (hidb : id ≤ 65535) (hx : x.size ≤ maxLen) (hkk : kk ≤ 65535) (hkl : kl ≤ 65535) :
    Calls Try.prog 6 #[.agg (msgA M.id M.flags Aq nq cq Aa na ca An nn cn Ax nx cx), .int .u16 id, .agg (kyA x kk kl kd)] w fun e w' => e = .returned (.bool true) ∧ Below w.heap.size w w' := by
  obtain ⟨mi, hid⟩ : ∃ n, M.id = n := ⟨_, rfl⟩
  obtain ⟨fl, hfl⟩ : ∃ n, M.flags = n := ⟨_, rfl⟩
  obtain ⟨g, hg⟩ : ∃ g, w.heap.size = g := ⟨_, rfl⟩
  obtain ⟨w0, hw0⟩ : ∃ v, w.alloc (.cells (msgA mi fl Aq nq cq Aa na ca An nn cn Ax nx cx) 26) = v := ⟨_, rfl⟩
  obtain ⟨wa, hwa⟩ : ∃ v, w0.alloc (.cells (kyA x kk kl kd) 42) = v := ⟨_, rfl⟩
  have hs0 : w0.heap.size = g + 1 := by rw [← hw0, ← hg]; simp
  have hb0 : Below g w w0 := by rw [← hw0, ← hg]; exact (Below.refl _ _).alloc (Nat.le_refl _) _
  have HBA : Hid (Below g w wa) := by rw [← hwa]; exact hb0.alloc (by omega) _
  have hx0 : w0.heap[g]? = some (.cells (msgA mi fl Aq nq cq Aa na ca An nn cn Ax nx cx) 26 (0, 0)) := by rw [← hw0, ← hg]; exact heap_alloc_new w _
  have HX : Hid (wa.heap[g]? = some (.cells (msgA mi fl Aq nq cq Aa na ca An nn cn Ax nx cx) 26 (0, 0))) := by rw [← hwa]; exact old_at hx0
  have HK : Hid (wa.heap[g + 1]? = some (.cells (kyA x kk kl kd) 42 (0, 0))) := by rw [← hwa, ← hs0]; exact heap_alloc_new w0 _
  have HSA : Hid (wa.heap.size = g + 2) := by show _ = _; rw [← hwa]; simp [hs0]
  have hv0 := hv.out
  rw [hg] at hv0
  have HV := Lib.hid hv0
  have HID := Lib.hid hid
  have HFL := Lib.hid hfl
  rw [hid, hfl, hg]
  clear hid hfl hv0 hv hb0 hx0
  go_enter Try.func6, Try.ntmps6
  go_wp2_with fail
  clear hs0
  refine (awake8_any _).mono ?_
  rintro e w1 ⟨rfl, hB1⟩
  have HB1 : Hid (Below (g + 2) wa w1) := by have := hB1; rw [HSA.out] at this; exact this
  have hx1 := (HB1.out.block g (by omega)).trans HX.out
  have hk1 := (HB1.out.block (g + 1) (by omega)).trans HK.out
  have HW1 : Hid (Below g w w1) := HBA.out.trans (HB1.out.mono (by omega))
  have HS1 : Hid (g + 2 ≤ w1.heap.size) := by have := HB1.out.size; rw [HSA.out] at this; exact this
  have HFW := Lib.hid (fewM_any M Aq Aa An Ax nq na nn nx cq ca cn cx g Za Zn Zx w1 (HV.out.on HW1.out (Nat.le_refl _)) (by have := HS1.out; omega) hbig)
  rw [HID.out, HFL.out] at HFW
  have k0 := cell_of_row _ _ 0 _ _ _ hx1
  have k1 := cell_of_row _ _ 1 _ _ _ hx1
  have k2 := cell_of_row _ _ 2 _ _ _ hx1
  have k3 := cell_of_row _ _ 3 _ _ _ hx1
  have k4 := cell_of_row _ _ 4 _ _ _ hx1
  have k5 := cell_of_row _ _ 5 _ _ _ hx1
  have j0 := cell_of_row _ _ 0 _ _ _ hk1
  have j1 := cell_of_row _ _ 1 _ _ _ hk1
  have j2 := cell_of_row _ _ 2 _ _ _ hk1
  have j3 := cell_of_row _ _ 3 _ _ _ hk1
  clear hB1 hx1 hk1 hwa hw0 hg
  go_wp2_with fail
  refine HFW.out.mono ?_
  rintro e w2 ⟨bb, rfl, hbq, hB2⟩
  have HB2 : Hid (Below (g + 2) wa w2) := HB1.out.trans (hB2.mono HS1.out)
  have HW2 : Hid (Below g w w2) := HBA.out.trans (HB2.out.mono (by omega))
  have HS2 : Hid (g + 2 ≤ w2.heap.size) := by have := HB2.out.size; rw [HSA.out] at this; exact this
  have hx2 := (HB2.out.block g (by omega)).trans HX.out
  have hk2 := (HB2.out.block (g + 1) (by omega)).trans HK.out
  have HBB := Lib.hid hbq
  clear hB2 hbq k0 k1 k2 k3 k4 k5 j0 j1 j2 j3 HFW
  have k0 := cell_of_row _ _ 0 _ _ _ hx2
  have k1 := cell_of_row _ _ 1 _ _ _ hx2
  have k2 := cell_of_row _ _ 2 _ _ _ hx2
  have k3 := cell_of_row _ _ 3 _ _ _ hx2
  have k4 := cell_of_row _ _ 4 _ _ _ hx2
  have k5 := cell_of_row _ _ 5 _ _ _ hx2
  have j0 := cell_of_row _ _ 0 _ _ _ hk2
  have j1 := cell_of_row _ _ 1 _ _ _ hk2
  have j2 := cell_of_row _ _ 2 _ _ _ hk2
  have j3 := cell_of_row _ _ 3 _ _ _ hk2
  clear hx2 hk2
  cases bb with
  | false =>
    go_wp2_with fail
    go_ret
    exact ⟨rfl, HW2.out⟩
  | true =>
  by_cases h5 : (5000 : Int) < (x.size : Int)
  · have f5 : decide ((5000 : Int) < (x.size : Int)) = true := decide_eq_true h5
    go_wp2_with fail
    go_ret
    exact ⟨rfl, HW2.out⟩
  have HXS : Hid (x.size ≤ 5000) := by show _ ≤ _; omega
  have HQM := Lib.hid (HBB.out rfl).2.2
  obtain ⟨O, hO⟩ : ∃ O, askM M = O := ⟨_, rfl⟩
  obtain ⟨y, yk, yl, yd, c, hform⟩ := ask_form O
  have HFORM := Lib.hid hform
  have HO := Lib.hid hO
  have HA1 := Lib.hid (ask_w M Aq Aa An Ax nq na nn nx cq ca cn cx g Za Zn Zx O w2 (HV.out.on HW2.out (Nat.le_refl _)) (by have := HS2.out; omega) HQM.out hO)
  rw [HID.out, HFL.out] at HA1
  clear hform hO HBB
  go_wp2_with fail
  refine HA1.out.mono ?_
  rintro e w3 ⟨hret, n3⟩
  obtain rfl := HFORM.out e hret
  have K3 : Hid (Below (g + 2) wa w3) := HB2.out.trans (n3.mono HS2.out)
  have s3 : g + 2 ≤ w3.heap.size := by have := K3.out.size; rw [HSA.out] at this; exact this
  obtain ⟨b1, hb1⟩ : ∃ b, w3.heap.size = b := ⟨_, rfl⟩
  obtain ⟨w4, hw4⟩ : ∃ v, w3.alloc (.cells #[.string y, .int .u16 yk, .int .u16 yl, .bool yd] 42) = v := ⟨_, rfl⟩
  have n4 : Below b1 w3 w4 := by rw [← hw4, ← hb1]; exact (Below.refl _ _).alloc (Nat.le_refl _) _
  have HG4 : Hid (w4.heap[b1]? = some (.cells #[.string y, .int .u16 yk, .int .u16 yl, .bool yd] 42 (0, 0))) := by rw [← hw4, ← hb1]; exact heap_alloc_new w3 _
  have S4 : Hid (w4.heap.size = b1 + 1) := by show _ = _; rw [← hw4, ← hb1]; simp
  have K4 : Hid (Below (g + 2) wa w4) := K3.out.trans (n4.mono (by omega))
  have HGB : Hid (g + 2 ≤ b1) := by show _ ≤ _; omega
  have HW4 := Lib.hid hw4
  clear n3 n4 hw4 hret HA1 s3 k0 k1 k2 k3 k4 k5 j0 j1 j2 j3
  go_upto_region 6 with fail
  rw [HW4.out]
  clear hb1
  have hx4 := (K4.out.block g (by have := HSA.out; omega)).trans HX.out
  have k0 := cell_of_row _ _ 0 _ _ _ hx4
  have k1 := cell_of_row _ _ 1 _ _ _ hx4
  have k2 := cell_of_row _ _ 2 _ _ _ hx4
  have k3 := cell_of_row _ _ 3 _ _ _ hx4
  have k4 := cell_of_row _ _ 4 _ _ _ hx4
  have k5 := cell_of_row _ _ 5 _ _ _ hx4
  have HA2 := Lib.hid (refAsk_w M Aq Aa An Ax nq na nn nx cq ca cn cx g Za Zn Zx O w4 (HV.out.on (HBA.out.trans (K4.out.mono (by omega))) (Nat.le_refl _)) (by have := S4.out; have := HGB.out; omega) HQM.out HO.out)
  rw [HID.out, HFL.out] at HA2
  clear hx4
  go_wp2_with fail
  refine HA2.out.mono ?_
  rintro e w5 ⟨hret, n5⟩
  obtain rfl := HFORM.out e hret
  rw [S4.out] at n5
  have s5 : b1 + 1 ≤ w5.heap.size := by have h := n5.size; rw [S4.out] at h; exact h
  obtain ⟨b2, hb2⟩ : ∃ b, w5.heap.size = b := ⟨_, rfl⟩
  obtain ⟨w6, hw6⟩ : ∃ v, w5.alloc (.cells #[.string y, .int .u16 yk, .int .u16 yl, .bool yd] 42) = v := ⟨_, rfl⟩
  have n6 : Below b2 w5 w6 := by rw [← hw6, ← hb2]; exact (Below.refl _ _).alloc (Nat.le_refl _) _
  have HE6 : Hid (w6.heap[b2]? = some (.cells #[.string y, .int .u16 yk, .int .u16 yl, .bool yd] 42 (0, 0))) := by rw [← hw6, ← hb2]; exact heap_alloc_new w5 _
  have S6 : Hid (w6.heap.size = b2 + 1) := by show _ = _; rw [← hw6, ← hb2]; simp
  have N6 : Hid (Below (b1 + 1) w4 w6) := n5.trans (n6.mono (by omega))
  have HGC : Hid (b1 + 1 ≤ b2) := by show _ ≤ _; omega
  have K6 : Hid (Below (g + 2) wa w6) := K4.out.trans (N6.out.mono (by have := HGB.out; omega))
  have HG6 := Lib.hid ((N6.out.block b1 (by have := S4.out; omega)).trans HG4.out)
  have HW6 := Lib.hid hw6
  clear n5 n6 hw6 hret HA2 s5 k0 k1 k2 k3 k4 k5 HFORM
  go_upto_region 7 with fail
  rw [HW6.out]
  clear hb2
  have hx6 := (K6.out.block g (by have := HSA.out; omega)).trans HX.out
  have hk6 := (K6.out.block (g + 1) (by have := HSA.out; omega)).trans HK.out
  have k0 := cell_of_row _ _ 0 _ _ _ hx6
  have k1 := cell_of_row _ _ 1 _ _ _ hx6
  have k2 := cell_of_row _ _ 2 _ _ _ hx6
  have k3 := cell_of_row _ _ 3 _ _ _ hx6
  have k4 := cell_of_row _ _ 4 _ _ _ hx6
  have k5 := cell_of_row _ _ 5 _ _ _ hx6
  have j0 := cell_of_row _ _ 0 _ _ _ hk6
  have j1 := cell_of_row _ _ 1 _ _ _ hk6
  have j2 := cell_of_row _ _ 2 _ _ _ hk6
  have j3 := cell_of_row _ _ 3 _ _ _ hk6
  have u0 := cell_of_row _ _ 0 _ _ _ HG6.out
  have u1 := cell_of_row _ _ 1 _ _ _ HG6.out
  have u2 := cell_of_row _ _ 2 _ _ _ HG6.out
  have u3 := cell_of_row _ _ 3 _ _ _ HG6.out
  have v0 := cell_of_row _ _ 0 _ _ _ HE6.out
  have v1 := cell_of_row _ _ 1 _ _ _ HE6.out
  have v2 := cell_of_row _ _ 2 _ _ _ HE6.out
  have v3 := cell_of_row _ _ 3 _ _ _ HE6.out
  have HB6 : Hid (∀ W, Below (b2 + 1) w6 W → Below g w W) := fun W h => HBA.out.trans ((K6.out.trans (h.mono (by have := HGB.out; have := HGC.out; omega))).mono (by omega))
  obtain ⟨q1, hq1⟩ : ∃ q, fitsM ⟨x.data.toList, kk, kl, kd⟩ id M = q := ⟨_, rfl⟩
  obtain ⟨q2, hq2⟩ : ∃ q, fitsM ⟨y.data.toList, yk, yl, yd⟩ mi M = q := ⟨_, rfl⟩
  have M1 := fun W (h : Below (b2 + 1) w6 W) (hs : b2 + 1 ≤ W.heap.size) => fits_w x kk kl kd id M Aq Aa An Ax nq na nn nx cq ca cn cx g Za Zn Zx q1 W (HV.out.on (HB6.out W h) (Nat.le_refl g)) (by have := HGB.out; have := HGC.out; omega) HQM.out.few hq1
  have M2 := fun W (h : Below (b2 + 1) w6 W) (hs : b2 + 1 ≤ W.heap.size) => refFits_w x kk kl kd id M Aq Aa An Ax nq na nn nx cq ca cn cx g Za Zn Zx q1 W (HV.out.on (HB6.out W h) (Nat.le_refl g)) (by have := HGB.out; have := HGC.out; omega) HQM.out.few hq1
  have M3 := fun W (h : Below (b2 + 1) w6 W) (hs : b2 + 1 ≤ W.heap.size) => fits_w y yk yl yd mi M Aq Aa An Ax nq na nn nx cq ca cn cx g Za Zn Zx q2 W (HV.out.on (HB6.out W h) (Nat.le_refl g)) (by have := HGB.out; have := HGC.out; omega) HQM.out.few hq2
  have M4 := fun W (h : Below (b2 + 1) w6 W) (hs : b2 + 1 ≤ W.heap.size) => refFits_w y yk yl yd mi M Aq Aa An Ax nq na nn nx cq ca cn cx g Za Zn Zx q2 W (HV.out.on (HB6.out W h) (Nat.le_refl g)) (by have := HGB.out; have := HGC.out; omega) HQM.out.few hq2
  rw [HID.out, HFL.out] at M1 M2 M3 M4
  have C1 := Lib.hid (fun W hs h => held18 ⟨g + 1, 0, none⟩ ⟨g + 1, 1, none⟩ ⟨g + 1, 2, none⟩ ⟨g + 1, 3, none⟩ ⟨g, 0, none⟩ ⟨g, 1, none⟩ ⟨g, 2, none⟩ ⟨g, 3, none⟩ ⟨g, 4, none⟩ ⟨g, 5, none⟩ ⟨b1, 0, none⟩ ⟨b1, 1, none⟩ ⟨b1, 2, none⟩ ⟨b1, 3, none⟩ ⟨b2, 0, none⟩ ⟨b2, 1, none⟩ ⟨b2, 2, none⟩ ⟨b2, 3, none⟩ (.string x) (.int .u16 kk) (.int .u16 kl) (.bool kd) (.int .u16 mi) (.int .u16 fl) (.slice Aq nq cq) (.slice Aa na ca) (.slice An nn cn) (.slice Ax nx cx) (.string y) (.int .u16 yk) (.int .u16 yl) (.bool yd) (.string y) (.int .u16 yk) (.int .u16 yl) (.bool yd) M1 W hs h)
  have C2 := Lib.hid (fun W hs h => held18 ⟨g + 1, 0, none⟩ ⟨g + 1, 1, none⟩ ⟨g + 1, 2, none⟩ ⟨g + 1, 3, none⟩ ⟨g, 0, none⟩ ⟨g, 1, none⟩ ⟨g, 2, none⟩ ⟨g, 3, none⟩ ⟨g, 4, none⟩ ⟨g, 5, none⟩ ⟨b1, 0, none⟩ ⟨b1, 1, none⟩ ⟨b1, 2, none⟩ ⟨b1, 3, none⟩ ⟨b2, 0, none⟩ ⟨b2, 1, none⟩ ⟨b2, 2, none⟩ ⟨b2, 3, none⟩ (.string x) (.int .u16 kk) (.int .u16 kl) (.bool kd) (.int .u16 mi) (.int .u16 fl) (.slice Aq nq cq) (.slice Aa na ca) (.slice An nn cn) (.slice Ax nx cx) (.string y) (.int .u16 yk) (.int .u16 yl) (.bool yd) (.string y) (.int .u16 yk) (.int .u16 yl) (.bool yd) M2 W hs h)
  have C3 := Lib.hid (fun W hs h => held18 ⟨g + 1, 0, none⟩ ⟨g + 1, 1, none⟩ ⟨g + 1, 2, none⟩ ⟨g + 1, 3, none⟩ ⟨g, 0, none⟩ ⟨g, 1, none⟩ ⟨g, 2, none⟩ ⟨g, 3, none⟩ ⟨g, 4, none⟩ ⟨g, 5, none⟩ ⟨b1, 0, none⟩ ⟨b1, 1, none⟩ ⟨b1, 2, none⟩ ⟨b1, 3, none⟩ ⟨b2, 0, none⟩ ⟨b2, 1, none⟩ ⟨b2, 2, none⟩ ⟨b2, 3, none⟩ (.string x) (.int .u16 kk) (.int .u16 kl) (.bool kd) (.int .u16 mi) (.int .u16 fl) (.slice Aq nq cq) (.slice Aa na ca) (.slice An nn cn) (.slice Ax nx cx) (.string y) (.int .u16 yk) (.int .u16 yl) (.bool yd) (.string y) (.int .u16 yk) (.int .u16 yl) (.bool yd) M3 W hs h)
  have C4 := Lib.hid (fun W hs h => held18 ⟨g + 1, 0, none⟩ ⟨g + 1, 1, none⟩ ⟨g + 1, 2, none⟩ ⟨g + 1, 3, none⟩ ⟨g, 0, none⟩ ⟨g, 1, none⟩ ⟨g, 2, none⟩ ⟨g, 3, none⟩ ⟨g, 4, none⟩ ⟨g, 5, none⟩ ⟨b1, 0, none⟩ ⟨b1, 1, none⟩ ⟨b1, 2, none⟩ ⟨b1, 3, none⟩ ⟨b2, 0, none⟩ ⟨b2, 1, none⟩ ⟨b2, 2, none⟩ ⟨b2, 3, none⟩ (.string x) (.int .u16 kk) (.int .u16 kl) (.bool kd) (.int .u16 mi) (.int .u16 fl) (.slice Aq nq cq) (.slice Aa na ca) (.slice An nn cn) (.slice Ax nx cx) (.string y) (.int .u16 yk) (.int .u16 yl) (.bool yd) (.string y) (.int .u16 yk) (.int .u16 yl) (.bool yd) M4 W hs h)
  have C5 : Hid (∀ W : World, b2 + 1 ≤ W.heap.size → (W.cell? ⟨g + 1, 0, none⟩ = some (.string x) ∧ W.cell? ⟨g + 1, 1, none⟩ = some (.int .u16 kk) ∧ W.cell? ⟨g + 1, 2, none⟩ = some (.int .u16 kl) ∧ W.cell? ⟨g + 1, 3, none⟩ = some (.bool kd) ∧ W.cell? ⟨g, 0, none⟩ = some (.int .u16 mi) ∧ W.cell? ⟨g, 1, none⟩ = some (.int .u16 fl) ∧ W.cell? ⟨g, 2, none⟩ = some (.slice Aq nq cq) ∧ W.cell? ⟨g, 3, none⟩ = some (.slice Aa na ca) ∧ W.cell? ⟨g, 4, none⟩ = some (.slice An nn cn) ∧ W.cell? ⟨g, 5, none⟩ = some (.slice Ax nx cx) ∧ W.cell? ⟨b1, 0, none⟩ = some (.string y) ∧ W.cell? ⟨b1, 1, none⟩ = some (.int .u16 yk) ∧ W.cell? ⟨b1, 2, none⟩ = some (.int .u16 yl) ∧ W.cell? ⟨b1, 3, none⟩ = some (.bool yd) ∧ W.cell? ⟨b2, 0, none⟩ = some (.string y) ∧ W.cell? ⟨b2, 1, none⟩ = some (.int .u16 yk) ∧ W.cell? ⟨b2, 2, none⟩ = some (.int .u16 yl) ∧ W.cell? ⟨b2, 3, none⟩ = some (.bool yd) ∧ Below (b2 + 1) w6 W) → Calls Try.prog 25 #[.int .u16 id, .agg #[.string x, .int .u16 kk, .int .u16 kl, .bool kd]] W fun e w' => ∃ Dq Dx nD cD ZD, e = .returned (.agg #[.int .u16 id, .int .u16 256, .slice Dq 1 1, .slice none 0 0, .slice none 0 0, .slice Dx nD cD]) ∧ Hid (MsgV w' w'.heap.size (makeM id ⟨x.data.toList, kk, kl, kd⟩) Dq none none Dx 1 0 0 nD 0 0 cD [] [] ZD) ∧ Hid (Below W.heap.size W w') ∧ w'.cell? ⟨g + 1, 0, none⟩ = some (.string x) ∧ w'.cell? ⟨g + 1, 1, none⟩ = some (.int .u16 kk) ∧ w'.cell? ⟨g + 1, 2, none⟩ = some (.int .u16 kl) ∧ w'.cell? ⟨g + 1, 3, none⟩ = some (.bool kd) ∧ w'.cell? ⟨g, 0, none⟩ = some (.int .u16 mi) ∧ w'.cell? ⟨g, 1, none⟩ = some (.int .u16 fl) ∧ w'.cell? ⟨g, 2, none⟩ = some (.slice Aq nq cq) ∧ w'.cell? ⟨g, 3, none⟩ = some (.slice Aa na ca) ∧ w'.cell? ⟨g, 4, none⟩ = some (.slice An nn cn) ∧ w'.cell? ⟨g, 5, none⟩ = some (.slice Ax nx cx) ∧ w'.cell? ⟨b1, 0, none⟩ = some (.string y) ∧ w'.cell? ⟨b1, 1, none⟩ = some (.int .u16 yk) ∧ w'.cell? ⟨b1, 2, none⟩ = some (.int .u16 yl) ∧ w'.cell? ⟨b1, 3, none⟩ = some (.bool yd) ∧ w'.cell? ⟨b2, 0, none⟩ = some (.string y) ∧ w'.cell? ⟨b2, 1, none⟩ = some (.int .u16 yk) ∧ w'.cell? ⟨b2, 2, none⟩ = some (.int .u16 yl) ∧ w'.cell? ⟨b2, 3, none⟩ = some (.bool yd) ∧ Below (b2 + 1) w6 w') := by
    intro W hW hc
    obtain ⟨z0, z1, z2, z3, z4, z5, z6, z7, z8, z9, z10, z11, z12, z13, z14, z15, z16, z17, hH⟩ := hc
    refine (make_is id x kk kl kd W (by have := HXS.out; omega)).mono ?_
    rintro e w' ⟨Dq, Dx, nD, cD, ZD, rfl, hmv, _, hbl⟩
    have far : ∀ {a : Addr} {v : Value}, W.cell? a = some v → w'.cell? a = some v := fun h => (hbl.cell (World.block_lt_of_cell? W _ h)).trans h
    exact ⟨Dq, Dx, nD, cD, ZD, rfl, hmv, hbl, far z0, far z1, far z2, far z3, far z4, far z5, far z6, far z7, far z8, far z9, far z10, far z11, far z12, far z13, far z14, far z15, far z16, far z17, hH.trans (hbl.mono hW)⟩
  have C6 : Hid (∀ W : World, b2 + 1 ≤ W.heap.size → (W.cell? ⟨g + 1, 0, none⟩ = some (.string x) ∧ W.cell? ⟨g + 1, 1, none⟩ = some (.int .u16 kk) ∧ W.cell? ⟨g + 1, 2, none⟩ = some (.int .u16 kl) ∧ W.cell? ⟨g + 1, 3, none⟩ = some (.bool kd) ∧ W.cell? ⟨g, 0, none⟩ = some (.int .u16 mi) ∧ W.cell? ⟨g, 1, none⟩ = some (.int .u16 fl) ∧ W.cell? ⟨g, 2, none⟩ = some (.slice Aq nq cq) ∧ W.cell? ⟨g, 3, none⟩ = some (.slice Aa na ca) ∧ W.cell? ⟨g, 4, none⟩ = some (.slice An nn cn) ∧ W.cell? ⟨g, 5, none⟩ = some (.slice Ax nx cx) ∧ W.cell? ⟨b1, 0, none⟩ = some (.string y) ∧ W.cell? ⟨b1, 1, none⟩ = some (.int .u16 yk) ∧ W.cell? ⟨b1, 2, none⟩ = some (.int .u16 yl) ∧ W.cell? ⟨b1, 3, none⟩ = some (.bool yd) ∧ W.cell? ⟨b2, 0, none⟩ = some (.string y) ∧ W.cell? ⟨b2, 1, none⟩ = some (.int .u16 yk) ∧ W.cell? ⟨b2, 2, none⟩ = some (.int .u16 yl) ∧ W.cell? ⟨b2, 3, none⟩ = some (.bool yd) ∧ Below (b2 + 1) w6 W) → Calls Try.prog 26 #[.int .u16 id, .agg #[.string x, .int .u16 kk, .int .u16 kl, .bool kd]] W fun e w' => ∃ Eq Ex nE cE ZE, e = .returned (.agg #[.int .u16 id, .int .u16 256, .slice Eq 1 1, .slice none 0 0, .slice none 0 0, .slice Ex nE cE]) ∧ Hid (MsgV w' w'.heap.size (makeM id ⟨x.data.toList, kk, kl, kd⟩) Eq none none Ex 1 0 0 nE 0 0 cE [] [] ZE) ∧ Hid (Below W.heap.size W w') ∧ w'.cell? ⟨g + 1, 0, none⟩ = some (.string x) ∧ w'.cell? ⟨g + 1, 1, none⟩ = some (.int .u16 kk) ∧ w'.cell? ⟨g + 1, 2, none⟩ = some (.int .u16 kl) ∧ w'.cell? ⟨g + 1, 3, none⟩ = some (.bool kd) ∧ w'.cell? ⟨g, 0, none⟩ = some (.int .u16 mi) ∧ w'.cell? ⟨g, 1, none⟩ = some (.int .u16 fl) ∧ w'.cell? ⟨g, 2, none⟩ = some (.slice Aq nq cq) ∧ w'.cell? ⟨g, 3, none⟩ = some (.slice Aa na ca) ∧ w'.cell? ⟨g, 4, none⟩ = some (.slice An nn cn) ∧ w'.cell? ⟨g, 5, none⟩ = some (.slice Ax nx cx) ∧ w'.cell? ⟨b1, 0, none⟩ = some (.string y) ∧ w'.cell? ⟨b1, 1, none⟩ = some (.int .u16 yk) ∧ w'.cell? ⟨b1, 2, none⟩ = some (.int .u16 yl) ∧ w'.cell? ⟨b1, 3, none⟩ = some (.bool yd) ∧ w'.cell? ⟨b2, 0, none⟩ = some (.string y) ∧ w'.cell? ⟨b2, 1, none⟩ = some (.int .u16 yk) ∧ w'.cell? ⟨b2, 2, none⟩ = some (.int .u16 yl) ∧ w'.cell? ⟨b2, 3, none⟩ = some (.bool yd) ∧ Below (b2 + 1) w6 w') := by
    intro W hW hc
    obtain ⟨z0, z1, z2, z3, z4, z5, z6, z7, z8, z9, z10, z11, z12, z13, z14, z15, z16, z17, hH⟩ := hc
    refine (refMake_is id x kk kl kd W (by have := HXS.out; omega)).mono ?_
    rintro e w' ⟨Eq, Ex, nE, cE, ZE, rfl, hmv, _, hbl⟩
    have far : ∀ {a : Addr} {v : Value}, W.cell? a = some v → w'.cell? a = some v := fun h => (hbl.cell (World.block_lt_of_cell? W _ h)).trans h
    exact ⟨Eq, Ex, nE, cE, ZE, rfl, hmv, hbl, far z0, far z1, far z2, far z3, far z4, far z5, far z6, far z7, far z8, far z9, far z10, far z11, far z12, far z13, far z14, far z15, far z16, far z17, hH.trans (hbl.mono hW)⟩
  have C7 : Hid (∀ (Dq Dx : Option Addr) (nD cD : Nat) (ZD : List RecZ) (Eq Ex : Option Addr) (nE cE : Nat) (ZE : List RecZ) (W : World), b2 + 1 ≤ W.heap.size → (W.cell? ⟨g + 1, 0, none⟩ = some (.string x) ∧ W.cell? ⟨g + 1, 1, none⟩ = some (.int .u16 kk) ∧ W.cell? ⟨g + 1, 2, none⟩ = some (.int .u16 kl) ∧ W.cell? ⟨g + 1, 3, none⟩ = some (.bool kd) ∧ W.cell? ⟨g, 0, none⟩ = some (.int .u16 mi) ∧ W.cell? ⟨g, 1, none⟩ = some (.int .u16 fl) ∧ W.cell? ⟨g, 2, none⟩ = some (.slice Aq nq cq) ∧ W.cell? ⟨g, 3, none⟩ = some (.slice Aa na ca) ∧ W.cell? ⟨g, 4, none⟩ = some (.slice An nn cn) ∧ W.cell? ⟨g, 5, none⟩ = some (.slice Ax nx cx) ∧ W.cell? ⟨b1, 0, none⟩ = some (.string y) ∧ W.cell? ⟨b1, 1, none⟩ = some (.int .u16 yk) ∧ W.cell? ⟨b1, 2, none⟩ = some (.int .u16 yl) ∧ W.cell? ⟨b1, 3, none⟩ = some (.bool yd) ∧ W.cell? ⟨b2, 0, none⟩ = some (.string y) ∧ W.cell? ⟨b2, 1, none⟩ = some (.int .u16 yk) ∧ W.cell? ⟨b2, 2, none⟩ = some (.int .u16 yl) ∧ W.cell? ⟨b2, 3, none⟩ = some (.bool yd) ∧ Below (b2 + 1) w6 W) → Hid (MsgV W W.heap.size (makeM id ⟨x.data.toList, kk, kl, kd⟩) Dq none none Dx 1 0 0 nD 0 0 cD [] [] ZD) → Hid (MsgV W W.heap.size (makeM id ⟨x.data.toList, kk, kl, kd⟩) Eq none none Ex 1 0 0 nE 0 0 cE [] [] ZE) → Calls Try.prog 19 #[.agg #[.int .u16 id, .int .u16 256, .slice Dq 1 1, .slice none 0 0, .slice none 0 0, .slice Dx nD cD], .agg #[.int .u16 id, .int .u16 256, .slice Eq 1 1, .slice none 0 0, .slice none 0 0, .slice Ex nE cE]] W fun e w' => e = .returned (.bool true) ∧ w'.cell? ⟨g + 1, 0, none⟩ = some (.string x) ∧ w'.cell? ⟨g + 1, 1, none⟩ = some (.int .u16 kk) ∧ w'.cell? ⟨g + 1, 2, none⟩ = some (.int .u16 kl) ∧ w'.cell? ⟨g + 1, 3, none⟩ = some (.bool kd) ∧ w'.cell? ⟨g, 0, none⟩ = some (.int .u16 mi) ∧ w'.cell? ⟨g, 1, none⟩ = some (.int .u16 fl) ∧ w'.cell? ⟨g, 2, none⟩ = some (.slice Aq nq cq) ∧ w'.cell? ⟨g, 3, none⟩ = some (.slice Aa na ca) ∧ w'.cell? ⟨g, 4, none⟩ = some (.slice An nn cn) ∧ w'.cell? ⟨g, 5, none⟩ = some (.slice Ax nx cx) ∧ w'.cell? ⟨b1, 0, none⟩ = some (.string y) ∧ w'.cell? ⟨b1, 1, none⟩ = some (.int .u16 yk) ∧ w'.cell? ⟨b1, 2, none⟩ = some (.int .u16 yl) ∧ w'.cell? ⟨b1, 3, none⟩ = some (.bool yd) ∧ w'.cell? ⟨b2, 0, none⟩ = some (.string y) ∧ w'.cell? ⟨b2, 1, none⟩ = some (.int .u16 yk) ∧ w'.cell? ⟨b2, 2, none⟩ = some (.int .u16 yl) ∧ w'.cell? ⟨b2, 3, none⟩ = some (.bool yd) ∧ Below (b2 + 1) w6 w') := by
    intro Dq Dx nD cD ZD Eq Ex nE cE ZE W hW hc h1 h2
    obtain ⟨z0, z1, z2, z3, z4, z5, z6, z7, z8, z9, z10, z11, z12, z13, z14, z15, z16, z17, hH⟩ := hc
    refine (same_held (makeM id ⟨x.data.toList, kk, kl, kd⟩) (makeM id ⟨x.data.toList, kk, kl, kd⟩) Dq none none Dx Eq none none Ex 1 0 0 cD 1 0 0 cE 1 0 0 nD 1 0 0 nE (b2 + 1) [] [] [] [] ZD ZE true [(⟨g + 1, 0, none⟩, (.string x)), (⟨g + 1, 1, none⟩, (.int .u16 kk)), (⟨g + 1, 2, none⟩, (.int .u16 kl)), (⟨g + 1, 3, none⟩, (.bool kd)), (⟨g, 0, none⟩, (.int .u16 mi)), (⟨g, 1, none⟩, (.int .u16 fl)), (⟨g, 2, none⟩, (.slice Aq nq cq)), (⟨g, 3, none⟩, (.slice Aa na ca)), (⟨g, 4, none⟩, (.slice An nn cn)), (⟨g, 5, none⟩, (.slice Ax nx cx)), (⟨b1, 0, none⟩, (.string y)), (⟨b1, 1, none⟩, (.int .u16 yk)), (⟨b1, 2, none⟩, (.int .u16 yl)), (⟨b1, 3, none⟩, (.bool yd)), (⟨b2, 0, none⟩, (.string y)), (⟨b2, 1, none⟩, (.int .u16 yk)), (⟨b2, 2, none⟩, (.int .u16 yl)), (⟨b2, 3, none⟩, (.bool yd))] w6 W h1 h2 small_make small_make ⟨fun _ => rfl, fun _ => rfl⟩ hW (fun p hp => by simp only [List.mem_cons, List.not_mem_nil, or_false] at hp; rcases hp with rfl | rfl | rfl | rfl | rfl | rfl | rfl | rfl | rfl | rfl | rfl | rfl | rfl | rfl | rfl | rfl | rfl | rfl <;> assumption) hH).mono ?_
    rintro e w' ⟨rfl, hcs, hbl⟩
    exact (show _ ∧ w'.cell? ⟨g + 1, 0, none⟩ = some (.string x) ∧ w'.cell? ⟨g + 1, 1, none⟩ = some (.int .u16 kk) ∧ w'.cell? ⟨g + 1, 2, none⟩ = some (.int .u16 kl) ∧ w'.cell? ⟨g + 1, 3, none⟩ = some (.bool kd) ∧ w'.cell? ⟨g, 0, none⟩ = some (.int .u16 mi) ∧ w'.cell? ⟨g, 1, none⟩ = some (.int .u16 fl) ∧ w'.cell? ⟨g, 2, none⟩ = some (.slice Aq nq cq) ∧ w'.cell? ⟨g, 3, none⟩ = some (.slice Aa na ca) ∧ w'.cell? ⟨g, 4, none⟩ = some (.slice An nn cn) ∧ w'.cell? ⟨g, 5, none⟩ = some (.slice Ax nx cx) ∧ w'.cell? ⟨b1, 0, none⟩ = some (.string y) ∧ w'.cell? ⟨b1, 1, none⟩ = some (.int .u16 yk) ∧ w'.cell? ⟨b1, 2, none⟩ = some (.int .u16 yl) ∧ w'.cell? ⟨b1, 3, none⟩ = some (.bool yd) ∧ w'.cell? ⟨b2, 0, none⟩ = some (.string y) ∧ w'.cell? ⟨b2, 1, none⟩ = some (.int .u16 yk) ∧ w'.cell? ⟨b2, 2, none⟩ = some (.int .u16 yl) ∧ w'.cell? ⟨b2, 3, none⟩ = some (.bool yd) ∧ Below (b2 + 1) w6 w' from ⟨rfl, hcs (⟨g + 1, 0, none⟩, (.string x)) (by simp), hcs (⟨g + 1, 1, none⟩, (.int .u16 kk)) (by simp), hcs (⟨g + 1, 2, none⟩, (.int .u16 kl)) (by simp), hcs (⟨g + 1, 3, none⟩, (.bool kd)) (by simp), hcs (⟨g, 0, none⟩, (.int .u16 mi)) (by simp), hcs (⟨g, 1, none⟩, (.int .u16 fl)) (by simp), hcs (⟨g, 2, none⟩, (.slice Aq nq cq)) (by simp), hcs (⟨g, 3, none⟩, (.slice Aa na ca)) (by simp), hcs (⟨g, 4, none⟩, (.slice An nn cn)) (by simp), hcs (⟨g, 5, none⟩, (.slice Ax nx cx)) (by simp), hcs (⟨b1, 0, none⟩, (.string y)) (by simp), hcs (⟨b1, 1, none⟩, (.int .u16 yk)) (by simp), hcs (⟨b1, 2, none⟩, (.int .u16 yl)) (by simp), hcs (⟨b1, 3, none⟩, (.bool yd)) (by simp), hcs (⟨b2, 0, none⟩, (.string y)) (by simp), hcs (⟨b2, 1, none⟩, (.int .u16 yk)) (by simp), hcs (⟨b2, 2, none⟩, (.int .u16 yl)) (by simp), hcs (⟨b2, 3, none⟩, (.bool yd)) (by simp), hbl⟩)
  have HGR : Hid (∀ W : World, W.cell? ⟨b2, 0, none⟩ = some (.string y) → b2 + 1 ≤ W.heap.size) := fun W h => by have h2 : b2 < W.heap.size := World.block_lt_of_cell? W _ h; omega
  have h0 : Below (b2 + 1) w6 w6.drew := (Below.refl _ _).drew
  have fq0 : (y.toList == y.toList) = true := beq_self_eq_true _
  have fq1 : ((yk : Int) == (yk : Int)) = true := beq_self_eq_true _
  have fq2 : ((yl : Int) == (yl : Int)) = true := beq_self_eq_true _
  have fq3 : (yd == yd) = true := beq_self_eq_true _
  have fq4 : ((c : Int) == (c : Int)) = true := beq_self_eq_true _
  have fq5 : (q1 == q1) = true := beq_self_eq_true _
  have fq6 : (q2 == q2) = true := beq_self_eq_true _
  clear hx6 hk6 hq1 hq2 M1 M2 M3 M4
  go_region_held3 (fun w' => w'.cell? ⟨g + 1, 0, none⟩ = some (.string x) ∧ w'.cell? ⟨g + 1, 1, none⟩ = some (.int .u16 kk) ∧ w'.cell? ⟨g + 1, 2, none⟩ = some (.int .u16 kl) ∧ w'.cell? ⟨g + 1, 3, none⟩ = some (.bool kd) ∧ w'.cell? ⟨g, 0, none⟩ = some (.int .u16 mi) ∧ w'.cell? ⟨g, 1, none⟩ = some (.int .u16 fl) ∧ w'.cell? ⟨g, 2, none⟩ = some (.slice Aq nq cq) ∧ w'.cell? ⟨g, 3, none⟩ = some (.slice Aa na ca) ∧ w'.cell? ⟨g, 4, none⟩ = some (.slice An nn cn) ∧ w'.cell? ⟨g, 5, none⟩ = some (.slice Ax nx cx) ∧ w'.cell? ⟨b1, 0, none⟩ = some (.string y) ∧ w'.cell? ⟨b1, 1, none⟩ = some (.int .u16 yk) ∧ w'.cell? ⟨b1, 2, none⟩ = some (.int .u16 yl) ∧ w'.cell? ⟨b1, 3, none⟩ = some (.bool yd) ∧ w'.cell? ⟨b2, 0, none⟩ = some (.string y) ∧ w'.cell? ⟨b2, 1, none⟩ = some (.int .u16 yk) ∧ w'.cell? ⟨b2, 2, none⟩ = some (.int .u16 yl) ∧ w'.cell? ⟨b2, 3, none⟩ = some (.bool yd) ∧ Below (b2 + 1) w6 w') (first | assumption | go_keep) (first | (go_at_call 25; (with_reducible refine (C5.out _ (HGR.out _ ?_) ?_).mono ?_); (simp [*]); (first | assumption | (simp [*])); rintro e w11 ⟨Dq, Dx, nD, cD, ZD, rfl, HMD, HLD, c0, c1, c2, c3, c4, c5, c6, c7, c8, c9, c10, c11, c12, c13, c14, c15, c16, c17, hG11⟩) | (go_at_call 26; (with_reducible refine (C6.out _ (HGR.out _ ?_) ?_).mono ?_); (simp [*]); (first | assumption | (simp [*])); rintro e w12 ⟨Eq, Ex, nE, cE, ZE, rfl, HME, HLE, c0, c1, c2, c3, c4, c5, c6, c7, c8, c9, c10, c11, c12, c13, c14, c15, c16, c17, hG12⟩) | (go_at_call 19; (with_reducible refine (C7.out Dq Dx nD cD ZD Eq Ex nE cE ZE _ (HGR.out _ ?_) ?_ ?_ ?_).mono ?_); (simp [*]); (first | assumption | (simp [*])); (first | exact HMD | exact HMD.out.on HLE.out HLE.out.size); (first | exact HME | exact HME.out.on HLD.out HLD.out.size); rintro e w14 ⟨rfl, c0, c1, c2, c3, c4, c5, c6, c7, c8, c9, c10, c11, c12, c13, c14, c15, c16, c17, hG14⟩) | (go_at_call 27; (with_reducible refine (C1.out _ (HGR.out _ ?_) ?_).mono ?_); (simp [*]); (first | assumption | (simp [*])); rintro e w7 ⟨rfl, c0, c1, c2, c3, c4, c5, c6, c7, c8, c9, c10, c11, c12, c13, c14, c15, c16, c17, hG7⟩) | (go_at_call 27; (with_reducible refine (C3.out _ (HGR.out _ ?_) ?_).mono ?_); (simp [*]); (first | assumption | (simp [*])); rintro e w8 ⟨rfl, c0, c1, c2, c3, c4, c5, c6, c7, c8, c9, c10, c11, c12, c13, c14, c15, c16, c17, hG8⟩) | (go_at_call 28; (with_reducible refine (C2.out _ (HGR.out _ ?_) ?_).mono ?_); (simp [*]); (first | assumption | (simp [*])); rintro e w9 ⟨rfl, c0, c1, c2, c3, c4, c5, c6, c7, c8, c9, c10, c11, c12, c13, c14, c15, c16, c17, hG9⟩) | (go_at_call 28; (with_reducible refine (C4.out _ (HGR.out _ ?_) ?_).mono ?_); (simp [*]); (first | assumption | (simp [*])); rintro e w10 ⟨rfl, c0, c1, c2, c3, c4, c5, c6, c7, c8, c9, c10, c11, c12, c13, c14, c15, c16, c17, hG10⟩))
  all_goals
    go_wp2_with fail
    go_ret
    exact ⟨rfl, HB6.out _ (by assumption)⟩

/-- A message that came in is one as may come in. -/
theorem came_v {w : World} {v : Value} {M : Msg} {Aq Aa An Ax : Option Addr} {cq ca cn cx : Nat} {Za Zn Zx : List RecZ} (h : CameMsg w v M Aq Aa An Ax cq ca cn cx Za Zn Zx) : MsgV w w.heap.size M Aq Aa An Ax M.qs.length M.an.length M.ns.length M.ad.length ca cn cx Za Zn Zx ∧ BigM M :=
  ⟨⟨h.at_, rfl, rfl, rfl, rfl, h.nils.1, h.nils.2.1, h.nils.2.2⟩, ⟨h.id, h.flags, h.lens.1, h.lens.2.1, h.lens.2.2.1, h.lens.2.2.2, h.qs, h.recs⟩⟩

set_option maxRecDepth 100000 in
theorem lifted (os : Os) (started : os.Started) (H : Type) (enc : TypeId × Value → H) :
    ReturnsInHanded {} Try.checked os 6 .any (Rows.queryAsksSpec.pre6 enc Try.prog Try.f6 Rows.queryAsksRow.domain false) (Rows.queryAsksSpec.post enc Try.prog Try.f6 false true false false) := by
  refine returnsInHanded_of_change (C := Try.checked) own started (by kernel_rfl) Try.func6
    (ChangeSpec.witness6 (enc := enc) (C := Try.checked) false ⟨#[], #[.agg #[.int .u16 0, .int .u16 0, .slice none 0 0, .slice none 0 0, .slice none 0 0, .slice none 0 0], .int .u16 0, .agg #[.string ByteArray.empty, .int .u16 0, .int .u16 0, .bool false]], []⟩ 8 (by kernel_rfl) (by kernel_rfl) (by kernel_rfl) (by kernel_rfl)) ?_
  intro W base args ds gs before hval0 hW hcnd _
  have hval : ∀ (j : Nat) t v, Try.f6.params[j]? = some t → args[j]? = some v → Value.okWide Try.prog W .any base t v := hval0
  have hW' := hW
  obtain ⟨p, q, hA0, hV, rfl, hfz, hnd⟩ := hW
  have hA : DataW.TrodAll enc Try.prog W 0 (fun _ => true) true Try.f6.params.toList args.toList ds p := hA0
  rw [Try.params6] at hA hval
  obtain ⟨v0, vs0, d0, ds0, p0, q0, hargs, rfl, rfl, h0, r0⟩ := trodAll_cons hA
  obtain ⟨v1, vs1, d1, ds1, p1, q1, rfl, rfl, rfl, h1, r1⟩ := trodAll_cons r0
  obtain ⟨v2, vs2, d2, ds2, p2, q2, rfl, rfl, rfl, h2, r2⟩ := trodAll_cons r1
  obtain ⟨rfl, rfl, rfl⟩ := trodAll_nil r2
  obtain rfl : args = #[v0, v1, v2] := by cases args; simp_all
  obtain ⟨rfl, rfl⟩ := trodVars_none hV
  have k00 := h0
  have lt0 : ∀ x ∈ p0, x.block < W.heap.size := by obtain ⟨m, hm⟩ := k00; exact DataW.trod_lt m _ _ _ hm
  have k20 := h2
  have lt2 : ∀ x ∈ p2, x.block < W.heap.size := by obtain ⟨m, hm⟩ := k20; exact DataW.trod_lt m _ _ _ hm
  obtain ⟨M0, Aq0, Aa0, An0, Ax0, cq0, ca0, cn0, cx0, Za0, Zn0, Zx0, hc0⟩ := came_msg (hval 0 26 v0 rfl rfl) h0
  obtain ⟨hmv0, hbg0⟩ := came_v hc0
  obtain rfl := hc0.val
  obtain ⟨z1, rfl, rfl, rfl, wf1⟩ := open_int Try.underlying22 (hval 1 22 v1 rfl rfl) h1
  have wf10 := wf1
  obtain ⟨m1, rfl, hm1⟩ := wf_u16 wf1
  obtain ⟨x2, kk2, kl2, kd2, hc2⟩ := came_key (hval 2 42 v2 rfl rfl) h2
  obtain ⟨rfl, hx2, hk2, hl2⟩ := hc2
  clear hA0 hval0
  refine (walk M0 Aq0 Aa0 An0 Ax0 _ _ _ _ cq0 ca0 cn0 cx0 Za0 Zn0 Zx0 m1 x2 kk2 kl2 kd2 W hmv0 hbg0 hm1 hx2 hk2 hl2).mono fun e W' ⟨he, bel⟩ => ?_
  subst he
  exact ⟨_, rfl, _, _, _, [], _, [], hW', trodAll_mk1 (shut_bool Try.underlying4 _), (trodAll_cons_mk (Below.trod laidOut (by kernel_rfl) (of_decide_eq_true (by kernel_rfl)) k00 bel lt0) (trodAll_cons_mk (shut_int Try.underlying22 wf10) (trodAll_cons_mk (Below.trod laidOut (by kernel_rfl) (of_decide_eq_true (by kernel_rfl)) k20 bel lt2) trodAll_mk0))), rfl, bel.frame _, fun h => by cases h⟩

theorem over : Rows.queryAsksRow.holds Try.pinned (OpenSpec.ofChange Rows.queryAsksSpec) :=
  OpenClaim.holds_of_wide 6 Try.f6 rfl rfl rfl rfl rfl rfl rfl ⟨rfl, rfl, rfl, rfl, rfl⟩ rfl rfl rfl rfl rfl (by kernel_rfl) Try.func6 (by kernel_rfl)
    (of_decide_eq_true (by kernel_rfl)) (by unfold Func.isWrapper; first | (rw [if_pos (by decide +kernel)]; kernel_rfl) | (rw [if_neg (by decide +kernel)]; exact ⟨rfl, rfl⟩))
    (fun os started H enc _ => lifted os started H enc)

theorem proved : Rows.QueryAsksSaid := over
#print axioms proved
end Go.Proofs.Ytpmmjmnleoicjaa.queryAsks
