/- Proves QueryAges: any message behind any seconds, and the failure of any query, are just the document's; the message stays as it was. No condition. -/
import Derived.Test.YtpmmjmnleoicjaaRows
import Derived.Test.YtpmmjmnleoicjaaQueryAgesProofX
import Derived.Test.YtpmmjmnleoicjaaQueryFailsProofG5
import Derived.Test.YtpmmjmnleoicjaaQueryFailsProofG2
import Derived.Test.YtpmmjmnleoicjaaQueryFailsProofG6
import Derived.Test.YtpmmjmnleoicjaaQueryFailsProofG1
import Derived.WalkKit
import Derived.ProofKit
import Derived.OpenShut
import Derived.ShutString
import Derived.ChangeOld
import Derived.Below
import Derived.SizedLaws
import Derived.Lib.Hide
import Derived.Laws.Rows
import Derived.Outline
import Derived.IntWalk
import Derived.WalkSpells
import Derived.WalkLawsBesides
import Derived.Deep.RegionHeld3
import Derived.Deep.Draws
import Derived.Deep.Heap
import Derived.Deep.Cut
import Derived.Deep.CutBlock
import Derived.Deep.CutRange
namespace Go.Proofs.Ytpmmjmnleoicjaa.queryAges
open Go.ChangeShapes Go.WideShapes Go.ChangeAt Go.RowKit
open Bytes Strs Nums MsgMath NameMath RecMath WrMath QrMath QrRows QrTimes
set_option linter.unusedVariables false
set_option linter.unusedSimpArgs false

theorem own : ownKnob Try.prog.godebug = none := by kernel_rfl
theorem laidOut : laidOutB Try.prog = true := by kernel_rfl
theorem small_q {M : Msg} (h : QM M) : SmallM M := ⟨h.few.nq, h.few.na, h.few.nn, h.few.nx, fun R hR => (h.recs R hR).1⟩
theorem wf_w64 {z : Int} (h : (Lit.int .u64 z).wf = true) : ∃ k : Nat, z = (k : Int) ∧ k ≤ 18446744073709551615 := by
  have h' : 0 ≤ z ∧ z ≤ 18446744073709551615 := by
    have h2 : IntKind.u64.min ≤ z ∧ z ≤ IntKind.u64.max := by simpa [Lit.wf] using h
    exact h2
  exact ⟨z.toNat, by omega, by omega⟩
theorem wf_u16 {z : Int} (h : (Lit.int .u16 z).wf = true) : ∃ k : Nat, z = (k : Int) ∧ k ≤ 65535 := by
  have h' : 0 ≤ z ∧ z ≤ 65535 := by
    have h2 : IntKind.u16.min ≤ z ∧ z ≤ IntKind.u16.max := by simpa [Lit.wf] using h
    exact h2
  exact ⟨z.toNat, by omega, by omega⟩
/-- A row of records of a call's own, with all that is known of it. -/
theorem row_all {w : World} {g : Nat} {v : Value} {L : List Rec} (h : RowRecs w g v L) : ∃ (Z : List RecZ) (A : Option Addr) (c : Nat), v = .slice A L.length c ∧ CellsAt w w.heap.size A (recCs Z) ∧ ZAt w w.heap.size Z ∧ Z.map (·.1) = L ∧ (A = none → c = 0) ∧ ∀ z ∈ Z, RecIn w g z.1 z.2.1 z.2.2.1 z.2.2.2 := by
  obtain ⟨Z, h1, h2, h3⟩ := h
  obtain ⟨A, c, e, hc⟩ := cells_own h2
  refine ⟨Z, A, c, e, hc, zAt_own h3, h1, fun hA => ?_, h3⟩
  subst hA
  exact own_nil h2 e
theorem rows_all {w : World} {g : Nat} {M : Msg} {vq va vn vx : Value} (h : MsgRows w g M vq va vn vx) : ∃ Bq Ba Bn Bx dq da dn dx Ya Yn Yx, vq = .slice Bq M.qs.length dq ∧ va = .slice Ba M.an.length da ∧ vn = .slice Bn M.ns.length dn ∧ vx = .slice Bx M.ad.length dx ∧ MsgV w w.heap.size M Bq Ba Bn Bx M.qs.length M.an.length M.ns.length M.ad.length da dn dx Ya Yn Yx ∧ ∀ z ∈ Ya ++ Yn ++ Yx, RecIn w g z.1 z.2.1 z.2.2.1 z.2.2.2 := by
  obtain ⟨Bq, dq, e0, hq⟩ := cells_own h.q
  obtain ⟨Ya, Ba, da, e1, ha, za, ma, na, oa⟩ := row_all h.a
  obtain ⟨Yn, Bn, dn, e2, hn, zn, mn, nn, on⟩ := row_all h.n
  obtain ⟨Yx, Bx, dx, e3, hx, zx, mx, nx, ox⟩ := row_all h.x
  refine ⟨Bq, Ba, Bn, Bx, dq, da, dn, dx, Ya, Yn, Yx, e0, e1, e2, e3, ⟨⟨hq, ha, hn, hx, za, zn, zx, ma, mn, mx⟩, rfl, rfl, rfl, rfl, na, nn, nx⟩, fun z hz => ?_⟩
  rcases List.mem_append.1 hz with hz | hz
  · rcases List.mem_append.1 hz with hz | hz
    · exact oa z hz
    · exact on z hz
  · exact ox z hz
/-- The cells of a row of questions of a call's own can be written. -/
theorem wrq_of {w : World} {base n c : Nat} {A : Option Addr} {xs : List Value} (h : w.ownsRow base 62 3 (.slice A n c) n xs) : WrS w base w.heap.size A (n * 3) := fun hn => by
  obtain ⟨hl, ⟨_, h0⟩ | ⟨b, cap, cur, e, hb, hh, hnc, hcm, hcs, ht⟩⟩ := h
  · omega
  · injection e with e _ _
    refine ⟨b, e, hb, (Array.getElem?_eq_some_iff.1 hh).1, fun k hk => ⟨?_, Lib.frozen_of_heap hh k⟩⟩
    have hk2 : k < cur.size := by
      have : n * 3 ≤ cap * 3 := Nat.mul_le_mul_right _ hnc
      omega
    exact ⟨cur[k], by rw [Lib.cell_of_heap hh]; exact Array.getElem?_eq_getElem hk2⟩
/-- A record of a row, with lists that can be written. -/
theorem recs_getW {w w0 : World} {base g n c : Nat} {A : Option Addr} {Z : List RecZ} (h : w.ownsRow base 60 7 (.slice A n c) n (recCs Z)) (hz : ∀ z ∈ Z, RecIn w0 g z.1 z.2.1 z.2.2.1 z.2.2.2) (hs : ∀ z ∈ Z, Small z.1) {k : Nat} (hk : k < Z.length) : ∃ (b : Nat) (x : ByteArray) (rk rc rt : Nat) (A1 : Option Addr) (n1 c1 : Nat) (A2 : Option Addr) (n2 c2 : Nat) (A3 : Option Addr) (n3 c3 : Nat), A = some ⟨b, 0, none⟩ ∧ base ≤ b ∧ b < w.heap.size ∧ WrS w0 g w0.heap.size A1 n1 ∧ WrS w0 g w0.heap.size A2 n2 ∧ WrS w0 g w0.heap.size A3 n3 ∧ (n1 ≤ 1000000 ∧ n2 ≤ 1000000 ∧ n3 ≤ 1000000) ∧
    w.cell? ⟨b, k * 7, none⟩ = some (.string x) ∧ w.cell? ⟨b, k * 7 + 1, none⟩ = some (.int .u16 rk) ∧ w.cell? ⟨b, k * 7 + 2, none⟩ = some (.int .u16 rc) ∧ w.cell? ⟨b, k * 7 + 3, none⟩ = some (.int .u32 rt) ∧ w.cell? ⟨b, k * 7 + 4, none⟩ = some (.slice A1 n1 c1) ∧ w.cell? ⟨b, k * 7 + 5, none⟩ = some (.slice A2 n2 c2) ∧ w.cell? ⟨b, k * 7 + 6, none⟩ = some (.slice A3 n3 c3) := by
  have e := fun j (hj : j < 7) => recCs_at (Z := Z) hk hj
  have hin := hz (Z[k]) (List.getElem_mem hk)
  have hsm := hs (Z[k]) (List.getElem_mem hk)
  obtain ⟨A1, c1, e1, _⟩ := cells_own hin.o1
  obtain ⟨A2, c2, e2, _⟩ := cells_own hin.o2
  obtain ⟨A3, c3, e3, _⟩ := cells_own hin.o3
  have o1 := hin.o1
  have o2 := hin.o2
  have o3 := hin.o3
  rw [e1] at o1
  rw [e2] at o2
  rw [e3] at o3
  have h' := h
  obtain ⟨hl, ⟨h0, hn0⟩ | ⟨bb, cap, cur, ev, hbb, hh, h2⟩⟩ := h
  · have := (List.getElem?_eq_some_iff.1 (e 0 (by decide))).1
    rw [hl, hn0] at this
    omega
  · injection ev with ev _ _
    subst ev
    have hc' : ∀ (j : Nat) (u : Value), (recCs Z)[j]? = some u → w.cell? ⟨bb, j, none⟩ = some u := fun j u hu => by
      have := h'.cells (g := bb) rfl j u hu
      rwa [add_at] at this
    exact ⟨bb, mk (Z[k]).1.name, (Z[k]).1.kind, (Z[k]).1.cls, (Z[k]).1.ttl, A1, _, c1, A2, _, c2, A3, _, c3, rfl, hbb, (Array.getElem?_eq_some_iff.1 hh).1, wrs_of o1, wrs_of o2, wrs_of o3, ⟨Nat.le_trans hsm.n1 (by decide), Nat.le_trans hsm.n2 (by decide), Nat.le_trans hsm.n3 (by decide)⟩, hc' (k * 7) _ (e 0 (by decide)), hc' (k * 7 + 1) _ (e 1 (by decide)), hc' (k * 7 + 2) _ (e 2 (by decide)), hc' (k * 7 + 3) _ (e 3 (by decide)), hc' (k * 7 + 4) _ ((e 4 (by decide)).trans (by rw [e1]; rfl)), hc' (k * 7 + 5) _ ((e 5 (by decide)).trans (by rw [e2]; rfl)), hc' (k * 7 + 6) _ ((e 6 (by decide)).trans (by rw [e3]; rfl))⟩
theorem failM_v {w : World} {B no nq : Nat} {A : Option Addr} {M : Msg} (h : CellsAt w B A (qnCs M.qs)) (hq : M.qs.length = nq) : MsgV w B (failM no M) A none none none nq 0 0 0 0 0 0 [] [] [] :=
  ⟨⟨h, .inl rfl, .inl rfl, .inl rfl, (fun z hz => by cases hz), (fun z hz => by cases hz), (fun z hz => by cases hz), rfl, rfl, rfl⟩, hq, rfl, rfl, rfl, fun _ => rfl, fun _ => rfl, fun _ => rfl⟩
theorem small_fail {no : Nat} {M : Msg} (h : QM M) : SmallM (failM no M) := ⟨h.few.nq, Nat.zero_le _, Nat.zero_le _, Nat.zero_le _, fun R hR => by simp [recsM, failM] at hR⟩
theorem small_aged {s : Nat} {M : Msg} (h : QM M) : SmallM (ageM s M) := small_q (qm_age h)
theorem held18 {f : FuncId} {args : Array Value} {ret : Value} {g : Nat} {w0 : World} (a0 a1 a2 a3 a4 a5 a6 a7 a8 a9 a10 a11 a12 a13 a14 a15 a16 a17 : Addr) (v0 v1 v2 v3 v4 v5 v6 v7 v8 v9 v10 v11 v12 v13 v14 v15 v16 v17 : Value) (C : ∀ W, Below g w0 W → g ≤ W.heap.size → Calls Try.prog f args W fun e w' => e = .returned ret ∧ Below W.heap.size W w') (w : World) (hg : g ≤ w.heap.size) (hc : w.cell? a0 = some v0 ∧ w.cell? a1 = some v1 ∧ w.cell? a2 = some v2 ∧ w.cell? a3 = some v3 ∧ w.cell? a4 = some v4 ∧ w.cell? a5 = some v5 ∧ w.cell? a6 = some v6 ∧ w.cell? a7 = some v7 ∧ w.cell? a8 = some v8 ∧ w.cell? a9 = some v9 ∧ w.cell? a10 = some v10 ∧ w.cell? a11 = some v11 ∧ w.cell? a12 = some v12 ∧ w.cell? a13 = some v13 ∧ w.cell? a14 = some v14 ∧ w.cell? a15 = some v15 ∧ w.cell? a16 = some v16 ∧ w.cell? a17 = some v17 ∧ Below g w0 w) :
    Calls Try.prog f args w fun e w' => e = .returned ret ∧ w'.cell? a0 = some v0 ∧ w'.cell? a1 = some v1 ∧ w'.cell? a2 = some v2 ∧ w'.cell? a3 = some v3 ∧ w'.cell? a4 = some v4 ∧ w'.cell? a5 = some v5 ∧ w'.cell? a6 = some v6 ∧ w'.cell? a7 = some v7 ∧ w'.cell? a8 = some v8 ∧ w'.cell? a9 = some v9 ∧ w'.cell? a10 = some v10 ∧ w'.cell? a11 = some v11 ∧ w'.cell? a12 = some v12 ∧ w'.cell? a13 = some v13 ∧ w'.cell? a14 = some v14 ∧ w'.cell? a15 = some v15 ∧ w'.cell? a16 = some v16 ∧ w'.cell? a17 = some v17 ∧ Below g w0 w' := by
  obtain ⟨h0, h1, h2, h3, h4, h5, h6, h7, h8, h9, h10, h11, h12, h13, h14, h15, h16, h17, hH⟩ := hc
  refine (C w hH hg).mono ?_
  rintro e w' ⟨rfl, hB⟩
  have far : ∀ {a : Addr} {v : Value}, w.cell? a = some v → w'.cell? a = some v := fun h => (hB.cell (World.block_lt_of_cell? w _ h)).trans h
  exact ⟨rfl, far h0, far h1, far h2, far h3, far h4, far h5, far h6, far h7, far h8, far h9, far h10, far h11, far h12, far h13, far h14, far h15, far h16, far h17, hH.trans (hB.mono hg)⟩
set_option maxHeartbeats 32000000 in
set_option maxRecDepth 100000 in
theorem walk (M : Msg) (Aq Aa An Ax : Option Addr) (nq na nn nx cq ca cn cx : Nat) (Za Zn Zx : List RecZ) (sec no : Nat) (w : World) (hv : Hid (MsgV w w.heap.size M Aq Aa An Ax nq na nn nx ca cn cx Za Zn Zx)) (hbig : Hid (BigM M)) (HZ : Hid (ZNil Za ∧ ZNil Zn ∧ ZNil Zx)) (HNM : Hid (∀ q ∈ M.qs, q.name.length ≤ cloneMost)) (hsec : sec ≤ 18446744073709551615) (hno : no ≤ 65535) :
    Calls Try.prog 8 #[.agg (msgA M.id M.flags Aq nq cq Aa na ca An nn cn Ax nx cx), .int .u64 sec, .int .u16 no] w fun e w' => e = .returned (.bool true) ∧ Below w.heap.size w w' := by
  obtain ⟨id, hid⟩ : ∃ n, M.id = n := ⟨_, rfl⟩
  obtain ⟨fl, hfl⟩ : ∃ n, M.flags = n := ⟨_, rfl⟩
  obtain ⟨g, hg⟩ : ∃ g, w.heap.size = g := ⟨_, rfl⟩
  obtain ⟨wa, hwa⟩ : ∃ wa, w.alloc (.cells (msgA id fl Aq nq cq Aa na ca An nn cn Ax nx cx) 26) = wa := ⟨_, rfl⟩
  have HBA : Hid (Below g w wa) := by rw [← hwa, ← hg]; exact (Below.refl _ _).alloc (Nat.le_refl _) _
  have HBX : Hid (wa.heap[g]? = some (.cells (msgA id fl Aq nq cq Aa na ca An nn cn Ax nx cx) 26 (0, 0))) := by rw [← hwa, ← hg]; exact heap_alloc_new w _
  have HSA : Hid (wa.heap.size = g + 1) := by show _ = _; rw [← hwa, ← hg]; simp
  have hv0 := hv.out
  rw [hg] at hv0
  have HV := Lib.hid hv0
  have HID := Lib.hid hid
  have HFL := Lib.hid hfl
  rw [hid, hfl, hg]
  clear hid hfl hv0 hv
  go_enter Try.func8, Try.ntmps8
  go_wp2_with fail
  refine (awake8_any _).mono ?_
  rintro e w1 ⟨rfl, hB1⟩
  have HB1 : Hid (Below (g + 1) wa w1) := by have := hB1; rw [HSA.out] at this; exact this
  have hx1 := (HB1.out.block g (Nat.lt_succ_self g)).trans HBX.out
  have HW1 : Hid (Below g w w1) := HBA.out.trans (HB1.out.mono (Nat.le_succ _))
  have HS1 : Hid (g + 1 ≤ w1.heap.size) := by have := HB1.out.size; rw [HSA.out] at this; exact this
  have HFW := Lib.hid (fewM_any M Aq Aa An Ax nq na nn nx cq ca cn cx g Za Zn Zx w1 (HV.out.on HW1.out (Nat.le_refl _)) (by have := HS1.out; omega) hbig)
  rw [HID.out, HFL.out] at HFW
  have k0 := cell_of_row _ _ 0 _ _ _ hx1
  have k1 := cell_of_row _ _ 1 _ _ _ hx1
  have k2 := cell_of_row _ _ 2 _ _ _ hx1
  have k3 := cell_of_row _ _ 3 _ _ _ hx1
  have k4 := cell_of_row _ _ 4 _ _ _ hx1
  have k5 := cell_of_row _ _ 5 _ _ _ hx1
  clear hB1 hx1 hwa hg
  go_wp2_with fail
  refine HFW.out.mono ?_
  rintro e w2 ⟨bb, rfl, hbq, hB2⟩
  have HB2 : Hid (Below (g + 1) wa w2) := HB1.out.trans (hB2.mono HS1.out)
  have HW2 : Hid (Below g w w2) := HBA.out.trans (HB2.out.mono (Nat.le_succ _))
  have HS2 : Hid (g + 1 ≤ w2.heap.size) := by have := HB2.out.size; rw [HSA.out] at this; exact this
  have hx2 := (HB2.out.block g (Nat.lt_succ_self g)).trans HBX.out
  have HBB := Lib.hid hbq
  clear hB2 hbq k0 k1 k2 k3 k4 k5 HFW
  cases bb with
  | false =>
    go_wp2_with fail
    go_ret
    exact ⟨rfl, HW2.out⟩
  | true =>
  have k0 := cell_of_row _ _ 0 _ _ _ hx2
  have k1 := cell_of_row _ _ 1 _ _ _ hx2
  have k2 := cell_of_row _ _ 2 _ _ _ hx2
  have k3 := cell_of_row _ _ 3 _ _ _ hx2
  have k4 := cell_of_row _ _ 4 _ _ _ hx2
  have k5 := cell_of_row _ _ 5 _ _ _ hx2
  have HQM := Lib.hid (HBB.out rfl).2.2
  have HCP := Lib.hid (copiedM_w M Aq Aa An Ax nq na nn nx cq ca cn cx g Za Zn Zx w2 (HV.out.on HW2.out (Nat.le_refl g)) (by have := HS2.out; omega) HQM HZ)
  rw [HID.out, HFL.out] at HCP
  clear hx2 HBB
  go_wp2_with fail
  refine HCP.out.mono ?_
  rintro e w3 ⟨vq, va, vn, vx, he, hrows, n3⟩
  obtain ⟨Dq, Da, Dn, Dx, dq, da, dn, dx, Ya, Yn, Yx, rfl, rfl, rfl, rfl, hmv, hz1, hz2, hz3⟩ := rows_z hrows
  have HZY := Lib.hid hz1
  have HZY2 := Lib.hid hz2
  have HZY3 := Lib.hid hz3
  clear hz1 hz2 hz3
  rw [HV.out.eq, HV.out.ea, HV.out.en, HV.out.ex] at hmv he
  rw [HID.out, HFL.out] at he
  subst he
  have K3 : Hid (Below (g + 1) wa w3) := HB2.out.trans (n3.mono HS2.out)
  have s3 : g + 1 ≤ w3.heap.size := by have := K3.out.size; rw [HSA.out] at this; exact this
  obtain ⟨b1, hb1⟩ : ∃ b, w3.heap.size = b := ⟨_, rfl⟩
  obtain ⟨w4, hw4⟩ : ∃ v, w3.alloc (.cells #[.int .u16 id, .int .u16 fl, .slice Dq nq dq, .slice Da na da, .slice Dn nn dn, .slice Dx nx dx] 26) = v := ⟨_, rfl⟩
  have n4 : Below b1 w3 w4 := by rw [← hw4, ← hb1]; exact (Below.refl _ _).alloc (Nat.le_refl _) _
  have HT4 : Hid (w4.heap[b1]? = some (.cells #[.int .u16 id, .int .u16 fl, .slice Dq nq dq, .slice Da na da, .slice Dn nn dn, .slice Dx nx dx] 26 (0, 0))) := by rw [← hw4, ← hb1]; exact heap_alloc_new w3 _
  have S4 : Hid (w4.heap.size = b1 + 1) := by show _ = _; rw [← hw4, ← hb1]; simp
  rw [hb1] at hmv s3
  have HTV : Hid (MsgV w4 b1 M Dq Da Dn Dx nq na nn nx da dn dx Ya Yn Yx) := hmv.on n4 (Nat.le_refl _)
  have KT : Hid (Below (g + 1) wa w4) := K3.out.trans (n4.mono s3)
  have HGB : Hid (g + 1 ≤ b1) := s3
  have HW4 := Lib.hid hw4
  have HS4 := Lib.hid s3
  clear HCP hrows n3 hmv n4 hw4 k0 k1 k2 k3 k4 k5
  have hcnt : nq ≤ 1000 ∧ na ≤ 1000 ∧ nn ≤ 1000 ∧ nx ≤ 1000 := by have a1 := HQM.out.few.nq; have a2 := HQM.out.few.na; have a3 := HQM.out.few.nn; have a4 := HQM.out.few.nx; rw [HV.out.eq] at a1; rw [HV.out.ea] at a2; rw [HV.out.en] at a3; rw [HV.out.ex] at a4; exact ⟨a1, a2, a3, a4⟩
  have hq1 := hcnt.1
  have hq2 := hcnt.2.1
  have hq3 := hcnt.2.2.1
  have hq4 := hcnt.2.2.2
  clear hcnt
  go_upto_region 6 with fail
  rw [HW4.out]
  clear hb1
  have m0 := cell_of_row _ _ 0 _ _ _ HT4.out
  have m1 := cell_of_row _ _ 1 _ _ _ HT4.out
  have m2 := cell_of_row _ _ 2 _ _ _ HT4.out
  have m3 := cell_of_row _ _ 3 _ _ _ HT4.out
  have m4 := cell_of_row _ _ 4 _ _ _ HT4.out
  have m5 := cell_of_row _ _ 5 _ _ _ HT4.out
  have HAG := Lib.hid (age_w sec M Dq Da Dn Dx nq na nn nx dq da dn dx b1 Ya Yn Yx w4 HTV (by rw [S4.out]; omega) HQM hsec HNM HZY HZY2 HZY3)
  rw [HID.out, HFL.out] at HAG
  go_wp2_with fail
  refine HAG.out.mono ?_
  rintro e w5 ⟨vq, va, vn, vx, he, hrows, n5⟩
  rw [S4.out] at hrows n5
  have HQO := Lib.hid hrows.q
  obtain ⟨Gq, Ga, Gn, Gx, gq, ga, gn, gx, Xa, Xn, Xx, rfl, rfl, rfl, rfl, hmv, hin⟩ := rows_all hrows
  have l1 : (ageM sec M).an.length = na := by show (M.an.map (ageR sec)).length = na; rw [List.length_map]; exact HV.out.ea
  have l2 : (ageM sec M).ns.length = nn := by show (M.ns.map (ageR sec)).length = nn; rw [List.length_map]; exact HV.out.en
  have l3 : (ageM sec M).ad.length = nx := by show (M.ad.map (ageR sec)).length = nx; rw [List.length_map]; exact HV.out.ex
  have l0 : (ageM sec M).qs.length = nq := HV.out.eq
  rw [l0, l1, l2, l3] at he hmv
  rw [l0] at HQO
  rw [HID.out, HFL.out] at he
  subst he
  have HIN := Lib.hid hin
  obtain ⟨b2, hb2⟩ : ∃ b, w5.heap.size = b := ⟨_, rfl⟩
  have HWQ := Lib.hid (wrq_of HQO.out)
  rw [hb2] at hmv HWQ
  obtain ⟨w6, hw6⟩ : ∃ v, w5.alloc (.cells #[.int .u16 id, .int .u16 fl, .slice Gq nq gq, .slice Ga na ga, .slice Gn nn gn, .slice Gx nx gx] 26) = v := ⟨_, rfl⟩
  have n6 : Below b2 w5 w6 := by rw [← hw6, ← hb2]; exact (Below.refl _ _).alloc (Nat.le_refl _) _
  have HG6 : Hid (w6.heap[b2]? = some (.cells #[.int .u16 id, .int .u16 fl, .slice Gq nq gq, .slice Ga na ga, .slice Gn nn gn, .slice Gx nx gx] 26 (0, 0))) := by rw [← hw6, ← hb2]; exact heap_alloc_new w5 _
  have S6 : Hid (w6.heap.size = b2 + 1) := by show _ = _; rw [← hw6, ← hb2]; simp
  have HB12 : Hid (b1 + 1 ≤ b2) := by have h := n5.size; rw [S4.out, hb2] at h; exact h
  have HGV : Hid (MsgV w6 b2 (ageM sec M) Gq Ga Gn Gx nq na nn nx ga gn gx Xa Xn Xx) := hmv.on n6 (Nat.le_refl _)
  have N6 : Hid (Below (b1 + 1) w4 w6) := n5.trans (n6.mono (by have := HB12.out; omega))
  have N56 : Hid (Below b2 w5 w6) := n6
  have HBB2 := Lib.hid hb2
  have HW6 := Lib.hid hw6
  clear HAG hrows n5 hmv hin n6 hw6 l0 l1 l2 l3 m0 m1 m2 m3 m4 m5
  go_upto_region 7 with fail
  rw [HW6.out]
  clear hb2
  have hy6 := (N6.out.block b1 (by have := S4.out; omega)).trans HT4.out
  have m0 := cell_of_row _ _ 0 _ _ _ hy6
  have m1 := cell_of_row _ _ 1 _ _ _ hy6
  have m2 := cell_of_row _ _ 2 _ _ _ hy6
  have m3 := cell_of_row _ _ 3 _ _ _ hy6
  have m4 := cell_of_row _ _ 4 _ _ _ hy6
  have m5 := cell_of_row _ _ 5 _ _ _ hy6
  have HFA := Lib.hid (fail_w no M Dq Da Dn Dx nq na nn nx dq da dn dx b1 Ya Yn Yx w6 (HTV.out.on (N6.out.mono (Nat.le_succ b1)) (Nat.le_refl b1)) (by have := S6.out; have := HB12.out; omega) HQM.out.few HNM)
  rw [HID.out, HFL.out] at HFA
  clear hy6
  go_wp2_with fail
  refine HFA.out.mono ?_
  rintro e w7 ⟨Fq, fq, he, hfo, n7⟩
  rw [HFL.out] at he
  obtain ⟨ff, hff⟩ : ∃ k, failF fl = k := ⟨_, rfl⟩
  rw [hff] at he
  subst he
  have HFF : Hid ((failM no M).flags = ff) := by show failF M.flags = ff; rw [HFL.out]; exact hff
  rw [S6.out] at n7 hfo
  obtain ⟨b3, hb3⟩ : ∃ b, w7.heap.size = b := ⟨_, rfl⟩
  have HWF := Lib.hid (wrq_of hfo)
  obtain ⟨fA, fc, fe, hfcell⟩ := cells_own hfo
  have fe1 : Fq = fA := by injection fe with h1 _ _
  rw [← fe1] at hfcell
  rw [hb3] at hfcell HWF
  clear fe1 fe
  obtain ⟨w8, hw8⟩ : ∃ v, w7.alloc (.cells #[.int .u16 no, .int .u16 ff, .slice Fq nq fq, .slice none 0 0, .slice none 0 0, .slice none 0 0] 26) = v := ⟨_, rfl⟩
  have n8 : Below b3 w7 w8 := by rw [← hw8, ← hb3]; exact (Below.refl _ _).alloc (Nat.le_refl _) _
  have HF8 : Hid (w8.heap[b3]? = some (.cells #[.int .u16 no, .int .u16 ff, .slice Fq nq fq, .slice none 0 0, .slice none 0 0, .slice none 0 0] 26 (0, 0))) := by rw [← hw8, ← hb3]; exact heap_alloc_new w7 _
  have S8 : Hid (w8.heap.size = b3 + 1) := by show _ = _; rw [← hw8, ← hb3]; simp
  have HB23 : Hid (b2 + 1 ≤ b3) := by have h := n7.size; rw [S6.out, hb3] at h; exact h
  have N8 : Hid (Below (b2 + 1) w6 w8) := n7.trans (n8.mono (by have := HB23.out; omega))
  have N78 : Hid (Below b3 w7 w8) := n8
  have HFV : Hid (MsgV w8 b3 (failM no M) Fq none none none nq 0 0 0 0 0 0 [] [] []) := failM_v (hfcell.on n8 (Nat.le_refl _)) HV.out.eq
  have K8 : Hid (Below (g + 1) wa w8) := KT.out.trans ((N6.out.mono (by have := HGB.out; omega)).trans (N8.out.mono (by have := HGB.out; have := HB12.out; omega)))
  have HBB3 := Lib.hid hb3
  have HW8 := Lib.hid hw8
  clear HFA hfo n7 n8 hw8 hff hfcell m0 m1 m2 m3 m4 m5
  go_upto_region 8 with fail
  rw [HW8.out]
  clear hb3
  have hx8 := (K8.out.block g (by have := HSA.out; omega)).trans HBX.out
  have hg8 := (N8.out.block b2 (by have := S6.out; omega)).trans HG6.out
  have k0 := cell_of_row _ _ 0 _ _ _ hx8
  have k1 := cell_of_row _ _ 1 _ _ _ hx8
  have k2 := cell_of_row _ _ 2 _ _ _ hx8
  have k3 := cell_of_row _ _ 3 _ _ _ hx8
  have k4 := cell_of_row _ _ 4 _ _ _ hx8
  have k5 := cell_of_row _ _ 5 _ _ _ hx8
  have m0 := cell_of_row _ _ 0 _ _ _ hg8
  have m1 := cell_of_row _ _ 1 _ _ _ hg8
  have m2 := cell_of_row _ _ 2 _ _ _ hg8
  have m3 := cell_of_row _ _ 3 _ _ _ hg8
  have m4 := cell_of_row _ _ 4 _ _ _ hg8
  have m5 := cell_of_row _ _ 5 _ _ _ hg8
  have j0 := cell_of_row _ _ 0 _ _ _ HF8.out
  have j1 := cell_of_row _ _ 1 _ _ _ HF8.out
  have j2 := cell_of_row _ _ 2 _ _ _ HF8.out
  have j3 := cell_of_row _ _ 3 _ _ _ HF8.out
  have j4 := cell_of_row _ _ 4 _ _ _ HF8.out
  have j5 := cell_of_row _ _ 5 _ _ _ HF8.out
  have HB8 : Hid (∀ W, Below (b3 + 1) w8 W → Below g w W) := fun W h => HBA.out.trans ((K8.out.trans (h.mono (by have := HGB.out; have := HB12.out; have := HB23.out; omega))).mono (by omega))
  have HG8 : Hid (∀ W, Below (b3 + 1) w8 W → Below b2 w6 W) := fun W h => (N8.out.trans (h.mono (by have := HB23.out; omega))).mono (by omega)
  have C1 : Hid (∀ W : World, b3 + 1 ≤ W.heap.size → (W.cell? ⟨g, 0, none⟩ = some (.int .u16 id) ∧ W.cell? ⟨g, 1, none⟩ = some (.int .u16 fl) ∧ W.cell? ⟨g, 2, none⟩ = some (.slice Aq nq cq) ∧ W.cell? ⟨g, 3, none⟩ = some (.slice Aa na ca) ∧ W.cell? ⟨g, 4, none⟩ = some (.slice An nn cn) ∧ W.cell? ⟨g, 5, none⟩ = some (.slice Ax nx cx) ∧ W.cell? ⟨b2, 0, none⟩ = some (.int .u16 id) ∧ W.cell? ⟨b2, 1, none⟩ = some (.int .u16 fl) ∧ W.cell? ⟨b2, 2, none⟩ = some (.slice Gq nq gq) ∧ W.cell? ⟨b2, 3, none⟩ = some (.slice Ga na ga) ∧ W.cell? ⟨b2, 4, none⟩ = some (.slice Gn nn gn) ∧ W.cell? ⟨b2, 5, none⟩ = some (.slice Gx nx gx) ∧ W.cell? ⟨b3, 0, none⟩ = some (.int .u16 no) ∧ W.cell? ⟨b3, 1, none⟩ = some (.int .u16 ff) ∧ W.cell? ⟨b3, 2, none⟩ = some (.slice Fq nq fq) ∧ W.cell? ⟨b3, 3, none⟩ = some (.slice none 0 0) ∧ W.cell? ⟨b3, 4, none⟩ = some (.slice none 0 0) ∧ W.cell? ⟨b3, 5, none⟩ = some (.slice none 0 0) ∧ Below (b3 + 1) w8 W) → Calls Try.prog 35 #[.agg #[.int .u16 id, .int .u16 fl, .slice Aq nq cq, .slice Aa na ca, .slice An nn cn, .slice Ax nx cx], .int .u64 sec] W fun e w' => ∃ Ea En Ex ea en ex Wa Wn Wx, e = .returned (.agg #[.int .u16 id, .int .u16 fl, .slice Aq nq cq, .slice Ea na ea, .slice En nn en, .slice Ex nx ex]) ∧ Hid (MsgV w' w'.heap.size (ageM sec M) Aq Ea En Ex nq na nn nx ea en ex Wa Wn Wx) ∧ w'.cell? ⟨g, 0, none⟩ = some (.int .u16 id) ∧ w'.cell? ⟨g, 1, none⟩ = some (.int .u16 fl) ∧ w'.cell? ⟨g, 2, none⟩ = some (.slice Aq nq cq) ∧ w'.cell? ⟨g, 3, none⟩ = some (.slice Aa na ca) ∧ w'.cell? ⟨g, 4, none⟩ = some (.slice An nn cn) ∧ w'.cell? ⟨g, 5, none⟩ = some (.slice Ax nx cx) ∧ w'.cell? ⟨b2, 0, none⟩ = some (.int .u16 id) ∧ w'.cell? ⟨b2, 1, none⟩ = some (.int .u16 fl) ∧ w'.cell? ⟨b2, 2, none⟩ = some (.slice Gq nq gq) ∧ w'.cell? ⟨b2, 3, none⟩ = some (.slice Ga na ga) ∧ w'.cell? ⟨b2, 4, none⟩ = some (.slice Gn nn gn) ∧ w'.cell? ⟨b2, 5, none⟩ = some (.slice Gx nx gx) ∧ w'.cell? ⟨b3, 0, none⟩ = some (.int .u16 no) ∧ w'.cell? ⟨b3, 1, none⟩ = some (.int .u16 ff) ∧ w'.cell? ⟨b3, 2, none⟩ = some (.slice Fq nq fq) ∧ w'.cell? ⟨b3, 3, none⟩ = some (.slice none 0 0) ∧ w'.cell? ⟨b3, 4, none⟩ = some (.slice none 0 0) ∧ w'.cell? ⟨b3, 5, none⟩ = some (.slice none 0 0) ∧ Below (b3 + 1) w8 w') := by
    intro W hW hc
    obtain ⟨z0, z1, z2, z3, z4, z5, z6, z7, z8, z9, z10, z11, z12, z13, z14, z15, z16, z17, hH⟩ := hc
    have ha := refAge_w sec M Aq Aa An Ax nq na nn nx cq ca cn cx g Za Zn Zx W (HV.out.on (HB8.out W hH) (Nat.le_refl g)) (by have := HGB.out; have := HB12.out; have := HB23.out; omega) HQM hsec
    rw [HID.out, HFL.out] at ha
    refine ha.mono ?_
    rintro e w' ⟨Ea, En, Ex, ea, en, ex, Wa, Wn, Wx, he, hmv, hbl⟩
    have far : ∀ {a : Addr} {v : Value}, W.cell? a = some v → w'.cell? a = some v := fun h => (hbl.cell (World.block_lt_of_cell? W _ h)).trans h
    exact ⟨Ea, En, Ex, ea, en, ex, Wa, Wn, Wx, by rw [he, HID.out, HFL.out], hmv, far z0, far z1, far z2, far z3, far z4, far z5, far z6, far z7, far z8, far z9, far z10, far z11, far z12, far z13, far z14, far z15, far z16, far z17, hH.trans (hbl.mono hW)⟩
  have C2 : Hid (∀ (Ea En Ex : Option Addr) (ea en ex : Nat) (Wa Wn Wx : List RecZ) (W : World), b3 + 1 ≤ W.heap.size → (W.cell? ⟨g, 0, none⟩ = some (.int .u16 id) ∧ W.cell? ⟨g, 1, none⟩ = some (.int .u16 fl) ∧ W.cell? ⟨g, 2, none⟩ = some (.slice Aq nq cq) ∧ W.cell? ⟨g, 3, none⟩ = some (.slice Aa na ca) ∧ W.cell? ⟨g, 4, none⟩ = some (.slice An nn cn) ∧ W.cell? ⟨g, 5, none⟩ = some (.slice Ax nx cx) ∧ W.cell? ⟨b2, 0, none⟩ = some (.int .u16 id) ∧ W.cell? ⟨b2, 1, none⟩ = some (.int .u16 fl) ∧ W.cell? ⟨b2, 2, none⟩ = some (.slice Gq nq gq) ∧ W.cell? ⟨b2, 3, none⟩ = some (.slice Ga na ga) ∧ W.cell? ⟨b2, 4, none⟩ = some (.slice Gn nn gn) ∧ W.cell? ⟨b2, 5, none⟩ = some (.slice Gx nx gx) ∧ W.cell? ⟨b3, 0, none⟩ = some (.int .u16 no) ∧ W.cell? ⟨b3, 1, none⟩ = some (.int .u16 ff) ∧ W.cell? ⟨b3, 2, none⟩ = some (.slice Fq nq fq) ∧ W.cell? ⟨b3, 3, none⟩ = some (.slice none 0 0) ∧ W.cell? ⟨b3, 4, none⟩ = some (.slice none 0 0) ∧ W.cell? ⟨b3, 5, none⟩ = some (.slice none 0 0) ∧ Below (b3 + 1) w8 W) → Hid (MsgV W W.heap.size (ageM sec M) Aq Ea En Ex nq na nn nx ea en ex Wa Wn Wx) → Calls Try.prog 19 #[.agg #[.int .u16 id, .int .u16 fl, .slice Gq nq gq, .slice Ga na ga, .slice Gn nn gn, .slice Gx nx gx], .agg #[.int .u16 id, .int .u16 fl, .slice Aq nq cq, .slice Ea na ea, .slice En nn en, .slice Ex nx ex]] W fun e w' => e = .returned (.bool true) ∧ w'.cell? ⟨g, 0, none⟩ = some (.int .u16 id) ∧ w'.cell? ⟨g, 1, none⟩ = some (.int .u16 fl) ∧ w'.cell? ⟨g, 2, none⟩ = some (.slice Aq nq cq) ∧ w'.cell? ⟨g, 3, none⟩ = some (.slice Aa na ca) ∧ w'.cell? ⟨g, 4, none⟩ = some (.slice An nn cn) ∧ w'.cell? ⟨g, 5, none⟩ = some (.slice Ax nx cx) ∧ w'.cell? ⟨b2, 0, none⟩ = some (.int .u16 id) ∧ w'.cell? ⟨b2, 1, none⟩ = some (.int .u16 fl) ∧ w'.cell? ⟨b2, 2, none⟩ = some (.slice Gq nq gq) ∧ w'.cell? ⟨b2, 3, none⟩ = some (.slice Ga na ga) ∧ w'.cell? ⟨b2, 4, none⟩ = some (.slice Gn nn gn) ∧ w'.cell? ⟨b2, 5, none⟩ = some (.slice Gx nx gx) ∧ w'.cell? ⟨b3, 0, none⟩ = some (.int .u16 no) ∧ w'.cell? ⟨b3, 1, none⟩ = some (.int .u16 ff) ∧ w'.cell? ⟨b3, 2, none⟩ = some (.slice Fq nq fq) ∧ w'.cell? ⟨b3, 3, none⟩ = some (.slice none 0 0) ∧ w'.cell? ⟨b3, 4, none⟩ = some (.slice none 0 0) ∧ w'.cell? ⟨b3, 5, none⟩ = some (.slice none 0 0) ∧ Below (b3 + 1) w8 w') := by
    intro Ea En Ex ea en ex Wa Wn Wx W hW hc h1
    obtain ⟨z0, z1, z2, z3, z4, z5, z6, z7, z8, z9, z10, z11, z12, z13, z14, z15, z16, z17, hH⟩ := hc
    have ha := same_held (ageM sec M) (ageM sec M) Gq Ga Gn Gx Aq Ea En Ex gq ga gn gx cq ea en ex nq na nn nx nq na nn nx (b3 + 1) Xa Wa Xn Wn Xx Wx true [(⟨g, 0, none⟩, (.int .u16 id)), (⟨g, 1, none⟩, (.int .u16 fl)), (⟨g, 2, none⟩, (.slice Aq nq cq)), (⟨g, 3, none⟩, (.slice Aa na ca)), (⟨g, 4, none⟩, (.slice An nn cn)), (⟨g, 5, none⟩, (.slice Ax nx cx)), (⟨b2, 0, none⟩, (.int .u16 id)), (⟨b2, 1, none⟩, (.int .u16 fl)), (⟨b2, 2, none⟩, (.slice Gq nq gq)), (⟨b2, 3, none⟩, (.slice Ga na ga)), (⟨b2, 4, none⟩, (.slice Gn nn gn)), (⟨b2, 5, none⟩, (.slice Gx nx gx)), (⟨b3, 0, none⟩, (.int .u16 no)), (⟨b3, 1, none⟩, (.int .u16 ff)), (⟨b3, 2, none⟩, (.slice Fq nq fq)), (⟨b3, 3, none⟩, (.slice none 0 0)), (⟨b3, 4, none⟩, (.slice none 0 0)), (⟨b3, 5, none⟩, (.slice none 0 0))] w8 W (HGV.out.on (HG8.out W hH) (by have := HB23.out; omega)) h1 (small_aged HQM.out) (small_aged HQM.out) ⟨fun _ => rfl, fun _ => rfl⟩ hW (fun p hp => by simp only [List.mem_cons, List.not_mem_nil, or_false] at hp; rcases hp with rfl | rfl | rfl | rfl | rfl | rfl | rfl | rfl | rfl | rfl | rfl | rfl | rfl | rfl | rfl | rfl | rfl | rfl <;> assumption) hH
    have e1 : (ageM sec M).id = id := HID.out
    have e2 : (ageM sec M).flags = fl := HFL.out
    rw [e1, e2] at ha
    refine ha.mono ?_
    rintro e w' ⟨rfl, hcs, hbl⟩
    exact (show _ ∧ w'.cell? ⟨g, 0, none⟩ = some (.int .u16 id) ∧ w'.cell? ⟨g, 1, none⟩ = some (.int .u16 fl) ∧ w'.cell? ⟨g, 2, none⟩ = some (.slice Aq nq cq) ∧ w'.cell? ⟨g, 3, none⟩ = some (.slice Aa na ca) ∧ w'.cell? ⟨g, 4, none⟩ = some (.slice An nn cn) ∧ w'.cell? ⟨g, 5, none⟩ = some (.slice Ax nx cx) ∧ w'.cell? ⟨b2, 0, none⟩ = some (.int .u16 id) ∧ w'.cell? ⟨b2, 1, none⟩ = some (.int .u16 fl) ∧ w'.cell? ⟨b2, 2, none⟩ = some (.slice Gq nq gq) ∧ w'.cell? ⟨b2, 3, none⟩ = some (.slice Ga na ga) ∧ w'.cell? ⟨b2, 4, none⟩ = some (.slice Gn nn gn) ∧ w'.cell? ⟨b2, 5, none⟩ = some (.slice Gx nx gx) ∧ w'.cell? ⟨b3, 0, none⟩ = some (.int .u16 no) ∧ w'.cell? ⟨b3, 1, none⟩ = some (.int .u16 ff) ∧ w'.cell? ⟨b3, 2, none⟩ = some (.slice Fq nq fq) ∧ w'.cell? ⟨b3, 3, none⟩ = some (.slice none 0 0) ∧ w'.cell? ⟨b3, 4, none⟩ = some (.slice none 0 0) ∧ w'.cell? ⟨b3, 5, none⟩ = some (.slice none 0 0) ∧ Below (b3 + 1) w8 w' from ⟨rfl, hcs (⟨g, 0, none⟩, (.int .u16 id)) (by simp), hcs (⟨g, 1, none⟩, (.int .u16 fl)) (by simp), hcs (⟨g, 2, none⟩, (.slice Aq nq cq)) (by simp), hcs (⟨g, 3, none⟩, (.slice Aa na ca)) (by simp), hcs (⟨g, 4, none⟩, (.slice An nn cn)) (by simp), hcs (⟨g, 5, none⟩, (.slice Ax nx cx)) (by simp), hcs (⟨b2, 0, none⟩, (.int .u16 id)) (by simp), hcs (⟨b2, 1, none⟩, (.int .u16 fl)) (by simp), hcs (⟨b2, 2, none⟩, (.slice Gq nq gq)) (by simp), hcs (⟨b2, 3, none⟩, (.slice Ga na ga)) (by simp), hcs (⟨b2, 4, none⟩, (.slice Gn nn gn)) (by simp), hcs (⟨b2, 5, none⟩, (.slice Gx nx gx)) (by simp), hcs (⟨b3, 0, none⟩, (.int .u16 no)) (by simp), hcs (⟨b3, 1, none⟩, (.int .u16 ff)) (by simp), hcs (⟨b3, 2, none⟩, (.slice Fq nq fq)) (by simp), hcs (⟨b3, 3, none⟩, (.slice none 0 0)) (by simp), hcs (⟨b3, 4, none⟩, (.slice none 0 0)) (by simp), hcs (⟨b3, 5, none⟩, (.slice none 0 0)) (by simp), hbl⟩)
  have M3 : ∀ W, Below (b3 + 1) w8 W → b3 + 1 ≤ W.heap.size → Calls Try.prog 36 #[.int .u16 no, .agg #[.int .u16 id, .int .u16 fl, .slice Aq nq cq, .slice Aa na ca, .slice An nn cn, .slice Ax nx cx]] W fun e w' => e = .returned (.agg #[.int .u16 no, .int .u16 ff, .slice Aq nq cq, .slice none 0 0, .slice none 0 0, .slice none 0 0]) ∧ Below W.heap.size W w' := fun W h hs => by
    have ha := refFail_w no M Aq Aa An Ax nq na nn nx cq ca cn cx g Za Zn Zx W HQM
    have e2 : failF M.flags = ff := HFF.out
    rw [HID.out, e2, HFL.out] at ha
    exact ha
  have M4 : ∀ W, Below (b3 + 1) w8 W → b3 + 1 ≤ W.heap.size → Calls Try.prog 19 #[.agg #[.int .u16 no, .int .u16 ff, .slice Fq nq fq, .slice none 0 0, .slice none 0 0, .slice none 0 0], .agg #[.int .u16 no, .int .u16 ff, .slice Aq nq cq, .slice none 0 0, .slice none 0 0, .slice none 0 0]] W fun e w' => e = .returned (.bool true) ∧ Below W.heap.size W w' := fun W h hs => by
    have ha := same_any (failM no M) (failM no M) Fq none none none Aq none none none fq 0 0 0 cq 0 0 0 nq 0 0 0 nq 0 0 0 [] [] [] [] [] [] true W (HFV.out.on (h.mono (Nat.le_succ b3)) (by omega)) (failM_v (HV.out.at_.q.on (HB8.out W h) (by have := HGB.out; have := HB12.out; have := HB23.out; omega)) HV.out.eq) (small_fail HQM.out) (small_fail HQM.out) ⟨fun _ => rfl, fun _ => rfl⟩
    have e1 : (failM no M).id = no := rfl
    rw [e1, HFF.out] at ha
    exact ha
  have C3 := Lib.hid (fun W hs h => held18 ⟨g, 0, none⟩ ⟨g, 1, none⟩ ⟨g, 2, none⟩ ⟨g, 3, none⟩ ⟨g, 4, none⟩ ⟨g, 5, none⟩ ⟨b2, 0, none⟩ ⟨b2, 1, none⟩ ⟨b2, 2, none⟩ ⟨b2, 3, none⟩ ⟨b2, 4, none⟩ ⟨b2, 5, none⟩ ⟨b3, 0, none⟩ ⟨b3, 1, none⟩ ⟨b3, 2, none⟩ ⟨b3, 3, none⟩ ⟨b3, 4, none⟩ ⟨b3, 5, none⟩ (.int .u16 id) (.int .u16 fl) (.slice Aq nq cq) (.slice Aa na ca) (.slice An nn cn) (.slice Ax nx cx) (.int .u16 id) (.int .u16 fl) (.slice Gq nq gq) (.slice Ga na ga) (.slice Gn nn gn) (.slice Gx nx gx) (.int .u16 no) (.int .u16 ff) (.slice Fq nq fq) (.slice none 0 0) (.slice none 0 0) (.slice none 0 0) M3 W hs h)
  have C4 := Lib.hid (fun W hs h => held18 ⟨g, 0, none⟩ ⟨g, 1, none⟩ ⟨g, 2, none⟩ ⟨g, 3, none⟩ ⟨g, 4, none⟩ ⟨g, 5, none⟩ ⟨b2, 0, none⟩ ⟨b2, 1, none⟩ ⟨b2, 2, none⟩ ⟨b2, 3, none⟩ ⟨b2, 4, none⟩ ⟨b2, 5, none⟩ ⟨b3, 0, none⟩ ⟨b3, 1, none⟩ ⟨b3, 2, none⟩ ⟨b3, 3, none⟩ ⟨b3, 4, none⟩ ⟨b3, 5, none⟩ (.int .u16 id) (.int .u16 fl) (.slice Aq nq cq) (.slice Aa na ca) (.slice An nn cn) (.slice Ax nx cx) (.int .u16 id) (.int .u16 fl) (.slice Gq nq gq) (.slice Ga na ga) (.slice Gn nn gn) (.slice Gx nx gx) (.int .u16 no) (.int .u16 ff) (.slice Fq nq fq) (.slice none 0 0) (.slice none 0 0) (.slice none 0 0) M4 W hs h)
  have HGR : Hid (∀ W : World, W.cell? ⟨b3, 0, none⟩ = some (.int .u16 no) → b3 + 1 ≤ W.heap.size) := fun W h => by have h2 : b3 < W.heap.size := World.block_lt_of_cell? W _ h; omega
  have h0 : Below (b3 + 1) w8 w8.drew := (Below.refl _ _).drew
  clear hx8 hg8 M3 M4
  go_region_held3 (fun w' => w'.cell? ⟨g, 0, none⟩ = some (.int .u16 id) ∧ w'.cell? ⟨g, 1, none⟩ = some (.int .u16 fl) ∧ w'.cell? ⟨g, 2, none⟩ = some (.slice Aq nq cq) ∧ w'.cell? ⟨g, 3, none⟩ = some (.slice Aa na ca) ∧ w'.cell? ⟨g, 4, none⟩ = some (.slice An nn cn) ∧ w'.cell? ⟨g, 5, none⟩ = some (.slice Ax nx cx) ∧ w'.cell? ⟨b2, 0, none⟩ = some (.int .u16 id) ∧ w'.cell? ⟨b2, 1, none⟩ = some (.int .u16 fl) ∧ w'.cell? ⟨b2, 2, none⟩ = some (.slice Gq nq gq) ∧ w'.cell? ⟨b2, 3, none⟩ = some (.slice Ga na ga) ∧ w'.cell? ⟨b2, 4, none⟩ = some (.slice Gn nn gn) ∧ w'.cell? ⟨b2, 5, none⟩ = some (.slice Gx nx gx) ∧ w'.cell? ⟨b3, 0, none⟩ = some (.int .u16 no) ∧ w'.cell? ⟨b3, 1, none⟩ = some (.int .u16 ff) ∧ w'.cell? ⟨b3, 2, none⟩ = some (.slice Fq nq fq) ∧ w'.cell? ⟨b3, 3, none⟩ = some (.slice none 0 0) ∧ w'.cell? ⟨b3, 4, none⟩ = some (.slice none 0 0) ∧ w'.cell? ⟨b3, 5, none⟩ = some (.slice none 0 0) ∧ Below (b3 + 1) w8 w') (first | assumption | go_keep) (first | (go_at_call 35; (with_reducible refine (C1.out _ (HGR.out _ ?_) ?_).mono ?_); (simp [*]); (first | assumption | (simp [*])); rintro e w9 ⟨Ea, En, Ex, ea, en, ex, Wa, Wn, Wx, rfl, HME, c0, c1, c2, c3, c4, c5, c6, c7, c8, c9, c10, c11, c12, c13, c14, c15, c16, c17, hG9⟩) | (go_at_call 19; (with_reducible refine (C2.out Ea En Ex ea en ex Wa Wn Wx _ (HGR.out _ ?_) ?_ ?_).mono ?_); (simp [*]); (first | assumption | (simp [*])); (exact HME); rintro e w10 ⟨rfl, c0, c1, c2, c3, c4, c5, c6, c7, c8, c9, c10, c11, c12, c13, c14, c15, c16, c17, hG10⟩) | (go_at_call 36; (with_reducible refine (C3.out _ (HGR.out _ ?_) ?_).mono ?_); (simp [*]); (first | assumption | (simp [*])); rintro e w11 ⟨rfl, c0, c1, c2, c3, c4, c5, c6, c7, c8, c9, c10, c11, c12, c13, c14, c15, c16, c17, hG11⟩) | (go_at_call 19; (with_reducible refine (C4.out _ (HGR.out _ ?_) ?_).mono ?_); (simp [*]); (first | assumption | (simp [*])); rintro e w12 ⟨rfl, c0, c1, c2, c3, c4, c5, c6, c7, c8, c9, c10, c11, c12, c13, c14, c15, c16, c17, hG12⟩))
  have K12 : Hid (Below (b3 + 1) w8 w12) := hG12
  clear c0 c1 c2 c3 c4 c5 c6 c7 c8 c9 c10 c11 c12 c13 c14 c15 c16 c17 k0 k1 k2 k3 k4 k5 m0 m1 m2 m3 m4 m5 j0 j1 j2 j3 j4 j5 h0 hG9 hG10 hG11 hG12 HME C1 C2 C3 C4
  have S12 : Hid (b3 + 1 ≤ w12.heap.size) := by have h := K12.out.size; rw [S8.out] at h; exact h
  have hg12 := ((K12.out.mono (by have := HB23.out; omega : b2 + 1 ≤ b3 + 1)).block b2 (Nat.lt_succ_self b2)).trans ((N8.out.block b2 (by have := S6.out; omega)).trans HG6.out)
  have m0 := cell_of_row _ _ 0 _ _ _ hg12
  have m1 := cell_of_row _ _ 1 _ _ _ hg12
  have m2 := cell_of_row _ _ 2 _ _ _ hg12
  have m3 := cell_of_row _ _ 3 _ _ _ hg12
  have m4 := cell_of_row _ _ 4 _ _ _ hg12
  have m5 := cell_of_row _ _ 5 _ _ _ hg12
  have HRC := Lib.hid (refRecords_w (ageM sec M) id fl Gq Ga Gn Gx nq na nn nx gq ga gn gx b2 Xa Xn Xx w12 (HGV.out.on (HG8.out w12 K12.out) (Nat.le_refl b2)) (by have := S12.out; have := HB23.out; omega) hq2 hq3 hq4)
  clear hg12
  go_wp2_with fail
  refine HRC.out.mono ?_
  rintro e w13 ⟨Ar, cr, he, hO, n13⟩
  have hall := HGV.out.all
  obtain ⟨ZZ, hZZ⟩ : ∃ Z, Xa ++ Xn ++ Xx = Z := ⟨_, rfl⟩
  obtain ⟨nz, hnz⟩ : ∃ n, na + nn + nx = n := ⟨_, rfl⟩
  have hin := HIN.out
  rw [hZZ] at hall hO hin
  rw [hnz] at hall hO he
  subst he
  have hnz2 : nz ≤ 3000 := by omega
  have HALL := Lib.hid hall
  have HIN2 := Lib.hid hin
  have HRW := Lib.hid hO
  have N13 : Hid (Below (b3 + 1) w8 w13) := K12.out.trans (n13.mono S12.out)
  have S13 : Hid (b3 + 1 ≤ w13.heap.size) := by have h := N13.out.size; rw [S8.out] at h; exact h
  have HSM : Hid (∀ z ∈ ZZ, Small z.1) := fun z hz => by
    have hmem : z.1 ∈ recsM (ageM sec M) := by rw [← HALL.out.1]; exact List.mem_map_of_mem hz
    exact ((qm_age HQM.out).recs _ hmem).1
  have N513 : Hid (Below b2 w5 w13) := N56.out.trans (HG8.out w13 N13.out)
  have N713 : Hid (Below b3 w7 w13) := N78.out.trans (N13.out.mono (Nat.le_succ b3))
  have W513 : Hid (Within (b1 + 1) b2 w5 w13) := Within.of_below (by rw [HBB2.out]; exact N513.out) (by rw [HBB2.out]; exact HB12.out)
  have W713 : Hid (Within (b1 + 1) b3 w7 w13) := Within.of_below (by rw [HBB3.out]; exact N713.out) (by rw [HBB3.out]; have := HB12.out; have := HB23.out; omega)
  have W0 : Hid (Within (b1 + 1) b2 w13 w13) := Within.refl _ _ _
  have HG13 : Hid (w13.heap[b2]? = some (.cells #[.int .u16 id, .int .u16 fl, .slice Gq nq gq, .slice Ga na ga, .slice Gn nn gn, .slice Gx nx gx] 26 (0, 0))) := ((N13.out.mono (by have := HB23.out; omega : b2 + 1 ≤ b3 + 1)).block b2 (Nat.lt_succ_self b2)).trans ((N8.out.block b2 (by have := S6.out; omega)).trans HG6.out)
  have HF13 : Hid (w13.heap[b3]? = some (.cells #[.int .u16 no, .int .u16 ff, .slice Fq nq fq, .slice none 0 0, .slice none 0 0, .slice none 0 0] 26 (0, 0))) := (N13.out.block b3 (Nat.lt_succ_self b3)).trans HF8.out
  clear hO n13 hall hin hZZ hnz HRC m0 m1 m2 m3 m4 m5
  go_wp2_with fail
  go_loopw [11] (fun i wr => ∃ j : Nat, j ≤ nz ∧ i = .int .i64 j ∧ Hid (Within (b1 + 1) b2 w13 wr)) (fun i _ => nz - (intOf i).toNat)
  case atStart => exact ⟨0, Nat.zero_le _, rfl, W0⟩
  case round =>
    obtain ⟨j, hj, rfl, hW⟩ := hrel
    by_cases hlt : j < nz
    · have hjz : j < ZZ.length := by rw [HALL.out.2.2]; exact hlt
      obtain ⟨br, x, rk, rc, rt, A1, n1, c1, A2, n2, c2, A3, n3, c3, rfl, hbr, hbl, h1, h2, h3, ⟨hm1, hm2, hm3⟩, q0, q1, q2, q3, q4, q5, q6⟩ := recs_getW HRW.out HIN2.out HSM.out hjz
      have hbe : wr.heap[br]? = w13.heap[br]? := hW.out.up br (by have := S12.out; have := HB23.out; omega) hbl
      have p0 := (World.cell?_of_block (w := w13) (a := ⟨br, j * 7, none⟩) hbe).trans q0
      have p1 := (World.cell?_of_block (w := w13) (a := ⟨br, j * 7 + 1, none⟩) hbe).trans q1
      have p2 := (World.cell?_of_block (w := w13) (a := ⟨br, j * 7 + 2, none⟩) hbe).trans q2
      have p3 := (World.cell?_of_block (w := w13) (a := ⟨br, j * 7 + 3, none⟩) hbe).trans q3
      have p4 := (World.cell?_of_block (w := w13) (a := ⟨br, j * 7 + 4, none⟩) hbe).trans q4
      have p5 := (World.cell?_of_block (w := w13) (a := ⟨br, j * 7 + 5, none⟩) hbe).trans q5
      have p6 := (World.cell?_of_block (w := w13) (a := ⟨br, j * 7 + 6, none⟩) hbe).trans q6
      rw [HBB2.out] at h1 h2 h3
      have HSP := Lib.hid (spoil_w x rk rc rt A1 n1 c1 A2 n2 c2 A3 n3 c3 (b1 + 1) b2 wr (wrs_within (wrs_within h1 W513.out) hW.out) (wrs_within (wrs_within h2 W513.out) hW.out) (wrs_within (wrs_within h3 W513.out) hW.out) hm1 hm2 hm3 HB12.out (by have := hW.out.below.size; have := S13.out; have := HB23.out; omega))
      clear q0 q1 q2 q3 q4 q5 q6 h1 h2 h3 hm1 hm2 hm3 hbe hjz hbr hbl
      go_wp2_with fail
      refine HSP.out.mono ?_
      rintro e ws ⟨rfl, hsp⟩
      have HW2 : Hid (Within (b1 + 1) b2 w13 ws) := hW.out.trans hsp
      clear hsp HSP hW p0 p1 p2 p3 p4 p5 p6
      go_wp2_with fail
      go_roundw
      case rel => exact ⟨j + 1, by omega, by go_num, HW2⟩
      case measure => simp [intOf]; omega
    · obtain ⟨wo, rfl⟩ : ∃ wo : World, wo = wr := ⟨_, rfl⟩
      have hjn : ¬ ((j : Int) < (nz : Int)) := by omega
      clear hlt W0
      go_wp2_with fail
      go_loopw [12] (fun i wr => ∃ j : Nat, j ≤ nq ∧ i = .int .i64 j ∧ Hid (Within (b1 + 1) b2 w13 wr)) (fun i _ => nq - (intOf i).toNat)
      case atStart => exact ⟨0, Nat.zero_le _, rfl, hW⟩
      case round =>
        clear hW
        obtain ⟨j, hj, rfl, hW⟩ := hrel
        have hgr := (hW.out.up b2 (Nat.le_refl b2) (by have := S13.out; have := HB23.out; omega)).trans HG13.out
        have m2 := cell_of_row _ _ 2 _ _ _ hgr
        clear hgr
        by_cases hlt : j < nq
        · obtain ⟨bq, rfl, hbq, hbt, hcs⟩ := wrs_within (wrs_within HWQ.out W513.out) hW.out (show 0 < nq * 3 by omega)
          obtain ⟨⟨u0, hu0⟩, hfz⟩ := hcs (j * 3 + 1) (by omega)
          have HW2 : Hid (Within (b1 + 1) b2 w13 (wr.setCell ⟨bq, j * 3 + 1, none⟩ (.int .u16 777))) := hW.out.set hbq hbt _
          have hji : (j : Int) < (nq : Int) := by omega
          clear hcs hW
          go_wp2_with fail
          go_roundw
          case rel => exact ⟨j + 1, by omega, by go_num, HW2⟩
          case measure => simp [intOf]; omega
        · obtain ⟨wo, rfl⟩ : ∃ wo : World, wo = wr := ⟨_, rfl⟩
          have hjn : ¬ ((j : Int) < (nq : Int)) := by omega
          have HW3 : Hid (Within (b1 + 1) b3 w13 wo) := hW.out.mono (Nat.le_refl _) (by have := HB23.out; omega)
          clear hlt hW
          go_wp2_with fail
          clear m2
          go_loopw [13] (fun i wr => ∃ j : Nat, j ≤ nq ∧ i = .int .i64 j ∧ Hid (Within (b1 + 1) b3 w13 wr)) (fun i _ => nq - (intOf i).toNat)
          case atStart => exact ⟨0, Nat.zero_le _, rfl, HW3⟩
          case round =>
            clear HW3
            obtain ⟨j, hj, rfl, hW⟩ := hrel
            have hfr := (hW.out.up b3 (Nat.le_refl b3) (by have := S13.out; omega)).trans HF13.out
            have m2 := cell_of_row _ _ 2 _ _ _ hfr
            clear hfr
            by_cases hlt : j < nq
            · obtain ⟨bq, rfl, hbq, hbt, hcs⟩ := wrs_within (wrs_within HWF.out W713.out) hW.out (show 0 < nq * 3 by omega)
              obtain ⟨⟨u0, hu0⟩, hfz⟩ := hcs (j * 3 + 1) (by omega)
              have HW2 : Hid (Within (b1 + 1) b3 w13 (wr.setCell ⟨bq, j * 3 + 1, none⟩ (.int .u16 777))) := hW.out.set (by have := HB12.out; omega) hbt _
              have hji : (j : Int) < (nq : Int) := by omega
              clear hcs hW
              go_wp2_with fail
              go_roundw
              case rel => exact ⟨j + 1, by omega, by go_num, HW2⟩
              case measure => simp [intOf]; omega
            · have hjn : ¬ ((j : Int) < (nq : Int)) := by omega
              have NB : Hid (Below (b1 + 1) w4 wr) := N6.out.trans ((N8.out.mono (by have := HB12.out; omega)).trans ((N13.out.mono (by have := HB12.out; have := HB23.out; omega)).trans hW.out.below))
              have KB : Hid (Below (g + 1) wa wr) := KT.out.trans (NB.out.mono (by have := HGB.out; omega))
              have hxr := (KB.out.block g (by have := HSA.out; omega)).trans HBX.out
              have hyr := (NB.out.block b1 (by have := S4.out; omega)).trans HT4.out
              have hsr : b1 + 1 ≤ wr.heap.size := by have h := NB.out.size; rw [S4.out] at h; exact h
              have k0 := cell_of_row _ _ 0 _ _ _ hxr
              have k1 := cell_of_row _ _ 1 _ _ _ hxr
              have k2 := cell_of_row _ _ 2 _ _ _ hxr
              have k3 := cell_of_row _ _ 3 _ _ _ hxr
              have k4 := cell_of_row _ _ 4 _ _ _ hxr
              have k5 := cell_of_row _ _ 5 _ _ _ hxr
              have j0 := cell_of_row _ _ 0 _ _ _ hyr
              have j1 := cell_of_row _ _ 1 _ _ _ hyr
              have j2 := cell_of_row _ _ 2 _ _ _ hyr
              have j3 := cell_of_row _ _ 3 _ _ _ hyr
              have j4 := cell_of_row _ _ 4 _ _ _ hyr
              have j5 := cell_of_row _ _ 5 _ _ _ hyr
              have HSA2 := Lib.hid (same_any M M Dq Da Dn Dx Aq Aa An Ax dq da dn dx cq ca cn cx nq na nn nx nq na nn nx Ya Za Yn Zn Yx Zx true wr (HTV.out.on (NB.out.mono (Nat.le_succ b1)) (by omega)) (HV.out.on (HBA.out.trans (KB.out.mono (Nat.le_succ g))) (by have := HGB.out; omega)) (small_q HQM.out) (small_q HQM.out) ⟨fun _ => rfl, fun _ => rfl⟩)
              rw [HID.out, HFL.out] at HSA2
              have KG : Hid (Below g w wr) := HBA.out.trans (KB.out.mono (Nat.le_succ g))
              have hgs : Hid (g ≤ wr.heap.size) := by show _ ≤ _; have := HGB.out; omega
              clear hxr hyr hlt hW
              go_wp2_with fail
              refine HSA2.out.mono ?_
              rintro e wz ⟨rfl, hz⟩
              have KZ : Hid (Below g w wz) := KG.out.trans (hz.mono hgs.out)
              clear hz HSA2 m2 k0 k1 k2 k3 k4 k5 j0 j1 j2 j3 j4 j5
              go_wp2_with fail
              go_ret
              exact ⟨rfl, KZ.out⟩

/-- A message that came in is one as may come in. -/
theorem came_v {w : World} {v : Value} {M : Msg} {Aq Aa An Ax : Option Addr} {cq ca cn cx : Nat} {Za Zn Zx : List RecZ} (h : CameMsg w v M Aq Aa An Ax cq ca cn cx Za Zn Zx) : MsgV w w.heap.size M Aq Aa An Ax M.qs.length M.an.length M.ns.length M.ad.length ca cn cx Za Zn Zx ∧ BigM M :=
  ⟨⟨h.at_, rfl, rfl, rfl, rfl, h.nils.1, h.nils.2.1, h.nils.2.2⟩, ⟨h.id, h.flags, h.lens.1, h.lens.2.1, h.lens.2.2.1, h.lens.2.2.2, h.qs, h.recs⟩⟩

set_option maxRecDepth 100000 in
theorem lifted (os : Os) (started : os.Started) (H : Type) (enc : TypeId × Value → H) :
    ReturnsInHanded {} Try.checked os 8 .any (Rows.queryAgesSpec.pre6 enc Try.prog Try.f8 Rows.queryAgesRow.domain false) (Rows.queryAgesSpec.post enc Try.prog Try.f8 false true false false) := by
  refine returnsInHanded_of_change_sized (C := Try.checked) own started (by kernel_rfl) Try.func8
    (ChangeSpec.witness6 (enc := enc) (C := Try.checked) false ⟨#[], #[.agg #[.int .u16 0, .int .u16 0, .slice none 0 0, .slice none 0 0, .slice none 0 0, .slice none 0 0], .int .u64 0, .int .u16 0], []⟩ 8 (by kernel_rfl) (by kernel_rfl) (by kernel_rfl) (by kernel_rfl)) ?_
  intro W base args ds gs before hval0 hW hcnd hsz0 _
  have hval : ∀ (j : Nat) t v, Try.f8.params[j]? = some t → args[j]? = some v → Value.okWide Try.prog W .any base t v := hval0
  have hW' := hW
  obtain ⟨p, q, hA0, hV, rfl, hfz, hnd⟩ := hW
  have hA : DataW.TrodAll enc Try.prog W 0 (fun _ => true) true Try.f8.params.toList args.toList ds p := hA0
  rw [Try.params8] at hA hval
  obtain ⟨v0, vs0, d0, ds0, p0, q0, hargs, rfl, rfl, h0, r0⟩ := trodAll_cons hA
  obtain ⟨v1, vs1, d1, ds1, p1, q1, rfl, rfl, rfl, h1, r1⟩ := trodAll_cons r0
  obtain ⟨v2, vs2, d2, ds2, p2, q2, rfl, rfl, rfl, h2, r2⟩ := trodAll_cons r1
  obtain ⟨rfl, rfl, rfl⟩ := trodAll_nil r2
  obtain rfl : args = #[v0, v1, v2] := by cases args; simp_all
  obtain ⟨rfl, rfl⟩ := trodVars_none hV
  have hsz : (DataW.weightsEach Try.prog (Try.f8.params.toList ++ Rows.queryAgesSpec.plain.varTypes Try.prog) ([d0, d1, d2] ++ [])).all (· ≤ reachBytes) = true := hsz0
  have k00 := h0
  have lt0 : ∀ x ∈ p0, x.block < W.heap.size := by obtain ⟨m, hm⟩ := k00; exact DataW.trod_lt m _ _ _ hm
  obtain ⟨M0, Aq0, Aa0, An0, Ax0, cq0, ca0, cn0, cx0, Za0, Zn0, Zx0, hc0⟩ := came_msg (hval 0 26 v0 rfl rfl) h0
  obtain ⟨hmv0, hbg0⟩ := came_v hc0
  obtain rfl := hc0.val
  have hsd0 := came_sized h0 hmv0.at_ hmv0.eq (r := reachBytes) (fun n hn => by have h := List.all_eq_true.1 hsz n (DataW.weights_mem_each (j := 0) (t := 26) (d := d0) (by rw [Try.params8]; rfl) rfl n hn); simpa using h)
  have hzn0 := came_znil h0 hmv0.at_ hmv0.rows.1.2.1 hmv0.rows.2.1.2.1 hmv0.rows.2.2.2.1
  obtain ⟨z1, rfl, rfl, rfl, wf1⟩ := open_int Try.underlying52 (hval 1 52 v1 rfl rfl) h1
  have wf10 := wf1
  obtain ⟨m1, rfl, hm1⟩ := wf_w64 wf1
  obtain ⟨z2, rfl, rfl, rfl, wf2⟩ := open_int Try.underlying22 (hval 2 22 v2 rfl rfl) h2
  have wf20 := wf2
  obtain ⟨m2, rfl, hm2⟩ := wf_u16 wf2
  clear hA0 hval0
  refine (walk M0 Aq0 Aa0 An0 Ax0 _ _ _ _ cq0 ca0 cn0 cx0 Za0 Zn0 Zx0 m1 m2 W hmv0 hbg0 hzn0 (fun q hq => Nat.le_trans (hsd0 q hq) (by decide)) hm1 hm2).mono fun e W' ⟨he, bel⟩ => ?_
  subst he
  exact ⟨_, rfl, _, _, _, [], _, [], hW', trodAll_mk1 (shut_bool Try.underlying4 _), (trodAll_cons_mk (Below.trod laidOut (by kernel_rfl) (of_decide_eq_true (by kernel_rfl)) k00 bel lt0) (trodAll_cons_mk (shut_int Try.underlying52 wf10) (trodAll_cons_mk (shut_int Try.underlying22 wf20) trodAll_mk0))), rfl, bel.frame _, fun h => by cases h⟩

theorem over : Rows.queryAgesRow.holds Try.pinned (OpenSpec.ofChange Rows.queryAgesSpec) :=
  OpenClaim.holds_of_wide 8 Try.f8 rfl rfl rfl rfl rfl rfl rfl ⟨rfl, rfl, rfl, rfl, rfl⟩ rfl rfl rfl rfl rfl (by kernel_rfl) Try.func8 (by kernel_rfl)
    (of_decide_eq_true (by kernel_rfl)) (by unfold Func.isWrapper; first | (rw [if_pos (by decide +kernel)]; kernel_rfl) | (rw [if_neg (by decide +kernel)]; exact ⟨rfl, rfl⟩))
    (fun os started H enc _ => lifted os started H enc)

theorem proved : Rows.QueryAgesSaid := over
#print axioms proved
end Go.Proofs.Ytpmmjmnleoicjaa.queryAges
