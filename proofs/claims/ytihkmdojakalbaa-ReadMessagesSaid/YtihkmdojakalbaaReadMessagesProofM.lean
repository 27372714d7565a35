/- Proves ReadMessages: any bytes are just the document's message, or are refused with its error. No condition. -/
import Derived.Test.YtihkmdojakalbaaRows
import Derived.Test.YtihkmdojakalbaaReadMessagesProofG5
import Derived.Test.YtihkmdojakalbaaReadMessagesProofG10
import Derived.Test.YtihkmdojakalbaaReadMessagesProofG11
import Derived.Test.YtihkmdojakalbaaReadMessagesProofG18
import Derived.WalkKit
import Derived.ProofKit
import Derived.OpenShut
import Derived.ShutString
import Derived.Deep.RegionHeld3
import Derived.Deep.Draws
import Derived.Below
namespace Go.Proofs.Ytihkmdojakalbaa.readMessages
open Go.ChangeShapes Go.WideShapes Go.ChangeAt Go.RowKit
open Go.ChangeMaps (open_string shut_string)
set_option linter.unusedVariables false      -- a walk need not use every 'w<i>' (that an integer argument fits its kind)

theorem own : ownKnob Try.prog.godebug = none := by kernel_rfl

open Bytes NameMath NmMath MsgMath RecMath DatMath
theorem read_is (s : ByteArray) (R : Except Nat Msg) (w : World) (hs : s.size ≤ 1000000) (hR : Hid (rd (recE s.data.toList) s.data.toList = R)) : Calls Try.prog 10 #[.string s] w (ReadRet w R) :=
  read_any s _ R w hs (fun _ _ r => recReads s r hs) hR
/-- What one row of records tells of itself. -/
theorem rows_at {w : World} {g : Nat} {v : Value} {L : List Rec} (h : RowRecs w g v L) : ∃ (Z : List RecZ) (A : Option Addr) (c : Nat), v = .slice A L.length c ∧ RecsAt w w.heap.size A Z ∧ Z.map (·.1) = L ∧ Z.length = L.length := by
  obtain ⟨Z, h1, h2, h3⟩ := h
  have hl : Z.length = L.length := by rw [← h1, List.length_map]
  rw [← hl] at h2 ⊢
  obtain ⟨A, c, e, hr⟩ := recs_of h2 h3
  exact ⟨Z, A, c, e, hr, h1, rfl⟩
/-- The document's Same of two messages that stand in rows of the calls' own and tell the same. -/
theorem same_msgs (M : Msg) (hsm : ∀ R ∈ M.an ++ M.ns ++ M.ad, Small R) (hc : M.qs.length + (M.an.length + M.ns.length + M.ad.length) ≤ 256) (w : World) (g g' : Nat) (vq va vn vx uq ua un ux : Value) (h : MsgRows w g M vq va vn vx) (k : MsgRows w g' M uq ua un ux) :
    Calls Try.prog 12 #[.agg #[.int .u16 M.id, .int .u16 M.flags, vq, va, vn, vx], .agg #[.int .u16 M.id, .int .u16 M.flags, uq, ua, un, ux]] w fun e w' => e = .returned (.bool true) ∧ Below w.heap.size w w' := by
  obtain ⟨Aq, cq, rfl, hq⟩ := qnFull_of h.q
  obtain ⟨Za, Aa, ca, rfl, ha, ea, la⟩ := rows_at h.a
  obtain ⟨Zn, An, cn, rfl, hn, en, ln⟩ := rows_at h.n
  obtain ⟨Zx, Ax, cx, rfl, hx, ex, lx⟩ := rows_at h.x
  obtain ⟨Bq, dq, rfl, kq⟩ := qnFull_of k.q
  obtain ⟨Ya, Ba, da, rfl, ka, fa, _⟩ := rows_at k.a
  obtain ⟨Yn, Bn, dn, rfl, kn, fn, _⟩ := rows_at k.n
  obtain ⟨Yx, Bx, dx, rfl, kx, fx, _⟩ := rows_at k.x
  have sm : ∀ {Z : List RecZ} {L : List Rec}, Z.map (·.1) = L → (∀ R ∈ L, R ∈ M.an ++ M.ns ++ M.ad) → ∀ z ∈ Z, Small z.1 := fun e hL z hz => hsm _ (hL _ (by rw [← e]; exact List.mem_map.2 ⟨z, hz, rfl⟩))
  exact same_true M Aq Aa An Ax Bq Ba Bn Bx cq ca cn cx dq da dn dx _ _ _ _ Za Ya Zn Yn Zx Yx w hq kq rfl ha ka (ea.trans fa.symm) la (sm ea (fun R hR => by simp [hR])) hn kn (en.trans fn.symm) ln (sm en (fun R hR => by simp [hR])) hx kx (ex.trans fx.symm) lx (sm ex (fun R hR => by simp [hR])) (by omega) (by omega) (by omega) (by omega)

set_option maxHeartbeats 4000000 in
set_option maxRecDepth 100000 in

theorem walk (a0 : ByteArray) (w0 : a0.size ≤ maxLen) (w : World) :
    Calls Try.prog 3 #[.string a0] w fun e w' => e = .returned (.bool true) ∧ Below w.heap.size w w' := by
  have n0 : Below w.heap.size w w := Below.refl _ _
  by_cases h1 : (70000 : Int) < a0.size
  · go_enter Try.func3, Try.ntmps3
    go_wp2_with fail
    refine (awake_any _).mono ?_
    rintro e w1 ⟨rfl, hB⟩
    go_wp2_with fail
    go_ret
    exact ⟨rfl, hB⟩
  have hi1 : (a0.size : Int) ≤ 70000 := by omega
  obtain ⟨R, hR⟩ : ∃ R, rd (recE a0.data.toList) a0.data.toList = R := ⟨_, rfl⟩
  have HR := Lib.hid (fun w => read_is a0 R w (by omega) hR)
  have HD := Lib.hid (fun w => refRead_any a0 R w (by omega) hR)
  have HSN := Lib.hid same_none
  cases R with
  | error x =>
    clear hR n0
    go_enter Try.func3, Try.ntmps3
    go_wp2_with fail
    refine (awake_any _).mono ?_
    rintro e w1 ⟨rfl, n1⟩
    have N1 := Lib.hid n1; clear n1
    go_wp2_with fail
    refine (HR.out _).mono ?_
    rintro e w2 ⟨rfl, n2⟩
    have N2 := Lib.hid (N1.out.trans (n2.mono N1.out.size)); clear n2 N1
    obtain ⟨b1, hb1⟩ : ∃ b, w2.heap.size = b := ⟨_, rfl⟩
    have N3 : Hid (Below w.heap.size w (w2.alloc (.cells #[.int .u16 0, .int .u16 0, .slice none 0 0, .slice none 0 0, .slice none 0 0, .slice none 0 0] 27))) := N2.out.alloc N2.out.size _
    have B1 : Hid ((w2.alloc (.cells #[.int .u16 0, .int .u16 0, .slice none 0 0, .slice none 0 0, .slice none 0 0, .slice none 0 0] 27)).heap[b1]? = some (.cells #[.int .u16 0, .int .u16 0, .slice none 0 0, .slice none 0 0, .slice none 0 0, .slice none 0 0] 27 (0, 0))) := by rw [← hb1]; exact heap_alloc_new w2 _
    go_wp2_with fail
    clear hb1
    generalize w2.alloc (.cells #[.int .u16 0, .int .u16 0, .slice none 0 0, .slice none 0 0, .slice none 0 0, .slice none 0 0] 27) = w3 at N3 B1 ⊢
    refine (HD.out _).mono ?_
    rintro e w4 ⟨rfl, n4⟩
    have N4 := Lib.hid (N3.out.trans (n4.mono N3.out.size))
    have B2 := Lib.hid ((n4.block b1 (Array.getElem?_eq_some_iff.1 B1.out).1).trans B1.out)
    clear n4
    obtain ⟨b2, hb2⟩ : ∃ b, w4.heap.size = b := ⟨_, rfl⟩
    have N5 : Hid (Below w.heap.size w (w4.alloc (.cells #[.int .u16 0, .int .u16 0, .slice none 0 0, .slice none 0 0, .slice none 0 0, .slice none 0 0] 27))) := N4.out.alloc N4.out.size _
    have C2 : Hid ((w4.alloc (.cells #[.int .u16 0, .int .u16 0, .slice none 0 0, .slice none 0 0, .slice none 0 0, .slice none 0 0] 27)).heap[b2]? = some (.cells #[.int .u16 0, .int .u16 0, .slice none 0 0, .slice none 0 0, .slice none 0 0, .slice none 0 0] 27 (0, 0))) := by rw [← hb2]; exact heap_alloc_new w4 _
    have B3 : Hid ((w4.alloc (.cells #[.int .u16 0, .int .u16 0, .slice none 0 0, .slice none 0 0, .slice none 0 0, .slice none 0 0] 27)).heap[b1]? = some (.cells #[.int .u16 0, .int .u16 0, .slice none 0 0, .slice none 0 0, .slice none 0 0, .slice none 0 0] 27 (0, 0))) := old_at B2.out
    go_upto_region 7 with fail
    clear hb2
    generalize w4.alloc (.cells #[.int .u16 0, .int .u16 0, .slice none 0 0, .slice none 0 0, .slice none 0 0, .slice none 0 0] 27) = w5 at N5 B3 C2 ⊢
    have p0 := cell_of_row _ _ 0 _ _ _ B3.out
    have p1 := cell_of_row _ _ 1 _ _ _ B3.out
    have p2 := cell_of_row _ _ 2 _ _ _ B3.out
    have p3 := cell_of_row _ _ 3 _ _ _ B3.out
    have p4 := cell_of_row _ _ 4 _ _ _ B3.out
    have p5 := cell_of_row _ _ 5 _ _ _ B3.out
    have q0 := cell_of_row _ _ 0 _ _ _ C2.out
    have q1 := cell_of_row _ _ 1 _ _ _ C2.out
    have q2 := cell_of_row _ _ 2 _ _ _ C2.out
    have q3 := cell_of_row _ _ 3 _ _ _ C2.out
    have q4 := cell_of_row _ _ 4 _ _ _ C2.out
    have q5 := cell_of_row _ _ 5 _ _ _ C2.out
    go_wp2_with fail
    refine (HSN.out _).mono ?_
    rintro e w6 ⟨rfl, n6⟩
    have N6 := Lib.hid (N5.out.trans (n6.mono N5.out.size)); clear n6
    go_wp2_with fail
    go_ret
    exact ⟨rfl, N6.out⟩
  | ok M =>
    obtain ⟨_, _, hcount, _, hrecs⟩ := msg_right hR
    have HSM := Lib.hid (same_msgs M (fun R h => (hrecs R h).2) hcount)
    clear hR hrecs hcount n0
    go_enter Try.func3, Try.ntmps3
    go_wp2_with fail
    refine (awake_any _).mono ?_
    rintro e w1 ⟨rfl, n1⟩
    have N1 := Lib.hid n1; clear n1
    go_wp2_with fail
    refine (HR.out _).mono ?_
    rintro e w2 ⟨vq, va, vn, vx, rfl, hMR, n2⟩
    have N2 := Lib.hid (N1.out.trans (n2.mono N1.out.size)); clear n2 N1
    obtain ⟨⟨q1, q2, q3, rfl⟩, ⟨d1, d2, d3, rfl⟩, ⟨m1, m2, m3, rfl⟩, ⟨x1, x2, x3, rfl⟩⟩ := hMR.slices
    obtain ⟨b1, hb1⟩ : ∃ b, w2.heap.size = b := ⟨_, rfl⟩
    have N3 : Hid (Below w.heap.size w (w2.alloc (.cells #[.int .u16 M.id, .int .u16 M.flags, .slice q1 q2 q3, .slice d1 d2 d3, .slice m1 m2 m3, .slice x1 x2 x3] 27))) := N2.out.alloc N2.out.size _
    have B1 : Hid ((w2.alloc (.cells #[.int .u16 M.id, .int .u16 M.flags, .slice q1 q2 q3, .slice d1 d2 d3, .slice m1 m2 m3, .slice x1 x2 x3] 27)).heap[b1]? = some (.cells #[.int .u16 M.id, .int .u16 M.flags, .slice q1 q2 q3, .slice d1 d2 d3, .slice m1 m2 m3, .slice x1 x2 x3] 27 (0, 0))) := by rw [← hb1]; exact heap_alloc_new w2 _
    have HM := Lib.hid (hMR.below ((Below.refl _ _).alloc (Nat.le_refl _) (.cells #[.int .u16 M.id, .int .u16 M.flags, .slice q1 q2 q3, .slice d1 d2 d3, .slice m1 m2 m3, .slice x1 x2 x3] 27)))
    clear hMR
    go_wp2_with fail
    clear hb1
    generalize w2.alloc (.cells #[.int .u16 M.id, .int .u16 M.flags, .slice q1 q2 q3, .slice d1 d2 d3, .slice m1 m2 m3, .slice x1 x2 x3] 27) = w3 at N3 B1 HM ⊢
    refine (HD.out _).mono ?_
    rintro e w4 ⟨uq, ua, un, ux, rfl, kMR, n4⟩
    have N4 := Lib.hid (N3.out.trans (n4.mono N3.out.size))
    have B2 := Lib.hid ((n4.block b1 (Array.getElem?_eq_some_iff.1 B1.out).1).trans B1.out)
    have HM4 := Lib.hid (HM.out.below n4)
    clear n4
    obtain ⟨⟨r1, r2, r3, rfl⟩, ⟨e1, e2, e3, rfl⟩, ⟨o1, o2, o3, rfl⟩, ⟨y1, y2, y3, rfl⟩⟩ := kMR.slices
    obtain ⟨b2, hb2⟩ : ∃ b, w4.heap.size = b := ⟨_, rfl⟩
    have N5 : Hid (Below w.heap.size w (w4.alloc (.cells #[.int .u16 M.id, .int .u16 M.flags, .slice r1 r2 r3, .slice e1 e2 e3, .slice o1 o2 o3, .slice y1 y2 y3] 27))) := N4.out.alloc N4.out.size _
    have C2 : Hid ((w4.alloc (.cells #[.int .u16 M.id, .int .u16 M.flags, .slice r1 r2 r3, .slice e1 e2 e3, .slice o1 o2 o3, .slice y1 y2 y3] 27)).heap[b2]? = some (.cells #[.int .u16 M.id, .int .u16 M.flags, .slice r1 r2 r3, .slice e1 e2 e3, .slice o1 o2 o3, .slice y1 y2 y3] 27 (0, 0))) := by rw [← hb2]; exact heap_alloc_new w4 _
    have B3 : Hid ((w4.alloc (.cells #[.int .u16 M.id, .int .u16 M.flags, .slice r1 r2 r3, .slice e1 e2 e3, .slice o1 o2 o3, .slice y1 y2 y3] 27)).heap[b1]? = some (.cells #[.int .u16 M.id, .int .u16 M.flags, .slice q1 q2 q3, .slice d1 d2 d3, .slice m1 m2 m3, .slice x1 x2 x3] 27 (0, 0))) := old_at B2.out
    have HM5 := Lib.hid (HM4.out.below ((Below.refl _ _).alloc (Nat.le_refl _) (.cells #[.int .u16 M.id, .int .u16 M.flags, .slice r1 r2 r3, .slice e1 e2 e3, .slice o1 o2 o3, .slice y1 y2 y3] 27)))
    have KM5 := Lib.hid (kMR.below ((Below.refl _ _).alloc (Nat.le_refl _) (.cells #[.int .u16 M.id, .int .u16 M.flags, .slice r1 r2 r3, .slice e1 e2 e3, .slice o1 o2 o3, .slice y1 y2 y3] 27)))
    clear kMR HM HM4 B1 B2
    go_upto_region 7 with fail
    clear hb2
    generalize w4.alloc (.cells #[.int .u16 M.id, .int .u16 M.flags, .slice r1 r2 r3, .slice e1 e2 e3, .slice o1 o2 o3, .slice y1 y2 y3] 27) = w5 at N5 B3 C2 HM5 KM5 ⊢
    have HS5 := Lib.hid (HSM.out w5 _ _ _ _ _ _ _ _ _ _ HM5.out KM5.out)
    have p0 := cell_of_row _ _ 0 _ _ _ B3.out
    have p1 := cell_of_row _ _ 1 _ _ _ B3.out
    have p2 := cell_of_row _ _ 2 _ _ _ B3.out
    have p3 := cell_of_row _ _ 3 _ _ _ B3.out
    have p4 := cell_of_row _ _ 4 _ _ _ B3.out
    have p5 := cell_of_row _ _ 5 _ _ _ B3.out
    have t0 := cell_of_row _ _ 0 _ _ _ C2.out
    have t1 := cell_of_row _ _ 1 _ _ _ C2.out
    have t2 := cell_of_row _ _ 2 _ _ _ C2.out
    have t3 := cell_of_row _ _ 3 _ _ _ C2.out
    have t4 := cell_of_row _ _ 4 _ _ _ C2.out
    have t5 := cell_of_row _ _ 5 _ _ _ C2.out
    go_wp2_with fail
    refine HS5.out.mono ?_
    rintro e w6 ⟨rfl, n6⟩
    have N6 := Lib.hid (N5.out.trans (n6.mono N5.out.size)); clear n6
    go_wp2_with fail
    go_ret
    exact ⟨rfl, N6.out⟩

set_option maxRecDepth 100000 in
theorem lifted (os : Os) (started : os.Started) (H : Type) (enc : TypeId × Value → H) :
    ReturnsInHanded {} Try.checked os 3 .any (Rows.readMessagesSpec.pre6 enc Try.prog Try.f3 Rows.readMessagesRow.domain false) (Rows.readMessagesSpec.post enc Try.prog Try.f3 false true false false) := by
  refine returnsInHanded_of_change (C := Try.checked) own started (by kernel_rfl) Try.func3
    (ChangeSpec.witness6 (enc := enc) (C := Try.checked) false ⟨#[], #[.string ByteArray.empty], []⟩ 8 (by kernel_rfl) (by kernel_rfl) (by kernel_rfl) (by kernel_rfl)) ?_
  intro W base args ds gs before hval0 hW hcnd _
  have hval : ∀ (j : Nat) t v, Try.f3.params[j]? = some t → args[j]? = some v → Value.okWide Try.prog W .any base t v := hval0
  have hW' := hW
  obtain ⟨p, q, hA0, hV, rfl, hfz, hnd⟩ := hW
  have hA : DataW.TrodAll enc Try.prog W 0 (fun _ => true) true Try.f3.params.toList args.toList ds p := hA0
  rw [Try.params3] at hA hval
  obtain ⟨v0, vs0, d0, ds0, p0, q0, hargs, rfl, rfl, h0, r0⟩ := trodAll_cons hA
  obtain ⟨rfl, rfl, rfl⟩ := trodAll_nil r0
  obtain rfl : args = #[v0] := by cases args; simp_all
  obtain ⟨rfl, rfl⟩ := trodVars_none hV
  obtain ⟨a0, rfl, rfl, rfl, w0⟩ := open_string Try.underlying9 (hval 0 9 v0 rfl rfl) h0
  clear hA0 hval0
  simp only [List.append_nil] at hW'
  refine (walk a0 w0 W).mono fun e W' ⟨he, hg⟩ => ?_
  subst he
  exact ⟨_, rfl, _, _, _, [], [], [], hW', (trodAll_cons_mk (shut_bool Try.underlying4 _) trodAll_mk0), (trodAll_cons_mk (shut_string Try.underlying9 w0) trodAll_mk0), rfl, hg.frame _, fun h => by cases h⟩

theorem over : Rows.readMessagesRow.holds Try.pinned (OpenSpec.ofChange Rows.readMessagesSpec) :=
  OpenClaim.holds_of_wide 3 Try.f3 rfl rfl rfl rfl rfl rfl rfl ⟨rfl, rfl, rfl, rfl, rfl⟩ rfl rfl rfl rfl rfl (by kernel_rfl) Try.func3 (by kernel_rfl)
    (of_decide_eq_true (by kernel_rfl)) (by unfold Func.isWrapper; first | (rw [if_pos (by decide +kernel)]; kernel_rfl) | (rw [if_neg (by decide +kernel)]; exact ⟨rfl, rfl⟩))
    (fun os started H enc _ => lifted os started H enc)

theorem proved : Rows.ReadMessagesSaid :=
  over
#print axioms proved
end Go.Proofs.Ytihkmdojakalbaa.readMessages
