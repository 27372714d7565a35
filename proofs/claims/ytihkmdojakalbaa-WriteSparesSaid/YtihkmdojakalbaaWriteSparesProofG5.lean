/- Texts of one proof, one behind the other: RecRefEqual, RecRefSame, RefSameMsg, MsgAt, MsgFrame. -/
import Derived.Test.YtihkmdojakalbaaProg
import Derived.Test.YtihkmdojakalbaaStrs
import Derived.Test.YtihkmdojakalbaaNums
import Derived.Test.YtihkmdojakalbaaRecShape
import Derived.Test.YtihkmdojakalbaaRecAt
import Derived.Test.YtihkmdojakalbaaBytes
import Derived.Test.YtihkmdojakalbaaWriteSparesProofG1
import Derived.Test.YtihkmdojakalbaaRecMath
import Derived.Test.YtihkmdojakalbaaWriteSparesProofG2
import Derived.Test.YtihkmdojakalbaaWriteSparesProofG4
import Derived.Test.YtihkmdojakalbaaWriteSparesProofG3
import Derived.WalkKit
import Derived.Lib.Hide
import Derived.Outline
import Derived.IntWalk
import Derived.WalkSpells
import Derived.WalkLawsBesides
import Derived.Deep.QuietTactic
import Derived.BigQuiet
import Derived.Deep.Draws
import Derived.Deep.RegionWith
import Derived.Deep.Slices
import Derived.Deep.Fields
import Derived.ChangeSame
import Derived.ChangeSlices
import Derived.SliceStrings
import Derived.ProofKit
import Derived.OpenShut
import Derived.ShutString

/- The contracts of slices.Equal over texts and over numbers, and of the document's own look at two lists of texts. For lists of at most 10^6. -/
namespace Go.Proofs.Ytihkmdojakalbaa
open Go.RowKit Bytes Strs Nums

theorem list_same {L M : List (List UInt8)} (hl : L.length = M.length) (h : ∀ j, j < L.length → L.getD j [] = M.getD j []) : L = M := by
  apply List.ext_getElem hl
  intro j h1 h2
  have := h j h1
  rw [List.getD_eq_getElem?_getD, List.getD_eq_getElem?_getD, List.getElem?_eq_getElem h1, List.getElem?_eq_getElem h2] at this
  exact this
theorem list_sameN {L M : List Nat} (hl : L.length = M.length) (h : ∀ j, j < L.length → L.getD j 0 = M.getD j 0) : L = M := by
  apply List.ext_getElem hl
  intro j h1 h2
  have := h j h1
  rw [List.getD_eq_getElem?_getD, List.getD_eq_getElem?_getD, List.getElem?_eq_getElem h1, List.getElem?_eq_getElem h2] at this
  exact this

set_option maxHeartbeats 2000000 in
set_option maxRecDepth 100000 in
theorem refTexts (A B : Option Addr) (c1 c2 n m : Nat) (L M : List (List UInt8)) (q : Bool) (w : World) (hr : RdS w w.heap.size A L) (hr2 : RdS w w.heap.size B M) (hn0 : Hid (L.length = n)) (hm0 : Hid (M.length = m)) (hn : n ≤ 1000000) (hq : Hid (decide (L = M) = q)) :
    Calls Try.prog 77 #[.slice A n c1, .slice B m c2] w fun e w' => e = .returned (.bool q) ∧ ∃ N, w.drewN N = w' := by
  have HR := Lib.hid hr; clear hr
  have HR2 := Lib.hid hr2; clear hr2
  by_cases hnm : n = m
  · have hnmi : ((n : Int) != (m : Int)) = false := bne_eq_false_iff_eq.2 (by omega)
    have hnm2 : n ≤ m := by omega
    have hnm3 : m ≤ n := by omega
    clear hnm
    go_enter Try.func77, Try.ntmps77
    go_wp2_with fail
    go_loopw [5] (fun i wr => ∃ k N : Nat, k ≤ n ∧ i = .int .i64 k ∧ Hid (∀ j, j < k → L.getD j [] = M.getD j []) ∧ wr = w.drewN N) (fun i _ => n - (intOf i).toNat)
    case atStart => exact ⟨0, 0, Nat.zero_le _, rfl, Lib.hid (fun j hj => absurd hj (Nat.not_lt_zero _)), rfl⟩
    case round =>
      obtain ⟨k, N, hk, rfl, hE, rfl⟩ := hrel
      by_cases hlt : k < n
      · have hlt2 : k < m := by omega
        have hkl : k < L.length := by rw [hn0.out]; exact hlt
        have hkm : k < M.length := by rw [hm0.out]; exact hlt2
        obtain ⟨a, rfl, hab, hcell⟩ := HR.out.get hkl
        obtain ⟨b, rfl, hbb, hcell2⟩ := HR2.out.get hkm
        obtain ⟨z, hz⟩ : ∃ z, decide (L.getD k [] = M.getD k []) = z := ⟨_, rfl⟩
        have hne : (!((mk (L.getD k [])).toList == (mk (M.getD k [])).toList)) = !z := by
          rw [eq_toList, ← hz]
          congr 1
          exact decide_eq_decide.2 ⟨fun h => mk_inj h, fun h => by rw [h]⟩
        cases z with
        | true =>
          have hE2 : Hid (∀ j, j < k + 1 → L.getD j [] = M.getD j []) := fun j hj => by
            rcases Nat.lt_or_ge j k with h | h
            · exact hE.out j h
            · obtain rfl : j = k := by omega
              exact of_decide_eq_true hz
          generalize mk (L.getD k []) = x at *
          generalize mk (M.getD k []) = y at *
          clear hz hkl hkm hE
          go_wp2_with fail
          go_quiet (fail)
          go_wp2_with fail
          go_roundw
          case rel => exact ⟨k + 1, _, by omega, by go_num, hE2, rfl⟩
          case measure => simp [intOf]; omega
        | false =>
          obtain rfl : q = false := by
            rw [← hq.out]
            exact decide_eq_false (fun h => of_decide_eq_false hz (by rw [h]))
          generalize mk (L.getD k []) = x at *
          generalize mk (M.getD k []) = y at *
          clear hz hkl hkm hE hq
          go_wp2_with fail
          go_quiet (fail)
          go_wp2_with fail
          go_ret
          exact ⟨rfl, _, (World.drewN_drewN _ _ _).symm⟩
      · obtain rfl : q = true := by
          rw [← hq.out]
          exact decide_eq_true (list_same (by rw [hn0.out, hm0.out]; omega) (fun j hj => hE.out j (by rw [hn0.out] at hj; omega)))
        clear hE hq
        go_wp2_with fail
        go_ret
        exact ⟨rfl, _, rfl⟩
  · obtain rfl : q = false := by
      rw [← hq.out]
      refine decide_eq_false (fun h => hnm ?_)
      have := congrArg List.length h
      rw [hn0.out, hm0.out] at this
      exact this
    have hnmi : ((n : Int) != (m : Int)) = true := bne_iff_ne.2 (by omega)
    clear hnm hq
    go_enter Try.func77, Try.ntmps77
    go_wp2_with fail
    go_ret
    exact ⟨rfl, 0, rfl⟩
end Go.Proofs.Ytihkmdojakalbaa

/- The contracts of rdata's Same and of the document's Same. For records of at most 10^5 texts of at most 10^5 bytes. -/
namespace Go.Proofs.Ytihkmdojakalbaa
open Go.RowKit Bytes Strs Nums NameMath RecMath

theorem text_eq {x y : ByteArray} {a b : List UInt8} (ha : x.data.toList = a) (hb : y.data.toList = b) : (x.toList == y.toList) = decide (a = b) := by
  rw [Lib.toList_data, Lib.toList_data, ha, hb]
  by_cases h : a = b
  · rw [decide_eq_true h, h]; exact beq_self_eq_true _
  · rw [decide_eq_false h]; exact beq_eq_false_iff_ne.2 h

set_option maxHeartbeats 8000000 in
set_option maxRecDepth 100000 in
theorem refSame_is (R Q : Rec) (x : ByteArray) (k l t : Nat) (A1 : Option Addr) (n1 c1 : Nat) (A2 : Option Addr) (n2 c2 : Nat) (A3 : Option Addr) (n3 c3 : Nat) (xq : ByteArray) (kq lq tq : Nat) (Aq1 : Option Addr) (nq1 cq1 : Nat) (Aq2 : Option Addr) (nq2 cq2 : Nat) (Aq3 : Option Addr) (nq3 cq3 : Nat) (q : Bool) (w : World) (hR : Hid (RecAt w w.heap.size R x k l t A1 n1 A2 n2 A3 n3)) (hS : Hid (Small R)) (hR' : Hid (RecAt w w.heap.size Q xq kq lq tq Aq1 nq1 Aq2 nq2 Aq3 nq3)) (hS' : Hid (Small Q)) (hq : Hid (sameB R Q = q)) :
    Calls Try.prog 55 #[.agg #[.string x, .int .u16 k, .int .u16 l, .int .u32 t, .slice A1 n1 c1, .slice A2 n2 c2, .slice A3 n3 c3], .agg #[.string xq, .int .u16 kq, .int .u16 lq, .int .u32 tq, .slice Aq1 nq1 cq1, .slice Aq2 nq2 cq2, .slice Aq3 nq3 cq3]] w fun e w' => e = .returned (.bool q) ∧ Below w.heap.size w w' := by
  have hm1 := hR.out.m1 hS.out
  have hm2 := hR.out.m2 hS.out
  have hm3 := hR.out.m3 hS.out
  have hmq1 := hR'.out.m1 hS'.out
  have hmq2 := hR'.out.m2 hS'.out
  have hmq3 := hR'.out.m3 hS'.out
  have HR2 := Lib.hid ((hR.out.box (.cells #[.string x, .int .u16 k, .int .u16 l, .int .u32 t, .slice A1 n1 c1, .slice A2 n2 c2, .slice A3 n3 c3] 49)).box (.cells #[.string xq, .int .u16 kq, .int .u16 lq, .int .u32 tq, .slice Aq1 nq1 cq1, .slice Aq2 nq2 cq2, .slice Aq3 nq3 cq3] 49))
  have HQ2 := Lib.hid ((hR'.out.box (.cells #[.string x, .int .u16 k, .int .u16 l, .int .u32 t, .slice A1 n1 c1, .slice A2 n2 c2, .slice A3 n3 c3] 49)).box (.cells #[.string xq, .int .u16 kq, .int .u16 lq, .int .u32 tq, .slice Aq1 nq1 cq1, .slice Aq2 nq2 cq2, .slice Aq3 nq3 cq3] 49))
  have HB0 : Hid (Below w.heap.size w ((w.alloc (.cells #[.string x, .int .u16 k, .int .u16 l, .int .u32 t, .slice A1 n1 c1, .slice A2 n2 c2, .slice A3 n3 c3] 49)).alloc (.cells #[.string xq, .int .u16 kq, .int .u16 lq, .int .u32 tq, .slice Aq1 nq1 cq1, .slice Aq2 nq2 cq2, .slice Aq3 nq3 cq3] 49))) := ((Below.refl _ _).alloc (Nat.le_refl _) _).alloc (by simp) _
  have d0 : ((w.alloc (.cells #[.string x, .int .u16 k, .int .u16 l, .int .u32 t, .slice A1 n1 c1, .slice A2 n2 c2, .slice A3 n3 c3] 49)).alloc (.cells #[.string xq, .int .u16 kq, .int .u16 lq, .int .u32 tq, .slice Aq1 nq1 cq1, .slice Aq2 nq2 cq2, .slice Aq3 nq3 cq3] 49)).cell? ⟨w.heap.size, 0, none⟩ = some (.string x) := by simp
  have b0 : ((w.alloc (.cells #[.string x, .int .u16 k, .int .u16 l, .int .u32 t, .slice A1 n1 c1, .slice A2 n2 c2, .slice A3 n3 c3] 49)).alloc (.cells #[.string xq, .int .u16 kq, .int .u16 lq, .int .u32 tq, .slice Aq1 nq1 cq1, .slice Aq2 nq2 cq2, .slice Aq3 nq3 cq3] 49)).cell? ⟨w.heap.size + 1, 0, none⟩ = some (.string xq) := by simp
  have d1 : ((w.alloc (.cells #[.string x, .int .u16 k, .int .u16 l, .int .u32 t, .slice A1 n1 c1, .slice A2 n2 c2, .slice A3 n3 c3] 49)).alloc (.cells #[.string xq, .int .u16 kq, .int .u16 lq, .int .u32 tq, .slice Aq1 nq1 cq1, .slice Aq2 nq2 cq2, .slice Aq3 nq3 cq3] 49)).cell? ⟨w.heap.size, 1, none⟩ = some (.int .u16 k) := by simp
  have b1 : ((w.alloc (.cells #[.string x, .int .u16 k, .int .u16 l, .int .u32 t, .slice A1 n1 c1, .slice A2 n2 c2, .slice A3 n3 c3] 49)).alloc (.cells #[.string xq, .int .u16 kq, .int .u16 lq, .int .u32 tq, .slice Aq1 nq1 cq1, .slice Aq2 nq2 cq2, .slice Aq3 nq3 cq3] 49)).cell? ⟨w.heap.size + 1, 1, none⟩ = some (.int .u16 kq) := by simp
  have d2 : ((w.alloc (.cells #[.string x, .int .u16 k, .int .u16 l, .int .u32 t, .slice A1 n1 c1, .slice A2 n2 c2, .slice A3 n3 c3] 49)).alloc (.cells #[.string xq, .int .u16 kq, .int .u16 lq, .int .u32 tq, .slice Aq1 nq1 cq1, .slice Aq2 nq2 cq2, .slice Aq3 nq3 cq3] 49)).cell? ⟨w.heap.size, 2, none⟩ = some (.int .u16 l) := by simp
  have b2 : ((w.alloc (.cells #[.string x, .int .u16 k, .int .u16 l, .int .u32 t, .slice A1 n1 c1, .slice A2 n2 c2, .slice A3 n3 c3] 49)).alloc (.cells #[.string xq, .int .u16 kq, .int .u16 lq, .int .u32 tq, .slice Aq1 nq1 cq1, .slice Aq2 nq2 cq2, .slice Aq3 nq3 cq3] 49)).cell? ⟨w.heap.size + 1, 2, none⟩ = some (.int .u16 lq) := by simp
  have d3 : ((w.alloc (.cells #[.string x, .int .u16 k, .int .u16 l, .int .u32 t, .slice A1 n1 c1, .slice A2 n2 c2, .slice A3 n3 c3] 49)).alloc (.cells #[.string xq, .int .u16 kq, .int .u16 lq, .int .u32 tq, .slice Aq1 nq1 cq1, .slice Aq2 nq2 cq2, .slice Aq3 nq3 cq3] 49)).cell? ⟨w.heap.size, 3, none⟩ = some (.int .u32 t) := by simp
  have b3 : ((w.alloc (.cells #[.string x, .int .u16 k, .int .u16 l, .int .u32 t, .slice A1 n1 c1, .slice A2 n2 c2, .slice A3 n3 c3] 49)).alloc (.cells #[.string xq, .int .u16 kq, .int .u16 lq, .int .u32 tq, .slice Aq1 nq1 cq1, .slice Aq2 nq2 cq2, .slice Aq3 nq3 cq3] 49)).cell? ⟨w.heap.size + 1, 3, none⟩ = some (.int .u32 tq) := by simp
  have d4 : ((w.alloc (.cells #[.string x, .int .u16 k, .int .u16 l, .int .u32 t, .slice A1 n1 c1, .slice A2 n2 c2, .slice A3 n3 c3] 49)).alloc (.cells #[.string xq, .int .u16 kq, .int .u16 lq, .int .u32 tq, .slice Aq1 nq1 cq1, .slice Aq2 nq2 cq2, .slice Aq3 nq3 cq3] 49)).cell? ⟨w.heap.size, 4, none⟩ = some (.slice A1 n1 c1) := by simp
  have b4 : ((w.alloc (.cells #[.string x, .int .u16 k, .int .u16 l, .int .u32 t, .slice A1 n1 c1, .slice A2 n2 c2, .slice A3 n3 c3] 49)).alloc (.cells #[.string xq, .int .u16 kq, .int .u16 lq, .int .u32 tq, .slice Aq1 nq1 cq1, .slice Aq2 nq2 cq2, .slice Aq3 nq3 cq3] 49)).cell? ⟨w.heap.size + 1, 4, none⟩ = some (.slice Aq1 nq1 cq1) := by simp
  have d5 : ((w.alloc (.cells #[.string x, .int .u16 k, .int .u16 l, .int .u32 t, .slice A1 n1 c1, .slice A2 n2 c2, .slice A3 n3 c3] 49)).alloc (.cells #[.string xq, .int .u16 kq, .int .u16 lq, .int .u32 tq, .slice Aq1 nq1 cq1, .slice Aq2 nq2 cq2, .slice Aq3 nq3 cq3] 49)).cell? ⟨w.heap.size, 5, none⟩ = some (.slice A2 n2 c2) := by simp
  have b5 : ((w.alloc (.cells #[.string x, .int .u16 k, .int .u16 l, .int .u32 t, .slice A1 n1 c1, .slice A2 n2 c2, .slice A3 n3 c3] 49)).alloc (.cells #[.string xq, .int .u16 kq, .int .u16 lq, .int .u32 tq, .slice Aq1 nq1 cq1, .slice Aq2 nq2 cq2, .slice Aq3 nq3 cq3] 49)).cell? ⟨w.heap.size + 1, 5, none⟩ = some (.slice Aq2 nq2 cq2) := by simp
  have d6 : ((w.alloc (.cells #[.string x, .int .u16 k, .int .u16 l, .int .u32 t, .slice A1 n1 c1, .slice A2 n2 c2, .slice A3 n3 c3] 49)).alloc (.cells #[.string xq, .int .u16 kq, .int .u16 lq, .int .u32 tq, .slice Aq1 nq1 cq1, .slice Aq2 nq2 cq2, .slice Aq3 nq3 cq3] 49)).cell? ⟨w.heap.size, 6, none⟩ = some (.slice A3 n3 c3) := by simp
  have b6 : ((w.alloc (.cells #[.string x, .int .u16 k, .int .u16 l, .int .u32 t, .slice A1 n1 c1, .slice A2 n2 c2, .slice A3 n3 c3] 49)).alloc (.cells #[.string xq, .int .u16 kq, .int .u16 lq, .int .u32 tq, .slice Aq1 nq1 cq1, .slice Aq2 nq2 cq2, .slice Aq3 nq3 cq3] 49)).cell? ⟨w.heap.size + 1, 6, none⟩ = some (.slice Aq3 nq3 cq3) := by simp
  have HL1 := Lib.hid HR2.out.len1
  have HL2 := Lib.hid HR2.out.len2
  have HL3 := Lib.hid HR2.out.len3
  have HM1 := Lib.hid HQ2.out.len1
  have HM2 := Lib.hid HQ2.out.len2
  have HM3 := Lib.hid HQ2.out.len3
  have f0 := text_eq hR.out.name hR'.out.name
  have k1 := hR.out.kind
  have k2 := hR'.out.kind
  have l1 := hR.out.cls
  have l2 := hR'.out.cls
  have t1 := hR.out.ttl
  have t2 := hR'.out.ttl
  have K1 := Lib.hid k1
  have K2 := Lib.hid k2
  have C1 := Lib.hid l1
  have C2 := Lib.hid l2
  have T1 := Lib.hid t1
  have T2 := Lib.hid t2
  have hn1 : n1 ≤ 1000000 := by omega
  have hn2 : n2 ≤ 1000000 := by omega
  have hn3 : n3 ≤ 1000000 := by omega
  clear k1 k2 l1 l2 t1 t2 hR hR'
  by_cases e0 : R.name = Q.name
  rotate_left
  · rw [decide_eq_false e0] at f0
    obtain rfl : q = false := by rw [← hq.out]; exact decide_eq_false (fun h => e0 h.1)
    have f1 : (!(x.toList == xq.toList)) = true := by rw [f0]; rfl
    clear e0 hq
    go_enter Try.func55, Try.ntmps55
    go_wp2_with fail
    go_ret
    exact ⟨rfl, HB0.out⟩
  rw [decide_eq_true e0] at f0
  have f1 : (!(x.toList == xq.toList)) = false := by rw [f0]; rfl
  by_cases e1 : R.kind = Q.kind
  rotate_left
  · have u : k ≠ kq := by rw [← K1.out, ← K2.out]; exact e1
    have f : ((k : Int) != (kq : Int)) = true := int_nne u
    obtain rfl : q = false := by rw [← hq.out]; exact decide_eq_false (fun h => e1 h.2.1)
    clear e0 e1 u hq
    go_enter Try.func55, Try.ntmps55
    go_wp2_with fail
    go_ret
    exact ⟨rfl, HB0.out⟩
  have fkind : ((k : Int) != (kq : Int)) = false := int_neq (by rw [← K1.out, ← K2.out]; exact e1)
  by_cases e2 : R.cls = Q.cls
  rotate_left
  · have u : l ≠ lq := by rw [← C1.out, ← C2.out]; exact e2
    have f : ((l : Int) != (lq : Int)) = true := int_nne u
    obtain rfl : q = false := by rw [← hq.out]; exact decide_eq_false (fun h => e2 h.2.2.1)
    clear e0 e1 e2 u hq
    go_enter Try.func55, Try.ntmps55
    go_wp2_with fail
    go_ret
    exact ⟨rfl, HB0.out⟩
  have fcls : ((l : Int) != (lq : Int)) = false := int_neq (by rw [← C1.out, ← C2.out]; exact e2)
  by_cases e3 : R.ttl = Q.ttl
  rotate_left
  · have u : t ≠ tq := by rw [← T1.out, ← T2.out]; exact e3
    have f : ((t : Int) != (tq : Int)) = true := int_nne u
    obtain rfl : q = false := by rw [← hq.out]; exact decide_eq_false (fun h => e3 h.2.2.2.1)
    clear e0 e1 e2 e3 u hq
    go_enter Try.func55, Try.ntmps55
    go_wp2_with fail
    go_ret
    exact ⟨rfl, HB0.out⟩
  have fttl : ((t : Int) != (tq : Int)) = false := int_neq (by rw [← T1.out, ← T2.out]; exact e3)
  obtain ⟨z4, hz4⟩ : ∃ z, decide (R.names = Q.names) = z := ⟨_, rfl⟩
  obtain ⟨z5, hz5⟩ : ∃ z, decide (R.nums = Q.nums) = z := ⟨_, rfl⟩
  obtain ⟨z6, hz6⟩ : ∃ z, decide (R.texts = Q.texts) = z := ⟨_, rfl⟩
  have hqq : q = (z4 && (z5 && z6)) := by
    rw [← hq.out, ← hz4, ← hz5, ← hz6]
    unfold sameB
    simp [e0, e1, e2, e3]
  have HQQ := Lib.hid hqq
  have HZ4 := Lib.hid hz4
  have HZ5 := Lib.hid hz5
  have HZ6 := Lib.hid hz6
  clear hqq hz4 hz5 hz6 e0 e1 e2 e3 hq
  go_enter Try.func55, Try.ntmps55
  go_wp2_with fail
  generalize ((w.alloc (.cells #[.string x, .int .u16 k, .int .u16 l, .int .u32 t, .slice A1 n1 c1, .slice A2 n2 c2, .slice A3 n3 c3] 49)).alloc (.cells #[.string xq, .int .u16 kq, .int .u16 lq, .int .u32 tq, .slice Aq1 nq1 cq1, .slice Aq2 nq2 cq2, .slice Aq3 nq3 cq3] 49)) = wb at *
  generalize hgw : w.heap.size = g at *
  have HGW := Lib.hid hgw
  clear hgw
  ((with_reducible refine (refTexts A1 Aq1 c1 cq1 n1 nq1 R.names Q.names z4 _ HR2.out.rd1 HQ2.out.rd1 HL1 HM1 hn1 HZ4).mono ?_))
  rintro e w' ⟨rfl, N1, rfl⟩
  cases z4 with
  | false =>
    obtain rfl : q = false := HQQ.out
    go_wp2_with fail
    go_ret
    exact ⟨rfl, by have h := HB0.out; rw [← HGW.out] at h; exact below_drewN h _⟩
  | true =>
    go_wp2_with fail
    ((with_reducible refine (refTexts A3 Aq3 c3 cq3 n3 nq3 R.texts Q.texts z6 _ (HR2.out.rd3.on (below_drewN (Below.refl _ _) N1) (Nat.le_refl _)) (HQ2.out.rd3.on (below_drewN (Below.refl _ _) N1) (Nat.le_refl _)) HL3 HM3 hn3 HZ6).mono ?_))
    rintro e w' ⟨rfl, N2, rfl⟩
    cases z6 with
    | false =>
      obtain rfl : q = false := by rw [HQQ.out]; cases z5 <;> rfl
      go_wp2_with fail
      go_ret
      exact ⟨rfl, by have h := HB0.out; rw [← HGW.out] at h; exact below_drewN h _⟩
    | true =>
      have hqz : q = z5 := by rw [HQQ.out]; cases z5 <;> rfl
      subst hqz
      by_cases hne : n2 = nq2
      rotate_left
      · have fne : ((n2 : Int) != (nq2 : Int)) = true := int_nne hne
        obtain rfl : q = false := by
          rw [← HZ5.out]
          refine decide_eq_false (fun h => hne ?_)
          rw [← HL2.out, ← HM2.out, h]
        clear hne
        go_wp2_with fail
        go_ret
        exact ⟨rfl, by have h := HB0.out; rw [← HGW.out] at h; exact below_drewN h _⟩
      have fne : ((n2 : Int) != (nq2 : Int)) = false := int_neq hne
      have hle1 : n2 ≤ nq2 := by omega
      have hle2 : nq2 ≤ n2 := by omega
      clear hne
      go_wp2_with fail
      go_loopw [5] (fun i wr => ∃ j N : Nat, j ≤ n2 ∧ i = .int .i64 j ∧ Hid (∀ i, i < j → R.nums.getD i 0 = Q.nums.getD i 0) ∧ wr = wb.drewN N) (fun i _ => n2 - (intOf i).toNat)
      case atStart => exact ⟨0, _, Nat.zero_le _, rfl, Lib.hid (fun j hj => absurd hj (Nat.not_lt_zero _)), rfl⟩
      case round =>
        obtain ⟨j, N, hj, rfl, hE, rfl⟩ := hrel
        by_cases hlt : j < n2
        · have hlt2 : j < nq2 := by omega
          have hkl : j < R.nums.length := by rw [HL2.out]; exact hlt
          have hkm : j < Q.nums.length := by rw [HM2.out]; exact hlt2
          obtain ⟨ad, rfl, hab, hcell⟩ := HR2.out.rd2.get hkl
          obtain ⟨ae, rfl, hae, hcell2⟩ := HQ2.out.rd2.get hkm
          obtain ⟨z, hz⟩ : ∃ z, decide (R.nums.getD j 0 = Q.nums.getD j 0) = z := ⟨_, rfl⟩
          have hne : (((R.nums.getD j 0 : Nat) : Int) != ((Q.nums.getD j 0 : Nat) : Int)) = !z := by
            rw [← hz]
            by_cases h : R.nums.getD j 0 = Q.nums.getD j 0
            · rw [decide_eq_true h]; exact bne_eq_false_iff_eq.2 (by omega)
            · rw [decide_eq_false h]; exact bne_iff_ne.2 (by omega)
          cases z with
          | true =>
            have hE2 : Hid (∀ i, i < j + 1 → R.nums.getD i 0 = Q.nums.getD i 0) := fun i hi => by
              rcases Nat.lt_or_ge i j with h | h
              · exact hE.out i h
              · obtain rfl : i = j := by omega
                exact of_decide_eq_true hz
            generalize R.nums.getD j 0 = y at *
            generalize Q.nums.getD j 0 = yq at *
            clear hz hkl hkm hE
            go_wp2_with fail
            go_quiet (fail)
            go_wp2_with fail
            go_roundw
            case rel => exact ⟨j + 1, _, by omega, by go_num, hE2, rfl⟩
            case measure => simp [intOf]; omega
          | false =>
            obtain rfl : q = false := by
              rw [← HZ5.out]
              exact decide_eq_false (fun h => of_decide_eq_false hz (by rw [h]))
            generalize R.nums.getD j 0 = y at *
            generalize Q.nums.getD j 0 = yq at *
            clear hz hkl hkm hE
            go_wp2_with fail
            go_quiet (fail)
            go_wp2_with fail
            go_ret
            exact ⟨rfl, by have h := HB0.out; rw [← HGW.out] at h; exact below_drewN (below_drewN h _) _⟩
        · obtain rfl : q = true := by
            rw [← HZ5.out]
            exact decide_eq_true (list_sameN (by rw [HL2.out, HM2.out]; omega) (fun i hi => hE.out i (by rw [HL2.out] at hi; omega)))
          clear hE
          go_wp2_with fail
          go_ret
          exact ⟨rfl, by have h := HB0.out; rw [← HGW.out] at h; exact below_drewN h _⟩

end Go.Proofs.Ytihkmdojakalbaa

/- The document's Same of two messages that are alike. For rows of at most 1000. -/
namespace Go.Proofs.Ytihkmdojakalbaa
open Go.RowKit Bytes Strs Nums MsgMath RecMath

theorem sameB_self (R : Rec) : sameB R R = true := by simp [sameB]
set_option maxHeartbeats 4000000 in
set_option maxRecDepth 100000 in
theorem records_true (A B : Option Addr) (c1 c2 n : Nat) (Za Zb : List RecZ) (w : World) (ha : RecsAt w w.heap.size A Za) (hb : RecsAt w w.heap.size B Zb) (hm : Za.map (·.1) = Zb.map (·.1)) (hn : Za.length = n) (hn2 : n ≤ 1000) (hs : ∀ z ∈ Za, Small z.1) :
    Calls Try.prog 28 #[.slice A n c1, .slice B n c2] w fun e w' => e = .returned (.bool true) ∧ Below w.heap.size w w' := by
  have hnb : Zb.length = n := by have := congrArg List.length hm; rw [List.length_map, List.length_map] at this; omega
  obtain ⟨G, hG⟩ : ∃ G, w.heap.size = G := ⟨_, rfl⟩
  rw [hG] at ha hb ⊢
  have HA := Lib.hid ha
  have HB := Lib.hid hb
  have HM := Lib.hid hm
  have HN := Lib.hid hn
  have HNB := Lib.hid hnb
  have HS := Lib.hid hs
  have HG := Lib.hid hG
  clear ha hb hm hn hnb hs hG
  go_enter Try.func28, Try.ntmps28
  go_wp2_with fail
  go_loopw [5] (fun i wr => ∃ j : Nat, i = .int .i64 j ∧ j ≤ n ∧ Hid (Below G w wr)) (fun i _ => n - (intOf i).toNat)
  case atStart => exact ⟨0, rfl, Nat.zero_le _, Below.refl _ _⟩
  case round =>
    obtain ⟨j, rfl, hj, hV⟩ := hrel
    by_cases hlt : j < n
    · obtain ⟨ba, A1, c1', A2, c2', A3, c3', rfl, hba, hat, k0, k1, k2, k3, k4, k5, k6⟩ := (HA.out.on hV.out) j (by rw [HN.out]; exact hlt)
      obtain ⟨bb, B1, d1', B2, d2', B3, d3', rfl, hbb, hbt, m0, m1, m2, m3, m4, m5, m6⟩ := (HB.out.on hV.out) j (by rw [HNB.out]; exact hlt)
      have heq : (Zb[j]'(by rw [HNB.out]; exact hlt)).1 = (Za[j]'(by rw [HN.out]; exact hlt)).1 := by
        have := congrArg (fun L => L[j]?) HM.out
        simp only [List.getElem?_map] at this
        rw [List.getElem?_eq_getElem (by rw [HN.out]; exact hlt), List.getElem?_eq_getElem (by rw [HNB.out]; exact hlt)] at this
        injection this with this
        exact this.symm
      have hsm := HS.out _ (List.getElem_mem (by rw [HN.out]; exact hlt : j < Za.length))
      rw [heq] at hbt m0 m1 m2 m3 m4 m5 m6
      obtain ⟨RR, hRR⟩ : ∃ R, (Za[j]'(by rw [HN.out]; exact hlt)).1 = R := ⟨_, rfl⟩
      rw [hRR] at hat hbt k0 k1 k2 k3 k4 k5 k6 m0 m1 m2 m3 m4 m5 m6 hsm
      obtain ⟨xn, hxn⟩ : ∃ x, mk RR.name = x := ⟨_, rfl⟩
      obtain ⟨rk, hrk⟩ : ∃ n, RR.kind = n := ⟨_, rfl⟩
      obtain ⟨rc, hrc⟩ : ∃ n, RR.cls = n := ⟨_, rfl⟩
      obtain ⟨rt, hrt⟩ : ∃ n, RR.ttl = n := ⟨_, rfl⟩
      obtain ⟨l1, hl1⟩ : ∃ n, RR.names.length = n := ⟨_, rfl⟩
      obtain ⟨l2, hl2⟩ : ∃ n, RR.nums.length = n := ⟨_, rfl⟩
      obtain ⟨l3, hl3⟩ : ∃ n, RR.texts.length = n := ⟨_, rfl⟩
      rw [hxn] at k0 m0
      rw [hrk] at k1 m1
      rw [hrc] at k2 m2
      rw [hrt] at k3 m3
      rw [hl1] at k4 m4
      rw [hl2] at k5 m5
      rw [hl3] at k6 m6
      rw [hxn, hrk, hrc, hrt, hl1, hl2, hl3] at hat hbt
      have hGs : G ≤ wr.heap.size := by have := hV.out.size; rw [HG.out] at this; exact this
      have HSM := Lib.hid (refSame_is RR RR xn rk rc rt A1 l1 c1' A2 l2 c2' A3 l3 c3' xn rk rc rt B1 l1 d1' B2 l2 d2' B3 l3 d3' true wr.drew (hat.on ((Below.refl _ _).drew) hGs) hsm (hbt.on ((Below.refl _ _).drew) hGs) hsm (sameB_self RR))
      have HGS := Lib.hid hGs
      clear hRR hxn hrk hrc hrt hl1 hl2 hl3 hat hbt hsm hGs heq
      go_wp2_with fail
      go_region_with (go_at_call 55; refine HSM.out.mono ?_; rintro e wx ⟨rfl, hB⟩; have HV9 := Lib.hid (hV.out.trans ((Below.refl _ _).drew.trans (hB.mono HGS.out))); clear hB)
      all_goals
        clear k0 k1 k2 k3 k4 k5 k6 m0 m1 m2 m3 m4 m5 m6 HSM hV
        go_wp2_with fail
        go_roundw
        case rel => exact ⟨j + 1, by go_num, by omega, HV9⟩
        case measure => simp [intOf]; omega
    · have hjn : ¬ ((j : Int) < (n : Int)) := by omega
      clear hlt
      go_wp2_with fail
      go_ret
      exact ⟨rfl, hV.out⟩
theorem RecsAt.more {w : World} {G G' : Nat} {A : Option Addr} {Z : List RecZ} (h : RecsAt w G A Z) (hG : G ≤ G') : RecsAt w G' A Z := fun k hk => by
  obtain ⟨bq, A1, c1, A2, c2, A3, c3, e, hl, hat, r⟩ := h k hk
  exact ⟨bq, A1, c1, A2, c2, A3, c3, e, by omega, hat.on (Below.refl _ _) hG, r⟩
theorem qnCs_all {L : List Qn} : ∀ {k j : Nat} (h : k < L.length), j < 3 → (qnCs L)[k * 3 + j]? = (qnV (L[k]))[j]? := by
  induction L with
  | nil => intro k j h; cases h
  | cons q L ih =>
    intro k j h hj
    have e : qnCs (q :: L) = qnV q ++ qnCs L := rfl
    have hl : (qnV q).length = 3 := rfl
    rw [e]
    cases k with
    | zero => rw [List.getElem?_append_left (by rw [hl]; omega)]; simp
    | succ k =>
      rw [List.getElem?_append_right (by rw [hl]; omega), hl, show (k + 1) * 3 + j - 3 = k * 3 + j by omega, ih (by simpa using h) hj]
      simp
/-- The questions of a row. -/
def QnFull (w : World) (G : Nat) (A : Option Addr) (L : List Qn) : Prop := ∀ k (h : k < L.length), ∃ bq, A = some ⟨bq, 0, none⟩ ∧ bq < G ∧ w.cell? ⟨bq, k * 3, none⟩ = some (.string (mk (L[k]).name)) ∧ w.cell? ⟨bq, k * 3 + 1, none⟩ = some (.int .u16 (L[k]).kind) ∧ w.cell? ⟨bq, k * 3 + 2, none⟩ = some (.int .u16 (L[k]).cls)
theorem qnFull_of {w : World} {g : Nat} {v : Value} {L : List Qn} (h : w.ownsRow g 44 3 v L.length (qnCs L)) : ∃ A c, v = .slice A L.length c ∧ QnFull w w.heap.size A L := by
  rcases h.2 with ⟨rfl, h0⟩ | ⟨b, cap, cur, rfl, _, _, _⟩
  · exact ⟨none, 0, by rw [h0], fun k hk => by omega⟩
  · have cell : ∀ k (hk : k < L.length) j, j < 3 → ∀ u, (qnV (L[k]))[j]? = some u → w.cell? ⟨b, k * 3 + j, none⟩ = some u := fun k hk j hj u hu => by
      have := h.cells (g := b) rfl (k * 3 + j) u (by rw [qnCs_all hk hj]; exact hu)
      rwa [add_at] at this
    exact ⟨_, cap, rfl, fun k hk => ⟨b, rfl, (h.lt b rfl).2, cell k hk 0 (by decide) _ rfl, cell k hk 1 (by decide) _ rfl, cell k hk 2 (by decide) _ rfl⟩⟩
theorem QnFull.on {w w' : World} {G : Nat} {A : Option Addr} {L : List Qn} (h : QnFull w G A L) (hb : Below G w w') : QnFull w' G A L := fun k hk => by
  obtain ⟨bq, e, hl, k0, k1, k2⟩ := h k hk
  exact ⟨bq, e, hl, (hb.cell (p := ⟨bq, _, none⟩) hl).trans k0, (hb.cell (p := ⟨bq, _, none⟩) hl).trans k1, (hb.cell (p := ⟨bq, _, none⟩) hl).trans k2⟩
/-- Within Same: the two messages in their blocks. -/
structure SmSt (w wr : World) (b : Nat) (ca cb : Array Value) : Prop where
  eb : w.heap.size = b
  lt : b + 1 < wr.heap.size
  b0 : wr.heap[b]? = some (.cells ca 27 (0, 0))
  b1 : wr.heap[b + 1]? = some (.cells cb 27 (0, 0))
  bl : Below b w wr
theorem SmSt.below {w wr w' : World} {b : Nat} {ca cb : Array Value} (h : SmSt w wr b ca cb) (hb : Below wr.heap.size wr w') : SmSt w w' b ca cb :=
  ⟨h.eb, Nat.lt_of_lt_of_le h.lt hb.size, (hb.block b (by have := h.lt; omega)).trans h.b0, (hb.block (b + 1) h.lt).trans h.b1, h.bl.trans (hb.mono (by have := h.lt; omega))⟩
theorem smSt_start (w : World) (ca cb : Array Value) : SmSt w ((w.alloc (.cells ca 27)).alloc (.cells cb 27)) w.heap.size ca cb :=
  ⟨rfl, by simp, old_at (new_at _ _ _ rfl), new_at _ _ _ (by simp), ((Below.refl _ _).alloc (Nat.le_refl _) _).alloc (by simp) _⟩

set_option maxHeartbeats 4000000 in
set_option maxRecDepth 100000 in
theorem same_true (M : Msg) (Aq Aa An Ax Bq Ba Bn Bx : Option Addr) (cq ca cn cx dq da dn dx nq na nn nx : Nat) (Za Ya Zn Yn Zx Yx : List RecZ) (w : World) (hq : QnFull w w.heap.size Aq M.qs) (hq' : QnFull w w.heap.size Bq M.qs) (hqn : M.qs.length = nq)
    (ha : RecsAt w w.heap.size Aa Za) (ha' : RecsAt w w.heap.size Ba Ya) (hea : Za.map (·.1) = Ya.map (·.1)) (hna : Za.length = na) (hsa : ∀ z ∈ Za, Small z.1)
    (hn : RecsAt w w.heap.size An Zn) (hn' : RecsAt w w.heap.size Bn Yn) (hen : Zn.map (·.1) = Yn.map (·.1)) (hnn : Zn.length = nn) (hsn : ∀ z ∈ Zn, Small z.1)
    (hx : RecsAt w w.heap.size Ax Zx) (hx' : RecsAt w w.heap.size Bx Yx) (hex : Zx.map (·.1) = Yx.map (·.1)) (hnx : Zx.length = nx) (hsx : ∀ z ∈ Zx, Small z.1)
    (h1 : nq ≤ 1000) (h2 : na ≤ 1000) (h3 : nn ≤ 1000) (h4 : nx ≤ 1000) :
    Calls Try.prog 12 #[.agg #[.int .u16 M.id, .int .u16 M.flags, .slice Aq nq cq, .slice Aa na ca, .slice An nn cn, .slice Ax nx cx], .agg #[.int .u16 M.id, .int .u16 M.flags, .slice Bq nq dq, .slice Ba na da, .slice Bn nn dn, .slice Bx nx dx]] w fun e w' => e = .returned (.bool true) ∧ Below w.heap.size w w' := by
  have HST0 := Lib.hid (smSt_start w #[.int .u16 M.id, .int .u16 M.flags, .slice Aq nq cq, .slice Aa na ca, .slice An nn cn, .slice Ax nx cx] #[.int .u16 M.id, .int .u16 M.flags, .slice Bq nq dq, .slice Ba na da, .slice Bn nn dn, .slice Bx nx dx])
  obtain ⟨b, hb⟩ : ∃ b, w.heap.size = b := ⟨_, rfl⟩
  rw [hb] at HST0 hq hq' ha ha' hn hn' hx hx' ⊢
  have RA := Lib.hid (fun W (h : Below b w W) (hs : b ≤ W.heap.size) => records_true Aa Ba ca da na Za Ya W ((ha.on h).more hs) ((ha'.on h).more hs) hea hna h2 hsa)
  have RN := Lib.hid (fun W (h : Below b w W) (hs : b ≤ W.heap.size) => records_true An Bn cn dn nn Zn Yn W ((hn.on h).more hs) ((hn'.on h).more hs) hen hnn h3 hsn)
  have RX := Lib.hid (fun W (h : Below b w W) (hs : b ≤ W.heap.size) => records_true Ax Bx cx dx nx Zx Yx W ((hx.on h).more hs) ((hx'.on h).more hs) hex hnx h4 hsx)
  have HQ := Lib.hid hq
  have HQ2 := Lib.hid hq'
  have HQN := Lib.hid hqn
  have hbw : Hid (w.heap.size = b) := hb
  clear hq hq' hqn ha ha' hea hna hsa hn hn' hen hnn hsn hx hx' hex hnx hsx
  go_enter Try.func12, Try.ntmps12
  go_wp2_with fail
  clear hb
  generalize (w.alloc (.cells #[.int .u16 M.id, .int .u16 M.flags, .slice Aq nq cq, .slice Aa na ca, .slice An nn cn, .slice Ax nx cx] 27)).alloc (.cells #[.int .u16 M.id, .int .u16 M.flags, .slice Bq nq dq, .slice Ba na da, .slice Bn nn dn, .slice Bx nx dx] 27) = w1 at HST0 ⊢
  refine (RA.out _ HST0.out.bl (by have := HST0.out.lt; omega)).mono ?_
  rintro e w2 ⟨rfl, hB⟩
  have HST1 := Lib.hid (HST0.out.below hB)
  clear hB HST0 RA
  have p4 := cell_of_row _ _ 4 _ _ _ HST1.out.b0
  have q4 := cell_of_row _ _ 4 _ _ _ HST1.out.b1
  go_wp2_with fail
  refine (RN.out _ HST1.out.bl (by have := HST1.out.lt; omega)).mono ?_
  rintro e w3 ⟨rfl, hB⟩
  have HST2 := Lib.hid (HST1.out.below hB)
  clear hB HST1 RN p4 q4
  have p5 := cell_of_row _ _ 5 _ _ _ HST2.out.b0
  have q5 := cell_of_row _ _ 5 _ _ _ HST2.out.b1
  go_wp2_with fail
  refine (RX.out _ HST2.out.bl (by have := HST2.out.lt; omega)).mono ?_
  rintro e w4 ⟨rfl, hB⟩
  have HST3 := Lib.hid (HST2.out.below hB)
  clear hB HST2 RX p5 q5
  have p2 := cell_of_row _ _ 2 _ _ _ HST3.out.b0
  have q2 := cell_of_row _ _ 2 _ _ _ HST3.out.b1
  go_wp2_with fail
  go_loopw [5] (fun i wr => ∃ j n : Nat, i = .int .i64 j ∧ j ≤ nq ∧ wr = w4.drewN n) (fun i _ => nq - (intOf i).toNat)
  case atStart => exact ⟨0, 0, rfl, Nat.zero_le _, rfl⟩
  case round =>
    obtain ⟨j, m, rfl, hj, rfl⟩ := hrel
    by_cases hlt : j < nq
    · obtain ⟨ba, rfl, hba, k0, k1, k2⟩ := (HQ.out.on HST3.out.bl) j (by rw [HQN.out]; exact hlt)
      obtain ⟨bb, rfl, hbb, m0, m1, m2⟩ := (HQ2.out.on HST3.out.bl) j (by rw [HQN.out]; exact hlt)
      obtain ⟨QQ, hQQ⟩ : ∃ Q, M.qs[j]'(by rw [HQN.out]; exact hlt) = Q := ⟨_, rfl⟩
      rw [hQQ] at k0 k1 k2 m0 m1 m2
      obtain ⟨xn, hxn⟩ : ∃ x, mk QQ.name = x := ⟨_, rfl⟩
      obtain ⟨rk, hrk⟩ : ∃ n, QQ.kind = n := ⟨_, rfl⟩
      obtain ⟨rc, hrc⟩ : ∃ n, QQ.cls = n := ⟨_, rfl⟩
      rw [hxn] at k0 m0
      rw [hrk] at k1 m1
      rw [hrc] at k2 m2
      clear hQQ hxn hrk hrc
      have hse : (xn.toList == xn.toList) = true := beq_self_eq_true _
      go_wp2_with fail
      go_quiet (fail)
      go_wp2_with fail
      go_roundw
      case rel => exact ⟨j + 1, m + _, by go_num, by omega, rfl⟩
      case measure => simp [intOf]; omega
    · have hjn : ¬ ((j : Int) < (nq : Int)) := by omega
      clear hlt
      go_wp2_with fail
      go_ret
      exact ⟨rfl, HST3.out.bl.os, HST3.out.bl.tape, HST3.out.bl.output, HST3.out.bl.size, HST3.out.bl.block⟩
end Go.Proofs.Ytihkmdojakalbaa

/- Messages as a call has them: rows of questions and of records, anyone's. No condition. -/
namespace Go.Proofs.Ytihkmdojakalbaa
open Go Go.RowKit Bytes Strs Nums MsgMath RecMath

/-- These cells stand at a slice's place, below block B. -/
def CellsAt (w : World) (B : Nat) (A : Option Addr) (xs : List Value) : Prop := xs = [] ∨ ∃ b off, A = some ⟨b, off, none⟩ ∧ b < B ∧ ∀ (j : Nat) (u : Value), xs[j]? = some u → w.cell? ⟨b, off + j, none⟩ = some u
/-- The lists of these records lie below block B. -/
def ZAt (w : World) (B : Nat) (Z : List RecZ) : Prop := ∀ z ∈ Z, ∃ A1 c1 A2 c2 A3 c3, z.2.1 = .slice A1 z.1.names.length c1 ∧ z.2.2.1 = .slice A2 z.1.nums.length c2 ∧ z.2.2.2 = .slice A3 z.1.texts.length c3 ∧
  RecAt w B z.1 (mk z.1.name) z.1.kind z.1.cls z.1.ttl A1 z.1.names.length A2 z.1.nums.length A3 z.1.texts.length
/-- A message in memory: questions at Aq, records at Aa, An, Ax. -/
structure MsgAt (w : World) (B : Nat) (M : Msg) (Aq Aa An Ax : Option Addr) (Za Zn Zx : List RecZ) : Prop where
  q : CellsAt w B Aq (qnCs M.qs)
  a : CellsAt w B Aa (recCs Za)
  n : CellsAt w B An (recCs Zn)
  x : CellsAt w B Ax (recCs Zx)
  za : ZAt w B Za
  zn : ZAt w B Zn
  zx : ZAt w B Zx
  ea : Za.map (·.1) = M.an
  en : Zn.map (·.1) = M.ns
  ex : Zx.map (·.1) = M.ad
section
variable {w w' : World} {B B' : Nat} {A Aq Aa An Ax : Option Addr} {xs : List Value} {Z Z' Za Zn Zx : List RecZ} {M : Msg}
theorem CellsAt.on (h : CellsAt w B A xs) (hb : Below B w w') (hB : B ≤ B') : CellsAt w' B' A xs := by
  rcases h with h | ⟨b, off, e, hl, hc⟩
  · exact .inl h
  · exact .inr ⟨b, off, e, by omega, fun j u hu => (hb.cell (p := ⟨b, off + j, none⟩) hl).trans (hc j u hu)⟩
theorem CellsAt.get (h : CellsAt w B A xs) {j : Nat} {u : Value} (hu : xs[j]? = some u) : ∃ b off, A = some ⟨b, off, none⟩ ∧ b < B ∧ ∀ (j : Nat) (u : Value), xs[j]? = some u → w.cell? ⟨b, off + j, none⟩ = some u := by
  rcases h with h | h
  · subst h; cases hu
  · exact h
theorem ZAt.on (h : ZAt w B Z) (hb : Below B w w') (hB : B ≤ B') : ZAt w' B' Z := fun z hz => by
  obtain ⟨A1, c1, A2, c2, A3, c3, e1, e2, e3, hat⟩ := h z hz
  exact ⟨A1, c1, A2, c2, A3, c3, e1, e2, e3, hat.on hb hB⟩
theorem ZAt.app (h : ZAt w B Z) (h' : ZAt w B Z') : ZAt w B (Z ++ Z') := fun z hz => by
  rcases List.mem_append.1 hz with hz | hz
  · exact h z hz
  · exact h' z hz
theorem ZAt.one (h : ZAt w B Z) : ∀ u ∈ recCs Z, u.oneCell' = true := by
  intro u hu
  unfold recCs at hu
  obtain ⟨z, hz, hu⟩ := List.mem_flatMap.1 hu
  obtain ⟨A1, c1, A2, c2, A3, c3, e1, e2, e3, _⟩ := h z hz
  rw [e1, e2, e3] at hu
  simp [recV] at hu
  rcases hu with rfl | rfl | rfl | rfl | rfl | rfl | rfl <;> rfl
theorem MsgAt.on (h : MsgAt w B M Aq Aa An Ax Za Zn Zx) (hb : Below B w w') (hB : B ≤ B') : MsgAt w' B' M Aq Aa An Ax Za Zn Zx :=
  ⟨h.q.on hb hB, h.a.on hb hB, h.n.on hb hB, h.x.on hb hB, h.za.on hb hB, h.zn.on hb hB, h.zx.on hb hB, h.ea, h.en, h.ex⟩
/-- A question of a row. -/
theorem CellsAt.qn {L : List Qn} (h : CellsAt w B A (qnCs L)) {k : Nat} (hk : k < L.length) : ∃ b off, A = some ⟨b, off, none⟩ ∧ b < B ∧ w.cell? ⟨b, off + k * 3, none⟩ = some (.string (mk (L[k]).name)) ∧ w.cell? ⟨b, off + k * 3 + 1, none⟩ = some (.int .u16 (L[k]).kind) ∧ w.cell? ⟨b, off + k * 3 + 2, none⟩ = some (.int .u16 (L[k]).cls) := by
  have e := fun j (hj : j < 3) => qnCs_all (L := L) hk hj
  obtain ⟨b, off, rfl, hl, hc⟩ := h.get (e 0 (by decide))
  exact ⟨b, off, rfl, hl, hc (k * 3) _ (e 0 (by decide)), hc (k * 3 + 1) _ (e 1 (by decide)), hc (k * 3 + 2) _ (e 2 (by decide))⟩
/-- A record of a row. -/
theorem recs_get (h : CellsAt w B A (recCs Z)) (hz : ZAt w B Z) {k : Nat} (hk : k < Z.length) : ∃ b off A1 c1 A2 c2 A3 c3, A = some ⟨b, off, none⟩ ∧ b < B ∧ RecAt w B (Z[k]).1 (mk (Z[k]).1.name) (Z[k]).1.kind (Z[k]).1.cls (Z[k]).1.ttl A1 (Z[k]).1.names.length A2 (Z[k]).1.nums.length A3 (Z[k]).1.texts.length ∧
    w.cell? ⟨b, off + k * 7, none⟩ = some (.string (mk (Z[k]).1.name)) ∧ w.cell? ⟨b, off + k * 7 + 1, none⟩ = some (.int .u16 (Z[k]).1.kind) ∧ w.cell? ⟨b, off + k * 7 + 2, none⟩ = some (.int .u16 (Z[k]).1.cls) ∧ w.cell? ⟨b, off + k * 7 + 3, none⟩ = some (.int .u32 (Z[k]).1.ttl) ∧ w.cell? ⟨b, off + k * 7 + 4, none⟩ = some (.slice A1 (Z[k]).1.names.length c1) ∧ w.cell? ⟨b, off + k * 7 + 5, none⟩ = some (.slice A2 (Z[k]).1.nums.length c2) ∧ w.cell? ⟨b, off + k * 7 + 6, none⟩ = some (.slice A3 (Z[k]).1.texts.length c3) := by
  have e := fun j (hj : j < 7) => recCs_at (Z := Z) hk hj
  obtain ⟨A1, c1, A2, c2, A3, c3, e1, e2, e3, hat⟩ := hz (Z[k]) (List.getElem_mem hk)
  obtain ⟨b, off, rfl, hl, hc⟩ := h.get (e 0 (by decide))
  exact ⟨b, off, A1, c1, A2, c2, A3, c3, rfl, hl, hat, hc (k * 7) _ (e 0 (by decide)), hc (k * 7 + 1) _ (e 1 (by decide)), hc (k * 7 + 2) _ (e 2 (by decide)), hc (k * 7 + 3) _ (e 3 (by decide)), hc (k * 7 + 4) _ ((e 4 (by decide)).trans (by rw [e1]; rfl)), hc (k * 7 + 5) _ ((e 5 (by decide)).trans (by rw [e2]; rfl)), hc (k * 7 + 6) _ ((e 6 (by decide)).trans (by rw [e3]; rfl))⟩
/-- A row of one's own. -/
theorem cells_own {g size n : Nat} {e : TypeId} {v : Value} (h : w.ownsRow g e size v n xs) : ∃ A c, v = .slice A n c ∧ CellsAt w w.heap.size A xs := by
  rcases h.2 with ⟨rfl, h0⟩ | ⟨b, cap, cur, rfl, _, _, _⟩
  · exact ⟨none, 0, by rw [h0], .inl (List.length_eq_zero_iff.1 (by rw [h.1, h0, Nat.zero_mul]))⟩
  · refine ⟨_, cap, rfl, .inr ⟨b, 0, rfl, (h.lt b rfl).2, fun j u hu => ?_⟩⟩
    have := h.cells (g := b) rfl j u hu
    rwa [add_at, ← Nat.zero_add j] at this
theorem zAt_own {g : Nat} (h : ∀ z ∈ Z, RecIn w g z.1 z.2.1 z.2.2.1 z.2.2.2) : ZAt w w.heap.size Z := fun z hz => (h z hz).at_
end
/-- A list out of its places. -/
theorem list_of {α : Type} {P : Nat → α → Prop} : ∀ (n : Nat), (∀ k, k < n → ∃ x, P k x) → ∃ L : List α, L.length = n ∧ ∀ k (h : k < L.length), P k (L[k]) := by
  intro n
  induction n with
  | zero => intro _; exact ⟨[], rfl, fun k h => by cases h⟩
  | succ n ih =>
    intro h
    obtain ⟨L, hl, hL⟩ := ih fun k hk => h k (by omega)
    obtain ⟨x, hx⟩ := h n (by omega)
    refine ⟨L ++ [x], by rw [List.length_append, hl]; rfl, fun k hk => ?_⟩
    rw [List.length_append, List.length_singleton] at hk
    by_cases hkl : k < L.length
    · rw [List.getElem_append_left hkl]; exact hL k hkl
    · have : k = L.length := by omega
      subst this
      rw [List.getElem_append_right (Nat.le_refl _)]
      simp only [Nat.sub_self, List.getElem_cons_zero]
      rw [hl]
      exact hx
/-- Cells out of rows of equal width. -/
theorem cells_of {α : Type} {f : α → List Value} {m : Nat} (_hm : 0 < m) (hf : ∀ a, (f a).length = m) : ∀ {L : List α} {C : Nat → Option Value}, (∀ k (h : k < L.length) j, j < m → C (k * m + j) = (f (L[k]))[j]?) → ∀ j u, (L.flatMap f)[j]? = some u → C j = some u := by
  intro L
  induction L with
  | nil => intro C _ j u h; simp at h
  | cons a L ih =>
    intro C hC j u h
    have e : (a :: L).flatMap f = f a ++ L.flatMap f := rfl
    rw [e] at h
    by_cases hj : j < m
    · rw [List.getElem?_append_left (by rw [hf]; exact hj)] at h
      have := hC 0 (by simp) j hj
      rw [Nat.zero_mul, Nat.zero_add] at this
      rw [this]
      exact h
    · rw [List.getElem?_append_right (by rw [hf]; omega), hf] at h
      have := ih (C := fun i => C (m + i)) (fun k hk j hj => by
        have := hC (k + 1) (by simp; omega) j hj
        rw [Nat.add_mul, Nat.one_mul] at this
        simp only [List.getElem_cons_succ] at this
        rw [← this]
        congr 1
        omega) (j - m) u h
      rwa [show m + (j - m) = j by omega] at this
end Go.Proofs.Ytihkmdojakalbaa

/- How a message that came in reads. No condition. -/
namespace Go.Proofs.Ytihkmdojakalbaa
open Go.ChangeShapes Go.WideShapes Go.Deep Go.RowKit
open Bytes Strs Nums MsgMath RecMath

section
variable {H : Type} {enc : TypeId × Value → H} {P : Program} {w : World} {base : Nat} {spare : Nat → Bool} {held : Bool}
theorem open_row_fields {t e : TypeId} {fs : Array Field} {fuel : Nat} {cs : List Value} {x : DataW H × List MemPlace} (ht : P.underlying t = some (.slice e)) (he : P.underlying e = some (.struct fs))
    (hone : oneCellFields P fs = true) (hC : P.cellsOf e = fs.size) (h : DataW.trod enc P w base spare held fuel t cs = some x) :
    cs = [.slice none 0 0] ∨
    ∃ (a : Addr) (len cap : Nat), cs = [.slice (some a) len cap] ∧ len ≤ maxLen ∧
      ∀ i, i < len → ∃ n : Nat, ∀ (j : Nat) (f : Field), fs[j]? = some f → ∃ (v : Value) (y : DataW H × List MemPlace), w.cell? (a.add (i * fs.size + j)) = some v ∧ DataW.trod enc P w base spare held n f.type [v] = some y := by
  rcases open_slice ht h with h0 | ⟨a, len, cap, m, n, D, Pl, hcs, hb, hl, hm, hmm, hx, hi⟩
  · exact .inl h0.1
  · refine .inr ⟨a, len, cap, hcs, by omega, fun i him => ?_⟩
    obtain ⟨cs', hc, ht'⟩ := hi i (by rw [hmm]; split <;> omega)
    rw [hC] at hc
    obtain ⟨ys, n', hn', hy, hlen, hyl, hf⟩ := DataW.trod_struct he ht'
    obtain ⟨_, hcl, hat⟩ := World.cells?_some hc
    refine ⟨n', fun j f hj => ?_⟩
    obtain ⟨ho, hk⟩ := hone_of hone j f hj
    have hjl : j < fs.size := (Array.getElem?_eq_some_iff.1 hj).1
    have hcell := hat j hjl
    have hv : cs'[j]? = some (cs'[j]'(by omega)) := List.getElem?_eq_getElem (by omega)
    have h1 := hf j f hj
    rw [ho, hk] at h1
    have hone' : (cs'.drop j).take 1 = [cs'[j]'(by omega)] := by
      rw [List.drop_eq_getElem_cons (by omega)]
      rfl
    rw [hone'] at h1
    have hys : ys[j]? = some (ys[j]'(by omega)) := List.getElem?_eq_getElem (by omega)
    refine ⟨_, _, ?_, h1.trans hys⟩
    rw [← Go.Deep.add_add, hcell, hv]
end
section
variable {H : Type} {enc : TypeId × Value → H} {w : World} {base : Nat} {spare : Nat → Bool} {held : Bool} {fuel : Nat}
set_option maxRecDepth 100000 in
theorem came_qns {v : Value} {x : DataW H × List MemPlace} (h : DataW.trod enc Try.prog w base spare held fuel 24 [v] = some x) :
    ∃ A n c L, v = .slice A n c ∧ L.length = n ∧ n ≤ maxLen ∧ CellsAt w w.heap.size A (qnCs L) ∧ ∀ q ∈ L, q.name.length ≤ maxLen ∧ q.kind ≤ 65535 ∧ q.cls ≤ 65535 := by
  rcases open_row_fields Try.underlying24 Try.underlying44 (by kernel_rfl) (by kernel_rfl) h with hcs | ⟨a, len, cap, hcs, hl, hf⟩
  · injection hcs with hv
    exact ⟨none, 0, 0, [], hv, rfl, Nat.zero_le _, .inl rfl, fun q hq => by cases hq⟩
  · injection hcs with hv
    have hone : ∀ k, k < len → ∃ q : Qn, (w.cell? (a.add (k * 3)) = some (.string (mk q.name)) ∧ w.cell? (a.add (k * 3 + 1)) = some (.int .u16 q.kind) ∧ w.cell? (a.add (k * 3 + 2)) = some (.int .u16 q.cls)) ∧ q.name.length ≤ maxLen ∧ q.kind ≤ 65535 ∧ q.cls ≤ 65535 := by
      intro k hk
      obtain ⟨n, hfj⟩ := hf k hk
      obtain ⟨v0, y0, hc0, ht0⟩ := hfj 0 _ rfl
      obtain ⟨v1, y1, hc1, ht1⟩ := hfj 1 _ rfl
      obtain ⟨v2, y2, hc2, ht2⟩ := hfj 2 _ rfl
      obtain ⟨s, e0, _, hs⟩ := DataW.trod_string Try.underlying9 ht0
      obtain ⟨z1, e1, _, hz1⟩ := DataW.trod_int Try.underlying23 ht1
      obtain ⟨z2, e2, _, hz2⟩ := DataW.trod_int Try.underlying23 ht2
      injection e0 with e0
      injection e1 with e1
      injection e2 with e2
      subst e0 e1 e2
      obtain ⟨k1, rfl, hk1⟩ := wf_u16 hz1
      obtain ⟨k2, rfl, hk2⟩ := wf_u16 hz2
      refine ⟨⟨s.data.toList, k1, k2⟩, ⟨?_, hc1, hc2⟩, by rw [← Lib.size_eq]; exact hs, hk1, hk2⟩
      rw [mk_data]
      exact hc0
    obtain ⟨L, hL, hP⟩ := list_of len hone
    refine ⟨some a, len, cap, L, hv, hL, hl, ?_, fun q hq => ?_⟩
    · rcases Nat.eq_zero_or_pos len with h0 | hp
      · exact .inl (by rw [List.length_eq_zero_iff.1 (hL.trans h0)]; rfl)
      · obtain ⟨b, off, spot⟩ := a
        have hspot : spot = none := by
          have := (hP 0 (by omega)).1.1
          simpa [Addr.add] using World.cell?_spot this
        subst hspot
        refine .inr ⟨b, off, rfl, ?_, cells_of (m := 3) (by decide) (fun _ => rfl) (C := fun j => w.cell? ⟨b, off + j, none⟩) fun k hk j hj => ?_⟩
        · have := World.block_lt_of_cell? _ _ (hP 0 (by omega)).1.1
          rwa [Strs.add_block] at this
        · obtain ⟨⟨p0, p1, p2⟩, _⟩ := hP k hk
          rw [add_plain] at p0 p1 p2
          match j, hj with
          | 0, _ => exact p0
          | 1, _ => exact p1
          | 2, _ => exact p2
    · obtain ⟨k, hk, rfl⟩ := List.getElem_of_mem hq
      exact (hP k hk).2
set_option maxRecDepth 100000 in
theorem came_recs {v : Value} {x : DataW H × List MemPlace} (h : DataW.trod enc Try.prog w base spare held fuel 25 [v] = some x) :
    ∃ A n c Z, v = .slice A n c ∧ Z.length = n ∧ n ≤ maxLen ∧ CellsAt w w.heap.size A (recCs Z) ∧ ZAt w w.heap.size Z ∧ (A = none → c = 0) ∧ ∀ z ∈ Z, (z.1.name.length ≤ maxLen ∧ z.1.names.length ≤ maxLen ∧ z.1.nums.length ≤ maxLen ∧ z.1.texts.length ≤ maxLen ∧ z.1.kind ≤ 65535 ∧ z.1.cls ≤ 65535 ∧ z.1.ttl ≤ 4294967295) ∧ ∀ k, k < z.1.nums.length → z.1.nums.getD k 0 ≤ 4294967295 := by
  rcases open_row_fields Try.underlying25 Try.underlying49 (by kernel_rfl) (by kernel_rfl) h with hcs | ⟨a, len, cap, hcs, hl, hf⟩
  · injection hcs with hv
    exact ⟨none, 0, 0, [], hv, rfl, Nat.zero_le _, .inl rfl, fun q hq => (by cases hq), fun _ => rfl, fun q hq => by cases hq⟩
  · injection hcs with hv
    have hone : ∀ k, k < len → ∃ z : RecZ, (w.cell? (a.add (k * 7)) = some (.string (mk z.1.name)) ∧ w.cell? (a.add (k * 7 + 1)) = some (.int .u16 z.1.kind) ∧ w.cell? (a.add (k * 7 + 2)) = some (.int .u16 z.1.cls) ∧ w.cell? (a.add (k * 7 + 3)) = some (.int .u32 z.1.ttl) ∧ w.cell? (a.add (k * 7 + 4)) = some z.2.1 ∧ w.cell? (a.add (k * 7 + 5)) = some z.2.2.1 ∧ w.cell? (a.add (k * 7 + 6)) = some z.2.2.2) ∧ (∃ A1 c1 A2 c2 A3 c3, z.2.1 = .slice A1 z.1.names.length c1 ∧ z.2.2.1 = .slice A2 z.1.nums.length c2 ∧ z.2.2.2 = .slice A3 z.1.texts.length c3 ∧ RecAt w w.heap.size z.1 (mk z.1.name) z.1.kind z.1.cls z.1.ttl A1 z.1.names.length A2 z.1.nums.length A3 z.1.texts.length) ∧ (z.1.name.length ≤ maxLen ∧ z.1.names.length ≤ maxLen ∧ z.1.nums.length ≤ maxLen ∧ z.1.texts.length ≤ maxLen ∧ z.1.kind ≤ 65535 ∧ z.1.cls ≤ 65535 ∧ z.1.ttl ≤ 4294967295) ∧ ∀ k, k < z.1.nums.length → z.1.nums.getD k 0 ≤ 4294967295 := by
      intro k hk
      obtain ⟨n, hfj⟩ := hf k hk
      obtain ⟨v0, y0, hc0, ht0⟩ := hfj 0 _ rfl
      obtain ⟨v1, y1, hc1, ht1⟩ := hfj 1 _ rfl
      obtain ⟨v2, y2, hc2, ht2⟩ := hfj 2 _ rfl
      obtain ⟨v3, y3, hc3, ht3⟩ := hfj 3 _ rfl
      obtain ⟨v4, y4, hc4, ht4⟩ := hfj 4 _ rfl
      obtain ⟨v5, y5, hc5, ht5⟩ := hfj 5 _ rfl
      obtain ⟨v6, y6, hc6, ht6⟩ := hfj 6 _ rfl
      obtain ⟨s, e0, _, hs⟩ := DataW.trod_string Try.underlying9 ht0
      obtain ⟨z1, e1, _, hz1⟩ := DataW.trod_int Try.underlying23 ht1
      obtain ⟨z2, e2, _, hz2⟩ := DataW.trod_int Try.underlying23 ht2
      obtain ⟨z3, e3, _, hz3⟩ := DataW.trod_int Try.underlying46 ht3
      obtain ⟨A1, n1, c1, L1, rfl, hl1, hr1, hm1, _⟩ := came_texts ht4
      obtain ⟨A2, n2, c2, L2, rfl, hl2, hr2, hm2, _, hu2⟩ := came_nums ht5
      obtain ⟨A3, n3, c3, L3, rfl, hl3, hr3, hm3, _⟩ := came_texts ht6
      injection e0 with e0
      injection e1 with e1
      injection e2 with e2
      injection e3 with e3
      subst e0 e1 e2 e3
      obtain ⟨k1, rfl, hk1⟩ := wf_u16 hz1
      obtain ⟨k2, rfl, hk2⟩ := wf_u16 hz2
      obtain ⟨k3, rfl, hk3⟩ := wf_u32 hz3
      subst hl1 hl2 hl3
      refine ⟨(⟨s.data.toList, k1, k2, k3, L1, L2, L3⟩, .slice A1 L1.length c1, .slice A2 L2.length c2, .slice A3 L3.length c3), ⟨?_, hc1, hc2, hc3, hc4, hc5, hc6⟩, ⟨A1, c1, A2, c2, A3, c3, rfl, rfl, rfl, ⟨rfl, rfl, rfl, rfl, rfl, rfl, rfl, hr1, hr2, hr3⟩⟩, ⟨by simp only; rw [← Lib.size_eq]; exact hs, hm1, hm2, hm3, hk1, hk2, hk3⟩, hu2⟩
      simp only
      rw [mk_data]
      exact hc0
    obtain ⟨Z, hZ, hP⟩ := list_of len hone
    refine ⟨some a, len, cap, Z, hv, hZ, hl, ?_, fun z hz => ?_, fun e => (by cases e), fun z hz => ?_⟩
    · rcases Nat.eq_zero_or_pos len with h0 | hp
      · exact .inl (by rw [List.length_eq_zero_iff.1 (hZ.trans h0)]; rfl)
      · obtain ⟨b, off, spot⟩ := a
        have hspot : spot = none := by
          have := (hP 0 (by omega)).1.1
          simpa [Addr.add] using World.cell?_spot this
        subst hspot
        refine .inr ⟨b, off, rfl, ?_, cells_of (m := 7) (f := fun z : RecZ => recV z.1 z.2.1 z.2.2.1 z.2.2.2) (by decide) (fun _ => rfl) (C := fun j => w.cell? ⟨b, off + j, none⟩) fun k hk j hj => ?_⟩
        · have := World.block_lt_of_cell? _ _ (hP 0 (by omega)).1.1
          rwa [Strs.add_block] at this
        · obtain ⟨⟨p0, p1, p2, p3, p4, p5, p6⟩, _⟩ := hP k hk
          rw [add_plain] at p0 p1 p2 p3 p4 p5 p6
          match j, hj with
          | 0, _ => exact p0
          | 1, _ => exact p1
          | 2, _ => exact p2
          | 3, _ => exact p3
          | 4, _ => exact p4
          | 5, _ => exact p5
          | 6, _ => exact p6
    · obtain ⟨k, hk, rfl⟩ := List.getElem_of_mem hz
      exact (hP k hk).2.1
    · obtain ⟨k, hk, rfl⟩ := List.getElem_of_mem hz
      exact (hP k hk).2.2
/-- What is known of a message that came in. -/
structure CameMsg (w : World) (v : Value) (M : Msg) (Aq Aa An Ax : Option Addr) (cq ca cn cx : Nat) (Za Zn Zx : List RecZ) : Prop where
  val : v = .agg #[.int .u16 M.id, .int .u16 M.flags, .slice Aq M.qs.length cq, .slice Aa M.an.length ca, .slice An M.ns.length cn, .slice Ax M.ad.length cx]
  at_ : MsgAt w w.heap.size M Aq Aa An Ax Za Zn Zx
  nils : (Aa = none → ca = 0) ∧ (An = none → cn = 0) ∧ (Ax = none → cx = 0)
  id : M.id ≤ 65535
  flags : M.flags ≤ 65535
  lens : M.qs.length ≤ maxLen ∧ M.an.length ≤ maxLen ∧ M.ns.length ≤ maxLen ∧ M.ad.length ≤ maxLen
  qs : ∀ q ∈ M.qs, q.name.length ≤ maxLen ∧ q.kind ≤ 65535 ∧ q.cls ≤ 65535
  recs : ∀ R ∈ M.an ++ M.ns ++ M.ad, (R.name.length ≤ maxLen ∧ R.names.length ≤ maxLen ∧ R.nums.length ≤ maxLen ∧ R.texts.length ≤ maxLen ∧ R.kind ≤ 65535 ∧ R.cls ≤ 65535 ∧ R.ttl ≤ 4294967295) ∧ ∀ k, k < R.nums.length → R.nums.getD k 0 ≤ 4294967295
set_option maxRecDepth 100000 in
theorem came_msg {r : Reach} {b0 : Nat} {v : Value} {d : DataW H} {p : List MemPlace} (hv : Value.okWide Try.prog w r b0 27 v) (h : DataW.Trod enc Try.prog w base spare held 27 v d p) :
    ∃ M Aq Aa An Ax cq ca cn cx Za Zn Zx, CameMsg w v M Aq Aa An Ax cq ca cn cx Za Zn Zx := by
  obtain ⟨cs, rfl, hsz⟩ := okWide_struct Try.underlying27 hv
  obtain ⟨lst⟩ := cs
  match lst, hsz.trans (show Try.prog.cellsOf 27 = 6 by kernel_rfl) with
  | [a0, a1, a2, a3, a4, a5], _ =>
    obtain ⟨fuel, hf⟩ := h
    obtain ⟨xs, n, _, hx, _, hlen, hg⟩ := DataW.trod_struct Try.underlying27 hf
    match xs, hlen with
    | [y0, y1, y2, y3, y4, y5], _ =>
      have cs2 : Try.prog.cellsOf 23 = 1 := by kernel_rfl
      have cs4 : Try.prog.cellsOf 24 = 1 := by kernel_rfl
      have cs5 : Try.prog.cellsOf 25 = 1 := by kernel_rfl
      have g0 : DataW.trod enc Try.prog w base spare held n 23 [a0] = some y0 := by simpa [Value.cells, cs2] using hg 0 _ rfl
      have g1 : DataW.trod enc Try.prog w base spare held n 23 [a1] = some y1 := by simpa [Value.cells, cs2] using hg 1 _ rfl
      have g2 : DataW.trod enc Try.prog w base spare held n 24 [a2] = some y2 := by simpa [Value.cells, cs4] using hg 2 _ rfl
      have g3 : DataW.trod enc Try.prog w base spare held n 25 [a3] = some y3 := by simpa [Value.cells, cs5] using hg 3 _ rfl
      have g4 : DataW.trod enc Try.prog w base spare held n 25 [a4] = some y4 := by simpa [Value.cells, cs5] using hg 4 _ rfl
      have g5 : DataW.trod enc Try.prog w base spare held n 25 [a5] = some y5 := by simpa [Value.cells, cs5] using hg 5 _ rfl
      obtain ⟨z0, e0, _, hz0⟩ := DataW.trod_int Try.underlying23 g0
      obtain ⟨z1, e1, _, hz1⟩ := DataW.trod_int Try.underlying23 g1
      obtain ⟨Aq, nq, cq, L, rfl, hq1, hq2, hq3, hq4⟩ := came_qns g2
      obtain ⟨Aa, na, ca, Za, rfl, ha1, ha2, ha3, ha4, ha6, ha5⟩ := came_recs g3
      obtain ⟨An, nn, cn, Zn, rfl, hn1, hn2, hn3, hn4, hn6, hn5⟩ := came_recs g4
      obtain ⟨Ax, nx, cx, Zx, rfl, hx1, hx2, hx3, hx4, hx6, hx5⟩ := came_recs g5
      injection e0 with e0
      injection e1 with e1
      subst e0 e1
      obtain ⟨k0, rfl, hk0⟩ := wf_u16 hz0
      obtain ⟨k1, rfl, hk1⟩ := wf_u16 hz1
      subst hq1 ha1 hn1 hx1
      refine ⟨⟨k0, k1, L, Za.map (·.1), Zn.map (·.1), Zx.map (·.1)⟩, Aq, Aa, An, Ax, cq, ca, cn, cx, Za, Zn, Zx, by simp only [List.length_map], ⟨hq3, ha3, hn3, hx3, ha4, hn4, hx4, rfl, rfl, rfl⟩, ⟨ha6, hn6, hx6⟩, hk0, hk1, by simp only [List.length_map]; exact ⟨hq2, ha2, hn2, hx2⟩, hq4, fun R hR => ?_⟩
      simp only [List.mem_append, List.mem_map] at hR
      rcases hR with (⟨z, hz, rfl⟩ | ⟨z, hz, rfl⟩) | ⟨z, hz, rfl⟩
      · exact ha5 z hz
      · exact hn5 z hz
      · exact hx5 z hz
end
end Go.Proofs.Ytihkmdojakalbaa
