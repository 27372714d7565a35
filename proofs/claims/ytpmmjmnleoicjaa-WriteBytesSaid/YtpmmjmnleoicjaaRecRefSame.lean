/- The contracts of rdata's Same and of the document's Same. For records of at most 10^5 texts of at most 10^5 bytes. -/
import Derived.Test.YtpmmjmnleoicjaaProg
import Derived.Test.YtpmmjmnleoicjaaRecAt
import Derived.Test.YtpmmjmnleoicjaaRecShape
import Derived.Test.YtpmmjmnleoicjaaRecRefEqual
import Derived.WalkKit
import Derived.Lib.Hide
import Derived.Outline
import Derived.IntWalk
import Derived.WalkSpells
import Derived.WalkLawsBesides
import Derived.Deep.QuietTactic
import Derived.BigQuiet
import Derived.Deep.Draws
namespace Go.Proofs.Ytpmmjmnleoicjaa
open Go.RowKit Bytes Strs Nums NameMath RecMath

theorem text_eq {x y : ByteArray} {a b : List UInt8} (ha : x.data.toList = a) (hb : y.data.toList = b) : (x.toList == y.toList) = decide (a = b) := by
  rw [Lib.toList_data, Lib.toList_data, ha, hb]
  by_cases h : a = b
  · rw [decide_eq_true h, h]; exact beq_self_eq_true _
  · rw [decide_eq_false h]; exact beq_eq_false_iff_ne.2 h

set_option maxHeartbeats 8000000 in
set_option maxRecDepth 100000 in
theorem refSame_is (R Q : Rec) (x : ByteArray) (k l t : Nat) (A1 : Option Addr) (n1 c1 : Nat) (A2 : Option Addr) (n2 c2 : Nat) (A3 : Option Addr) (n3 c3 : Nat) (xq : ByteArray) (kq lq tq : Nat) (Aq1 : Option Addr) (nq1 cq1 : Nat) (Aq2 : Option Addr) (nq2 cq2 : Nat) (Aq3 : Option Addr) (nq3 cq3 : Nat) (q : Bool) (w : World) (hR : Hid (RecAt w w.heap.size R x k l t A1 n1 A2 n2 A3 n3)) (hS : Hid (Small R)) (hR' : Hid (RecAt w w.heap.size Q xq kq lq tq Aq1 nq1 Aq2 nq2 Aq3 nq3)) (hS' : Hid (Small Q)) (hq : Hid (sameB R Q = q)) :
    Calls Try.prog 94 #[.agg #[.string x, .int .u16 k, .int .u16 l, .int .u32 t, .slice A1 n1 c1, .slice A2 n2 c2, .slice A3 n3 c3], .agg #[.string xq, .int .u16 kq, .int .u16 lq, .int .u32 tq, .slice Aq1 nq1 cq1, .slice Aq2 nq2 cq2, .slice Aq3 nq3 cq3]] w fun e w' => e = .returned (.bool q) ∧ Below w.heap.size w w' := by
  have hm1 := hR.out.m1 hS.out
  have hm2 := hR.out.m2 hS.out
  have hm3 := hR.out.m3 hS.out
  have hmq1 := hR'.out.m1 hS'.out
  have hmq2 := hR'.out.m2 hS'.out
  have hmq3 := hR'.out.m3 hS'.out
  have HR2 := Lib.hid ((hR.out.box (.cells #[.string x, .int .u16 k, .int .u16 l, .int .u32 t, .slice A1 n1 c1, .slice A2 n2 c2, .slice A3 n3 c3] 60)).box (.cells #[.string xq, .int .u16 kq, .int .u16 lq, .int .u32 tq, .slice Aq1 nq1 cq1, .slice Aq2 nq2 cq2, .slice Aq3 nq3 cq3] 60))
  have HQ2 := Lib.hid ((hR'.out.box (.cells #[.string x, .int .u16 k, .int .u16 l, .int .u32 t, .slice A1 n1 c1, .slice A2 n2 c2, .slice A3 n3 c3] 60)).box (.cells #[.string xq, .int .u16 kq, .int .u16 lq, .int .u32 tq, .slice Aq1 nq1 cq1, .slice Aq2 nq2 cq2, .slice Aq3 nq3 cq3] 60))
  have HB0 : Hid (Below w.heap.size w ((w.alloc (.cells #[.string x, .int .u16 k, .int .u16 l, .int .u32 t, .slice A1 n1 c1, .slice A2 n2 c2, .slice A3 n3 c3] 60)).alloc (.cells #[.string xq, .int .u16 kq, .int .u16 lq, .int .u32 tq, .slice Aq1 nq1 cq1, .slice Aq2 nq2 cq2, .slice Aq3 nq3 cq3] 60))) := ((Below.refl _ _).alloc (Nat.le_refl _) _).alloc (by simp) _
  have d0 : ((w.alloc (.cells #[.string x, .int .u16 k, .int .u16 l, .int .u32 t, .slice A1 n1 c1, .slice A2 n2 c2, .slice A3 n3 c3] 60)).alloc (.cells #[.string xq, .int .u16 kq, .int .u16 lq, .int .u32 tq, .slice Aq1 nq1 cq1, .slice Aq2 nq2 cq2, .slice Aq3 nq3 cq3] 60)).cell? ⟨w.heap.size, 0, none⟩ = some (.string x) := by simp
  have b0 : ((w.alloc (.cells #[.string x, .int .u16 k, .int .u16 l, .int .u32 t, .slice A1 n1 c1, .slice A2 n2 c2, .slice A3 n3 c3] 60)).alloc (.cells #[.string xq, .int .u16 kq, .int .u16 lq, .int .u32 tq, .slice Aq1 nq1 cq1, .slice Aq2 nq2 cq2, .slice Aq3 nq3 cq3] 60)).cell? ⟨w.heap.size + 1, 0, none⟩ = some (.string xq) := by simp
  have d1 : ((w.alloc (.cells #[.string x, .int .u16 k, .int .u16 l, .int .u32 t, .slice A1 n1 c1, .slice A2 n2 c2, .slice A3 n3 c3] 60)).alloc (.cells #[.string xq, .int .u16 kq, .int .u16 lq, .int .u32 tq, .slice Aq1 nq1 cq1, .slice Aq2 nq2 cq2, .slice Aq3 nq3 cq3] 60)).cell? ⟨w.heap.size, 1, none⟩ = some (.int .u16 k) := by simp
  have b1 : ((w.alloc (.cells #[.string x, .int .u16 k, .int .u16 l, .int .u32 t, .slice A1 n1 c1, .slice A2 n2 c2, .slice A3 n3 c3] 60)).alloc (.cells #[.string xq, .int .u16 kq, .int .u16 lq, .int .u32 tq, .slice Aq1 nq1 cq1, .slice Aq2 nq2 cq2, .slice Aq3 nq3 cq3] 60)).cell? ⟨w.heap.size + 1, 1, none⟩ = some (.int .u16 kq) := by simp
  have d2 : ((w.alloc (.cells #[.string x, .int .u16 k, .int .u16 l, .int .u32 t, .slice A1 n1 c1, .slice A2 n2 c2, .slice A3 n3 c3] 60)).alloc (.cells #[.string xq, .int .u16 kq, .int .u16 lq, .int .u32 tq, .slice Aq1 nq1 cq1, .slice Aq2 nq2 cq2, .slice Aq3 nq3 cq3] 60)).cell? ⟨w.heap.size, 2, none⟩ = some (.int .u16 l) := by simp
  have b2 : ((w.alloc (.cells #[.string x, .int .u16 k, .int .u16 l, .int .u32 t, .slice A1 n1 c1, .slice A2 n2 c2, .slice A3 n3 c3] 60)).alloc (.cells #[.string xq, .int .u16 kq, .int .u16 lq, .int .u32 tq, .slice Aq1 nq1 cq1, .slice Aq2 nq2 cq2, .slice Aq3 nq3 cq3] 60)).cell? ⟨w.heap.size + 1, 2, none⟩ = some (.int .u16 lq) := by simp
  have d3 : ((w.alloc (.cells #[.string x, .int .u16 k, .int .u16 l, .int .u32 t, .slice A1 n1 c1, .slice A2 n2 c2, .slice A3 n3 c3] 60)).alloc (.cells #[.string xq, .int .u16 kq, .int .u16 lq, .int .u32 tq, .slice Aq1 nq1 cq1, .slice Aq2 nq2 cq2, .slice Aq3 nq3 cq3] 60)).cell? ⟨w.heap.size, 3, none⟩ = some (.int .u32 t) := by simp
  have b3 : ((w.alloc (.cells #[.string x, .int .u16 k, .int .u16 l, .int .u32 t, .slice A1 n1 c1, .slice A2 n2 c2, .slice A3 n3 c3] 60)).alloc (.cells #[.string xq, .int .u16 kq, .int .u16 lq, .int .u32 tq, .slice Aq1 nq1 cq1, .slice Aq2 nq2 cq2, .slice Aq3 nq3 cq3] 60)).cell? ⟨w.heap.size + 1, 3, none⟩ = some (.int .u32 tq) := by simp
  have d4 : ((w.alloc (.cells #[.string x, .int .u16 k, .int .u16 l, .int .u32 t, .slice A1 n1 c1, .slice A2 n2 c2, .slice A3 n3 c3] 60)).alloc (.cells #[.string xq, .int .u16 kq, .int .u16 lq, .int .u32 tq, .slice Aq1 nq1 cq1, .slice Aq2 nq2 cq2, .slice Aq3 nq3 cq3] 60)).cell? ⟨w.heap.size, 4, none⟩ = some (.slice A1 n1 c1) := by simp
  have b4 : ((w.alloc (.cells #[.string x, .int .u16 k, .int .u16 l, .int .u32 t, .slice A1 n1 c1, .slice A2 n2 c2, .slice A3 n3 c3] 60)).alloc (.cells #[.string xq, .int .u16 kq, .int .u16 lq, .int .u32 tq, .slice Aq1 nq1 cq1, .slice Aq2 nq2 cq2, .slice Aq3 nq3 cq3] 60)).cell? ⟨w.heap.size + 1, 4, none⟩ = some (.slice Aq1 nq1 cq1) := by simp
  have d5 : ((w.alloc (.cells #[.string x, .int .u16 k, .int .u16 l, .int .u32 t, .slice A1 n1 c1, .slice A2 n2 c2, .slice A3 n3 c3] 60)).alloc (.cells #[.string xq, .int .u16 kq, .int .u16 lq, .int .u32 tq, .slice Aq1 nq1 cq1, .slice Aq2 nq2 cq2, .slice Aq3 nq3 cq3] 60)).cell? ⟨w.heap.size, 5, none⟩ = some (.slice A2 n2 c2) := by simp
  have b5 : ((w.alloc (.cells #[.string x, .int .u16 k, .int .u16 l, .int .u32 t, .slice A1 n1 c1, .slice A2 n2 c2, .slice A3 n3 c3] 60)).alloc (.cells #[.string xq, .int .u16 kq, .int .u16 lq, .int .u32 tq, .slice Aq1 nq1 cq1, .slice Aq2 nq2 cq2, .slice Aq3 nq3 cq3] 60)).cell? ⟨w.heap.size + 1, 5, none⟩ = some (.slice Aq2 nq2 cq2) := by simp
  have d6 : ((w.alloc (.cells #[.string x, .int .u16 k, .int .u16 l, .int .u32 t, .slice A1 n1 c1, .slice A2 n2 c2, .slice A3 n3 c3] 60)).alloc (.cells #[.string xq, .int .u16 kq, .int .u16 lq, .int .u32 tq, .slice Aq1 nq1 cq1, .slice Aq2 nq2 cq2, .slice Aq3 nq3 cq3] 60)).cell? ⟨w.heap.size, 6, none⟩ = some (.slice A3 n3 c3) := by simp
  have b6 : ((w.alloc (.cells #[.string x, .int .u16 k, .int .u16 l, .int .u32 t, .slice A1 n1 c1, .slice A2 n2 c2, .slice A3 n3 c3] 60)).alloc (.cells #[.string xq, .int .u16 kq, .int .u16 lq, .int .u32 tq, .slice Aq1 nq1 cq1, .slice Aq2 nq2 cq2, .slice Aq3 nq3 cq3] 60)).cell? ⟨w.heap.size + 1, 6, none⟩ = some (.slice Aq3 nq3 cq3) := by simp
  have HL1 := Lib.hid HR2.out.len1
  have HL2 := Lib.hid HR2.out.len2
  have HL3 := Lib.hid HR2.out.len3
  have HM1 := Lib.hid HQ2.out.len1
  have HM2 := Lib.hid HQ2.out.len2
  have HM3 := Lib.hid HQ2.out.len3
  have f0 := text_eq hR.out.name hR'.out.name
  have k1 := hR.out.kind
  have k2 := hR'.out.kind
  have l1 := hR.out.cls
  have l2 := hR'.out.cls
  have t1 := hR.out.ttl
  have t2 := hR'.out.ttl
  have K1 := Lib.hid k1
  have K2 := Lib.hid k2
  have C1 := Lib.hid l1
  have C2 := Lib.hid l2
  have T1 := Lib.hid t1
  have T2 := Lib.hid t2
  have hn1 : n1 ≤ 1000000 := by omega
  have hn2 : n2 ≤ 1000000 := by omega
  have hn3 : n3 ≤ 1000000 := by omega
  clear k1 k2 l1 l2 t1 t2 hR hR'
  by_cases e0 : R.name = Q.name
  rotate_left
  · rw [decide_eq_false e0] at f0
    obtain rfl : q = false := by rw [← hq.out]; exact decide_eq_false (fun h => e0 h.1)
    have f1 : (!(x.toList == xq.toList)) = true := by rw [f0]; rfl
    clear e0 hq
    go_enter Try.func94, Try.ntmps94
    go_wp2_with fail
    go_ret
    exact ⟨rfl, HB0.out⟩
  rw [decide_eq_true e0] at f0
  have f1 : (!(x.toList == xq.toList)) = false := by rw [f0]; rfl
  by_cases e1 : R.kind = Q.kind
  rotate_left
  · have u : k ≠ kq := by rw [← K1.out, ← K2.out]; exact e1
    have f : ((k : Int) != (kq : Int)) = true := int_nne u
    obtain rfl : q = false := by rw [← hq.out]; exact decide_eq_false (fun h => e1 h.2.1)
    clear e0 e1 u hq
    go_enter Try.func94, Try.ntmps94
    go_wp2_with fail
    go_ret
    exact ⟨rfl, HB0.out⟩
  have fkind : ((k : Int) != (kq : Int)) = false := int_neq (by rw [← K1.out, ← K2.out]; exact e1)
  by_cases e2 : R.cls = Q.cls
  rotate_left
  · have u : l ≠ lq := by rw [← C1.out, ← C2.out]; exact e2
    have f : ((l : Int) != (lq : Int)) = true := int_nne u
    obtain rfl : q = false := by rw [← hq.out]; exact decide_eq_false (fun h => e2 h.2.2.1)
    clear e0 e1 e2 u hq
    go_enter Try.func94, Try.ntmps94
    go_wp2_with fail
    go_ret
    exact ⟨rfl, HB0.out⟩
  have fcls : ((l : Int) != (lq : Int)) = false := int_neq (by rw [← C1.out, ← C2.out]; exact e2)
  by_cases e3 : R.ttl = Q.ttl
  rotate_left
  · have u : t ≠ tq := by rw [← T1.out, ← T2.out]; exact e3
    have f : ((t : Int) != (tq : Int)) = true := int_nne u
    obtain rfl : q = false := by rw [← hq.out]; exact decide_eq_false (fun h => e3 h.2.2.2.1)
    clear e0 e1 e2 e3 u hq
    go_enter Try.func94, Try.ntmps94
    go_wp2_with fail
    go_ret
    exact ⟨rfl, HB0.out⟩
  have fttl : ((t : Int) != (tq : Int)) = false := int_neq (by rw [← T1.out, ← T2.out]; exact e3)
  obtain ⟨z4, hz4⟩ : ∃ z, decide (R.names = Q.names) = z := ⟨_, rfl⟩
  obtain ⟨z5, hz5⟩ : ∃ z, decide (R.nums = Q.nums) = z := ⟨_, rfl⟩
  obtain ⟨z6, hz6⟩ : ∃ z, decide (R.texts = Q.texts) = z := ⟨_, rfl⟩
  have hqq : q = (z4 && (z5 && z6)) := by
    rw [← hq.out, ← hz4, ← hz5, ← hz6]
    unfold sameB
    simp [e0, e1, e2, e3]
  have HQQ := Lib.hid hqq
  have HZ4 := Lib.hid hz4
  have HZ5 := Lib.hid hz5
  have HZ6 := Lib.hid hz6
  clear hqq hz4 hz5 hz6 e0 e1 e2 e3 hq
  go_enter Try.func94, Try.ntmps94
  go_wp2_with fail
  generalize ((w.alloc (.cells #[.string x, .int .u16 k, .int .u16 l, .int .u32 t, .slice A1 n1 c1, .slice A2 n2 c2, .slice A3 n3 c3] 60)).alloc (.cells #[.string xq, .int .u16 kq, .int .u16 lq, .int .u32 tq, .slice Aq1 nq1 cq1, .slice Aq2 nq2 cq2, .slice Aq3 nq3 cq3] 60)) = wb at *
  generalize hgw : w.heap.size = g at *
  have HGW := Lib.hid hgw
  clear hgw
  ((with_reducible refine (refTexts A1 Aq1 c1 cq1 n1 nq1 R.names Q.names z4 _ HR2.out.rd1 HQ2.out.rd1 HL1 HM1 hn1 HZ4).mono ?_))
  rintro e w' ⟨rfl, N1, rfl⟩
  cases z4 with
  | false =>
    obtain rfl : q = false := HQQ.out
    go_wp2_with fail
    go_ret
    exact ⟨rfl, by have h := HB0.out; rw [← HGW.out] at h; exact below_drewN h _⟩
  | true =>
    go_wp2_with fail
    ((with_reducible refine (refTexts A3 Aq3 c3 cq3 n3 nq3 R.texts Q.texts z6 _ (HR2.out.rd3.on (below_drewN (Below.refl _ _) N1) (Nat.le_refl _)) (HQ2.out.rd3.on (below_drewN (Below.refl _ _) N1) (Nat.le_refl _)) HL3 HM3 hn3 HZ6).mono ?_))
    rintro e w' ⟨rfl, N2, rfl⟩
    cases z6 with
    | false =>
      obtain rfl : q = false := by rw [HQQ.out]; cases z5 <;> rfl
      go_wp2_with fail
      go_ret
      exact ⟨rfl, by have h := HB0.out; rw [← HGW.out] at h; exact below_drewN h _⟩
    | true =>
      have hqz : q = z5 := by rw [HQQ.out]; cases z5 <;> rfl
      subst hqz
      by_cases hne : n2 = nq2
      rotate_left
      · have fne : ((n2 : Int) != (nq2 : Int)) = true := int_nne hne
        obtain rfl : q = false := by
          rw [← HZ5.out]
          refine decide_eq_false (fun h => hne ?_)
          rw [← HL2.out, ← HM2.out, h]
        clear hne
        go_wp2_with fail
        go_ret
        exact ⟨rfl, by have h := HB0.out; rw [← HGW.out] at h; exact below_drewN h _⟩
      have fne : ((n2 : Int) != (nq2 : Int)) = false := int_neq hne
      have hle1 : n2 ≤ nq2 := by omega
      have hle2 : nq2 ≤ n2 := by omega
      clear hne
      go_wp2_with fail
      go_loopw [5] (fun i wr => ∃ j N : Nat, j ≤ n2 ∧ i = .int .i64 j ∧ Hid (∀ i, i < j → R.nums.getD i 0 = Q.nums.getD i 0) ∧ wr = wb.drewN N) (fun i _ => n2 - (intOf i).toNat)
      case atStart => exact ⟨0, _, Nat.zero_le _, rfl, Lib.hid (fun j hj => absurd hj (Nat.not_lt_zero _)), rfl⟩
      case round =>
        obtain ⟨j, N, hj, rfl, hE, rfl⟩ := hrel
        by_cases hlt : j < n2
        · have hlt2 : j < nq2 := by omega
          have hkl : j < R.nums.length := by rw [HL2.out]; exact hlt
          have hkm : j < Q.nums.length := by rw [HM2.out]; exact hlt2
          obtain ⟨ad, rfl, hab, hcell⟩ := HR2.out.rd2.get hkl
          obtain ⟨ae, rfl, hae, hcell2⟩ := HQ2.out.rd2.get hkm
          obtain ⟨z, hz⟩ : ∃ z, decide (R.nums.getD j 0 = Q.nums.getD j 0) = z := ⟨_, rfl⟩
          have hne : (((R.nums.getD j 0 : Nat) : Int) != ((Q.nums.getD j 0 : Nat) : Int)) = !z := by
            rw [← hz]
            by_cases h : R.nums.getD j 0 = Q.nums.getD j 0
            · rw [decide_eq_true h]; exact bne_eq_false_iff_eq.2 (by omega)
            · rw [decide_eq_false h]; exact bne_iff_ne.2 (by omega)
          cases z with
          | true =>
            have hE2 : Hid (∀ i, i < j + 1 → R.nums.getD i 0 = Q.nums.getD i 0) := fun i hi => by
              rcases Nat.lt_or_ge i j with h | h
              · exact hE.out i h
              · obtain rfl : i = j := by omega
                exact of_decide_eq_true hz
            generalize R.nums.getD j 0 = y at *
            generalize Q.nums.getD j 0 = yq at *
            clear hz hkl hkm hE
            go_wp2_with fail
            go_quiet (fail)
            go_wp2_with fail
            go_roundw
            case rel => exact ⟨j + 1, _, by omega, by go_num, hE2, rfl⟩
            case measure => simp [intOf]; omega
          | false =>
            obtain rfl : q = false := by
              rw [← HZ5.out]
              exact decide_eq_false (fun h => of_decide_eq_false hz (by rw [h]))
            generalize R.nums.getD j 0 = y at *
            generalize Q.nums.getD j 0 = yq at *
            clear hz hkl hkm hE
            go_wp2_with fail
            go_quiet (fail)
            go_wp2_with fail
            go_ret
            exact ⟨rfl, by have h := HB0.out; rw [← HGW.out] at h; exact below_drewN (below_drewN h _) _⟩
        · obtain rfl : q = true := by
            rw [← HZ5.out]
            exact decide_eq_true (list_sameN (by rw [HL2.out, HM2.out]; omega) (fun i hi => hE.out i (by rw [HL2.out] at hi; omega)))
          clear hE
          go_wp2_with fail
          go_ret
          exact ⟨rfl, by have h := HB0.out; rw [← HGW.out] at h; exact below_drewN h _⟩

end Go.Proofs.Ytpmmjmnleoicjaa
