/- The contracts of slices.Equal over texts and over numbers, and of the document's own look at two lists of texts. For lists of at most 10^6. -/
import Derived.Test.YtpmmjmnleoicjaaProg
import Derived.Test.YtpmmjmnleoicjaaStrs
import Derived.Test.YtpmmjmnleoicjaaNums
import Derived.Test.YtpmmjmnleoicjaaRecShape
import Derived.WalkKit
import Derived.Lib.Hide
import Derived.Outline
import Derived.IntWalk
import Derived.WalkSpells
import Derived.WalkLawsBesides
import Derived.Deep.QuietTactic
import Derived.BigQuiet
import Derived.Deep.Draws
namespace Go.Proofs.Ytpmmjmnleoicjaa
open Go.RowKit Bytes Strs Nums

theorem list_same {L M : List (List UInt8)} (hl : L.length = M.length) (h : ∀ j, j < L.length → L.getD j [] = M.getD j []) : L = M := by
  apply List.ext_getElem hl
  intro j h1 h2
  have := h j h1
  rw [List.getD_eq_getElem?_getD, List.getD_eq_getElem?_getD, List.getElem?_eq_getElem h1, List.getElem?_eq_getElem h2] at this
  exact this
theorem list_sameN {L M : List Nat} (hl : L.length = M.length) (h : ∀ j, j < L.length → L.getD j 0 = M.getD j 0) : L = M := by
  apply List.ext_getElem hl
  intro j h1 h2
  have := h j h1
  rw [List.getD_eq_getElem?_getD, List.getD_eq_getElem?_getD, List.getElem?_eq_getElem h1, List.getElem?_eq_getElem h2] at this
  exact this

set_option maxHeartbeats 2000000 in
set_option maxRecDepth 100000 in
theorem refTexts (A B : Option Addr) (c1 c2 n m : Nat) (L M : List (List UInt8)) (q : Bool) (w : World) (hr : RdS w w.heap.size A L) (hr2 : RdS w w.heap.size B M) (hn0 : Hid (L.length = n)) (hm0 : Hid (M.length = m)) (hn : n ≤ 1000000) (hq : Hid (decide (L = M) = q)) :
    Calls Try.prog 119 #[.slice A n c1, .slice B m c2] w fun e w' => e = .returned (.bool q) ∧ ∃ N, w.drewN N = w' := by
  have HR := Lib.hid hr; clear hr
  have HR2 := Lib.hid hr2; clear hr2
  by_cases hnm : n = m
  · have hnmi : ((n : Int) != (m : Int)) = false := bne_eq_false_iff_eq.2 (by omega)
    have hnm2 : n ≤ m := by omega
    have hnm3 : m ≤ n := by omega
    clear hnm
    go_enter Try.func119, Try.ntmps119
    go_wp2_with fail
    go_loopw [5] (fun i wr => ∃ k N : Nat, k ≤ n ∧ i = .int .i64 k ∧ Hid (∀ j, j < k → L.getD j [] = M.getD j []) ∧ wr = w.drewN N) (fun i _ => n - (intOf i).toNat)
    case atStart => exact ⟨0, 0, Nat.zero_le _, rfl, Lib.hid (fun j hj => absurd hj (Nat.not_lt_zero _)), rfl⟩
    case round =>
      obtain ⟨k, N, hk, rfl, hE, rfl⟩ := hrel
      by_cases hlt : k < n
      · have hlt2 : k < m := by omega
        have hkl : k < L.length := by rw [hn0.out]; exact hlt
        have hkm : k < M.length := by rw [hm0.out]; exact hlt2
        obtain ⟨a, rfl, hab, hcell⟩ := HR.out.get hkl
        obtain ⟨b, rfl, hbb, hcell2⟩ := HR2.out.get hkm
        obtain ⟨z, hz⟩ : ∃ z, decide (L.getD k [] = M.getD k []) = z := ⟨_, rfl⟩
        have hne : (!((mk (L.getD k [])).toList == (mk (M.getD k [])).toList)) = !z := by
          rw [eq_toList, ← hz]
          congr 1
          exact decide_eq_decide.2 ⟨fun h => mk_inj h, fun h => by rw [h]⟩
        cases z with
        | true =>
          have hE2 : Hid (∀ j, j < k + 1 → L.getD j [] = M.getD j []) := fun j hj => by
            rcases Nat.lt_or_ge j k with h | h
            · exact hE.out j h
            · obtain rfl : j = k := by omega
              exact of_decide_eq_true hz
          generalize mk (L.getD k []) = x at *
          generalize mk (M.getD k []) = y at *
          clear hz hkl hkm hE
          go_wp2_with fail
          go_quiet (fail)
          go_wp2_with fail
          go_roundw
          case rel => exact ⟨k + 1, _, by omega, by go_num, hE2, rfl⟩
          case measure => simp [intOf]; omega
        | false =>
          obtain rfl : q = false := by
            rw [← hq.out]
            exact decide_eq_false (fun h => of_decide_eq_false hz (by rw [h]))
          generalize mk (L.getD k []) = x at *
          generalize mk (M.getD k []) = y at *
          clear hz hkl hkm hE hq
          go_wp2_with fail
          go_quiet (fail)
          go_wp2_with fail
          go_ret
          exact ⟨rfl, _, (World.drewN_drewN _ _ _).symm⟩
      · obtain rfl : q = true := by
          rw [← hq.out]
          exact decide_eq_true (list_same (by rw [hn0.out, hm0.out]; omega) (fun j hj => hE.out j (by rw [hn0.out] at hj; omega)))
        clear hE hq
        go_wp2_with fail
        go_ret
        exact ⟨rfl, _, rfl⟩
  · obtain rfl : q = false := by
      rw [← hq.out]
      refine decide_eq_false (fun h => hnm ?_)
      have := congrArg List.length h
      rw [hn0.out, hm0.out] at this
      exact this
    have hnmi : ((n : Int) != (m : Int)) = true := bne_iff_ne.2 (by omega)
    clear hnm hq
    go_enter Try.func119, Try.ntmps119
    go_wp2_with fail
    go_ret
    exact ⟨rfl, 0, rfl⟩
end Go.Proofs.Ytpmmjmnleoicjaa
