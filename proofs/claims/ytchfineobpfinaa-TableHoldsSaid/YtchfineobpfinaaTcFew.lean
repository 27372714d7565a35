/- The laws' Few: whether acts are few and short. No condition. -/
import Derived.Test.YtchfineobpfinaaProg
import Derived.Test.YtchfineobpfinaaTbMath
import Derived.Test.YtchfineobpfinaaTbMem
import Derived.Test.YtchfineobpfinaaTcActs
import Derived.WalkKit
import Derived.Lib.Hide
import Derived.Outline
import Derived.IntWalk
import Derived.WalkSpells
import Derived.WalkLawsBesides
import Derived.Deep.QuietTactic
import Derived.BigQuiet
namespace Go.Proofs.Ytchfineobpfinaa
open Go.RowKit Tb

set_option maxHeartbeats 4000000 in
set_option maxRecDepth 100000 in
theorem few_is (a : Option Addr) (n c : Nat) (L : List ActE) (w : World) (h : Hid (RdT w w.heap.size a n L)) (hn : n ≤ maxLen) :
    Calls Try.prog 9 #[.slice a n c] w fun e w' => (e = .returned (.bool true) ∧ Below w.heap.size w w' ∧ Hid (∀ k, k < n → (actAt L k).name.size < 3000 ∧ (actAt L k).val.size < 3000)) ∨ (e = .returned (.bool false) ∧ Below w.heap.size w w') := by
  unfold maxLen at hn
  obtain ⟨n0, hn0⟩ : ∃ n0 : Nat, min (n : Int) 3000 = (n0 : Int) := ⟨(min (n : Int) 3000).toNat, by omega⟩
  have hn1 : n0 ≤ 3000 := by omega
  go_enter Try.func9, Try.ntmps9
  go_wp2_with fail
  go_loopw [3, 4] (fun x i wr => ∃ (k s q : Nat), k ≤ n ∧ x = .int .i64 (s : Int) ∧ i = .int .i64 (k : Int) ∧ s ≤ 9000 ∧ Hid (s < 3000 → ∀ j, j < k → (actAt L j).name.size < 3000 ∧ (actAt L j).val.size < 3000) ∧ wr = w.drewN q) (fun _ i _ => n - (intOf i).toNat)
  case atStart => exact ⟨0, n0, 0, Nat.zero_le _, rfl, rfl, by omega, Lib.hid (fun _ j hj => absurd hj (Nat.not_lt_zero j)), rfl⟩
  case round =>
    obtain ⟨k, s, qd, hk, rfl, rfl, hs9, hA, rfl⟩ := hrel
    by_cases hlt : k < n
    · have hli : (k : Int) < (n : Int) := by omega
      by_cases hs3 : s < 3000
      · have hsi : (s : Int) < 3000 := by omega
        obtain ⟨b, off, rfl, hb, c0, c1, c2, _, _, hz0, hz1⟩ := h.out.2 k hlt
        unfold maxLen at hz0 hz1
        have hA1 := hA.out hs3
        obtain ⟨e, he⟩ : ∃ e, actAt L k = e := ⟨_, rfl⟩
        rw [he] at c0 c1 c2 hz0 hz1
        obtain ⟨x, y, mo⟩ := e
        dsimp only at c0 c1 c2 hz0 hz1
        have d0 : (w.drewN qd).cell? ⟨b, off + k * 3, none⟩ = some (.string x) := c0
        have d1 : (w.drewN qd).cell? ⟨b, off + k * 3 + 1, none⟩ = some (.string y) := c1
        have hof := off_add_addr b off (k * 3)
        obtain ⟨x0, hx0⟩ : ∃ x0 : Nat, min (x.size : Int) 3000 = (x0 : Int) := ⟨(min (x.size : Int) 3000).toNat, by omega⟩
        obtain ⟨y0, hy0⟩ : ∃ y0 : Nat, min (y.size : Int) 3000 = (y0 : Int) := ⟨(min (y.size : Int) 3000).toNat, by omega⟩
        have hx1 : x0 ≤ 3000 ∧ (x0 < 3000 → x.size < 3000) := by omega
        have hy1 : y0 ≤ 3000 ∧ (y0 < 3000 → y.size < 3000) := by omega
        obtain ⟨s2, hs2⟩ : ∃ s2, s + x0 + y0 = s2 := ⟨_, rfl⟩
        have e1 : IntKind.i64.wrap ((s : Int) + (x0 : Int)) = (s : Int) + (x0 : Int) := by rw [IntKind.wrap_i64]; omega
        have e2 : IntKind.i64.wrap ((s : Int) + (x0 : Int) + (y0 : Int)) = (s2 : Int) := by rw [IntKind.wrap_i64]; omega
        have e3 : IntKind.i64.wrap ((k : Int) + 1) = ((k + 1 : Nat) : Int) := by rw [IntKind.wrap_i64]; omega
        have hk0 : (0 : Int) ≤ (k : Int) := by omega
        have HN := Lib.hid (show s2 < 3000 → ∀ j, j < k + 1 → (actAt L j).name.size < 3000 ∧ (actAt L j).val.size < 3000 from fun h3 j hj => by
          by_cases hjk : j < k
          · exact hA1 j hjk
          · have : j = k := by omega
            subst this
            rw [he]
            exact ⟨hx1.2 (by omega), hy1.2 (by omega)⟩)
        have hs2b : s2 ≤ 9000 := by omega
        have HDQ := Lib.hid (fun q => World.drewN_drewN w qd q)
        clear hA1 he c0 c1 c2 hx1 hy1 hs2
        generalize w.drewN qd = wr at *
        go_wp2_with fail
        go_quiet (fail)
        go_wp2_with fail
        go_roundw
        case rel => exact ⟨k + 1, s2, _, by omega, rfl, rfl, hs2b, HN, HDQ.out _⟩
        case measure => simp [intOf] <;> omega
      · have hsi : ¬ (s : Int) < 3000 := by omega
        go_wp2_with fail
        go_ret
        first | exact .inr ⟨rfl, below_drewN (Below.refl _ _) _⟩ | exact ⟨rfl, below_drewN (Below.refl _ _) _⟩ | exact below_drewN (Below.refl _ _) _
    · have hli : ¬ (k : Int) < (n : Int) := by omega
      have hkn : k = n := by omega
      by_cases hs3 : s < 3000
      · have hsi : (s : Int) < 3000 := by omega
        have hA1 := hA.out hs3
        rw [hkn] at hA1
        have HA1 := Lib.hid hA1
        clear hA1
        go_wp2_with fail
        go_ret
        first | exact .inl ⟨rfl, below_drewN (Below.refl _ _) _, HA1⟩ | exact .inl ⟨rfl, below_drewN (Below.refl _ _) _⟩ | exact ⟨rfl, below_drewN (Below.refl _ _) _, HA1⟩ | exact ⟨below_drewN (Below.refl _ _) _, HA1⟩
      · have hsi : ¬ (s : Int) < 3000 := by omega
        go_wp2_with fail
        go_ret
        first | exact .inr ⟨rfl, below_drewN (Below.refl _ _) _⟩ | exact ⟨rfl, below_drewN (Below.refl _ _) _⟩ | exact below_drewN (Below.refl _ _) _
end Go.Proofs.Ytchfineobpfinaa
