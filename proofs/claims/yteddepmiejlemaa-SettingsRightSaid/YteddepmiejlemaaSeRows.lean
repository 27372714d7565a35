/- Rows of rows of settings that came in; what is right stays right. No condition. -/
import Derived.Test.YteddepmiejlemaaProg
import Derived.Test.YteddepmiejlemaaFrFrame
import Derived.Test.YteddepmiejlemaaSeMath
import Derived.Deep.Slices
import Derived.WalkKit
import Derived.Lib.Hide
namespace Go.Proofs.Yteddepmiejlemaa
open Go Go.RowKit Go.Deep Se Fr

namespace Se
/-- The settings of a row at a place. -/
def rowAt2 (M : List (List (Nat × Nat))) (k : Nat) : List (Nat × Nat) := M.getD k []
/-- A slice of slices of settings, below a block. -/
def RRd (w : World) (B : Nat) (a : Option Addr) (M : List (List (Nat × Nat))) : Prop :=
  ∀ k, k < M.length → ∃ (b off : Nat) (A : Option Addr) (n c : Nat), a = some ⟨b, off, none⟩ ∧ b < B ∧ w.cell? ⟨b, off + k, none⟩ = some (.slice A n c) ∧ (rowAt2 M k).length = n ∧ n ≤ maxLen ∧ RdSt w B A (rowAt2 M k)
theorem RRd.on {w w' : World} {B : Nat} {a : Option Addr} {M : List (List (Nat × Nat))} (h : RRd w B a M) (hb : Below B w w') : RRd w' B a M := fun k hk => by
  obtain ⟨b, off, A, n, c, e, hlt, hc, hl, hn, hr⟩ := h k hk
  exact ⟨b, off, A, n, c, e, hlt, (hb.cell (p := ⟨b, off + k, none⟩) hlt).trans hc, hl, hn, hr.on hb (Nat.le_refl _)⟩
theorem oaddR (g o n : Nat) : ((⟨g, o, none⟩ : Addr).add n) = ⟨g, o + n, none⟩ := by unfold Addr.add; split <;> simp_all
theorem rrd_of_trod {H : Type} {enc : TypeId × Value → H} {w : World} {base : Nat} {spare : Nat → Bool} {held : Bool} {fuel : Nat} {a : Option Addr} {len cap : Nat} {x : DataW H × List MemPlace}
    (h : DataW.trod enc Try.prog w base spare held fuel 44 [.slice a len cap] = some x) : len ≤ maxLen ∧ ∃ M : List (List (Nat × Nat)), M.length = len ∧ RRd w w.heap.size a M := by
  rcases open_slice1 Try.underlying44 (by kernel_rfl) h with ⟨hcs, _⟩ | ⟨ad, l, c, m, n, V, D, Pl, hcs, hb, hlc, hcm, hmm, _, hx⟩
  · simp at hcs
    obtain ⟨rfl, rfl, rfl⟩ := hcs
    exact ⟨Nat.zero_le _, [], rfl, fun k hk => absurd hk (Nat.not_lt_zero k)⟩
  · simp at hcs
    obtain ⟨rfl, rfl, rfl⟩ := hcs
    have hmx : len ≤ m := by rw [hmm]; split <;> omega
    refine ⟨by omega, ?_⟩
    have one : ∀ j, j < len → ∃ (L : List (Nat × Nat)) (b off : Nat) (A : Option Addr) (n c : Nat), ad = ⟨b, off, none⟩ ∧ b < w.heap.size ∧ w.cell? ⟨b, off + j, none⟩ = some (.slice A n c) ∧ L.length = n ∧ n ≤ maxLen ∧ RdSt w w.heap.size A L := fun j hj => by
      obtain ⟨hc, ht⟩ := hx j (by omega)
      have hsl : ∃ A n c, V j = .slice A n c := by
        rcases open_slice Try.underlying22 ht with ⟨e, _⟩ | ⟨a2, l2, c2, _, _, _, _, e, _⟩
        · injection e with e
          exact ⟨_, _, _, e⟩
        · injection e with e
          exact ⟨_, _, _, e⟩
      obtain ⟨A, n2, c2, hV⟩ := hsl
      rw [hV] at hc ht
      obtain ⟨hn, L, hL, hr⟩ := rdst_of_trod ht
      obtain ⟨b, off, spot⟩ := ad
      have hc0 := (hx 0 (by omega)).1
      have hspot : spot = none := by simpa [Addr.add] using World.cell?_spot hc0
      subst hspot
      rw [oaddR] at hc
      exact ⟨L, b, off, A, n2, c2, rfl, World.block_lt_of_cell? _ _ hc, hc, hL, hn, hr⟩
    have all : ∀ n, n ≤ len → ∃ M : List (List (Nat × Nat)), M.length = n ∧ ∀ k, k < n → ∃ (b off : Nat) (A : Option Addr) (n c : Nat), ad = ⟨b, off, none⟩ ∧ b < w.heap.size ∧ w.cell? ⟨b, off + k, none⟩ = some (.slice A n c) ∧ (rowAt2 M k).length = n ∧ n ≤ maxLen ∧ RdSt w w.heap.size A (rowAt2 M k) := by
      intro n
      induction n with
      | zero => intro _; exact ⟨[], rfl, fun k hk => absurd hk (Nat.not_lt_zero k)⟩
      | succ n ih =>
        intro hn
        obtain ⟨M, hM, hall⟩ := ih (by omega)
        obtain ⟨L, r⟩ := one n (by omega)
        refine ⟨M ++ [L], by rw [List.length_append, hM]; rfl, fun k hk => ?_⟩
        by_cases hkn : k < n
        · have e : rowAt2 (M ++ [L]) k = rowAt2 M k := by unfold rowAt2; rw [List.getD_eq_getElem?_getD, List.getD_eq_getElem?_getD, List.getElem?_append_left (by omega)]
          rw [e]
          exact hall k hkn
        · have e1 : k = n := by omega
          have e : rowAt2 (M ++ [L]) k = L := by unfold rowAt2; rw [List.getD_eq_getElem?_getD, e1, List.getElem?_append_right (by omega), hM, Nat.sub_self]; rfl
          rw [e, e1]
          exact r
    obtain ⟨M, hM, hall⟩ := all len (Nat.le_refl _)
    refine ⟨M, hM, fun k hk => ?_⟩
    obtain ⟨b, off, A, n2, c2, e, r⟩ := hall k (by omega)
    exact ⟨b, off, A, n2, c2, congrArg some e, r⟩
theorem right_new (q : Bool) : Right q { defV with push := !q } := ⟨by show 65535 ≤ 2147483647; omega, Nat.le_refl _, by show 16384 ≤ 16777215; omega, fun h => by show (!q) = false; rw [h]; rfl⟩
theorem apply_right {v u : Vals} {q : Bool} {L : List (Nat × Nat)} {c : Nat} (h : applyS v q L = (u, c)) (hv : Right q v) : Right q u := by
  unfold applyS at h
  by_cases hc : codeL q L ≠ 0
  · rw [if_pos hc] at h
    injection h with h _
    rw [← h]; exact hv
  · rw [if_neg hc] at h
    injection h with h _
    rw [← h]; exact fold_right L v hv (Decidable.not_not.1 hc)
end Se
end Go.Proofs.Yteddepmiejlemaa
