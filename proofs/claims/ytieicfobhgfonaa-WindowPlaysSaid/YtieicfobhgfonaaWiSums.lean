/- What was let and what was taken, of a stream and of all. No program. -/
import Derived.Test.YtieicfobhgfonaaProg
import Derived.Test.YtieicfobhgfonaaWiMath
namespace Go.Proofs.Ytieicfobhgfonaa.Wi
open Go

/-- So much was let to a stream (L) and to all (A), the first window is F, so much was taken (T, O); no number is above M. -/
structure Sm (M : Int) (k : Nat) (b : Bk) (L A F T O : Int) : Prop where
  of : ofR b.rows k = some (L - T)
  conn : b.conn = A - O
  first : b.first = F
  bound : -M ≤ L ∧ L ≤ M ∧ -M ≤ A ∧ A ≤ M ∧ 0 ≤ T ∧ T ≤ M ∧ 0 ≤ O ∧ O ≤ M
theorem sm_new (k : Nat) : Sm 65535 k (openB newB k) 65535 65535 65535 0 0 := by
  refine ⟨?_, rfl, rfl, by decide⟩
  unfold openB
  rw [ofR_put, if_pos rfl]
  rfl
section
variable {M K : Int} {k j n : Nat} {b b' : Bk} {L A F T O want t : Int} {c : Nat}
theorem Sm.more {N : Int} (h : Sm M k b L A F T O) (hm : M ≤ N) : Sm N k b L A F T O := ⟨h.of, h.conn, h.first, by have := h.bound; omega⟩
theorem Sm.opened (h : Sm M k b L A F T O) (hj : j ≠ k) : Sm M k (openB b j) L A F T O := ⟨by unfold openB; rw [ofR_put, if_neg (fun e => hj e.symm)]; exact h.of, h.conn, h.first, h.bound⟩
theorem Sm.dropped (h : Sm M k b L A F T O) (hj : j ≠ k) : Sm M k (dropB b j) L A F T O := ⟨by rw [ofR_drop, if_neg (fun e => hj e.symm)]; exact h.of, h.conn, h.first, h.bound⟩
theorem grow_cases (h : growB b j n = (b', c)) : (c ≠ 0 ∧ b' = b) ∨ (c = 0 ∧ j = 0 ∧ b.conn + n ≤ mostW ∧ b' = { b with conn := b.conn + n }) ∨ (c = 0 ∧ j ≠ 0 ∧ ofR b.rows j = none ∧ b' = b) ∨ (c = 0 ∧ j ≠ 0 ∧ ∃ w, ofR b.rows j = some w ∧ w + n ≤ mostW ∧ b' = putB b j (w + n)) := by
  unfold growB at h
  by_cases hj : j = 0
  · rw [if_pos hj] at h
    split at h
    · injection h with h1 h2
      exact .inl ⟨by omega, h1.symm⟩
    · next hm =>
      injection h with h1 h2
      exact .inr (.inl ⟨h2.symm, hj, by omega, h1.symm⟩)
  · rw [if_neg hj] at h
    cases hw : ofR b.rows j with
    | none =>
      rw [hw] at h
      injection h with h1 h2
      exact .inr (.inr (.inl ⟨h2.symm, hj, rfl, h1.symm⟩))
    | some w =>
      rw [hw] at h
      have h : (if mostW < w + n then (b, 3) else (putB b j (w + n), 0)) = (b', c) := h
      split at h
      · injection h with h1 h2
        exact .inl ⟨by omega, h1.symm⟩
      · next hm =>
        injection h with h1 h2
        exact .inr (.inr (.inr ⟨h2.symm, hj, w, rfl, by omega, h1.symm⟩))
theorem grow_code (h : growB b j n = (b', c)) : c = 0 ∨ c = 3 := by
  unfold growB at h
  split at h
  · split at h <;> (injection h with _ h; omega)
  · split at h
    · injection h with _ h; omega
    · split at h <;> (injection h with _ h; omega)
theorem Sm.grown (h : Sm M k b L A F T O) (hg : growB b j n = (b', c)) (hn : n < 4294967296) (hk : k ≠ 0) :
    (c ≠ 0 ∧ Sm M k b' L A F T O) ∨ (c = 0 ∧ j = k ∧ j ≠ 0 ∧ Sm (M + 4294967296) k b' (L + n) A F T O) ∨ (c = 0 ∧ j ≠ k ∧ j = 0 ∧ Sm (M + 4294967296) k b' L (A + n) F T O) ∨ (c = 0 ∧ j ≠ k ∧ j ≠ 0 ∧ Sm M k b' L A F T O) := by
  have hb := h.bound
  rcases grow_cases hg with ⟨hc, rfl⟩ | ⟨hc, hj, _, rfl⟩ | ⟨hc, hj, hw, rfl⟩ | ⟨hc, hj, w, hw, hm, rfl⟩
  · exact .inl ⟨hc, h⟩
  · exact .inr (.inr (.inl ⟨hc, by omega, hj, h.of, by show b.conn + n = _; rw [h.conn]; omega, h.first, by omega⟩))
  · refine .inr (.inr (.inr ⟨hc, fun e => ?_, hj, h⟩))
    rw [e, h.of] at hw
    cases hw
  · by_cases hjk : j = k
    · refine .inr (.inl ⟨hc, hjk, hj, ?_, h.conn, h.first, by omega⟩)
      rw [hjk, h.of] at hw
      injection hw with hw
      rw [ofR_put, if_pos hjk.symm, ← hw]
      congr 1
      omega
    · exact .inr (.inr (.inr ⟨hc, hjk, hj, by rw [ofR_put, if_neg (fun e => hjk e.symm)]; exact h.of, h.conn, h.first, h.bound⟩))
theorem init_cases (h : initB b n = (b', c)) : (c ≠ 0 ∧ b' = b) ∨ (c = 0 ∧ (n : Int) ≤ mostW ∧ overR b.rows (n - b.first) = false ∧ b' = { b with first := n, rows := shiftR b.rows (n - b.first) }) := by
  unfold initB at h
  split at h
  · injection h with h1 h2
    exact .inl ⟨by omega, h1.symm⟩
  · next hm =>
    split at h
    · injection h with h1 h2
      exact .inl ⟨by omega, h1.symm⟩
    · next ho =>
      injection h with h1 h2
      refine .inr ⟨h2.symm, by omega, ?_, h1.symm⟩
      cases hq : overR b.rows (n - b.first) with
      | true => exact absurd hq ho
      | false => rfl
theorem init_code (h : initB b n = (b', c)) : c = 0 ∨ c = 3 := by
  unfold initB at h
  split at h
  · injection h with _ h; omega
  · split at h <;> (injection h with _ h; omega)
theorem Sm.inited (h : Sm M k b L A F T O) (hI : Inv K b) (hg : initB b n = (b', c)) : (c ≠ 0 ∧ Sm M k b' L A F T O) ∨ (c = 0 ∧ Sm (M + 4294967296) k b' (L + n - F) A n T O) := by
  have hb := h.bound
  have f0 := hI.f0
  have f1 := hI.f1
  unfold mostW at f1
  rcases init_cases hg with ⟨hc, rfl⟩ | ⟨hc, hm, _, rfl⟩
  · exact .inl ⟨hc, h⟩
  · unfold mostW at hm
    have hF := h.first
    refine .inr ⟨hc, ?_, h.conn, rfl, by omega⟩
    show ofR (shiftR b.rows _) k = _
    rw [ofR_shift, h.of]
    show some (L - T + (n - b.first)) = _
    congr 1
    omega
theorem take_nn (h : takeB b j want = (b', t)) : 0 ≤ t ∧ (0 < t → t ≤ want) := by
  rcases take_cases h with ⟨h1, _⟩ | ⟨w, _, h2, h3, _⟩
  · omega
  · have := least3_le want b.conn w
    omega
theorem Sm.took (h : Sm M k b L A F T O) (hI : Inv K b) (hg : takeB b j want = (b', t)) :
    (j = k ∧ Sm (M + 4294967296) k b' L A F (T + t) (O + t) ∧ (0 < t → T + t ≤ L)) ∨ (j ≠ k ∧ Sm (M + 4294967296) k b' L A F T (O + t)) := by
  have hb := h.bound
  have c1 := hI.c1
  unfold mostW at c1
  rcases take_cases hg with ⟨rfl, rfl⟩ | ⟨w, hw, h2, h3, rfl⟩
  · by_cases hjk : j = k
    · exact .inl ⟨hjk, ⟨by rw [Int.add_zero]; exact h.of, by rw [Int.add_zero]; exact h.conn, h.first, by omega⟩, fun e => by omega⟩
    · exact .inr ⟨hjk, h.of, by rw [Int.add_zero]; exact h.conn, h.first, by omega⟩
  · have hl := least3_le want b.conn w
    rw [← h2] at hl
    have hcn := h.conn
    by_cases hjk : j = k
    · rw [hjk, h.of] at hw
      injection hw with hw
      refine .inl ⟨hjk, ⟨?_, by show b.conn - t = _; omega, h.first, by omega⟩, fun _ => by omega⟩
      show ofR (putB b j (w - t)).rows k = _
      rw [ofR_put, if_pos hjk.symm, ← hw]
      congr 1
      omega
    · refine .inr ⟨hjk, ?_, by show b.conn - t = _; omega, h.first, by omega⟩
      show ofR (putB b j (w - t)).rows k = _
      rw [ofR_put, if_neg (fun e => hjk e.symm)]
      exact h.of
theorem Sm.most (h : Sm M k b L A F T O) (hI : Inv K b) : L - T ≤ 2147483647 ∧ A - O ≤ 2147483647 ∧ 0 ≤ A - O := by
  have h1 := (hI.of h.of).1
  have h2 := hI.c0
  have h3 := hI.c1
  have h4 := h.conn
  unfold mostW at h1 h3
  omega
end
end Go.Proofs.Ytieicfobhgfonaa.Wi
