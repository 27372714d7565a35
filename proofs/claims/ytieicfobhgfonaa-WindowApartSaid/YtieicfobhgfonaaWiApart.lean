/- Two books that read alike of one stream, the connections' windows great enough. No program. -/
import Derived.Test.YtieicfobhgfonaaProg
import Derived.Test.YtieicfobhgfonaaWiMath
import Derived.Test.YtieicfobhgfonaaWiSums
namespace Go.Proofs.Ytieicfobhgfonaa.Wi
open Go

/-- Of stream k they read alike; both connections have M left at least. -/
structure Al (M : Int) (k : Nat) (a b : Bk) : Prop where
  of : ofR a.rows k = ofR b.rows k
  first : a.first = b.first
  ca : M ≤ a.conn
  cb : M ≤ b.conn
section
variable {M : Int} {k j n c d : Nat} {a b a' b' : Bk} {want s t : Int}
theorem Al.more {N : Int} (h : Al M k a b) (hm : N ≤ M) : Al N k a b := ⟨h.of, h.first, by have := h.ca; omega, by have := h.cb; omega⟩
theorem al_start {a b : Bk} (ha : growB newB 0 2000000000 = (a, c)) (hb : growB newB 0 2000000000 = (b, d)) (k : Nat) : Al 2000065535 k (openB a k) (openB b k) := by
  have e : a = ⟨2000065535, 65535, []⟩ := by
    have h : growB newB 0 2000000000 = (⟨2000065535, 65535, []⟩, 0) := rfl
    rw [h] at ha
    injection ha with ha _
    exact ha.symm
  have e2 : b = a := by rw [ha] at hb; injection hb with hb _; exact hb.symm
  subst e2 e
  exact ⟨rfl, rfl, Int.le_refl _, Int.le_refl _⟩
theorem Al.opened (h : Al M k a b) : Al M k (openB a k) (openB b k) := ⟨by unfold openB; rw [ofR_put, ofR_put, if_pos rfl, if_pos rfl, h.first], h.first, h.ca, h.cb⟩
theorem Al.opened1 (h : Al M k a b) (hj : j ≠ k) : Al M k (openB a j) b := ⟨by unfold openB; rw [ofR_put, if_neg (fun e => hj e.symm)]; exact h.of, h.first, h.ca, h.cb⟩
theorem Al.dropped (h : Al M k a b) : Al M k (dropB a k) (dropB b k) := ⟨by rw [ofR_drop, ofR_drop, if_pos rfl, if_pos rfl], h.first, h.ca, h.cb⟩
theorem Al.dropped1 (h : Al M k a b) (hj : j ≠ k) : Al M k (dropB a j) b := ⟨by rw [ofR_drop, if_neg (fun e => hj e.symm)]; exact h.of, h.first, h.ca, h.cb⟩
theorem Al.grown (h : Al M k a b) (hk : k ≠ 0) (ha : growB a k n = (a', c)) (hb : growB b k n = (b', d)) : c = d ∧ Al M k a' b' := by
  rcases grow_cases ha with ⟨h1, rfl⟩ | ⟨_, h2, _⟩ | ⟨h1, _, h3, rfl⟩ | ⟨h1, _, w, h3, h4, rfl⟩ <;> rcases grow_cases hb with ⟨q1, rfl⟩ | ⟨_, q2, _⟩ | ⟨q1, _, q3, rfl⟩ | ⟨q1, _, v, q3, q4, rfl⟩
  · exact ⟨by rcases grow_code ha with e | e <;> rcases grow_code hb with e2 | e2 <;> omega, h⟩
  · exact absurd q2 hk
  · exfalso
    unfold growB at ha
    rw [if_neg hk, h.of, q3] at ha
    injection ha with _ ha
    omega
  · exfalso
    unfold growB at ha
    rw [if_neg hk, h.of, q3] at ha
    have ha : (if mostW < v + n then (a', 3) else (putB a' k (v + n), 0)) = (a', c) := ha
    rw [if_neg (by omega)] at ha
    injection ha with _ ha
    omega
  · exact absurd h2 hk
  · exact absurd h2 hk
  · exact absurd h2 hk
  · exact absurd h2 hk
  · exfalso
    unfold growB at hb
    rw [if_neg hk, ← h.of, h3] at hb
    injection hb with _ hb
    omega
  · exact absurd q2 hk
  · exact ⟨by omega, h⟩
  · exfalso; rw [h.of, q3] at h3; cases h3
  · exfalso
    unfold growB at hb
    rw [if_neg hk, ← h.of, h3] at hb
    have hb : (if mostW < w + n then (b', 3) else (putB b' k (w + n), 0)) = (b', d) := hb
    rw [if_neg (by omega)] at hb
    injection hb with _ hb
    omega
  · exact absurd q2 hk
  · exfalso; rw [h.of, q3] at h3; cases h3
  · have e : w = v := by
      have h5 := h.of
      rw [h3, q3] at h5
      injection h5
    subst e
    exact ⟨by omega, ⟨by rw [ofR_put, ofR_put, if_pos rfl, if_pos rfl], h.first, h.ca, h.cb⟩⟩
theorem Al.grown1 (h : Al M k a b) (hj : j ≠ k) (hj0 : j ≠ 0) (ha : growB a j n = (a', c)) : Al M k a' b := by
  rcases grow_cases ha with ⟨_, rfl⟩ | ⟨_, h2, _⟩ | ⟨_, _, _, rfl⟩ | ⟨_, _, w, _, _, rfl⟩
  · exact h
  · exact absurd h2 hj0
  · exact h
  · exact ⟨by rw [ofR_put, if_neg (fun e => hj e.symm)]; exact h.of, h.first, h.ca, h.cb⟩
theorem least3_two {x y z : Int} (h : x ≤ y) : least3 x y z = if z < x then z else x := by
  have e : (if y < x then y else x) = x := if_neg (by omega)
  unfold least3
  rw [e]
theorem Al.took (h : Al M k a b) (hw : want ≤ 1000000) (hM : 1000000 ≤ M) (ha : takeB a k want = (a', s)) (hb : takeB b k want = (b', t)) : s = t ∧ Al (M - 1000000) k a' b' := by
  have ca := h.ca
  have cb := h.cb
  unfold takeB at ha hb
  rw [← h.of] at hb
  cases hw2 : ofR a.rows k with
  | none =>
    rw [hw2] at ha hb
    injection ha with ha1 ha2
    injection hb with hb1 hb2
    subst ha1 hb1
    exact ⟨by omega, h.more (by omega)⟩
  | some w =>
    rw [hw2] at ha hb
    have ha : (if least3 want a.conn w ≤ 0 then (a, (0 : Int)) else ({ putB a k (w - least3 want a.conn w) with conn := a.conn - least3 want a.conn w }, least3 want a.conn w)) = (a', s) := ha
    have hb : (if least3 want b.conn w ≤ 0 then (b, (0 : Int)) else ({ putB b k (w - least3 want b.conn w) with conn := b.conn - least3 want b.conn w }, least3 want b.conn w)) = (b', t) := hb
    rw [least3_two (by omega)] at ha hb
    obtain ⟨m, hm⟩ : ∃ m, (if w < want then w else want) = m := ⟨_, rfl⟩
    have hmw : m ≤ want := by rw [← hm]; split <;> omega
    rw [hm] at ha hb
    by_cases h0 : m ≤ 0
    · rw [if_pos h0] at ha hb
      injection ha with ha1 ha2
      injection hb with hb1 hb2
      subst ha1 hb1
      exact ⟨by omega, h.more (by omega)⟩
    · rw [if_neg h0] at ha hb
      injection ha with ha1 ha2
      injection hb with hb1 hb2
      subst ha1 hb1
      refine ⟨by omega, ⟨?_, h.first, by show _ ≤ a.conn - m; omega, by show _ ≤ b.conn - m; omega⟩⟩
      show ofR (putB a k (w - m)).rows k = ofR (putB b k (w - m)).rows k
      rw [ofR_put, ofR_put, if_pos rfl, if_pos rfl]
theorem Al.took1 (h : Al M k a b) (hj : j ≠ k) (hw : want ≤ 1000000) (ha : takeB a j want = (a', s)) : Al (M - 1000000) k a' b := by
  have ca := h.ca
  have cb := h.cb
  rcases take_cases ha with ⟨_, rfl⟩ | ⟨w, _, h2, h3, rfl⟩
  · exact h.more (by omega)
  · have hl := least3_le want a.conn w
    refine ⟨?_, h.first, by show _ ≤ a.conn - s; omega, by omega⟩
    show ofR (putB a j (w - s)).rows k = _
    rw [ofR_put, if_neg (fun e => hj e.symm)]
    exact h.of
end
end Go.Proofs.Ytieicfobhgfonaa.Wi
