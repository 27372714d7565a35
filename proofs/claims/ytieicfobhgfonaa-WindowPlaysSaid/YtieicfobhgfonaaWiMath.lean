/- Windows, as mathematics: a book of streams' windows, what each call leaves of it; sums of what was let and taken. No program. -/
import Derived.Test.YtieicfobhgfonaaProg
namespace Go.Proofs.Ytieicfobhgfonaa.Wi
open Go

/-- The connection's window, the first one, the streams'. -/
structure Bk where
  conn : Int
  first : Int
  rows : List (Nat × Int)
def mostW : Int := 2147483647
def newB : Bk := ⟨65535, 65535, []⟩
/-- A stream's window. -/
def ofR : List (Nat × Int) → Nat → Option Int
  | [], _ => none
  | x :: l, k => if x.1 = k then some x.2 else ofR l k
def without (l : List (Nat × Int)) (k : Nat) : List (Nat × Int) := l.filter (fun x => decide (x.1 ≠ k))
def dropB (b : Bk) (k : Nat) : Bk := { b with rows := without b.rows k }
def putB (b : Bk) (k : Nat) (w : Int) : Bk := { b with rows := without b.rows k ++ [(k, w)] }
def openB (b : Bk) (k : Nat) : Bk := putB b k b.first
def growB (b : Bk) (k n : Nat) : Bk × Nat :=
  if k = 0 then (if mostW < b.conn + n then (b, 3) else ({ b with conn := b.conn + n }, 0))
  else match ofR b.rows k with
    | none => (b, 0)
    | some w => if mostW < w + n then (b, 3) else (putB b k (w + n), 0)
def shiftR (l : List (Nat × Int)) (d : Int) : List (Nat × Int) := l.map (fun x => (x.1, x.2 + d))
/-- Does a window go above the greatest? -/
def overR (l : List (Nat × Int)) (d : Int) : Bool := l.any (fun x => decide (mostW < x.2 + d))
def initB (b : Bk) (n : Nat) : Bk × Nat :=
  if mostW < (n : Int) then (b, 3)
  else if overR b.rows (n - b.first) = true then (b, 3) else ({ b with first := n, rows := shiftR b.rows (n - b.first) }, 0)
def least3 (a b c : Int) : Int := if (if b < a then b else a) > c then c else (if b < a then b else a)
def takeB (b : Bk) (k : Nat) (want : Int) : Bk × Int :=
  match ofR b.rows k with
  | none => (b, 0)
  | some w => if least3 want b.conn w ≤ 0 then (b, 0) else ({ putB b k (w - least3 want b.conn w) with conn := b.conn - least3 want b.conn w }, least3 want b.conn w)

theorem least3_le (a b c : Int) : least3 a b c ≤ a ∧ least3 a b c ≤ b ∧ least3 a b c ≤ c := by
  unfold least3
  split <;> split at * <;> omega
theorem ofR_without {k j : Nat} : ∀ l, ofR (without l k) j = if j = k then none else ofR l j
  | [] => by unfold without; simp [ofR]
  | x :: l => by
    have ih := ofR_without (k := k) (j := j) l
    unfold without at ih ⊢
    rw [List.filter_cons]
    by_cases hx : x.1 = k
    · rw [if_neg (by simp [hx]), ih]
      by_cases hj : j = k
      · rw [if_pos hj, if_pos hj]
      · rw [if_neg hj, if_neg hj, ofR, if_neg (by omega)]
    · rw [if_pos (by simp [hx]), ofR, ofR, ih]
      by_cases hj : j = k
      · rw [if_pos hj, if_pos hj, if_neg (by omega)]
      · rw [if_neg hj, if_neg hj]
theorem ofR_app {j : Nat} : ∀ (l m : List (Nat × Int)), ofR (l ++ m) j = (ofR l j).orElse (fun _ => ofR m j)
  | [], m => rfl
  | x :: l, m => by
    rw [List.cons_append, ofR, ofR, ofR_app l m]
    split <;> rfl
theorem ofR_put (b : Bk) (k j : Nat) (w : Int) : ofR (putB b k w).rows j = if j = k then some w else ofR b.rows j := by
  show ofR (without b.rows k ++ [(k, w)]) j = _
  rw [ofR_app, ofR_without]
  by_cases hj : j = k
  · rw [if_pos hj, if_pos hj, hj]
    show ofR [(k, w)] k = some w
    rw [ofR, if_pos rfl]
  · rw [if_neg hj, if_neg hj]
    cases ofR b.rows j with
    | none =>
      show ofR [(k, w)] j = none
      rw [ofR, if_neg (fun e => hj e.symm)]
      rfl
    | some v => rfl
theorem ofR_drop (b : Bk) (k j : Nat) : ofR (dropB b k).rows j = if j = k then none else ofR b.rows j := ofR_without b.rows
theorem ofR_shift (d : Int) {j : Nat} : ∀ l, ofR (shiftR l d) j = (ofR l j).map (· + d)
  | [] => rfl
  | x :: l => by
    have ih := ofR_shift d (j := j) l
    unfold shiftR at ih ⊢
    rw [List.map_cons, ofR, ofR, ih]
    split <;> rfl
theorem overR_of {l : List (Nat × Int)} {d : Int} (h : overR l d = false) {j : Nat} {w : Int} (hj : ofR l j = some w) : w + d ≤ mostW := by
  induction l with
  | nil => cases hj
  | cons x l ih =>
    unfold overR at h ih
    rw [List.any_cons, Bool.or_eq_false_iff] at h
    rw [ofR] at hj
    split at hj
    · injection hj with hj
      have := of_decide_eq_false h.1
      omega
    · exact ih h.2 hj
theorem shift_shift (l : List (Nat × Int)) (d e : Int) : shiftR (shiftR l d) e = shiftR l (d + e) := by
  unfold shiftR
  rw [List.map_map]
  congr 1
  funext x
  show (x.1, x.2 + d + e) = (x.1, x.2 + (d + e))
  rw [Int.add_assoc]
theorem over_shift (l : List (Nat × Int)) (d e : Int) : overR (shiftR l d) e = overR l (d + e) := by
  unfold overR shiftR
  rw [List.any_map]
  congr 1
  funext x
  show decide (mostW < x.2 + d + e) = decide (mostW < x.2 + (d + e))
  rw [Int.add_assoc]
/-- What a book may be: each stream once; no window above the greatest, none below -K. -/
structure Inv (K : Int) (b : Bk) : Prop where
  keys : (b.rows.map (·.1)).Nodup
  top : ∀ x ∈ b.rows, x.2 ≤ mostW
  low : ∀ x ∈ b.rows, -K ≤ x.2
  c0 : 0 ≤ b.conn
  c1 : b.conn ≤ mostW
  f0 : 0 ≤ b.first
  f1 : b.first ≤ mostW
theorem Inv.more {K L : Int} {b : Bk} (h : Inv K b) (hl : K ≤ L) : Inv L b := ⟨h.keys, h.top, fun x hx => by have := h.low x hx; omega, h.c0, h.c1, h.f0, h.f1⟩
theorem inv_new : Inv 0 newB := ⟨List.nodup_nil, fun x hx => (by cases hx), fun x hx => (by cases hx), by decide, by decide, by decide, by decide⟩
theorem mem_ofR {l : List (Nat × Int)} {k : Nat} {w : Int} (h : ofR l k = some w) : (k, w) ∈ l := by
  induction l with
  | nil => cases h
  | cons x l ih =>
    rw [ofR] at h
    split at h
    · next e =>
      injection h with h
      rw [← e, ← h]
      exact List.mem_cons_self ..
    · exact List.mem_cons_of_mem _ (ih h)
theorem ofR_mem {l : List (Nat × Int)} (hn : (l.map (·.1)).Nodup) {x : Nat × Int} (hx : x ∈ l) : ofR l x.1 = some x.2 := by
  induction l with
  | nil => cases hx
  | cons y l ih =>
    rw [List.map_cons, List.nodup_cons] at hn
    rw [ofR]
    rcases List.mem_cons.1 hx with rfl | h
    · rw [if_pos rfl]
    · rw [if_neg (fun e => hn.1 (by rw [e]; exact List.mem_map_of_mem h))]
      exact ih hn.2 h
theorem Inv.of {K : Int} {b : Bk} (h : Inv K b) {k : Nat} {w : Int} (hw : ofR b.rows k = some w) : w ≤ mostW ∧ -K ≤ w := ⟨h.top _ (mem_ofR hw), h.low _ (mem_ofR hw)⟩
theorem without_sub {l : List (Nat × Int)} {k : Nat} : ∀ x ∈ without l k, x ∈ l ∧ x.1 ≠ k := fun x hx => by
  unfold without at hx
  have := List.mem_filter.1 hx
  exact ⟨this.1, of_decide_eq_true this.2⟩
theorem without_keys {l : List (Nat × Int)} {k : Nat} (h : (l.map (·.1)).Nodup) : ((without l k).map (·.1)).Nodup := (List.filter_sublist.map _).nodup h
theorem Inv.drop {K : Int} {b : Bk} (h : Inv K b) (k : Nat) : Inv K (dropB b k) := ⟨without_keys h.keys, fun x hx => h.top x (without_sub x hx).1, fun x hx => h.low x (without_sub x hx).1, h.c0, h.c1, h.f0, h.f1⟩
theorem Inv.put {K : Int} {b : Bk} (h : Inv K b) (k : Nat) {w : Int} (hw : w ≤ mostW) (hl : -K ≤ w) : Inv K (putB b k w) := by
  refine ⟨?_, fun x hx => ?_, fun x hx => ?_, h.c0, h.c1, h.f0, h.f1⟩
  · show ((without b.rows k ++ [(k, w)]).map (·.1)).Nodup
    rw [List.map_append]
    refine List.nodup_append.2 ⟨without_keys h.keys, by simp, fun a ha c hc => ?_⟩
    obtain ⟨x, hx, rfl⟩ := List.mem_map.1 ha
    simp at hc
    subst hc
    exact (without_sub x hx).2
  · rcases List.mem_append.1 hx with h1 | h1
    · exact h.top x (without_sub x h1).1
    · simp at h1; rw [h1]; exact hw
  · rcases List.mem_append.1 hx with h1 | h1
    · exact h.low x (without_sub x h1).1
    · simp at h1; rw [h1]; exact hl
theorem Inv.openB {K : Int} {b : Bk} (h : Inv K b) (hK : 0 ≤ K) (k : Nat) : Inv K (openB b k) := h.put k h.f1 (by have := h.f0; omega)
theorem Inv.grow {K : Int} {b : Bk} (h : Inv K b) (k n : Nat) : Inv K (growB b k n).1 := by
  unfold growB
  by_cases hk : k = 0
  · rw [if_pos hk]
    split
    · exact h
    · next hm => exact ⟨h.keys, h.top, h.low, by show 0 ≤ b.conn + n; have := h.c0; omega, by show b.conn + n ≤ mostW; omega, h.f0, h.f1⟩
  · rw [if_neg hk]
    cases hw : ofR b.rows k with
    | none => exact h
    | some w =>
      show Inv K (if mostW < w + n then (b, 3) else (putB b k (w + n), 0)).1
      split
      · exact h
      · next hm => exact h.put k (by omega) (by have := (h.of hw).2; omega)
theorem Inv.init {K : Int} {b : Bk} (h : Inv K b) (n : Nat) : Inv (K + 2147483647) (initB b n).1 := by
  have hf1 := h.f1
  unfold mostW at hf1
  unfold initB
  split
  · exact h.more (by omega)
  · next hm =>
    split
    · exact h.more (by omega)
    · next ho =>
      have ho : overR b.rows (n - b.first) = false := by cases hq : overR b.rows (n - b.first) with | true => exact absurd hq ho | false => rfl
      refine ⟨?_, fun x hx => ?_, fun x hx => ?_, h.c0, h.c1, by show (0 : Int) ≤ n; omega, by show (n : Int) ≤ mostW; omega⟩
      · show ((shiftR b.rows _).map (·.1)).Nodup
        unfold shiftR
        rw [List.map_map]
        exact h.keys
      · unfold shiftR at hx
        obtain ⟨y, hy, rfl⟩ := List.mem_map.1 hx
        unfold overR at ho
        have := List.any_eq_false.1 ho y hy
        have := of_decide_eq_false (Bool.eq_false_iff.2 this)
        show y.2 + _ ≤ mostW
        omega
      · unfold shiftR at hx
        obtain ⟨y, hy, rfl⟩ := List.mem_map.1 hx
        have := h.low y hy
        show -(K + 2147483647) ≤ y.2 + (n - b.first)
        omega
theorem Inv.take {K : Int} {b : Bk} (h : Inv K b) (hK : 0 ≤ K) (k : Nat) (want : Int) : Inv K (takeB b k want).1 := by
  unfold takeB
  cases hw : ofR b.rows k with
  | none => exact h
  | some w =>
    show Inv K (if _ then (b, (0 : Int)) else _).1
    split
    · exact h
    · next hp =>
      have hl := least3_le want b.conn w
      have h1 := h.of hw
      have h2 := h.put k (w := w - least3 want b.conn w) (by omega) (by omega)
      exact ⟨h2.keys, h2.top, h2.low, by show 0 ≤ b.conn - _; omega, by show b.conn - _ ≤ mostW; have := h.c1; omega, h2.f0, h2.f1⟩
/-- What a call took. -/
theorem take_cases {b b' : Bk} {k : Nat} {want n : Int} (h : takeB b k want = (b', n)) :
    (n = 0 ∧ b' = b) ∨ ∃ w, ofR b.rows k = some w ∧ n = least3 want b.conn w ∧ 0 < n ∧ b' = { putB b k (w - n) with conn := b.conn - n } := by
  unfold takeB at h
  cases hw : ofR b.rows k with
  | none =>
    rw [hw] at h
    injection h with h1 h2
    exact .inl ⟨h2.symm, h1.symm⟩
  | some w =>
    rw [hw] at h
    have h : (if least3 want b.conn w ≤ 0 then (b, (0 : Int)) else ({ putB b k (w - least3 want b.conn w) with conn := b.conn - least3 want b.conn w }, least3 want b.conn w)) = (b', n) := h
    split at h
    · injection h with h1 h2
      exact .inl ⟨h2.symm, h1.symm⟩
    · next hp =>
      injection h with h1 h2
      subst h2
      exact .inr ⟨w, rfl, rfl, by omega, h1.symm⟩
/-- What is told last counts. -/
theorem init_twice {b b1 b2 : Bk} {n m : Nat} (h1 : initB b n = (b1, 0)) (h2 : initB b1 m = (b2, 0)) : initB b m = (b2, 0) := by
  unfold initB at h1
  split at h1
  · injection h1 with _ h1; cases h1
  · split at h1
    · injection h1 with _ h1; cases h1
    · injection h1 with h1 _
      subst h1
      unfold initB at h2 ⊢
      split at h2
      · injection h2 with _ h2; cases h2
      · next hm =>
        have h2 : (if overR (shiftR b.rows (n - b.first)) (m - (n : Int)) = true then _ else _) = (b2, 0) := h2
        rw [over_shift, show ((n : Int) - b.first + (m - n)) = m - b.first by omega] at h2
        rw [if_neg hm]
        split at h2
        · injection h2 with _ h2; cases h2
        · next ho =>
          rw [if_neg ho]
          injection h2 with h2 _
          rw [← h2]
          show (_, 0) = (({ conn := b.conn, first := m, rows := shiftR (shiftR b.rows (n - b.first)) (m - (n : Int)) } : Bk), 0)
          rw [shift_shift, show ((n : Int) - b.first + (m - n)) = m - b.first by omega]
end Go.Proofs.Ytieicfobhgfonaa.Wi
