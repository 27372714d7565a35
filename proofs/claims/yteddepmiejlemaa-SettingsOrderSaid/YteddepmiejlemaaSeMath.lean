/- Settings that are told, as mathematics: what they come to, in one list, in two, twice, with others between. No program. -/
import Derived.Test.YteddepmiejlemaaProg
namespace Go.Proofs.Yteddepmiejlemaa.Se
open Go

/-- What a peer tells of itself. -/
structure Vals where
  table : Nat
  streams : Nat
  window : Nat
  frame : Nat
  list : Nat
  push : Bool
def defV : Vals := ⟨4096, 4294967295, 65535, 16384, 4294967295, true⟩
/-- One setting, where it may be. -/
def set (v : Vals) (x : Nat × Nat) : Vals :=
  if x.1 = 1 then { v with table := x.2 } else if x.1 = 2 then { v with push := decide (x.2 = 1) } else if x.1 = 3 then { v with streams := x.2 }
  else if x.1 = 4 then { v with window := x.2 } else if x.1 = 5 then { v with frame := x.2 } else if x.1 = 6 then { v with list := x.2 } else v
/-- The code of a setting that may not be. -/
def wrongS (q : Bool) (x : Nat × Nat) : Nat :=
  if x.1 = 2 ∧ (1 < x.2 ∨ (q = true ∧ 0 < x.2)) then 1
  else if x.1 = 4 ∧ 2147483648 ≤ x.2 then 3
  else if x.1 = 5 ∧ (x.2 < 16384 ∨ 16777216 ≤ x.2) then 1 else 0
/-- The first code. -/
def codeL (q : Bool) : List (Nat × Nat) → Nat
  | [] => 0
  | x :: L => if wrongS q x ≠ 0 then wrongS q x else codeL q L
def applyS (v : Vals) (q : Bool) (L : List (Nat × Nat)) : Vals × Nat := if codeL q L ≠ 0 then (v, codeL q L) else (L.foldl set v, 0)

theorem wrongS_le (q : Bool) (x : Nat × Nat) : wrongS q x = 0 ∨ wrongS q x = 1 ∨ wrongS q x = 3 := by
  unfold wrongS
  repeat' split
  all_goals first | exact .inr (.inl rfl) | exact .inr (.inr rfl) | exact .inl rfl
theorem codeL_le (q : Bool) : ∀ L, codeL q L = 0 ∨ codeL q L = 1 ∨ codeL q L = 3
  | [] => .inl rfl
  | x :: L => by
    rw [codeL]
    split
    · exact wrongS_le q x
    · exact codeL_le q L
theorem codeL_cat (q : Bool) : ∀ A B, codeL q (A ++ B) = if codeL q A ≠ 0 then codeL q A else codeL q B
  | [], B => by rw [codeL, if_neg (by simp)]; rfl
  | x :: A, B => by
    rw [List.cons_append, codeL, codeL, codeL_cat q A B]
    by_cases h : wrongS q x ≠ 0
    · rw [if_pos h, if_pos h, if_pos h]
    · rw [if_neg h, if_neg h]
/-- What the last one of a number tells. -/
def lastV (i : Nat) (L : List (Nat × Nat)) (o : Option Nat) : Option Nat := L.foldl (fun o x => if x.1 = i then some x.2 else o) o
theorem field_fold {α : Type} (p : Vals → α) (val : Nat → α) (i : Nat) (hs : ∀ v x, p (set v x) = if x.1 = i then val x.2 else p v) :
    ∀ (L : List (Nat × Nat)) (o : Option Nat) (w v : Vals), p v = (o.map val).getD (p w) → p (L.foldl set v) = ((lastV i L o).map val).getD (p w)
  | [], _, _, _, h => h
  | x :: L, o, w, v, h => by
    rw [List.foldl_cons, lastV, List.foldl_cons]
    refine field_fold p val i hs L _ w (set v x) ?_
    rw [hs]
    split
    · rfl
    · exact h
theorem field_twice {α : Type} (p : Vals → α) (val : Nat → α) (i : Nat) (hs : ∀ v x, p (set v x) = if x.1 = i then val x.2 else p v) (L : List (Nat × Nat)) (w : Vals) : p (L.foldl set (L.foldl set w)) = p (L.foldl set w) := by
  have h1 := field_fold p val i hs L none w w rfl
  have h2 := field_fold p val i hs L none (L.foldl set w) (L.foldl set w) rfl
  rw [h2, h1]
  cases lastV i L none <;> rfl
theorem set_table (v : Vals) (x : Nat × Nat) : (set v x).table = if x.1 = 1 then x.2 else v.table := by
  unfold set
  repeat' split
  all_goals first | rfl | omega
theorem set_push (v : Vals) (x : Nat × Nat) : (set v x).push = if x.1 = 2 then decide (x.2 = 1) else v.push := by
  unfold set
  repeat' split
  all_goals first | rfl | omega
theorem set_streams (v : Vals) (x : Nat × Nat) : (set v x).streams = if x.1 = 3 then x.2 else v.streams := by
  unfold set
  repeat' split
  all_goals first | rfl | omega
theorem set_window (v : Vals) (x : Nat × Nat) : (set v x).window = if x.1 = 4 then x.2 else v.window := by
  unfold set
  repeat' split
  all_goals first | rfl | omega
theorem set_frame (v : Vals) (x : Nat × Nat) : (set v x).frame = if x.1 = 5 then x.2 else v.frame := by
  unfold set
  repeat' split
  all_goals first | rfl | omega
theorem set_list (v : Vals) (x : Nat × Nat) : (set v x).list = if x.1 = 6 then x.2 else v.list := by
  unfold set
  repeat' split
  all_goals first | rfl | omega
theorem vals_ext {v w : Vals} (h1 : v.table = w.table) (h2 : v.streams = w.streams) (h3 : v.window = w.window) (h4 : v.frame = w.frame) (h5 : v.list = w.list) (h6 : v.push = w.push) : v = w := by
  cases v; cases w; simp_all
/-- Told twice it is as told once. -/
theorem fold_twice (L : List (Nat × Nat)) (w : Vals) : L.foldl set (L.foldl set w) = L.foldl set w :=
  vals_ext (field_twice (·.table) id 1 set_table L w) (field_twice (·.streams) id 3 set_streams L w) (field_twice (·.window) id 4 set_window L w) (field_twice (·.frame) id 5 set_frame L w) (field_twice (·.list) id 6 set_list L w) (field_twice (·.push) (fun n => decide (n = 1)) 2 set_push L w)
theorem apply_two {v w : Vals} {q : Bool} {A B : List (Nat × Nat)} (h : applyS v q A = (w, 0)) : applyS v q (A ++ B) = if (applyS w q B).2 ≠ 0 then (v, (applyS w q B).2) else applyS w q B := by
  unfold applyS at h ⊢
  by_cases ha : codeL q A ≠ 0
  · rw [if_pos ha] at h
    injection h with _ h
    exact absurd h ha
  · rw [if_neg ha] at h
    injection h with h _
    rw [codeL_cat, if_neg ha, List.foldl_append, h]
    by_cases hb : codeL q B ≠ 0
    · simp [hb]
    · simp [hb]
theorem apply_first {v : Vals} {q : Bool} {A B : List (Nat × Nat)} {w : Vals} {c : Nat} (h : applyS v q A = (w, c)) (hc : c ≠ 0) : w = v ∧ applyS v q (A ++ B) = (v, c) := by
  unfold applyS at h ⊢
  by_cases ha : codeL q A ≠ 0
  · rw [if_pos ha] at h
    injection h with h1 h2
    rw [codeL_cat, if_pos ha, if_pos ha, h2]
    exact ⟨h1.symm, rfl⟩
  · rw [if_neg ha] at h
    injection h with _ h2
    exact absurd h2.symm hc
theorem apply_again {v w : Vals} {q : Bool} {B : List (Nat × Nat)} (h : applyS v q B = (w, 0)) : applyS w q B = (w, 0) := by
  unfold applyS at h ⊢
  by_cases hb : codeL q B ≠ 0
  · rw [if_pos hb] at h
    injection h with _ h
    exact absurd h hb
  · rw [if_neg hb] at h ⊢
    injection h with h _
    rw [← h, fold_twice]
/-- What may be. -/
structure Right (q : Bool) (v : Vals) : Prop where
  window : v.window ≤ 2147483647
  least : 16384 ≤ v.frame
  most : v.frame ≤ 16777215
  push : q = true → v.push = false
theorem set_right {q : Bool} {v : Vals} {x : Nat × Nat} (h : Right q v) (hx : wrongS q x = 0) : Right q (set v x) := by
  have h2 : ¬ (x.1 = 2 ∧ (1 < x.2 ∨ (q = true ∧ 0 < x.2))) := fun e => by unfold wrongS at hx; rw [if_pos e] at hx; cases hx
  have h4 : ¬ (x.1 = 4 ∧ 2147483648 ≤ x.2) := fun e => by unfold wrongS at hx; rw [if_neg h2, if_pos e] at hx; cases hx
  have h5 : ¬ (x.1 = 5 ∧ (x.2 < 16384 ∨ 16777216 ≤ x.2)) := fun e => by unfold wrongS at hx; rw [if_neg h2, if_neg h4, if_pos e] at hx; cases hx
  refine ⟨?_, ?_, ?_, fun hq => ?_⟩
  · rw [set_window]; split
    · omega
    · exact h.window
  · rw [set_frame]; split
    · omega
    · exact h.least
  · rw [set_frame]; split
    · omega
    · exact h.most
  · rw [set_push]; split
    · next e =>
      have : ¬ (1 < x.2 ∨ (q = true ∧ 0 < x.2)) := fun e2 => h2 ⟨e, e2⟩
      exact decide_eq_false (fun e3 => this (.inr ⟨hq, by omega⟩))
    · exact h.push hq
theorem fold_right {q : Bool} : ∀ (L : List (Nat × Nat)) (v : Vals), Right q v → codeL q L = 0 → Right q (L.foldl set v)
  | [], _, h, _ => h
  | x :: L, v, h, hc => by
    rw [codeL] at hc
    by_cases hx : wrongS q x ≠ 0
    · rw [if_pos hx] at hc; exact absurd hc hx
    · rw [if_neg hx] at hc
      exact fold_right L _ (set_right h (Decidable.not_not.1 hx)) hc
/-- Others play no part. -/
theorem other_set {v : Vals} {x : Nat × Nat} (h : x.1 = 0 ∨ 6 < x.1) : set v x = v := by
  unfold set
  rw [if_neg (by omega), if_neg (by omega), if_neg (by omega), if_neg (by omega), if_neg (by omega), if_neg (by omega)]
theorem other_wrong {q : Bool} {x : Nat × Nat} (h : x.1 = 0 ∨ 6 < x.1) : wrongS q x = 0 := by
  unfold wrongS
  rw [if_neg (by omega), if_neg (by omega), if_neg (by omega)]
def weave (e : Nat × Nat) : List (Nat × Nat) → List (Nat × Nat)
  | [] => []
  | x :: L => e :: x :: weave e L
theorem weave_snoc (e : Nat × Nat) : ∀ (L : List (Nat × Nat)) (x : Nat × Nat), weave e (L ++ [x]) = weave e L ++ [e, x]
  | [], _ => rfl
  | y :: L, x => by rw [List.cons_append, weave, weave_snoc e L x, weave]; rfl
theorem weave_len (e : Nat × Nat) : ∀ L, (weave e L).length = 2 * L.length
  | [] => rfl
  | x :: L => by rw [weave, List.length_cons, List.length_cons, weave_len e L, List.length_cons]; omega
theorem weave_code {q : Bool} {e : Nat × Nat} (h : e.1 = 0 ∨ 6 < e.1) : ∀ L, codeL q (weave e L) = codeL q L
  | [] => rfl
  | x :: L => by
    rw [weave, codeL, other_wrong h, if_neg (by simp), codeL, codeL, weave_code h L]
theorem weave_fold {e : Nat × Nat} (h : e.1 = 0 ∨ 6 < e.1) : ∀ (L : List (Nat × Nat)) (v : Vals), (weave e L).foldl set v = L.foldl set v
  | [], _ => rfl
  | x :: L, v => by
    rw [weave, List.foldl_cons, other_set h, List.foldl_cons, weave_fold h L, List.foldl_cons]
theorem weave_apply {q : Bool} {e : Nat × Nat} (h : e.1 = 0 ∨ 6 < e.1) (L : List (Nat × Nat)) (v : Vals) : applyS v q (weave e L ++ [e]) = applyS v q L := by
  have h1 : codeL q (weave e L ++ [e]) = codeL q L := by
    rw [codeL_cat, weave_code h]
    by_cases hc : codeL q L ≠ 0
    · rw [if_pos hc]
    · rw [if_neg hc, codeL, other_wrong h, if_neg (by simp), codeL]
      exact (Decidable.not_not.1 hc).symm
  have h2 : (weave e L ++ [e]).foldl set v = L.foldl set v := by
    rw [List.foldl_append, weave_fold h, List.foldl_cons, other_set h]
    rfl
  unfold applyS
  rw [h1, h2]
/-- The settings that stand in bytes. -/
def beN (l : List UInt8) : Nat := l.foldl (fun n c => n * 256 + c.toNat) 0
def parseS : Nat → List UInt8 → List (Nat × Nat)
  | 0, _ => []
  | k + 1, l => if l.length < 6 then [] else (beN (l.take 2), beN ((l.drop 2).take 4)) :: parseS k (l.drop 6)
end Go.Proofs.Yteddepmiejlemaa.Se
