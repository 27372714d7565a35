/- The codes of layer 10 as the document makes them: the signs in order of their lengths, each code the one ahead of it and 1, with noughts behind it. No program. -/
import Derived.Test.YtaoomjbkfcbfpaaHfTab
namespace Go.Proofs.Ytaoomjbkfcbfpaa.Hf

/-- The signs of one length, from a sign on. -/
def row (n a : Nat) : List Nat := (List.range' a (257 - a)).filter fun s => len s == n
/-- The signs of all lengths from one on. -/
def rest : Nat → Nat → List Nat
  | 0, _ => []
  | k + 1, n => row n 0 ++ rest k (n + 1)
/-- What is still to come, ahead of a sign in a length's round. -/
def todo (n a : Nat) : List Nat := row n a ++ rest (30 - n) (n + 1)
theorem todo_all : todo 5 0 = ord := by decide +kernel
theorem row_step {n a : Nat} (h : a < 257) : row n a = if len a = n then a :: row n (a + 1) else row n (a + 1) := by
  unfold row
  rw [show 257 - a = (257 - (a + 1)) + 1 by omega, List.range'_succ, List.filter_cons]
  by_cases e : len a = n
  · rw [if_pos e, if_pos (by simp [e])]
  · rw [if_neg e, if_neg (by simp [e])]
theorem todo_yes {n a : Nat} (h : a < 257) (e : len a = n) : todo n a = a :: todo n (a + 1) := by
  unfold todo
  rw [row_step h, if_pos e, List.cons_append]
theorem todo_no {n a : Nat} (h : a < 257) (e : len a ≠ n) : todo n a = todo n (a + 1) := by
  unfold todo
  rw [row_step h, if_neg e]
theorem todo_next {n : Nat} (h : n < 30) : todo n 257 = todo (n + 1) 0 := by
  unfold todo
  rw [show row n 257 = [] from rfl, List.nil_append, show 30 - n = (30 - (n + 1)) + 1 by omega]
  rfl
theorem todo_end : todo 30 257 = [] := rfl
theorem chain_chk : ((List.range 256).all fun i => decide (len (ord.getD i 0) ≤ len (ord.getD (i + 1) 0)) && decide ((cd (ord.getD i 0) + 1) * 2 ^ (len (ord.getD (i + 1) 0) - len (ord.getD i 0)) = cd (ord.getD (i + 1) 0)) && decide (cd (ord.getD i 0) < 1073741824)) = true := by decide +kernel
theorem ord_len : ord.length = 257 := by decide +kernel
theorem chain_first {s : Nat} {T : List Nat} (h : s :: T = ord) : s = 48 ∧ cd s = 0 ∧ len s = 5 := by
  have e : s = ord.getD 0 0 := by rw [← h]; rfl
  rw [e]
  decide +kernel
theorem chain_next {P T : List Nat} {p s : Nat} (h : (P ++ [p]) ++ s :: T = ord) : len p ≤ len s ∧ (cd p + 1) * 2 ^ (len s - len p) = cd s ∧ cd p < 1073741824 := by
  have hl := congrArg List.length h
  rw [List.length_append, List.length_append, List.length_singleton, List.length_cons, ord_len] at hl
  have e1 : ord.getD P.length 0 = p := by
    rw [← h, List.append_assoc, List.getD_eq_getElem?_getD, List.getElem?_append_right (Nat.le_refl _), Nat.sub_self]
    rfl
  have e2 : ord.getD (P.length + 1) 0 = s := by
    rw [← h, List.getD_eq_getElem?_getD, List.getElem?_append_right (by rw [List.length_append, List.length_singleton]; exact Nat.le_refl _), List.length_append, List.length_singleton, Nat.sub_self]
    rfl
  have := all_lt chain_chk P.length (by omega)
  rw [e1, e2] at this
  simp only [Bool.and_eq_true, decide_eq_true_eq] at this
  exact ⟨this.1.1, this.1.2, this.2⟩
/-- The codes that were laid: those of these signs. -/
def laid (P : List Nat) : List Nat := P.foldl (fun o s => o.set s (cd s)) (List.replicate 257 0)
theorem laid_snoc (P : List Nat) (s : Nat) : laid (P ++ [s]) = (laid P).set s (cd s) := by
  unfold laid
  rw [List.foldl_append]
  rfl
theorem laid_len (P : List Nat) : (laid P).length = 257 := by
  have h : ∀ (P : List Nat) (o : List Nat), (P.foldl (fun o s => o.set s (cd s)) o).length = o.length := by
    intro P
    induction P with
    | nil => intro o; rfl
    | cons p P ih => intro o; rw [List.foldl_cons, ih, List.length_set]
  exact (h P _).trans List.length_replicate
theorem laid_all : laid ord = cds := by decide +kernel
/-- The last code that was laid, its length, and whether none was. -/
def lastC (P : List Nat) : Nat := match P.getLast? with | some p => cd p | none => 0
def lastL (P : List Nat) : Nat := match P.getLast? with | some p => len p | none => 5
theorem lastC_snoc (P : List Nat) (s : Nat) : lastC (P ++ [s]) = cd s := by unfold lastC; rw [List.getLast?_concat]
theorem lastL_snoc (P : List Nat) (s : Nat) : lastL (P ++ [s]) = len s := by unfold lastL; rw [List.getLast?_concat]
/-- The next code out of the last one. -/
theorem next_code {P T : List Nat} {s : Nat} (h : P ++ s :: T = ord) (h0 : P ≠ []) : lastL P ≤ len s ∧ (lastC P + 1) * 2 ^ (len s - lastL P) = cd s ∧ lastC P < 1073741824 := by
  obtain ⟨Q, p, rfl⟩ : ∃ Q p, P = Q ++ [p] := ⟨P.dropLast, P.getLast h0, (List.dropLast_concat_getLast h0).symm⟩
  rw [lastC_snoc, lastL_snoc]
  exact chain_next h
theorem first_code {T : List Nat} {s : Nat} (h : [] ++ s :: T = ord) : lastL [] = len s ∧ lastC [] = cd s := by
  have := chain_first h
  exact ⟨this.2.2.symm, this.2.1.symm⟩
end Go.Proofs.Ytaoomjbkfcbfpaa.Hf
