/- Tables of fields as mathematics: entries, their sizes, what stays when one is added or the table is resized; what is found. No program. -/
namespace Go.Proofs.Ytamgnbjdeoklbaa.Tb

/-- A name and a value. -/
abbrev Ent := ByteArray × ByteArray
def sz (e : Ent) : Nat := e.1.size + e.2.size + 32
def sumL : List Ent → Nat
  | [] => 0
  | e :: l => sz e + sumL l
theorem sumL_cat (a b : List Ent) : sumL (a ++ b) = sumL a + sumL b := by
  induction a with
  | nil => rw [List.nil_append]; exact (Nat.zero_add _).symm
  | cons e a ih => rw [List.cons_append, sumL, sumL, ih, Nat.add_assoc]
theorem sumL_ge (l : List Ent) : 32 * l.length ≤ sumL l := by
  induction l with
  | nil => exact Nat.le_refl _
  | cons e l ih => rw [sumL, List.length_cons]; unfold sz; omega
/-- As many of the youngest entries as come to no more than a size. -/
def leastL : List Ent → Nat → List Ent
  | [], _ => []
  | e :: l, m => if sz e ≤ m then e :: leastL l (m - sz e) else []
theorem leastL_sum : ∀ (l : List Ent) (m : Nat), sumL (leastL l m) ≤ m
  | [], m => Nat.zero_le m
  | e :: l, m => by
    rw [leastL]
    split
    · have := leastL_sum l (m - sz e)
      rw [sumL]
      omega
    · exact Nat.zero_le m
/-- What stays is a beginning. -/
theorem leastL_pre : ∀ (l : List Ent) (m : Nat), ∃ k, k ≤ l.length ∧ leastL l m = l.take k
  | [], _ => ⟨0, Nat.le_refl _, rfl⟩
  | e :: l, m => by
    rw [leastL]
    split
    · obtain ⟨k, hk, h⟩ := leastL_pre l (m - sz e)
      exact ⟨k + 1, by rw [List.length_cons]; omega, by rw [h]; rfl⟩
    · exact ⟨0, Nat.zero_le _, rfl⟩
theorem leastL_len (l : List Ent) (m : Nat) : (leastL l m).length ≤ l.length := by
  obtain ⟨k, hk, h⟩ := leastL_pre l m
  rw [h, List.length_take]
  omega
/-- What has room stays whole. -/
theorem leastL_fits : ∀ (l : List Ent) (m : Nat), sumL l ≤ m → leastL l m = l
  | [], _, _ => rfl
  | e :: l, m, h => by
    rw [sumL] at h
    rw [leastL, if_pos (by omega), leastL_fits l _ (by omega)]
/-- Of what is too much the oldest goes. -/
theorem leastL_drop : ∀ (l : List Ent) (e : Ent) (m : Nat), m < sumL (l ++ [e]) → leastL (l ++ [e]) m = leastL l m
  | [], e, m, h => by
    rw [List.nil_append, sumL, sumL] at h
    show (if sz e ≤ m then e :: leastL [] (m - sz e) else []) = []
    rw [if_neg (by omega)]
  | x :: l, e, m, h => by
    rw [List.cons_append, sumL] at h
    rw [List.cons_append, leastL, leastL]
    split
    · rw [leastL_drop l e _ (by omega)]
    · rfl
/-- The first that doesn't stay had no room. -/
theorem leastL_next : ∀ (l : List Ent) (m k : Nat), (leastL l m).length = k → k < l.length → m < sumL (leastL l m) + sz (l.getD k (⟨#[]⟩, ⟨#[]⟩))
  | [], _, k, _, h => absurd h (Nat.not_lt_zero k)
  | e :: l, m, k, hk, h => by
    rw [leastL] at hk ⊢
    by_cases hs : sz e ≤ m
    · rw [if_pos hs] at hk ⊢
      rw [List.length_cons] at hk h
      obtain ⟨j, rfl⟩ : ∃ j, k = j + 1 := ⟨k - 1, by omega⟩
      have := leastL_next l (m - sz e) j (by omega) (by omega)
      rw [sumL]
      show m < sz e + sumL (leastL l (m - sz e)) + sz (l.getD j (⟨#[]⟩, ⟨#[]⟩))
      omega
    · rw [if_neg hs] at hk ⊢
      have hk0 : k = 0 := hk.symm
      subst hk0
      show m < 0 + sz e
      omega
/-- Less room, asked for in two steps. -/
theorem leastL_twice : ∀ (l : List Ent) (a b : Nat), a ≤ b → leastL (leastL l b) a = leastL l a
  | [], _, _, _ => rfl
  | e :: l, a, b, h => by
    by_cases hb : sz e ≤ b
    · rw [leastL, if_pos hb, leastL, leastL]
      by_cases ha : sz e ≤ a
      · rw [if_pos ha, if_pos ha, leastL_twice l _ _ (by omega)]
      · rw [if_neg ha, if_neg ha]
    · rw [leastL, if_neg hb, leastL, leastL, if_neg (by omega)]
/-- A table: its greatest size, and its entries, the youngest first. -/
abbrev Tab := Nat × List Ent
def newT (m : Int) : Tab := (m.toNat, [])
def addT (t : Tab) (e : Ent) : Tab := (t.1, leastL (e :: t.2) t.1)
def resT (t : Tab) (m : Int) : Tab := (m.toNat, leastL t.2 m.toNat)
/-- A table whose entries have room. -/
def OkT (t : Tab) : Prop := sumL t.2 ≤ t.1
theorem newT_ok (m : Int) : OkT (newT m) := Nat.zero_le _
theorem addT_ok (t : Tab) (e : Ent) : OkT (addT t e) := leastL_sum _ _
theorem resT_ok (t : Tab) (m : Int) : OkT (resT t m) := leastL_sum _ _
/-- What is found: the first with that name and value, else the first with that name. -/
def findW (n v : ByteArray) : List Ent → Nat → Option Nat
  | [], _ => none
  | e :: l, i => if e.1 = n ∧ e.2 = v then some (i + 1) else findW n v l (i + 1)
def findN (n : ByteArray) : List Ent → Nat → Option Nat
  | [], _ => none
  | e :: l, i => if e.1 = n then some (i + 1) else findN n l (i + 1)
def findT (n v : ByteArray) (l : List Ent) : Nat × Bool :=
  match findW n v l 0 with
  | some k => (k, true)
  | none => match findN n l 0 with
    | some k => (k, false)
    | none => (0, false)
/-- The entry at a number. -/
def atT (l : List Ent) (n : Int) : Option Ent := if n < 1 then none else l[n.toNat - 1]?
end Go.Proofs.Ytamgnbjdeoklbaa.Tb
