/- Header blocks as mathematics: integers, texts, fields, sizes of the table, and all that a block tells. No program but for what an entry is. -/
import Derived.Test.YtamgnbjdeoklbaaProg
import Derived.Test.YtamgnbjdeoklbaaBytes
import Derived.Test.YtamgnbjdeoklbaaPfMath
import Derived.Test.YtamgnbjdeoklbaaHfMath
import Derived.Test.YtamgnbjdeoklbaaTbMath
import Derived.Test.YtamgnbjdeoklbaaTbFix
import Derived.Test.YtamgnbjdeoklbaaTbAt
namespace Go.Proofs.Ytamgnbjdeoklbaa.Up
open Go.RowKit Bytes Pf Tb

/-- A field. -/
structure Fld where
  name : ByteArray
  val : ByteArray
  never : Bool
/-- An integer: the number, the place behind it; or the error. -/
def num (l : List UInt8) (p : Nat) (b : Int) : Except Nat (Nat × Nat) :=
  match getM l p (fullN b) with
  | (m, q, c) => if c = 0 then .ok (m, q) else .error c
def byteAt (l : List UInt8) (p : Nat) : Nat := (l.getD p 0).toNat
/-- What is decoded. -/
def unp (y : ByteArray) : Option ByteArray := (Hf.decode y.data.toList).map mk
/-- A text. -/
def txt (s : ByteArray) (p : Nat) : Except Nat (ByteArray × Nat) :=
  match num s.data.toList p 7 with
  | .error e => .error e
  | .ok (m, q) =>
    if q + m ≤ s.size then
      if byteAt s.data.toList p < 128 then .ok (s.extract q (q + m), q + m)
      else match unp (s.extract q (q + m)) with
        | some y => .ok (y, q + m)
        | none => .error 91
    else .error 2
/-- The entry of an index. -/
def ent (t : Tab) (m : Nat) : Except Nat Ent := if (atR (fixedT ++ t.2) m).2 = true then .ok (atR (fixedT ++ t.2) m).1 else .error 92
/-- A name. -/
def nam (s : ByteArray) (t : Tab) (m q : Nat) : Except Nat (ByteArray × Nat) :=
  if 0 < m then match ent t m with
    | .error e => .error e
    | .ok e => .ok (e.1, q)
  else txt s q
/-- A name and a value. -/
def spelt (s : ByteArray) (t : Tab) (p : Nat) (b : Int) : Except Nat (Ent × Nat) :=
  match num s.data.toList p b with
  | .error e => .error e
  | .ok (m, q) => match nam s t m q with
    | .error e => .error e
    | .ok (n, q1) => match txt s q1 with
      | .error e => .error e
      | .ok (v, q2) => .ok ((n, v), q2)
/-- A field: the table behind it, the field, the place. -/
def fld (s : ByteArray) (t : Tab) (p : Nat) : Except Nat (Tab × Fld × Nat) :=
  if 128 ≤ byteAt s.data.toList p then match num s.data.toList p 7 with
    | .error e => .error e
    | .ok (m, q) => match ent t m with
      | .error e => .error e
      | .ok e => .ok (t, ⟨e.1, e.2, false⟩, q)
  else if 64 ≤ byteAt s.data.toList p then match spelt s t p 6 with
    | .error e => .error e
    | .ok (e, q) => .ok (addT t e, ⟨e.1, e.2, false⟩, q)
  else match spelt s t p 4 with
    | .error e => .error e
    | .ok (e, q) => .ok (t, ⟨e.1, e.2, decide (16 ≤ byteAt s.data.toList p)⟩, q)
/-- Does a size begin here? -/
def isSize (s : ByteArray) (p : Nat) : Prop := 32 ≤ byteAt s.data.toList p ∧ byteAt s.data.toList p < 64
instance (s : ByteArray) (p : Nat) : Decidable (isSize s p) := by unfold isSize; infer_instance
/-- A size; n fields stand ahead of it. -/
def siz (s : ByteArray) (t : Tab) (p n : Nat) : Except Nat (Tab × Nat) :=
  match num s.data.toList p 5 with
  | .error e => .error e
  | .ok (m, q) => if 0 < n ∨ 4096 < m then .error 93 else .ok (resT t m, q)
/-- All that is ahead: the table behind it, and the fields or the error. -/
def run (s : ByteArray) : Nat → Tab → Nat → List Fld → Tab × Except Nat (List Fld)
  | 0, t, _, out => (t, .ok out)
  | k + 1, t, p, out =>
    if p < s.size then
      if isSize s p then match siz s t p out.length with
        | .error e => (t, .error e)
        | .ok (t', q) => run s k t' q out
      else if out.length = 64 then (t, .error 94)
      else match fld s t p with
        | .error e => (t, .error e)
        | .ok (t', x, q) => run s k t' q (out ++ [x])
    else (t, .ok out)
def go (s : ByteArray) (t : Tab) (p : Nat) (out : List Fld) : Tab × Except Nat (List Fld) := run s (s.size - p) t p out
/-- A decoder: its table; is it down? -/
abbrev Dec := Tab × Bool
/-- A block: the decoder behind it, the fields, the error. -/
def read (d : Dec) (s : ByteArray) : Dec × List Fld × Nat :=
  if d.2 = true then (d, [], 8) else match go s d.1 0 [] with
    | (t, .error e) => ((t, true), [], e)
    | (t, .ok out) => ((t, false), out, 0)

theorem gt_ok : ∀ {j : Nat} {l : List UInt8} {p u n m q : Nat}, gt j l p u n = (m, q, 0) → p < q ∧ q ≤ p + l.length ∧ m ≤ 4294967295
  | 0, _, _, _, _, _, _, h => by unfold gt at h; cases h
  | j + 1, [], _, _, _, _, _, h => by unfold gt at h; cases h
  | j + 1, c :: r, p, u, n, m, q, h => by
    unfold gt at h
    split at h
    · cases h
    · rename_i hb
      split at h
      · injection h with h1 h2
        injection h2 with h2 _
        rw [List.length_cons]
        omega
      · have := gt_ok h
        rw [List.length_cons]
        omega
theorem gt_err : ∀ {j : Nat} {l : List UInt8} {p u n m q c : Nat}, gt j l p u n = (m, q, c) → c = 0 ∨ c = 2 ∨ c = 90
  | 0, _, _, _, _, _, _, _, h => by unfold gt at h; injection h with _ h; injection h with _ h; omega
  | j + 1, [], _, _, _, _, _, _, h => by unfold gt at h; injection h with _ h; injection h with _ h; omega
  | j + 1, c :: r, p, u, n, m, q, e, h => by
    unfold gt at h
    split at h
    · injection h with _ h; injection h with _ h; omega
    · split at h
      · injection h with _ h; injection h with _ h; omega
      · exact gt_err h
theorem gt_app : ∀ {j : Nat} {l : List UInt8} (r : List UInt8) {p u n m q : Nat}, gt j l p u n = (m, q, 0) → gt j (l ++ r) p u n = (m, q, 0)
  | 0, _, _, _, _, _, _, _, h => by unfold gt at h; cases h
  | j + 1, [], _, _, _, _, _, _, h => by unfold gt at h; cases h
  | j + 1, c :: l, r, p, u, n, m, q, h => by
    rw [List.cons_append]
    unfold gt at h ⊢
    split at h
    · cases h
    · rename_i hb
      rw [if_neg hb]
      split at h
      · rename_i hc
        rw [if_pos hc]
        exact h
      · rename_i hc
        rw [if_neg hc]
        exact gt_app r h
theorem gt_shift (k : Nat) : ∀ {j : Nat} {l : List UInt8} {p u n m q : Nat}, gt j l p u n = (m, q, 0) → gt j l (k + p) u n = (m, k + q, 0)
  | 0, _, _, _, _, _, _, h => by unfold gt at h; cases h
  | j + 1, [], _, _, _, _, _, h => by unfold gt at h; cases h
  | j + 1, c :: l, p, u, n, m, q, h => by
    unfold gt at h ⊢
    split at h
    · cases h
    · rename_i hb
      rw [if_neg hb]
      split at h
      · rename_i hc
        rw [if_pos hc]
        injection h with h1 h2
        injection h2 with h2 _
        rw [h1, ← h2]
        rfl
      · rename_i hc
        rw [if_neg hc]
        exact gt_shift k h
theorem getM_ok {l : List UInt8} {p f m q : Nat} (h : getM l p f = (m, q, 0)) : p < l.length ∧ p < q ∧ q ≤ l.length ∧ m ≤ 4294967295 := by
  unfold getM at h
  have hl := List.length_drop (i := p) (l := l)
  generalize l.drop p = d at h hl
  cases d with
  | nil => cases h
  | cons c r =>
    rw [List.length_cons] at hl
    simp only at h
    split at h
    · injection h with h1 h2
      injection h2 with h2 _
      have := c.toNat_lt
      have := Nat.mod_le c.toNat (f + 1)
      omega
    · have := gt_ok h
      omega
theorem num_ok {l : List UInt8} {p : Nat} {b : Int} {m q : Nat} (h : num l p b = .ok (m, q)) : p < l.length ∧ p < q ∧ q ≤ l.length ∧ m ≤ 4294967295 := by
  unfold num at h
  obtain ⟨m', q', c, e⟩ : ∃ m' q' c, getM l p (fullN b) = (m', q', c) := ⟨_, _, _, rfl⟩
  rw [e] at h
  simp only at h
  split at h
  · rename_i hc
    injection h with h
    injection h with h1 h2
    subst hc; subst h1; subst h2
    exact getM_ok e
  · cases h
theorem num_err {l : List UInt8} {p : Nat} {b : Int} {c : Nat} (h : num l p b = .error c) : c = 2 ∨ c = 90 := by
  unfold num at h
  obtain ⟨m', q', c', e⟩ : ∃ m' q' c', getM l p (fullN b) = (m', q', c') := ⟨_, _, _, rfl⟩
  rw [e] at h
  simp only at h
  split at h
  · cases h
  · rename_i hc
    injection h with h
    subst h
    unfold getM at e
    generalize l.drop p = d at e
    cases d with
    | nil => injection e with _ e; injection e with _ e; omega
    | cons c r =>
      simp only at e
      split at e
      · injection e with _ e; injection e with _ e; omega
      · have := gt_err e
        omega
theorem num_app {l : List UInt8} (r : List UInt8) {p : Nat} {b : Int} {m q : Nat} (h : num l p b = .ok (m, q)) : num (l ++ r) p b = .ok (m, q) := by
  have hp := (num_ok h).1
  unfold num at h ⊢
  obtain ⟨m', q', c, e⟩ : ∃ m' q' c, getM l p (fullN b) = (m', q', c) := ⟨_, _, _, rfl⟩
  rw [e] at h
  simp only at h
  split at h
  · rename_i hc
    subst hc
    have e2 : getM (l ++ r) p (fullN b) = (m', q', 0) := by
      unfold getM at e ⊢
      rw [List.drop_append_of_le_length (by omega)]
      generalize l.drop p = d at e
      cases d with
      | nil => cases e
      | cons c d =>
        rw [List.cons_append]
        simp only at e ⊢
        split at e
        · rename_i hc
          rw [if_pos hc]
          exact e
        · rename_i hc
          rw [if_neg hc]
          exact gt_app r e
    rw [e2]
    exact h
  · cases h
theorem num_shift {l : List UInt8} (r : List UInt8) {p : Nat} {b : Int} {m q : Nat} (h : num l p b = .ok (m, q)) : num (r ++ l) (r.length + p) b = .ok (m, r.length + q) := by
  unfold num at h ⊢
  obtain ⟨m', q', c, e⟩ : ∃ m' q' c, getM l p (fullN b) = (m', q', c) := ⟨_, _, _, rfl⟩
  rw [e] at h
  simp only at h
  split at h
  · rename_i hc
    subst hc
    injection h with h
    injection h with h1 h2
    subst h1
    subst h2
    have e2 : getM (r ++ l) (r.length + p) (fullN b) = (m', r.length + q', 0) := by
      unfold getM at e ⊢
      rw [List.drop_append, Nat.add_sub_cancel_left, List.drop_of_length_le (by omega), List.nil_append]
      generalize l.drop p = d at e
      cases d with
      | nil => cases e
      | cons c d =>
        simp only at e ⊢
        split at e
        · rename_i hc
          rw [if_pos hc]
          injection e with h1 h2
          injection h2 with h2 _
          rw [h1, ← h2]
          rfl
        · rename_i hc
          rw [if_neg hc]
          exact gt_shift r.length e
    rw [e2]
    rfl
  · cases h
theorem size_list (s : ByteArray) : s.size = s.data.toList.length := by rw [Array.length_toList]; rfl
theorem txt_ok {s : ByteArray} {p : Nat} {y : ByteArray} {q : Nat} (h : txt s p = .ok (y, q)) : p < s.size ∧ p < q ∧ q ≤ s.size := by
  unfold txt at h
  rw [size_list]
  split at h
  · cases h
  · rename_i m q' hn
    have := num_ok hn
    split at h
    · rename_i hq
      rw [size_list] at hq
      split at h
      · injection h with h; injection h with _ h; omega
      · split at h
        · injection h with h; injection h with _ h; omega
        · cases h
    · cases h
theorem nam_ok {s : ByteArray} {t : Tab} {m q : Nat} {y : ByteArray} {q' : Nat} (h : nam s t m q = .ok (y, q')) (hq : q ≤ s.size) : q ≤ q' ∧ q' ≤ s.size := by
  unfold nam at h
  split at h
  · split at h
    · cases h
    · injection h with h; injection h with _ h; omega
  · have := txt_ok h
    omega
theorem spelt_ok {s : ByteArray} {t : Tab} {p : Nat} {b : Int} {e : Ent} {q : Nat} (h : spelt s t p b = .ok (e, q)) : p < q ∧ q ≤ s.size := by
  unfold spelt at h
  split at h
  · cases h
  · rename_i m q' hn
    have h1 := num_ok hn
    rw [← size_list] at h1
    split at h
    · cases h
    · rename_i n q1 hm
      have h2 := nam_ok hm (by omega)
      split at h
      · cases h
      · rename_i v q2 hv
        have h3 := txt_ok hv
        injection h with h; injection h with _ h
        omega
theorem fld_ok {s : ByteArray} {t t' : Tab} {p : Nat} {x : Fld} {q : Nat} (h : fld s t p = .ok (t', x, q)) : p < q ∧ q ≤ s.size := by
  unfold fld at h
  split at h
  · split at h
    · cases h
    · rename_i m q' hn
      have h1 := num_ok hn
      rw [← size_list] at h1
      split at h
      · cases h
      · injection h with h; injection h with _ h; injection h with _ h; omega
  · split at h
    · split at h
      · cases h
      · rename_i e q' hn
        have h1 := spelt_ok hn
        injection h with h; injection h with _ h; injection h with _ h; omega
    · split at h
      · cases h
      · rename_i e q' hn
        have h1 := spelt_ok hn
        injection h with h; injection h with _ h; injection h with _ h; omega
theorem siz_ok {s : ByteArray} {t t' : Tab} {p n q : Nat} (h : siz s t p n = .ok (t', q)) : p < q ∧ q ≤ s.size ∧ n = 0 := by
  unfold siz at h
  split at h
  · cases h
  · rename_i m q' hn
    have h1 := num_ok hn
    rw [← size_list] at h1
    split at h
    · cases h
    · injection h with h; injection h with _ h; omega
theorem run_fuel (s : ByteArray) : ∀ (k k' : Nat) (t : Tab) (p : Nat) (out : List Fld), s.size - p ≤ k → s.size - p ≤ k' → run s k t p out = run s k' t p out
  | 0, 0, _, _, _, _, _ => rfl
  | 0, k' + 1, t, p, out, h, _ => by rw [run, run, if_neg (by omega)]
  | k + 1, 0, t, p, out, _, h => by rw [run, run, if_neg (by omega)]
  | k + 1, k' + 1, t, p, out, h, h' => by
    rw [run, run]
    split
    · split
      · split
        · rfl
        · rename_i t' q hs
          have := siz_ok hs
          exact run_fuel s k k' _ _ _ (by omega) (by omega)
      · split
        · rfl
        · split
          · rfl
          · rename_i t' x q hs
            have := fld_ok hs
            exact run_fuel s k k' _ _ _ (by omega) (by omega)
    · rfl
theorem go_end {s : ByteArray} {t : Tab} {p : Nat} {out : List Fld} (h : s.size ≤ p) : go s t p out = (t, .ok out) := by
  unfold go
  rw [show s.size - p = 0 by omega, run]
theorem go_step {s : ByteArray} {t : Tab} {p : Nat} {out : List Fld} (h : p < s.size) : go s t p out =
    if isSize s p then match siz s t p out.length with
      | .error e => (t, .error e)
      | .ok (t', q) => go s t' q out
    else if out.length = 64 then (t, .error 94)
    else match fld s t p with
      | .error e => (t, .error e)
      | .ok (t', x, q) => go s t' q (out ++ [x]) := by
  unfold go
  obtain ⟨k, hk⟩ : ∃ k, s.size - p = k + 1 := ⟨s.size - p - 1, by omega⟩
  rw [hk, run, if_pos h]
  split
  · split
    · rfl
    · rename_i t' q hs
      have := siz_ok hs
      exact run_fuel s _ _ _ _ _ (by omega) (by omega)
  · split
    · rfl
    · split
      · rfl
      · rename_i t' x q hs
        have := fld_ok hs
        exact run_fuel s _ _ _ _ _ (by omega) (by omega)
theorem go_siz_err {s : ByteArray} {t : Tab} {p : Nat} {out : List Fld} {e : Nat} (h : p < s.size) (hs : isSize s p) (h1 : siz s t p out.length = .error e) : go s t p out = (t, .error e) := by
  rw [go_step h, if_pos hs, h1]
theorem go_siz {s : ByteArray} {t t' : Tab} {p q : Nat} {out : List Fld} (h : p < s.size) (hs : isSize s p) (h1 : siz s t p out.length = .ok (t', q)) : go s t p out = go s t' q out := by
  rw [go_step h, if_pos hs, h1]
theorem go_full {s : ByteArray} {t : Tab} {p : Nat} {out : List Fld} (h : p < s.size) (hs : ¬ isSize s p) (h1 : out.length = 64) : go s t p out = (t, .error 94) := by
  rw [go_step h, if_neg hs, if_pos h1]
theorem go_fld_err {s : ByteArray} {t : Tab} {p : Nat} {out : List Fld} {e : Nat} (h : p < s.size) (hs : ¬ isSize s p) (hl : out.length ≠ 64) (h1 : fld s t p = .error e) : go s t p out = (t, .error e) := by
  rw [go_step h, if_neg hs, if_neg hl, h1]
theorem go_fld {s : ByteArray} {t t' : Tab} {p q : Nat} {x : Fld} {out : List Fld} (h : p < s.size) (hs : ¬ isSize s p) (hl : out.length ≠ 64) (h1 : fld s t p = .ok (t', x, q)) : go s t p out = go s t' q (out ++ [x]) := by
  rw [go_step h, if_neg hs, if_neg hl, h1]
/-- A decoder's table. -/
def Ok4 (t : Tab) : Prop := t.1 ≤ 4096 ∧ OkT t
theorem Ok4.add {t : Tab} (h : Ok4 t) (e : Ent) : Ok4 (addT t e) := ⟨h.1, addT_ok t e⟩
theorem Ok4.res {t : Tab} {m : Nat} (hm : m ≤ 4096) : Ok4 (resT t m) := ⟨by unfold resT; simp only; omega, resT_ok t m⟩
theorem ok4_new : Ok4 (newT 4096) := ⟨by unfold newT; simp only; omega, newT_ok 4096⟩
theorem fld_ok4 {s : ByteArray} {t t' : Tab} {p : Nat} {x : Fld} {q : Nat} (h : fld s t p = .ok (t', x, q)) (ht : Ok4 t) : Ok4 t' := by
  unfold fld at h
  split at h
  · split at h
    · cases h
    · split at h
      · cases h
      · injection h with h; injection h with h _; rw [← h]; exact ht
  · split at h
    · split at h
      · cases h
      · injection h with h; injection h with h _; rw [← h]; exact ht.add _
    · split at h
      · cases h
      · injection h with h; injection h with h _; rw [← h]; exact ht
theorem siz_ok4 {s : ByteArray} {t t' : Tab} {p n q : Nat} (h : siz s t p n = .ok (t', q)) : Ok4 t' := by
  unfold siz at h
  split at h
  · cases h
  · split at h
    · cases h
    · injection h with h; injection h with h _; rw [← h]; exact Ok4.res (by omega)
theorem run_ok4 (s : ByteArray) : ∀ (k : Nat) (t : Tab) (p : Nat) (out : List Fld), Ok4 t → Ok4 (run s k t p out).1
  | 0, t, p, out, h => by rw [run]; exact h
  | k + 1, t, p, out, h => by
    rw [run]
    split
    · split
      · split
        · exact h
        · rename_i hs; exact run_ok4 s k _ _ _ (siz_ok4 hs)
      · split
        · exact h
        · split
          · exact h
          · rename_i hs; exact run_ok4 s k _ _ _ (fld_ok4 hs h)
    · exact h
theorem read_ok4 {d : Dec} (s : ByteArray) (h : Ok4 d.1) : Ok4 (read d s).1.1 := by
  unfold read
  split
  · exact h
  · have := run_ok4 s (s.size - 0) d.1 0 [] h
    unfold go
    split
    · rename_i e; rw [e] at this; exact this
    · rename_i e; rw [e] at this; exact this
/-- No more than 64 fields. -/
theorem run_len (s : ByteArray) : ∀ (k : Nat) (t t' : Tab) (p : Nat) (out l : List Fld), out.length ≤ 64 → run s k t p out = (t', .ok l) → l.length ≤ 64 ∧ out.length ≤ l.length
  | 0, t, t', p, out, l, h, e => by rw [run] at e; injection e with _ e; injection e with e; rw [← e]; exact ⟨h, Nat.le_refl _⟩
  | k + 1, t, t', p, out, l, h, e => by
    rw [run] at e
    split at e
    · split at e
      · split at e
        · injection e with _ e; cases e
        · exact run_len s k _ _ _ _ _ h e
      · split at e
        · injection e with _ e; cases e
        · rename_i hl
          split at e
          · injection e with _ e; cases e
          · have := run_len s k _ _ _ _ _ (by rw [List.length_append, List.length_singleton]; omega) e
            rw [List.length_append, List.length_singleton] at this
            omega
    · injection e with _ e; injection e with e; rw [← e]; exact ⟨h, Nat.le_refl _⟩
theorem read_len (d : Dec) (s : ByteArray) : (read d s).2.1.length ≤ 64 := by
  unfold read
  split
  · exact Nat.zero_le _
  · split
    · exact Nat.zero_le _
    · rename_i e
      exact (run_len s _ _ _ _ _ _ (Nat.zero_le _) e).1
end Go.Proofs.Ytamgnbjdeoklbaa.Up
