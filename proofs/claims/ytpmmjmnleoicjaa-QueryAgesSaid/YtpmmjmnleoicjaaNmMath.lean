/- Names in a message as lists of bytes: a run of labels, and how pointers lead it on. No program, no condition. -/
import Derived.Test.YtpmmjmnleoicjaaBytes
import Derived.Test.YtpmmjmnleoicjaaNameMath
namespace Go.Proofs.Ytpmmjmnleoicjaa.NmMath
open Go Bytes NameMath

/-- The byte at a place. -/
def bt (l : List UInt8) (k : Nat) : Nat := (l.getD k 0).toNat
theorem bt_lt (l : List UInt8) (k : Nat) : bt l k < 256 := UInt8.toNat_lt _
/-- The piece of c bytes behind a place. -/
def cut (l : List UInt8) (p n : Nat) : List UInt8 := (l.drop p).take n
theorem cut_len {l : List UInt8} {p n : Nat} (h : p + n ≤ l.length) : (cut l p n).length = n := by unfold cut; rw [List.length_take, List.length_drop]; omega
/-- Labels from a place on, ahead of place E: what they are with those in front, and where they end (at a byte 0, or the first of a pointer); or the error. K: what is told where bytes are lacking. -/
def run (l : List UInt8) (E K : Nat) (p : Nat) (o : List UInt8) : Except Nat (List UInt8 × Nat) :=
  if p < E then
    if bt l p = 0 ∨ 192 ≤ bt l p then .ok (o, p)
    else if 64 ≤ bt l p then .error 41
    else if p + 1 + bt l p ≤ E then
      if 255 < o.length + (bt l p + 1) + 1 then .error 40
      else run l E K (p + 1 + bt l p) (o ++ cut l p (bt l p + 1))
    else .error K
  else .error K
  termination_by E - p
  decreasing_by omega
section
variable {l : List UInt8} {E K p : Nat} {o : List UInt8}
theorem run_lack (h : E ≤ p) : run l E K p o = .error K := by rw [run, if_neg (by omega)]
theorem run_end (h : p < E) (h0 : bt l p = 0 ∨ 192 ≤ bt l p) : run l E K p o = .ok (o, p) := by rw [run, if_pos h, if_pos h0]
theorem run_label (h : p < E) (h1 : 64 ≤ bt l p) (h2 : bt l p < 192) : run l E K p o = .error 41 := by rw [run, if_pos h, if_neg (by omega), if_pos h1]
theorem run_short (h : p < E) (h1 : bt l p < 64) (h2 : E < p + 1 + bt l p) : run l E K p o = .error K := by rw [run, if_pos h, if_neg (by omega), if_neg (by omega), if_neg (by omega)]
theorem run_long (h0 : bt l p ≠ 0) (h1 : bt l p < 64) (h2 : p + 1 + bt l p ≤ E) (h3 : 253 < o.length + bt l p) : run l E K p o = .error 40 := by rw [run, if_pos (by omega), if_neg (by omega), if_neg (by omega), if_pos h2, if_pos (by omega)]
theorem run_more (h0 : bt l p ≠ 0) (h1 : bt l p < 64) (h2 : p + 1 + bt l p ≤ E) (h3 : o.length + bt l p ≤ 253) : run l E K p o = run l E K (p + 1 + bt l p) (o ++ cut l p (bt l p + 1)) := by rw [run, if_pos (by omega), if_neg (by omega), if_neg (by omega), if_pos h2, if_neg (by omega)]
end
/-- Where a run ends. -/
theorem run_ok {l : List UInt8} {E K p : Nat} {o : List UInt8} : ∀ {o' : List UInt8} {q : Nat}, run l E K p o = .ok (o', q) → p ≤ q ∧ q < E ∧ (bt l q = 0 ∨ 192 ≤ bt l q) ∧ (o.length ≤ 254 → o'.length ≤ 254) := by
  fun_induction run l E K p o with
  | case1 p o h h0 => intro o' q e; injection e with e; injection e with e1 e2; subst e1; subst e2; exact ⟨Nat.le_refl _, h, h0, id⟩
  | case2 => intro o' q e; cases e
  | case3 => intro o' q e; cases e
  | case4 p o h h0 h1 h2 h3 ih =>
    intro o' q e
    obtain ⟨i1, i2, i3, i4⟩ := ih e
    refine ⟨by omega, i2, i3, fun ho => i4 ?_⟩
    rw [List.length_append]
    have : (cut l p (bt l p + 1)).length ≤ bt l p + 1 := by unfold cut; rw [List.length_take]; omega
    omega
  | case5 => intro o' q e; cases e
  | case6 => intro o' q e; cases e
theorem run_err {l : List UInt8} {E K p : Nat} {o : List UInt8} : ∀ {k : Nat}, run l E K p o = .error k → k = 40 ∨ k = 41 ∨ k = K := by
  fun_induction run l E K p o with
  | case1 => intro k e; cases e
  | case2 => intro k e; injection e with e; omega
  | case3 => intro k e; injection e with e; omega
  | case4 p o h h0 h1 h2 h3 ih => intro k e; exact ih e
  | case5 => intro k e; injection e with e; omega
  | case6 => intro k e; injection e with e; omega
theorem run_at {l : List UInt8} {E K p : Nat} {o o' : List UInt8} {q : Nat} (h : run l E K p o = .ok (o', q)) : run l E K q o' = .ok (o', q) := by
  obtain ⟨_, h2, h3, _⟩ := run_ok h
  exact run_end h2 h3

/-- The place that a pointer tells. -/
def place (l : List UInt8) (q : Nat) : Nat := (bt l q - 192) * 256 + bt l (q + 1)
theorem place_lt (l : List UInt8) (q : Nat) : place l q < 16384 := by have := bt_lt l q; have := bt_lt l (q + 1); unfold place; omega
/-- The name at place p of a part that began at b, with the labels o in front; behind it is 'next', where a pointer told that already. -/
def nm (l : List UInt8) (E K p b : Nat) (next : Option Nat) (o : List UInt8) : Except Nat (List UInt8 × Nat) :=
  match run l E K p o with
  | .error k => .error k
  | .ok (o', q) =>
    if bt l q = 0 then .ok (o' ++ [0], next.getD (q + 1))
    else if q + 2 ≤ E then
      if h : place l q < b then nm l l.length 2 (place l q) (place l q) (some (next.getD (q + 2))) o' else .error 42
    else .error K
  termination_by b
section
variable {l : List UInt8} {E K p b q : Nat} {next : Option Nat} {o o' : List UInt8}
theorem nm_err {k : Nat} (h : run l E K p o = .error k) : nm l E K p b next o = .error k := by rw [nm, h]
theorem nm_run (h : run l E K p o = .ok (o', q)) : nm l E K p b next o = nm l E K q b next o' := by
  rw [nm, h]
  conv => rhs; rw [nm, run_at h]
theorem nm_lack (h : E ≤ p) : nm l E K p b next o = .error K := nm_err (run_lack h)
theorem nm_zero (h : p < E) (h0 : bt l p = 0) : nm l E K p b next o = .ok (o ++ [0], next.getD (p + 1)) := by rw [nm, run_end h (.inl h0)]; simp only [h0, if_true]
theorem nm_cut (h : p < E) (h0 : 192 ≤ bt l p) (h1 : E < p + 2) : nm l E K p b next o = .error K := by rw [nm, run_end h (.inr h0)]; simp only; rw [if_neg (by omega), if_neg (by omega)]
theorem nm_ahead (h0 : 192 ≤ bt l p) (h1 : p + 2 ≤ E) (h2 : b ≤ place l p) : nm l E K p b next o = .error 42 := by rw [nm, run_end (by omega) (.inr h0)]; simp only; rw [if_neg (by omega), if_pos h1, dif_neg (by omega)]
theorem nm_back (h0 : 192 ≤ bt l p) (h1 : p + 2 ≤ E) (h2 : place l p < b) : nm l E K p b next o = nm l l.length 2 (place l p) (place l p) (some (next.getD (p + 2))) o := by rw [nm, run_end (by omega) (.inr h0)]; simp only; rw [if_neg (by omega), if_pos h1, dif_pos h2]
theorem nm_label (h : p < E) (h1 : 64 ≤ bt l p) (h2 : bt l p < 192) : nm l E K p b next o = .error 41 := nm_err (run_label h h1 h2)
theorem nm_short (h : p < E) (h1 : bt l p < 64) (h2 : E < p + 1 + bt l p) : nm l E K p b next o = .error K := nm_err (run_short h h1 h2)
theorem nm_long (h0 : bt l p ≠ 0) (h1 : bt l p < 64) (h2 : p + 1 + bt l p ≤ E) (h3 : 253 < o.length + bt l p) : nm l E K p b next o = .error 40 := nm_err (run_long h0 h1 h2 h3)
theorem nm_more (h0 : bt l p ≠ 0) (h1 : bt l p < 64) (h2 : p + 1 + bt l p ≤ E) (h3 : o.length + bt l p ≤ 253) : nm l E K p b next o = nm l E K (p + 1 + bt l p) b next (o ++ cut l p (bt l p + 1)) := by
  rw [nm, run_more h0 h1 h2 h3]
  conv => rhs; rw [nm]
end
/-- What is behind a name: no more than the bytes that there are. -/
theorem nm_next {l : List UInt8} {E K p b : Nat} {next : Option Nat} {o : List UInt8} (hE : E ≤ l.length) (hn : ∀ x, next = some x → x ≤ l.length) : ∀ {o' : List UInt8} {n : Nat}, nm l E K p b next o = .ok (o', n) → n ≤ l.length := by
  fun_induction nm l E K p b next o with
  | case1 => intro o' n e; cases e
  | case2 E K p b next o o1 q hr h0 =>
    intro o' n e
    injection e with e
    injection e with e1 e2
    subst e2
    have := (run_ok hr).2.1
    cases next with
    | none => show q + 1 ≤ _; omega
    | some x => exact hn x rfl
  | case3 E K p b next o o1 q hr h0 h1 h2 ih =>
    refine ih (Nat.le_refl _) (fun x e => ?_)
    injection e with e
    subst e
    cases next with
    | none => show q + 2 ≤ _; omega
    | some x => exact hn x rfl
  | case4 => intro o' n e; cases e
  | case5 => intro o' n e; cases e
/-- A name without pointers. -/
def bare (l : List UInt8) (E K p : Nat) (o : List UInt8) : Except Nat (List UInt8 × Nat) :=
  match run l E K p o with
  | .error k => .error k
  | .ok (o', q) => if bt l q = 0 then .ok (o' ++ [0], q + 1) else .error 50
section
variable {l : List UInt8} {E K p q : Nat} {o o' : List UInt8}
theorem bare_err {k : Nat} (h : run l E K p o = .error k) : bare l E K p o = .error k := by unfold bare; rw [h]
theorem bare_zero (h : p < E) (h0 : bt l p = 0) : bare l E K p o = .ok (o ++ [0], p + 1) := by unfold bare; rw [run_end h (.inl h0)]; simp only [h0, if_true]
theorem bare_ptr (h : p < E) (h0 : 192 ≤ bt l p) : bare l E K p o = .error 50 := by unfold bare; rw [run_end h (.inr h0)]; simp only; rw [if_neg (by omega)]
theorem bare_more (h0 : bt l p ≠ 0) (h1 : bt l p < 64) (h2 : p + 1 + bt l p ≤ E) (h3 : o.length + bt l p ≤ 253) : bare l E K p o = bare l E K (p + 1 + bt l p) (o ++ cut l p (bt l p + 1)) := by unfold bare; rw [run_more h0 h1 h2 h3]
end
end Go.Proofs.Ytpmmjmnleoicjaa.NmMath
