/- Messages as lists of bytes: questions, rows of things, the whole. No program, no condition. -/
import Derived.Test.YtpmmjmnleoicjaaBytes
import Derived.Test.YtpmmjmnleoicjaaNmMath
import Derived.Test.YtpmmjmnleoicjaaNumBe
import Derived.Test.YtpmmjmnleoicjaaRecMath
namespace Go.Proofs.Ytpmmjmnleoicjaa.MsgMath
open Go Bytes NmMath RecMath

structure Qn where
  name : List UInt8
  kind : Nat
  cls : Nat
structure Msg where
  id : Nat
  flags : Nat
  qs : List Qn
  an : List Rec
  ns : List Rec
  ad : List Rec

/-- The number in n bytes at a place. -/
def nu (l : List UInt8) (p n : Nat) : Nat := be (cut l p n)
theorem nu2_lt (l : List UInt8) (p : Nat) : nu l p 2 < 65536 := by
  have h := be_lt (cut l p 2)
  have h2 : (cut l p 2).length ≤ 2 := by unfold cut; rw [List.length_take]; omega
  have h3 : 256 ^ (cut l p 2).length ≤ 256 ^ 2 := Nat.pow_le_pow_right (by omega) h2
  unfold nu
  omega
theorem nu4_lt (l : List UInt8) (p : Nat) : nu l p 4 < 4294967296 := by
  have h := be_lt (cut l p 4)
  have h2 : (cut l p 4).length ≤ 4 := by unfold cut; rw [List.length_take]; omega
  have h3 : 256 ^ (cut l p 4).length ≤ 256 ^ 4 := Nat.pow_le_pow_right (by omega) h2
  unfold nu
  omega
/-- The question at a place. -/
def qn (l : List UInt8) (p : Nat) : Except Nat (Qn × Nat) :=
  match nm l l.length 2 p p none [] with
  | .error k => .error k
  | .ok (o, q) => if q + 4 ≤ l.length then .ok (⟨o, nu l q 2, nu l (q + 2) 2⟩, q + 4) else .error 2
theorem qn_err {l : List UInt8} {p k : Nat} (h : nm l l.length 2 p p none [] = .error k) : qn l p = .error k := by unfold qn; rw [h]
theorem qn_ok {l o : List UInt8} {p q : Nat} (h : nm l l.length 2 p p none [] = .ok (o, q)) (h2 : q + 4 ≤ l.length) : qn l p = .ok (⟨o, nu l q 2, nu l (q + 2) 2⟩, q + 4) := by unfold qn; rw [h]; exact if_pos h2
theorem qn_short {l o : List UInt8} {p q : Nat} (h : nm l l.length 2 p p none [] = .ok (o, q)) (h2 : l.length < q + 4) : qn l p = .error 2 := by unfold qn; rw [h]; exact if_neg (by omega)
section
variable {α : Type}
/-- So many things, one behind the other. -/
def many (f : Nat → Except Nat (α × Nat)) : Nat → Nat → Except Nat (List α × Nat)
  | 0, p => .ok ([], p)
  | n + 1, p =>
    match f p with
    | .error k => .error k
    | .ok (x, q) =>
      match many f n q with
      | .error k => .error k
      | .ok (xs, r) => .ok (x :: xs, r)
/-- Behind some that were read. -/
def more (f : Nat → Except Nat (α × Nat)) (A : List α) (n p : Nat) : Except Nat (List α × Nat) :=
  match many f n p with
  | .error k => .error k
  | .ok (xs, r) => .ok (A ++ xs, r)
theorem more_none (f : Nat → Except Nat (α × Nat)) (n p : Nat) : more f [] n p = many f n p := by
  unfold more
  cases many f n p with
  | error k => rfl
  | ok x => rfl
theorem more_end (f : Nat → Except Nat (α × Nat)) (A : List α) (p : Nat) : more f A 0 p = .ok (A, p) := by
  simp [more, many]
theorem more_err {f : Nat → Except Nat (α × Nat)} {A : List α} {n p k : Nat} (h : f p = .error k) : more f A (n + 1) p = .error k := by
  unfold more many
  rw [h]
theorem more_one {f : Nat → Except Nat (α × Nat)} {A : List α} {n p q : Nat} {x : α} (h : f p = .ok (x, q)) : more f A (n + 1) p = more f (A ++ [x]) n q := by
  unfold more
  rw [many, h]
  simp only
  cases many f n q with
  | error k => rfl
  | ok y => simp
theorem many_len {f : Nat → Except Nat (α × Nat)} : ∀ {n p r : Nat} {xs : List α}, many f n p = .ok (xs, r) → xs.length = n := by
  intro n
  induction n with
  | zero =>
    intro p r xs h
    injection h with h
    injection h with h1 h2
    subst h1
    rfl
  | succ n ih =>
    intro p r xs h
    rw [many] at h
    cases hf : f p with
    | error k => rw [hf] at h; cases h
    | ok y =>
      obtain ⟨x, q⟩ := y
      rw [hf] at h
      simp only at h
      cases hm : many f n q with
      | error k => rw [hm] at h; cases h
      | ok z =>
        obtain ⟨ys, s⟩ := z
        rw [hm] at h
        simp only at h
        injection h with h
        injection h with h1 h2
        subst h1
        rw [List.length_cons, ih hm]
end
theorem many_le {α : Type} {f : Nat → Except Nat (α × Nat)} {N : Nat} : ∀ {n p r : Nat} {xs : List α}, (0 < n → ∀ a x b, f a = .ok (x, b) → b ≤ N) → p ≤ N → many f n p = .ok (xs, r) → r ≤ N := by
  intro n
  induction n with
  | zero =>
    intro p r xs _ hp h
    injection h with h
    injection h with h1 h2
    omega
  | succ n ih =>
    intro p r xs hf hp h
    rw [many] at h
    cases h1 : f p with
    | error k => rw [h1] at h; cases h
    | ok y =>
      obtain ⟨x, q⟩ := y
      rw [h1] at h
      simp only at h
      cases hm : many f n q with
      | error k => rw [hm] at h; cases h
      | ok z =>
        obtain ⟨ys, s⟩ := z
        rw [hm] at h
        simp only at h
        injection h with h
        injection h with _ h2
        subst h2
        exact ih (fun _ => hf (by omega)) (hf (by omega) _ _ _ h1) hm
/-- The last records, and what is behind them. -/
def msg4 (rec : Nat → Except Nat (Rec × Nat)) (l : List UInt8) (qs : List Qn) (an ns : List Rec) (p : Nat) : Except Nat Msg :=
  match many rec (nu l 10 2) p with
  | .error k => .error k
  | .ok (ad, q) => if q < l.length then .error 7 else .ok ⟨nu l 0 2, nu l 2 2, qs, an, ns, ad⟩
def msg3 (rec : Nat → Except Nat (Rec × Nat)) (l : List UInt8) (qs : List Qn) (an : List Rec) (p : Nat) : Except Nat Msg :=
  match many rec (nu l 8 2) p with
  | .error k => .error k
  | .ok (ns, q) => msg4 rec l qs an ns q
def msg2 (rec : Nat → Except Nat (Rec × Nat)) (l : List UInt8) (qs : List Qn) (p : Nat) : Except Nat Msg :=
  match many rec (nu l 6 2) p with
  | .error k => .error k
  | .ok (an, q) => msg3 rec l qs an q
def msg1 (rec : Nat → Except Nat (Rec × Nat)) (l : List UInt8) : Except Nat Msg :=
  match many (qn l) (nu l 4 2) 12 with
  | .error k => .error k
  | .ok (qs, q) => msg2 rec l qs q
/-- The message of bytes (no more than may be), whose records are read by 'rec'. -/
def msg (rec : Nat → Except Nat (Rec × Nat)) (l : List UInt8) : Except Nat Msg :=
  if l.length < 12 then .error 2 else if 256 < nu l 4 2 + nu l 6 2 + nu l 8 2 + nu l 10 2 then .error 6 else msg1 rec l
section
variable {rec : Nat → Except Nat (Rec × Nat)} {l : List UInt8} {qs : List Qn} {an ns ad : List Rec} {p q k : Nat}
theorem msg_short (h : l.length < 12) : msg rec l = .error 2 := if_pos h
theorem msg_full (h : 12 ≤ l.length) (h2 : 256 < nu l 4 2 + nu l 6 2 + nu l 8 2 + nu l 10 2) : msg rec l = .error 6 := by unfold msg; rw [if_neg (by omega), if_pos h2]
theorem msg_some (h : 12 ≤ l.length) (h2 : nu l 4 2 + nu l 6 2 + nu l 8 2 + nu l 10 2 ≤ 256) : msg rec l = msg1 rec l := by unfold msg; rw [if_neg (by omega), if_neg (by omega)]
theorem msg1_err (h : many (qn l) (nu l 4 2) 12 = .error k) : msg1 rec l = .error k := by unfold msg1; rw [h]
theorem msg1_ok (h : many (qn l) (nu l 4 2) 12 = .ok (qs, q)) : msg1 rec l = msg2 rec l qs q := by unfold msg1; rw [h]
theorem msg2_err (h : many rec (nu l 6 2) p = .error k) : msg2 rec l qs p = .error k := by unfold msg2; rw [h]
theorem msg2_ok (h : many rec (nu l 6 2) p = .ok (an, q)) : msg2 rec l qs p = msg3 rec l qs an q := by unfold msg2; rw [h]
theorem msg3_err (h : many rec (nu l 8 2) p = .error k) : msg3 rec l qs an p = .error k := by unfold msg3; rw [h]
theorem msg3_ok (h : many rec (nu l 8 2) p = .ok (ns, q)) : msg3 rec l qs an p = msg4 rec l qs an ns q := by unfold msg3; rw [h]
theorem msg4_err (h : many rec (nu l 10 2) p = .error k) : msg4 rec l qs an ns p = .error k := by unfold msg4; rw [h]
theorem msg4_more (h : many rec (nu l 10 2) p = .ok (ad, q)) (h2 : q < l.length) : msg4 rec l qs an ns p = .error 7 := by unfold msg4; rw [h]; exact if_pos h2
theorem msg4_ok (h : many rec (nu l 10 2) p = .ok (ad, q)) (h2 : l.length ≤ q) : msg4 rec l qs an ns p = .ok ⟨nu l 0 2, nu l 2 2, qs, an, ns, ad⟩ := by unfold msg4; rw [h]; exact if_neg (by omega)
end
end Go.Proofs.Ytpmmjmnleoicjaa.MsgMath
