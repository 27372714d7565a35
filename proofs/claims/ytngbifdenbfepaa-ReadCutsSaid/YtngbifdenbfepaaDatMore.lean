/- Where readings of a record's data end: within the data. No program, no condition. -/
import Derived.Test.YtngbifdenbfepaaBytes
import Derived.Test.YtngbifdenbfepaaNmMath
import Derived.Test.YtngbifdenbfepaaRecMath
import Derived.Test.YtngbifdenbfepaaMsgMath
import Derived.Test.YtngbifdenbfepaaStMath
import Derived.Test.YtngbifdenbfepaaDatMath
namespace Go.Proofs.Ytngbifdenbfepaa.DatMath
open Go Bytes NmMath RecMath MsgMath StMath

theorem nm_some {l : List UInt8} {E K p b x : Nat} {next : Option Nat} {o : List UInt8} (hx : next = some x) : ∀ {o' : List UInt8} {n : Nat}, nm l E K p b next o = .ok (o', n) → n = x := by
  fun_induction nm l E K p b next o with
  | case1 => intro o' n e; cases e
  | case2 E K p b next o o1 q hr h0 =>
    intro o' n e
    injection e with e
    injection e with e1 e2
    subst hx
    exact e2.symm
  | case3 E K p b next o o1 q hr h0 h1 h2 ih =>
    subst hx
    exact ih rfl
  | case4 => intro o' n e; cases e
  | case5 => intro o' n e; cases e
theorem nm_end {l : List UInt8} {E K p b n : Nat} {o o' : List UInt8} (h : nm l E K p b none o = .ok (o', n)) : n ≤ E := by
  rw [nm] at h
  split at h
  · cases h
  · next o1 q hr =>
    have hq := (run_ok hr).2.1
    split at h
    · injection h with h; injection h with _ h; show n ≤ E; have : q + 1 = n := h; omega
    · split at h
      · next h2 =>
        split at h
        · have := nm_some rfl h; show n ≤ E; have : n = q + 2 := this; omega
        · cases h
      · cases h
theorem nameE_end {l : List UInt8} {E kind p q : Nat} {o : List UInt8} (h : nameE l E kind p = .ok (o, q)) : q ≤ E := by
  unfold nameE at h
  split at h
  · cases h
  · split at h
    · unfold bare at h
      split at h
      · cases h
      · next o1 q1 hr =>
        have := (run_ok hr).2.1
        split at h
        · injection h with h; injection h with _ h2; omega
        · cases h
    · exact nm_end h
theorem txtE_at {l : List UInt8} {E p q : Nat} {out L : List (List UInt8)} (hp : p ≤ E) (h : txtE l E out p = .ok (L, q)) : q = E := by
  revert hp h
  fun_induction txtE l E out p with
  | case1 out p h h2 ih => intro hp h; exact ih (by omega) h
  | case2 => intro hp h; cases h
  | case3 out p h1 => intro hp h; injection h with h; injection h with _ h; omega
theorem partE_end {l : List UInt8} {E n p q : Nat} {L : List (List UInt8)} (h : partE l E n p = .ok (L, q)) : q ≤ E := by
  unfold partE at h
  split at h
  · injection h with h; injection h with _ h; omega
  · cases h
theorem textsE_end {l : List UInt8} {E kind p q : Nat} {L : List (List UInt8)} (h : textsE l E kind p = .ok (L, q)) : q ≤ E := by
  unfold textsE at h
  split at h
  · exact partE_end h
  · split at h
    · exact partE_end h
    · split at h
      · split at h
        · exact Nat.le_of_eq (txtE_at (by omega) h)
        · cases h
      · injection h with h; injection h with _ h; omega
theorem numE_end {l : List UInt8} {E size p q x : Nat} (h : numE l E size p = .ok (x, q)) : q ≤ E := by
  unfold numE at h
  split at h
  · injection h with h; injection h with _ h; omega
  · cases h
theorem run_up {l : List UInt8} {E K p q : Nat} {o o' : List UInt8} (h : run l E K p o = .ok (o', q)) : p ≤ q := (run_ok h).1
theorem nm_up {l : List UInt8} {E K p b n : Nat} {o o' : List UInt8} (h : nm l E K p b none o = .ok (o', n)) : p ≤ n := by
  rw [nm] at h
  split at h
  · cases h
  · next o1 q hr =>
    have hq := run_up hr
    split at h
    · injection h with h; injection h with _ h; have : q + 1 = n := h; omega
    · split at h
      · next h2 =>
        split at h
        · have := nm_some rfl h; have : n = q + 2 := this; omega
        · cases h
      · cases h
theorem nameE_up {l : List UInt8} {E kind p q : Nat} {o : List UInt8} (h : nameE l E kind p = .ok (o, q)) : p ≤ q := by
  unfold nameE at h
  split at h
  · cases h
  · split at h
    · unfold bare at h
      split at h
      · cases h
      · next o1 q1 hr =>
        have := run_up hr
        split at h
        · injection h with h; injection h with _ h2; omega
        · cases h
    · exact nm_up h
theorem numE_up {l : List UInt8} {E size p q x : Nat} (h : numE l E size p = .ok (x, q)) : p ≤ q := by
  unfold numE at h
  split at h
  · injection h with h; injection h with _ h; omega
  · cases h
theorem many_ge {α : Type} {f : Nat → Except Nat (α × Nat)} (hf : ∀ p x q, f p = .ok (x, q) → p ≤ q) : ∀ {n p q : Nat} {L : List α}, many f n p = .ok (L, q) → p ≤ q := by
  intro n
  induction n with
  | zero => intro p q L h; injection h with h; injection h with _ h; omega
  | succ n ih =>
    intro p q L h
    rw [many] at h
    split at h
    · cases h
    · next x r hx =>
      split at h
      · cases h
      · next xs s hxs =>
        injection h with h
        injection h with _ h
        have := hf _ _ _ hx
        have := ih hxs
        omega
section
variable {l : List UInt8} {E kind p q k : Nat} {nms L : List (List UInt8)} {ns : List Nat}
theorem endE_err (hc : 0 < shC kind) (h : textsE l E kind p = .error k) : endE l E kind nms ns p = .error k := by unfold endE; rw [if_pos hc, h]
theorem endE_left (hc : 0 < shC kind) (h : textsE l E kind p = .ok (L, q)) (h2 : q < E) : endE l E kind nms ns p = .error 50 := by unfold endE; rw [if_pos hc, h]; exact if_pos h2
theorem endE_ok (hc : 0 < shC kind) (h : textsE l E kind p = .ok (L, q)) (h2 : ¬ q < E) : endE l E kind nms ns p = .ok ⟨nms, ns, L⟩ := by unfold endE; rw [if_pos hc, h]; exact if_neg h2
theorem endE_none_left (hc : shC kind = 0) (h2 : p < E) : endE l E kind nms ns p = .error 50 := by unfold endE; rw [if_neg (by omega), if_pos h2]
theorem endE_none (hc : shC kind = 0) (h2 : ¬ p < E) : endE l E kind nms ns p = .ok ⟨nms, ns, []⟩ := by unfold endE; rw [if_neg (by omega), if_neg h2]
end
section
variable {l : List UInt8} {E kind p q r k : Nat} {nms : List (List UInt8)} {ns : List Nat}
theorem body_err1 (h6 : kind ≠ 6) (h : many (numE l E 2) (shB kind) p = .error k) : bodyE l E kind p = .error k := by unfold bodyE; rw [if_neg h6, h]
theorem body_err2 (h6 : kind ≠ 6) (h : many (numE l E 2) (shB kind) p = .ok (ns, q)) (h2 : many (nameE l E kind) (shA kind) q = .error k) : bodyE l E kind p = .error k := by unfold bodyE; rw [if_neg h6, h]; simp only; rw [h2]
theorem body_ok (h6 : kind ≠ 6) (h : many (numE l E 2) (shB kind) p = .ok (ns, q)) (h2 : many (nameE l E kind) (shA kind) q = .ok (nms, r)) : bodyE l E kind p = endE l E kind nms ns r := by unfold bodyE; rw [if_neg h6, h]; simp only; rw [h2]
theorem body_err16 (h6 : kind = 6) (h : many (nameE l E kind) (shA kind) p = .error k) : bodyE l E kind p = .error k := by subst h6; unfold bodyE; rw [if_pos rfl]; rw [show many (nameE l E 6) 2 p = .error k from h]
theorem body_err26 (h6 : kind = 6) (h : many (nameE l E kind) (shA kind) p = .ok (nms, q)) (h2 : many (numE l E 4) (shB kind) q = .error k) : bodyE l E kind p = .error k := by subst h6; unfold bodyE; rw [if_pos rfl, show many (nameE l E 6) 2 p = .ok (nms, q) from h]; simp only; rw [show many (numE l E 4) 5 q = .error k from h2]
theorem body_ok6 (h6 : kind = 6) (h : many (nameE l E kind) (shA kind) p = .ok (nms, q)) (h2 : many (numE l E 4) (shB kind) q = .ok (ns, r)) : bodyE l E kind p = endE l E kind nms ns r := by subst h6; unfold bodyE; rw [if_pos rfl, show many (nameE l E 6) 2 p = .ok (nms, q) from h]; simp only; rw [show many (numE l E 4) 5 q = .ok (ns, r) from h2]
end
end Go.Proofs.Ytngbifdenbfepaa.DatMath
