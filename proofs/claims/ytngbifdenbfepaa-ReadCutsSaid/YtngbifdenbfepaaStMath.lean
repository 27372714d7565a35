/- The document's reading of records, with an error that is kept. No program, no condition. -/
import Derived.Test.YtngbifdenbfepaaBytes
import Derived.Test.YtngbifdenbfepaaNmMath
import Derived.Test.YtngbifdenbfepaaNumBe
import Derived.Test.YtngbifdenbfepaaRecMath
import Derived.Test.YtngbifdenbfepaaMsgMath
namespace Go.Proofs.Ytngbifdenbfepaa.StMath
open Go Bytes NmMath RecMath MsgMath

/-- Does a name that begins at a place end ahead of E? -/
def ends (l : List UInt8) (E p : Nat) : Bool :=
  if p < E then
    if 192 ≤ bt l p then decide (p + 2 ≤ E)
    else if bt l p = 0 ∨ 64 ≤ bt l p then true
    else ends l E (p + bt l p + 1)
  else false
  termination_by E - p
  decreasing_by omega
section
variable {l : List UInt8} {E p : Nat}
theorem ends_not (h : E ≤ p) : ends l E p = false := by rw [ends, if_neg (by omega)]
theorem ends_ptr (h : p < E) (h1 : 192 ≤ bt l p) : ends l E p = decide (p + 2 ≤ E) := by rw [ends, if_pos h, if_pos h1]
theorem ends_here (h : p < E) (h1 : bt l p < 192) (h2 : bt l p = 0 ∨ 64 ≤ bt l p) : ends l E p = true := by rw [ends, if_pos h, if_neg (by omega), if_pos h2]
theorem ends_more (h : p < E) (h1 : bt l p ≠ 0) (h2 : bt l p < 64) : ends l E p = ends l E (p + bt l p + 1) := by rw [ends, if_pos h, if_neg (by omega), if_neg (by omega)]
end
/-- The place, and the error that was met. -/
abbrev St := Nat × Nat
/-- The next number; 0 behind an error. -/
def numS (l : List UInt8) (n : Nat) (st : St) : Nat × St :=
  if st.2 ≠ 0 then (0, st) else if st.1 + n ≤ l.length then (nu l st.1 n, (st.1 + n, 0)) else (0, (st.1, 2))
/-- The next name. -/
def nameS (l : List UInt8) (st : St) : List UInt8 × St :=
  if st.2 ≠ 0 then ([], st) else
  match nm l l.length 2 st.1 st.1 none [] with
  | .error k => ([], (0, k))
  | .ok (o, q) => (o, (q, 0))
section
variable {l : List UInt8} {n p e : Nat}
theorem numS_err (h : e ≠ 0) : numS l n (p, e) = (0, (p, e)) := if_pos h
theorem numS_ok (h : p + n ≤ l.length) : numS l n (p, 0) = (nu l p n, (p + n, 0)) := by unfold numS; rw [if_neg (by simp)]; exact if_pos h
theorem numS_short (h : l.length < p + n) : numS l n (p, 0) = (0, (p, 2)) := by unfold numS; rw [if_neg (by simp)]; exact if_neg (by simp only; omega)
theorem nameS_err (h : e ≠ 0) : nameS l (p, e) = ([], (p, e)) := if_pos h
theorem nameS_no {k : Nat} (h : nm l l.length 2 p p none [] = .error k) : nameS l (p, 0) = ([], (0, k)) := by unfold nameS; rw [if_neg (by simp)]; simp only; rw [h]
theorem nameS_ok {o : List UInt8} {q : Nat} (h : nm l l.length 2 p p none [] = .ok (o, q)) : nameS l (p, 0) = (o, (q, 0)) := by unfold nameS; rw [if_neg (by simp)]; simp only; rw [h]
end
theorem numS_lt {l : List UInt8} {n : Nat} (hn : n ≤ 4) (st : St) : (numS l n st).1 < 4294967296 := by
  unfold numS
  split
  · show 0 < 4294967296; decide
  · split
    · have h := be_lt (cut l st.1 n)
      have h2 : (cut l st.1 n).length ≤ 4 := by unfold cut; rw [List.length_take]; omega
      have h3 : 256 ^ (cut l st.1 n).length ≤ 256 ^ 4 := Nat.pow_le_pow_right (by omega) h2
      unfold nu
      show be (cut l st.1 n) < _
      omega
    · show 0 < 4294967296; decide
theorem numS_le {l : List UInt8} {n N : Nat} {st : St} (h : st.1 ≤ N) (hl : l.length ≤ N) : (numS l n st).2.1 ≤ N := by
  unfold numS
  split
  · exact h
  · split
    · show st.1 + n ≤ N; omega
    · exact h
theorem nameS_le {l : List UInt8} {N : Nat} {st : St} (h : st.1 ≤ N) (hl : l.length ≤ N) : (nameS l st).2.1 ≤ N := by
  unfold nameS
  split
  · exact h
  · split
    · exact Nat.zero_le _
    · next o q hq =>
      have := nm_next (Nat.le_refl _) (fun x e => by cases e) hq
      show q ≤ N
      omega
/-- Numbers of data that ends at E, behind those in front. -/
def numbersS (l : List UInt8) (size E : Nat) : Nat → List Nat → St → List Nat × St
  | 0, out, st => (out, st)
  | m + 1, out, st =>
    if st.2 ≠ 0 then (out, st)
    else if E < st.1 + size then ([], (st.1, 50))
    else numbersS l size E m (out ++ [(numS l size st).1]) (numS l size st).2
/-- The next name of data, of a type. -/
def oneS (l : List UInt8) (kind : Nat) (st : St) : List UInt8 × St :=
  if kind = 33 then
    match bare l l.length 2 st.1 [] with
    | .error k => ([], (0, k))
    | .ok (o, q) => (o, (q, 0))
  else nameS l st
theorem bare_next {l : List UInt8} {p q : Nat} {o : List UInt8} (h : bare l l.length 2 p [] = .ok (o, q)) : q ≤ l.length := by
  unfold bare at h
  split at h
  · cases h
  · next o1 q1 hr =>
    have := (run_ok hr).2.1
    split at h
    · injection h with h; injection h with _ h2; omega
    · cases h
theorem oneS_le {l : List UInt8} {kind N : Nat} {st : St} (h : st.1 ≤ N) (hl : l.length ≤ N) : (oneS l kind st).2.1 ≤ N := by
  unfold oneS
  split
  · split
    · exact Nat.zero_le _
    · next o q hq =>
      have := bare_next hq
      show q ≤ N
      omega
  · exact nameS_le h hl
def namesS (l : List UInt8) (kind E : Nat) : Nat → List (List UInt8) → St → List (List UInt8) × St
  | 0, out, st => (out, st)
  | m + 1, out, st =>
    if st.2 ≠ 0 then (out, st)
    else if ends l E st.1 = false then ([], (st.1, 50))
    else namesS l kind E m (out ++ [(oneS l kind st).1]) (oneS l kind st).2
section
variable {l : List UInt8} {size E m kind : Nat} {out : List Nat} {outs : List (List UInt8)} {st : St}
theorem numbersS_zero : numbersS l size E 0 out st = (out, st) := rfl
theorem numbersS_stop (h : st.2 ≠ 0) : numbersS l size E m out st = (out, st) := by cases m with | zero => rfl | succ m => exact if_pos h
theorem numbersS_bad (h : st.2 = 0) (h2 : E < st.1 + size) : numbersS l size E (m + 1) out st = ([], (st.1, 50)) := by rw [numbersS, if_neg (by omega), if_pos h2]
theorem numbersS_more (h : st.2 = 0) (h2 : st.1 + size ≤ E) : numbersS l size E (m + 1) out st = numbersS l size E m (out ++ [(numS l size st).1]) (numS l size st).2 := by rw [numbersS, if_neg (by omega), if_neg (by omega)]
theorem namesS_zero : namesS l kind E 0 outs st = (outs, st) := rfl
theorem namesS_stop (h : st.2 ≠ 0) : namesS l kind E m outs st = (outs, st) := by cases m with | zero => rfl | succ m => exact if_pos h
theorem namesS_bad (h : st.2 = 0) (h2 : ends l E st.1 = false) : namesS l kind E (m + 1) outs st = ([], (st.1, 50)) := by rw [namesS, if_neg (by omega), if_pos h2]
theorem namesS_more (h : st.2 = 0) (h2 : ends l E st.1 = true) : namesS l kind E (m + 1) outs st = namesS l kind E m (outs ++ [(oneS l kind st).1]) (oneS l kind st).2 := by rw [namesS, if_neg (by omega), if_neg (by rw [h2]; decide)]
end
/-- The texts of TXT. -/
def textsS (l : List UInt8) (E : Nat) (out : List (List UInt8)) (p : Nat) : List (List UInt8) × St :=
  if p < E then
    if E < p + 1 + bt l p then (out, (p + 1, 50))
    else textsS l E (out ++ [cut l (p + 1) (bt l p)]) (p + 1 + bt l p)
  else (out, (p, 0))
  termination_by E - p
  decreasing_by omega
theorem textsS_end {l : List UInt8} {E p : Nat} {out : List (List UInt8)} (h : E ≤ p) : textsS l E out p = (out, (p, 0)) := by rw [textsS, if_neg (by omega)]
theorem textsS_bad {l : List UInt8} {E p : Nat} {out : List (List UInt8)} (h : p < E) (h2 : E < p + 1 + bt l p) : textsS l E out p = (out, (p + 1, 50)) := by rw [textsS, if_pos h, if_pos h2]
theorem textsS_more {l : List UInt8} {E p : Nat} {out : List (List UInt8)} (h : p < E) (h2 : p + 1 + bt l p ≤ E) : textsS l E out p = textsS l E (out ++ [cut l (p + 1) (bt l p)]) (p + 1 + bt l p) := by rw [textsS, if_pos h, if_neg (by omega)]
structure Dat where
  names : List (List UInt8)
  nums : List Nat
  texts : List (List UInt8)
  st : St
def dat1 (l : List UInt8) (kind E : Nat) (st : St) : List Nat × St := if kind ≠ 6 then numbersS l 2 E (shB kind) [] st else ([], st)
def dat2 (l : List UInt8) (kind E : Nat) (st : St) : List (List UInt8) × St := namesS l kind E (shA kind) [] st
def dat3 (l : List UInt8) (kind E : Nat) (ns : List Nat) (st : St) : List Nat × St := if kind = 6 then numbersS l 4 E (shB kind) [] st else (ns, st)
def dat4 (l : List UInt8) (kind E : Nat) (st : St) : List (List UInt8) × St :=
  if st.2 ≠ 0 then ([], st) else if kind = 16 then textsS l E [] st.1 else if 0 < shC kind then ([cut l st.1 (E - st.1)], (E, 0)) else ([], st)
def dat5 (E : Nat) (st : St) : St := if st.2 = 0 ∧ st.1 ≠ E then (st.1, 50) else st
/-- The data of a record that ends at E. -/
def datS (l : List UInt8) (kind E : Nat) (st : St) : Dat :=
  let a := dat1 l kind E st
  let b := dat2 l kind E a.2
  let c := dat3 l kind E a.1 b.2
  let d := dat4 l kind E c.2
  ⟨b.1, c.1, d.1, dat5 E d.2⟩
end Go.Proofs.Ytngbifdenbfepaa.StMath
