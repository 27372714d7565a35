/- Texts of one proof, one behind the other: StMath, DatMath, DatMore, RdrSkip, RdrData, RecShape, NumRef, RefNm. -/
import Derived.Test.YtihkmdojakalbaaReadMessagesProofG1
import Derived.Test.YtihkmdojakalbaaReadMessagesProofG2
import Derived.Test.YtihkmdojakalbaaProg
import Derived.WalkKit
import Derived.Lib.Hide
import Derived.Laws.Rows
import Derived.Outline
import Derived.IntWalk
import Derived.WalkSpells
import Derived.WalkLawsBesides
import Derived.RegionTactic
import Derived.ChangeAlike
import Derived.Lib.Strings

/- The document's reading of records, with an error that is kept. No program, no condition. -/
namespace Go.Proofs.Ytihkmdojakalbaa.StMath
open Go Bytes NmMath RecMath MsgMath

/-- Does a name that begins at a place end ahead of E? -/
def ends (l : List UInt8) (E p : Nat) : Bool :=
  if p < E then
    if 192 ≤ bt l p then decide (p + 2 ≤ E)
    else if bt l p = 0 ∨ 64 ≤ bt l p then true
    else ends l E (p + bt l p + 1)
  else false
  termination_by E - p
  decreasing_by omega
section
variable {l : List UInt8} {E p : Nat}
theorem ends_not (h : E ≤ p) : ends l E p = false := by rw [ends, if_neg (by omega)]
theorem ends_ptr (h : p < E) (h1 : 192 ≤ bt l p) : ends l E p = decide (p + 2 ≤ E) := by rw [ends, if_pos h, if_pos h1]
theorem ends_here (h : p < E) (h1 : bt l p < 192) (h2 : bt l p = 0 ∨ 64 ≤ bt l p) : ends l E p = true := by rw [ends, if_pos h, if_neg (by omega), if_pos h2]
theorem ends_more (h : p < E) (h1 : bt l p ≠ 0) (h2 : bt l p < 64) : ends l E p = ends l E (p + bt l p + 1) := by rw [ends, if_pos h, if_neg (by omega), if_neg (by omega)]
end
/-- The place, and the error that was met. -/
abbrev St := Nat × Nat
/-- The next number; 0 behind an error. -/
def numS (l : List UInt8) (n : Nat) (st : St) : Nat × St :=
  if st.2 ≠ 0 then (0, st) else if st.1 + n ≤ l.length then (nu l st.1 n, (st.1 + n, 0)) else (0, (st.1, 2))
/-- The next name. -/
def nameS (l : List UInt8) (st : St) : List UInt8 × St :=
  if st.2 ≠ 0 then ([], st) else
  match nm l l.length 2 st.1 st.1 none [] with
  | .error k => ([], (0, k))
  | .ok (o, q) => (o, (q, 0))
section
variable {l : List UInt8} {n p e : Nat}
theorem numS_err (h : e ≠ 0) : numS l n (p, e) = (0, (p, e)) := if_pos h
theorem numS_ok (h : p + n ≤ l.length) : numS l n (p, 0) = (nu l p n, (p + n, 0)) := by unfold numS; rw [if_neg (by simp)]; exact if_pos h
theorem numS_short (h : l.length < p + n) : numS l n (p, 0) = (0, (p, 2)) := by unfold numS; rw [if_neg (by simp)]; exact if_neg (by simp only; omega)
theorem nameS_err (h : e ≠ 0) : nameS l (p, e) = ([], (p, e)) := if_pos h
theorem nameS_no {k : Nat} (h : nm l l.length 2 p p none [] = .error k) : nameS l (p, 0) = ([], (0, k)) := by unfold nameS; rw [if_neg (by simp)]; simp only; rw [h]
theorem nameS_ok {o : List UInt8} {q : Nat} (h : nm l l.length 2 p p none [] = .ok (o, q)) : nameS l (p, 0) = (o, (q, 0)) := by unfold nameS; rw [if_neg (by simp)]; simp only; rw [h]
end
theorem numS_lt {l : List UInt8} {n : Nat} (hn : n ≤ 4) (st : St) : (numS l n st).1 < 4294967296 := by
  unfold numS
  split
  · show 0 < 4294967296; decide
  · split
    · have h := be_lt (cut l st.1 n)
      have h2 : (cut l st.1 n).length ≤ 4 := by unfold cut; rw [List.length_take]; omega
      have h3 : 256 ^ (cut l st.1 n).length ≤ 256 ^ 4 := Nat.pow_le_pow_right (by omega) h2
      unfold nu
      show be (cut l st.1 n) < _
      omega
    · show 0 < 4294967296; decide
theorem numS_le {l : List UInt8} {n N : Nat} {st : St} (h : st.1 ≤ N) (hl : l.length ≤ N) : (numS l n st).2.1 ≤ N := by
  unfold numS
  split
  · exact h
  · split
    · show st.1 + n ≤ N; omega
    · exact h
theorem nameS_le {l : List UInt8} {N : Nat} {st : St} (h : st.1 ≤ N) (hl : l.length ≤ N) : (nameS l st).2.1 ≤ N := by
  unfold nameS
  split
  · exact h
  · split
    · exact Nat.zero_le _
    · next o q hq =>
      have := nm_next (Nat.le_refl _) (fun x e => by cases e) hq
      show q ≤ N
      omega
/-- Numbers of data that ends at E, behind those in front. -/
def numbersS (l : List UInt8) (size E : Nat) : Nat → List Nat → St → List Nat × St
  | 0, out, st => (out, st)
  | m + 1, out, st =>
    if st.2 ≠ 0 then (out, st)
    else if E < st.1 + size then ([], (st.1, 50))
    else numbersS l size E m (out ++ [(numS l size st).1]) (numS l size st).2
/-- The next name of data, of a type. -/
def oneS (l : List UInt8) (kind : Nat) (st : St) : List UInt8 × St :=
  if kind = 33 then
    match bare l l.length 2 st.1 [] with
    | .error k => ([], (0, k))
    | .ok (o, q) => (o, (q, 0))
  else nameS l st
theorem bare_next {l : List UInt8} {p q : Nat} {o : List UInt8} (h : bare l l.length 2 p [] = .ok (o, q)) : q ≤ l.length := by
  unfold bare at h
  split at h
  · cases h
  · next o1 q1 hr =>
    have := (run_ok hr).2.1
    split at h
    · injection h with h; injection h with _ h2; omega
    · cases h
theorem oneS_le {l : List UInt8} {kind N : Nat} {st : St} (h : st.1 ≤ N) (hl : l.length ≤ N) : (oneS l kind st).2.1 ≤ N := by
  unfold oneS
  split
  · split
    · exact Nat.zero_le _
    · next o q hq =>
      have := bare_next hq
      show q ≤ N
      omega
  · exact nameS_le h hl
def namesS (l : List UInt8) (kind E : Nat) : Nat → List (List UInt8) → St → List (List UInt8) × St
  | 0, out, st => (out, st)
  | m + 1, out, st =>
    if st.2 ≠ 0 then (out, st)
    else if ends l E st.1 = false then ([], (st.1, 50))
    else namesS l kind E m (out ++ [(oneS l kind st).1]) (oneS l kind st).2
section
variable {l : List UInt8} {size E m kind : Nat} {out : List Nat} {outs : List (List UInt8)} {st : St}
theorem numbersS_zero : numbersS l size E 0 out st = (out, st) := rfl
theorem numbersS_stop (h : st.2 ≠ 0) : numbersS l size E m out st = (out, st) := by cases m with | zero => rfl | succ m => exact if_pos h
theorem numbersS_bad (h : st.2 = 0) (h2 : E < st.1 + size) : numbersS l size E (m + 1) out st = ([], (st.1, 50)) := by rw [numbersS, if_neg (by omega), if_pos h2]
theorem numbersS_more (h : st.2 = 0) (h2 : st.1 + size ≤ E) : numbersS l size E (m + 1) out st = numbersS l size E m (out ++ [(numS l size st).1]) (numS l size st).2 := by rw [numbersS, if_neg (by omega), if_neg (by omega)]
theorem namesS_zero : namesS l kind E 0 outs st = (outs, st) := rfl
theorem namesS_stop (h : st.2 ≠ 0) : namesS l kind E m outs st = (outs, st) := by cases m with | zero => rfl | succ m => exact if_pos h
theorem namesS_bad (h : st.2 = 0) (h2 : ends l E st.1 = false) : namesS l kind E (m + 1) outs st = ([], (st.1, 50)) := by rw [namesS, if_neg (by omega), if_pos h2]
theorem namesS_more (h : st.2 = 0) (h2 : ends l E st.1 = true) : namesS l kind E (m + 1) outs st = namesS l kind E m (outs ++ [(oneS l kind st).1]) (oneS l kind st).2 := by rw [namesS, if_neg (by omega), if_neg (by rw [h2]; decide)]
end
/-- The texts of TXT. -/
def textsS (l : List UInt8) (E : Nat) (out : List (List UInt8)) (p : Nat) : List (List UInt8) × St :=
  if p < E then
    if E < p + 1 + bt l p then (out, (p + 1, 50))
    else textsS l E (out ++ [cut l (p + 1) (bt l p)]) (p + 1 + bt l p)
  else (out, (p, 0))
  termination_by E - p
  decreasing_by omega
theorem textsS_end {l : List UInt8} {E p : Nat} {out : List (List UInt8)} (h : E ≤ p) : textsS l E out p = (out, (p, 0)) := by rw [textsS, if_neg (by omega)]
theorem textsS_bad {l : List UInt8} {E p : Nat} {out : List (List UInt8)} (h : p < E) (h2 : E < p + 1 + bt l p) : textsS l E out p = (out, (p + 1, 50)) := by rw [textsS, if_pos h, if_pos h2]
theorem textsS_more {l : List UInt8} {E p : Nat} {out : List (List UInt8)} (h : p < E) (h2 : p + 1 + bt l p ≤ E) : textsS l E out p = textsS l E (out ++ [cut l (p + 1) (bt l p)]) (p + 1 + bt l p) := by rw [textsS, if_pos h, if_neg (by omega)]
structure Dat where
  names : List (List UInt8)
  nums : List Nat
  texts : List (List UInt8)
  st : St
def dat1 (l : List UInt8) (kind E : Nat) (st : St) : List Nat × St := if kind ≠ 6 then numbersS l 2 E (shB kind) [] st else ([], st)
def dat2 (l : List UInt8) (kind E : Nat) (st : St) : List (List UInt8) × St := namesS l kind E (shA kind) [] st
def dat3 (l : List UInt8) (kind E : Nat) (ns : List Nat) (st : St) : List Nat × St := if kind = 6 then numbersS l 4 E (shB kind) [] st else (ns, st)
def dat4 (l : List UInt8) (kind E : Nat) (st : St) : List (List UInt8) × St :=
  if st.2 ≠ 0 then ([], st) else if kind = 16 then textsS l E [] st.1 else if 0 < shC kind then ([cut l st.1 (E - st.1)], (E, 0)) else ([], st)
def dat5 (E : Nat) (st : St) : St := if st.2 = 0 ∧ st.1 ≠ E then (st.1, 50) else st
/-- The data of a record that ends at E. -/
def datS (l : List UInt8) (kind E : Nat) (st : St) : Dat :=
  let a := dat1 l kind E st
  let b := dat2 l kind E a.2
  let c := dat3 l kind E a.1 b.2
  let d := dat4 l kind E c.2
  ⟨b.1, c.1, d.1, dat5 E d.2⟩
end Go.Proofs.Ytihkmdojakalbaa.StMath

/- A record as the code reads it: the data by its type, one behind the other. No program, no condition. -/
namespace Go.Proofs.Ytihkmdojakalbaa.DatMath
open Go Bytes NmMath RecMath MsgMath StMath

/-- The next number of so many bytes. -/
def numE (l : List UInt8) (E size p : Nat) : Except Nat (Nat × Nat) := if p + size ≤ E then .ok (nu l p size, p + size) else .error 50
/-- The next name. -/
def nameE (l : List UInt8) (E kind p : Nat) : Except Nat (List UInt8 × Nat) :=
  if ends l E p = false then .error 50 else if kind = 33 then bare l E 50 p [] else nm l E 50 p p none []
/-- A text of so many bytes. -/
def partE (l : List UInt8) (E n p : Nat) : Except Nat (List (List UInt8) × Nat) := if p + n ≤ E then .ok ([cut l p n], p + n) else .error 50
/-- The next text behind its length. -/
def measE (l : List UInt8) (E p : Nat) : Except Nat (List UInt8 × Nat) := if p < E ∧ p + 1 + bt l p ≤ E then .ok (cut l (p + 1) (bt l p), p + 1 + bt l p) else .error 50
/-- Texts up to the end, behind those in front. -/
def txtE (l : List UInt8) (E : Nat) (out : List (List UInt8)) (p : Nat) : Except Nat (List (List UInt8) × Nat) :=
  if p < E then
    if p + 1 + bt l p ≤ E then txtE l E (out ++ [cut l (p + 1) (bt l p)]) (p + 1 + bt l p) else .error 50
  else .ok (out, p)
  termination_by E - p
  decreasing_by omega
/-- The texts that a type has. -/
def textsE (l : List UInt8) (E kind p : Nat) : Except Nat (List (List UInt8) × Nat) :=
  if kind = 1 then partE l E 4 p
  else if kind = 28 then partE l E 16 p
  else if kind = 16 then (if p < E then txtE l E [] p else .error 50)
  else .ok ([cut l p (E - p)], E)
section
variable {l : List UInt8} {E size n kind p q : Nat} {out : List (List UInt8)}
theorem numE_ok (h : p + size ≤ E) : numE l E size p = .ok (nu l p size, p + size) := if_pos h
theorem numE_no (h : E < p + size) : numE l E size p = .error 50 := if_neg (by omega)
theorem nameE_no (h : ends l E p = false) : nameE l E kind p = .error 50 := if_pos h
theorem nameE_bare (h : ends l E p = true) (hk : kind = 33) : nameE l E kind p = bare l E 50 p [] := by unfold nameE; rw [if_neg (by rw [h]; decide), if_pos hk]
theorem nameE_nm (h : ends l E p = true) (hk : kind ≠ 33) : nameE l E kind p = nm l E 50 p p none [] := by unfold nameE; rw [if_neg (by rw [h]; decide), if_neg hk]
theorem partE_ok (h : p + n ≤ E) : partE l E n p = .ok ([cut l p n], p + n) := if_pos h
theorem partE_no (h : E < p + n) : partE l E n p = .error 50 := if_neg (by omega)
theorem measE_ok (h : p < E) (h2 : p + 1 + bt l p ≤ E) : measE l E p = .ok (cut l (p + 1) (bt l p), p + 1 + bt l p) := if_pos ⟨h, h2⟩
theorem measE_no (h : E < p + 1 + bt l p) : measE l E p = .error 50 := if_neg (by omega)
theorem txtE_end (h : E ≤ p) : txtE l E out p = .ok (out, p) := by rw [txtE, if_neg (by omega)]
theorem txtE_more {t : List UInt8} (h : p < E) (hm : measE l E p = .ok (t, q)) : txtE l E out p = txtE l E (out ++ [t]) q := by
  unfold measE at hm
  split at hm
  · next h2 =>
    injection hm with hm
    injection hm with h3 h4
    subst h3; subst h4
    rw [txtE, if_pos h, if_pos h2.2]
  · cases hm
theorem txtE_err {k : Nat} (h : p < E) (hm : measE l E p = .error k) : txtE l E out p = .error k := by
  unfold measE at hm
  split at hm
  · cases hm
  · next h2 =>
    injection hm with hm
    subst hm
    rw [txtE, if_pos h, if_neg (by omega)]
theorem measE_at {t : List UInt8} (hm : measE l E p = .ok (t, q)) : p < q ∧ q ≤ E ∧ t.length ≤ 255 := by
  unfold measE at hm
  split at hm
  · next h2 =>
    injection hm with hm
    injection hm with h3 h4
    subst h3; subst h4
    refine ⟨by omega, h2.2, ?_⟩
    unfold cut
    rw [List.length_take]
    have := bt_lt l p
    omega
  · cases hm
end
/-- What a record has beside its head. -/
structure Body where
  names : List (List UInt8)
  nums : List Nat
  texts : List (List UInt8)
/-- The texts, and what is left. -/
def endE (l : List UInt8) (E kind : Nat) (nms : List (List UInt8)) (ns : List Nat) (p : Nat) : Except Nat Body :=
  if 0 < shC kind then
    match textsE l E kind p with
    | .error k => .error k
    | .ok (L, q) => if q < E then .error 50 else .ok ⟨nms, ns, L⟩
  else if p < E then .error 50 else .ok ⟨nms, ns, []⟩
/-- The data of a type, that begins at p and ends at E. -/
def bodyE (l : List UInt8) (E kind p : Nat) : Except Nat Body :=
  if kind = 6 then
    match many (nameE l E 6) 2 p with
    | .error k => .error k
    | .ok (nms, q) =>
      match many (numE l E 4) 5 q with
      | .error k => .error k
      | .ok (ns, r) => endE l E 6 nms ns r
  else
    match many (numE l E 2) (shB kind) p with
    | .error k => .error k
    | .ok (ns, q) =>
      match many (nameE l E kind) (shA kind) q with
      | .error k => .error k
      | .ok (nms, r) => endE l E kind nms ns r
/-- Behind the data: its time may be too great. -/
def lateE (n : List UInt8) (kind cls ttl E : Nat) : Except Nat Body → Except Nat (Rec × Nat)
  | .error k => .error k
  | .ok D => if 2147483647 < ttl ∧ kind ≠ 41 then .error 1 else .ok (⟨n, kind, cls, ttl, D.names, D.nums, D.texts⟩, E)
/-- Behind the name: the head, then the data. -/
def headE (l : List UInt8) (n : List UInt8) (q : Nat) : Except Nat (Rec × Nat) :=
  if q + 10 ≤ l.length then
    if q + 10 + nu l (q + 8) 2 ≤ l.length then
      lateE n (nu l q 2) (nu l (q + 2) 2) (nu l (q + 4) 4) (q + 10 + nu l (q + 8) 2) (bodyE l (q + 10 + nu l (q + 8) 2) (nu l q 2) (q + 10))
    else .error 2
  else .error 2
/-- The record at a place. -/
def recE (l : List UInt8) (p : Nat) : Except Nat (Rec × Nat) :=
  match nm l l.length 2 p p none [] with
  | .error k => .error k
  | .ok (n, q) => headE l n q
theorem recE_err {l : List UInt8} {p k : Nat} (h : nm l l.length 2 p p none [] = .error k) : recE l p = .error k := by unfold recE; rw [h]
theorem recE_ok {l o : List UInt8} {p q : Nat} (h : nm l l.length 2 p p none [] = .ok (o, q)) : recE l p = headE l o q := by unfold recE; rw [h]
theorem headE_short {l o : List UInt8} {q : Nat} (h : l.length < q + 10) : headE l o q = .error 2 := if_neg (by omega)
theorem headE_cut {l o : List UInt8} {q : Nat} (h : q + 10 ≤ l.length) (h2 : l.length < q + 10 + nu l (q + 8) 2) : headE l o q = .error 2 := by unfold headE; rw [if_pos h, if_neg (by omega)]
theorem headE_ok {l o : List UInt8} {q : Nat} (h : q + 10 ≤ l.length) (h2 : q + 10 + nu l (q + 8) 2 ≤ l.length) : headE l o q = lateE o (nu l q 2) (nu l (q + 2) 2) (nu l (q + 4) 4) (q + 10 + nu l (q + 8) 2) (bodyE l (q + 10 + nu l (q + 8) 2) (nu l q 2) (q + 10)) := by unfold headE; rw [if_pos h, if_pos h2]
theorem recE_next {l : List UInt8} {p q : Nat} {R : Rec} (h : recE l p = .ok (R, q)) : q ≤ l.length := by
  unfold recE at h
  split at h
  · cases h
  · next n q0 hn =>
    unfold headE at h
    split at h
    · split at h
      · next h2 =>
        unfold lateE at h
        split at h
        · cases h
        · split at h
          · cases h
          · injection h with h
            injection h with _ h
            omega
      · cases h
    · cases h
end Go.Proofs.Ytihkmdojakalbaa.DatMath

/- Where readings of a record's data end: within the data. No program, no condition. -/
namespace Go.Proofs.Ytihkmdojakalbaa.DatMath
open Go Bytes NmMath RecMath MsgMath StMath

theorem nm_some {l : List UInt8} {E K p b x : Nat} {next : Option Nat} {o : List UInt8} (hx : next = some x) : ∀ {o' : List UInt8} {n : Nat}, nm l E K p b next o = .ok (o', n) → n = x := by
  fun_induction nm l E K p b next o with
  | case1 => intro o' n e; cases e
  | case2 E K p b next o o1 q hr h0 =>
    intro o' n e
    injection e with e
    injection e with e1 e2
    subst hx
    exact e2.symm
  | case3 E K p b next o o1 q hr h0 h1 h2 ih =>
    subst hx
    exact ih rfl
  | case4 => intro o' n e; cases e
  | case5 => intro o' n e; cases e
theorem nm_end {l : List UInt8} {E K p b n : Nat} {o o' : List UInt8} (h : nm l E K p b none o = .ok (o', n)) : n ≤ E := by
  rw [nm] at h
  split at h
  · cases h
  · next o1 q hr =>
    have hq := (run_ok hr).2.1
    split at h
    · injection h with h; injection h with _ h; show n ≤ E; have : q + 1 = n := h; omega
    · split at h
      · next h2 =>
        split at h
        · have := nm_some rfl h; show n ≤ E; have : n = q + 2 := this; omega
        · cases h
      · cases h
theorem nameE_end {l : List UInt8} {E kind p q : Nat} {o : List UInt8} (h : nameE l E kind p = .ok (o, q)) : q ≤ E := by
  unfold nameE at h
  split at h
  · cases h
  · split at h
    · unfold bare at h
      split at h
      · cases h
      · next o1 q1 hr =>
        have := (run_ok hr).2.1
        split at h
        · injection h with h; injection h with _ h2; omega
        · cases h
    · exact nm_end h
theorem txtE_at {l : List UInt8} {E p q : Nat} {out L : List (List UInt8)} (hp : p ≤ E) (h : txtE l E out p = .ok (L, q)) : q = E := by
  revert hp h
  fun_induction txtE l E out p with
  | case1 out p h h2 ih => intro hp h; exact ih (by omega) h
  | case2 => intro hp h; cases h
  | case3 out p h1 => intro hp h; injection h with h; injection h with _ h; omega
theorem partE_end {l : List UInt8} {E n p q : Nat} {L : List (List UInt8)} (h : partE l E n p = .ok (L, q)) : q ≤ E := by
  unfold partE at h
  split at h
  · injection h with h; injection h with _ h; omega
  · cases h
theorem textsE_end {l : List UInt8} {E kind p q : Nat} {L : List (List UInt8)} (h : textsE l E kind p = .ok (L, q)) : q ≤ E := by
  unfold textsE at h
  split at h
  · exact partE_end h
  · split at h
    · exact partE_end h
    · split at h
      · split at h
        · exact Nat.le_of_eq (txtE_at (by omega) h)
        · cases h
      · injection h with h; injection h with _ h; omega
theorem numE_end {l : List UInt8} {E size p q x : Nat} (h : numE l E size p = .ok (x, q)) : q ≤ E := by
  unfold numE at h
  split at h
  · injection h with h; injection h with _ h; omega
  · cases h
theorem run_up {l : List UInt8} {E K p q : Nat} {o o' : List UInt8} (h : run l E K p o = .ok (o', q)) : p ≤ q := (run_ok h).1
theorem nm_up {l : List UInt8} {E K p b n : Nat} {o o' : List UInt8} (h : nm l E K p b none o = .ok (o', n)) : p ≤ n := by
  rw [nm] at h
  split at h
  · cases h
  · next o1 q hr =>
    have hq := run_up hr
    split at h
    · injection h with h; injection h with _ h; have : q + 1 = n := h; omega
    · split at h
      · next h2 =>
        split at h
        · have := nm_some rfl h; have : n = q + 2 := this; omega
        · cases h
      · cases h
theorem nameE_up {l : List UInt8} {E kind p q : Nat} {o : List UInt8} (h : nameE l E kind p = .ok (o, q)) : p ≤ q := by
  unfold nameE at h
  split at h
  · cases h
  · split at h
    · unfold bare at h
      split at h
      · cases h
      · next o1 q1 hr =>
        have := run_up hr
        split at h
        · injection h with h; injection h with _ h2; omega
        · cases h
    · exact nm_up h
theorem numE_up {l : List UInt8} {E size p q x : Nat} (h : numE l E size p = .ok (x, q)) : p ≤ q := by
  unfold numE at h
  split at h
  · injection h with h; injection h with _ h; omega
  · cases h
theorem many_ge {α : Type} {f : Nat → Except Nat (α × Nat)} (hf : ∀ p x q, f p = .ok (x, q) → p ≤ q) : ∀ {n p q : Nat} {L : List α}, many f n p = .ok (L, q) → p ≤ q := by
  intro n
  induction n with
  | zero => intro p q L h; injection h with h; injection h with _ h; omega
  | succ n ih =>
    intro p q L h
    rw [many] at h
    split at h
    · cases h
    · next x r hx =>
      split at h
      · cases h
      · next xs s hxs =>
        injection h with h
        injection h with _ h
        have := hf _ _ _ hx
        have := ih hxs
        omega
section
variable {l : List UInt8} {E kind p q k : Nat} {nms L : List (List UInt8)} {ns : List Nat}
theorem endE_err (hc : 0 < shC kind) (h : textsE l E kind p = .error k) : endE l E kind nms ns p = .error k := by unfold endE; rw [if_pos hc, h]
theorem endE_left (hc : 0 < shC kind) (h : textsE l E kind p = .ok (L, q)) (h2 : q < E) : endE l E kind nms ns p = .error 50 := by unfold endE; rw [if_pos hc, h]; exact if_pos h2
theorem endE_ok (hc : 0 < shC kind) (h : textsE l E kind p = .ok (L, q)) (h2 : ¬ q < E) : endE l E kind nms ns p = .ok ⟨nms, ns, L⟩ := by unfold endE; rw [if_pos hc, h]; exact if_neg h2
theorem endE_none_left (hc : shC kind = 0) (h2 : p < E) : endE l E kind nms ns p = .error 50 := by unfold endE; rw [if_neg (by omega), if_pos h2]
theorem endE_none (hc : shC kind = 0) (h2 : ¬ p < E) : endE l E kind nms ns p = .ok ⟨nms, ns, []⟩ := by unfold endE; rw [if_neg (by omega), if_neg h2]
end
section
variable {l : List UInt8} {E kind p q r k : Nat} {nms : List (List UInt8)} {ns : List Nat}
theorem body_err1 (h6 : kind ≠ 6) (h : many (numE l E 2) (shB kind) p = .error k) : bodyE l E kind p = .error k := by unfold bodyE; rw [if_neg h6, h]
theorem body_err2 (h6 : kind ≠ 6) (h : many (numE l E 2) (shB kind) p = .ok (ns, q)) (h2 : many (nameE l E kind) (shA kind) q = .error k) : bodyE l E kind p = .error k := by unfold bodyE; rw [if_neg h6, h]; simp only; rw [h2]
theorem body_ok (h6 : kind ≠ 6) (h : many (numE l E 2) (shB kind) p = .ok (ns, q)) (h2 : many (nameE l E kind) (shA kind) q = .ok (nms, r)) : bodyE l E kind p = endE l E kind nms ns r := by unfold bodyE; rw [if_neg h6, h]; simp only; rw [h2]
theorem body_err16 (h6 : kind = 6) (h : many (nameE l E kind) (shA kind) p = .error k) : bodyE l E kind p = .error k := by subst h6; unfold bodyE; rw [if_pos rfl]; rw [show many (nameE l E 6) 2 p = .error k from h]
theorem body_err26 (h6 : kind = 6) (h : many (nameE l E kind) (shA kind) p = .ok (nms, q)) (h2 : many (numE l E 4) (shB kind) q = .error k) : bodyE l E kind p = .error k := by subst h6; unfold bodyE; rw [if_pos rfl, show many (nameE l E 6) 2 p = .ok (nms, q) from h]; simp only; rw [show many (numE l E 4) 5 q = .error k from h2]
theorem body_ok6 (h6 : kind = 6) (h : many (nameE l E kind) (shA kind) p = .ok (nms, q)) (h2 : many (numE l E 4) (shB kind) q = .ok (ns, r)) : bodyE l E kind p = endE l E kind nms ns r := by subst h6; unfold bodyE; rw [if_pos rfl, show many (nameE l E 6) 2 p = .ok (nms, q) from h]; simp only; rw [show many (numE l E 4) 5 q = .ok (ns, r) from h2]
end
end Go.Proofs.Ytihkmdojakalbaa.DatMath

/- The contracts of a message's reader: what is gone by, and whether a name ends. For texts of at most 10^6 bytes. -/
namespace Go.Proofs.Ytihkmdojakalbaa
open Go.RowKit NumMath NmMath Bytes StMath

theorem skip_yes (a s : ByteArray) (r p n k : Nat) (w : World) (h : RdrAt w r a s p k) (hp : p + n ≤ s.size) (hs : s.size ≤ 1000000) :
    Calls Try.prog 88 #[.pointer (some ⟨r, 0, none⟩), .int .i64 n] w fun e w' => e = .returned (.tuple #[]) ∧ RdrAt w' r a s ((p + n : Nat) : Int) k ∧ w.grownBy w' (some r) := by
  have h2 := h.c2
  have hf := h.f2 2
  have HL := Lib.hid (left_any a s r p k w h (by omega) hs)
  have H := Lib.hid h
  clear h
  have hlt : ¬ ((s.size : Int) - p < (n : Int)) := by omega
  go_enter Try.func88, Try.ntmps88
  go_wp2_with fail
  refine HL.out.mono ?_
  rintro e w1 ⟨rfl, m, rfl⟩
  have HD := Lib.hid ((H.out.drewN m).set ((p + n : Nat) : Int))
  have HG := Lib.hid (only_setCell (g := r) (grown_drewN (grown_refl w (some r)) m) (p := ⟨r, 2, none⟩) (.inl rfl) (.int .i64 ((p + n : Nat) : Int)))
  go_wp2_with fail
  go_end0
  exact ⟨rfl, HD.out, HG.out⟩

theorem skip_no (a s : ByteArray) (r p n k : Nat) (w : World) (h : RdrAt w r a s p k) (hp : p ≤ s.size) (hn : s.size < p + n) (hs : s.size ≤ 1000000) :
    Calls Try.prog 88 #[.pointer (some ⟨r, 0, none⟩), .int .i64 n] w fun e w' => e = gave k ∧ ∃ m, w' = w.drewN m := by
  have h3 := h.c3
  have HL := Lib.hid (left_any a s r p k w h hp hs)
  clear h
  have hlt : (s.size : Int) - p < (n : Int) := by omega
  go_enter Try.func88, Try.ntmps88
  go_wp2_with fail
  refine HL.out.mono ?_
  rintro e w1 ⟨rfl, m, rfl⟩
  go_wp2_with fail
  exact ⟨rfl, rfl, _, rfl⟩

theorem below_drewN {B : Nat} {w w' : World} (h : Below B w w') (n : Nat) : Below B w (w'.drewN n) := ⟨h.os, h.tape, h.output, h.size, h.block⟩
/-- A name ends, or the reading gave up; nothing that stood has changed. -/
def EndsEnd (w : World) (k : Nat) : Bool → Ending → World → Prop
  | true, e, w' => e = .returned (.tuple #[]) ∧ Below w.heap.size w w'
  | false, e, w' => e = gave k ∧ Below w.heap.size w w'
/-- The place of a reader. -/
def placeOf (w : World) (B : Nat) : Nat :=
  match w.cell? ⟨B, 2, none⟩ with
  | some (.int _ n) => n.toNat
  | _ => 0
theorem placeOf_at {w : World} {B k : Nat} {a s : ByteArray} {p : Int} (h : RdrAt w B a s p k) : placeOf w B = p.toNat := by
  unfold placeOf
  rw [h.c2]

set_option maxHeartbeats 2000000 in
set_option maxRecDepth 100000 in
theorem ended_any (a s : ByteArray) (r k p0 : Nat) (b : Bool) (w : World) (h : RdrAt w r a s p0 k) (hs : s.size ≤ 1000000) (hp0 : p0 ≤ 1000000) (hb : Hid (StMath.ends s.data.toList s.size p0 = b)) :
    Calls Try.prog 91 #[.pointer (some ⟨r, 0, none⟩)] w (EndsEnd w k b) := by
  have SZ := Lib.hid (Lib.size_eq s)
  have h0 := h.c0
  have h1 := h.c1
  have h2 := h.c2
  have h3 := h.c3
  clear h
  obtain ⟨B, hB⟩ : ∃ B, w.heap.size = B := ⟨_, rfl⟩
  have HA : Hid (RdrAt (w.alloc (.cells #[.string a, .string s, .int .i64 p0, .int .i64 k] 56)) B a s p0 k) := by
    rw [← hB]; exact heap_alloc_new w _
  have HB0 : Hid (Below B w (w.alloc (.cells #[.string a, .string s, .int .i64 p0, .int .i64 k] 56))) := (Below.refl _ _).alloc (by omega) _
  have HG := Lib.hid hB
  go_enter Try.func91, Try.ntmps91
  go_wp2_with fail
  clear h0 h1 h2 h3
  generalize w.alloc (.cells #[.string a, .string s, .int .i64 p0, .int .i64 k] 56) = w2 at HA HB0 ⊢
  clear hB
  go_loopw [3] (fun _ wr => ∃ q : Nat, q ≤ 1000000 ∧ Hid (RdrAt wr B a s q k) ∧ Hid (StMath.ends s.data.toList s.size q = b) ∧ Hid (Below B w wr)) (fun _ wr => s.size - placeOf wr B)
  case atStart => exact ⟨p0, hp0, HA, hb, HB0⟩
  case round =>
    obtain ⟨q, hq, hD, hE, hK⟩ := hrel
    have hpl := placeOf_at hD.out
    have HP := Lib.hid hpl
    clear hpl
    by_cases hlt : q < s.size
    · have hpl : q < s.data.toList.length := by rw [← SZ.out]; exact hlt
      obtain ⟨x, hx⟩ : ∃ x, bt s.data.toList q = x := ⟨_, rfl⟩
      have hxl : x < 256 := by rw [← hx]; exact bt_lt _ _
      have hbe : Hid (be ((s.data.toList.drop q).take 1) = x) := by rw [be_bt hpl]; exact hx
      have HN := Lib.hid (number_yes a s B q 1 k x wr hD.out (by decide) (by decide) (by omega) hs hbe)
      clear hbe
      by_cases h192 : 192 ≤ x
      · have hbv : Hid (b = decide (q + 2 ≤ s.size)) := by (show _ = _; rw [← hE.out]; exact ends_ptr hlt (by rw [hx]; exact h192))
        have hge : (192 : Int) ≤ x := by omega
        by_cases hin : q + 2 ≤ s.size
        · have hbt : b = true := by rw [hbv.out]; exact decide_eq_true hin
          subst hbt
          clear hx hpl h192 hbv
          go_wp2_with fail
          refine HN.out.mono ?_
          rintro e w3 ⟨rfl, hD3, hG3⟩
          have HS := Lib.hid (skip_yes a s B (q + 1) 1 k w3 (by exact hD3) (by omega) hs)
          have HK3 := Lib.hid (below_of_grown hK.out hG3 (Nat.le_refl _) (by have := hD.out.lt; omega))
          have HZ3 : Hid (B ≤ w3.heap.size) := by have := hD3.lt; show _ ≤ _; omega
          clear hD3 hG3 HN
          go_wp2_with fail
          refine HS.out.mono ?_
          rintro e w4 ⟨rfl, hD4, hG4⟩
          have HK4 := Lib.hid (below_of_grown HK3.out hG4 (Nat.le_refl _) HZ3.out)
          clear hD4 hG4 HS
          go_wp2_with fail
          go_end0
          refine ⟨rfl, ?_⟩
          rw [HG.out]
          exact HK4.out
        · have hbt : b = false := by rw [hbv.out]; exact decide_eq_false hin
          subst hbt
          clear hx hpl h192 hbv
          go_wp2_with fail
          refine HN.out.mono ?_
          rintro e w3 ⟨rfl, hD3, hG3⟩
          have HS := Lib.hid (skip_no a s B (q + 1) 1 k w3 (by exact hD3) (by omega) (by omega) hs)
          have HK3 := Lib.hid (below_of_grown hK.out hG3 (Nat.le_refl _) (by have := hD.out.lt; omega))
          clear hD3 hG3 HN
          go_wp2_with fail
          refine HS.out.mono ?_
          rintro e w4 ⟨rfl, m, rfl⟩
          clear HS
          go_wp2_with fail
          refine ⟨rfl, rfl, ?_⟩
          rw [HG.out]
          exact below_drewN HK3.out m
      · have hl192 : (x : Int) < 192 := by omega
        by_cases hz : x = 0 ∨ 64 ≤ x
        · have hbt : b = true := by rw [← hE.out]; exact ends_here hlt (by rw [hx]; omega) (by rw [hx]; exact hz)
          subst hbt
          have HK3 : ∀ w3, wr.grownBy w3 (some B) → Below B w w3 := fun w3 hG3 => below_of_grown hK.out hG3 (Nat.le_refl _) (by have := hD.out.lt; omega)
          have HK := Lib.hid HK3
          clear HK3 hx hpl h192
          by_cases h0 : x = 0
          · subst h0
            have h00 : (((0 : Nat) : Int) == 0) = true := rfl
            go_wp2_with fail
            refine HN.out.mono ?_
            rintro e w3 ⟨rfl, hD3, hG3⟩
            have HK3 := Lib.hid (HK.out w3 hG3)
            clear hD3 hG3 HN HK
            go_wp2_with fail
            go_end0
            refine ⟨rfl, ?_⟩
            rw [HG.out]
            exact HK3.out
          · have h00 : ((x : Int) == 0) = false := beq_eq_false_iff_ne.2 (by omega)
            have h64 : (63 : Int) < x := by omega
            go_wp2_with fail
            refine HN.out.mono ?_
            rintro e w3 ⟨rfl, hD3, hG3⟩
            have HK3 := Lib.hid (HK.out w3 hG3)
            clear hD3 hG3 HN HK
            go_wp2_with fail
            go_end0
            refine ⟨rfl, ?_⟩
            rw [HG.out]
            exact HK3.out
        · have h00 : ((x : Int) == 0) = false := beq_eq_false_iff_ne.2 (by omega)
          have h63 : (x : Int) ≤ 63 := by omega
          have hEm : Hid (StMath.ends s.data.toList s.size (q + 1 + x) = b) := by
            show _ = _
            rw [← hE.out, ends_more hlt (by rw [hx]; omega) (by rw [hx]; omega), hx]
            congr 1
            omega
          clear hx hpl h192
          by_cases hin : q + 1 + x ≤ s.size
          · go_wp2_with fail
            refine HN.out.mono ?_
            rintro e w3 ⟨rfl, hD3, hG3⟩
            have HS := Lib.hid (skip_yes a s B (q + 1) x k w3 (by exact hD3) hin hs)
            have HK3 := Lib.hid (below_of_grown hK.out hG3 (Nat.le_refl _) (by have := hD.out.lt; omega))
            have HZ3 : Hid (B ≤ w3.heap.size) := by have := hD3.lt; show _ ≤ _; omega
            clear hD3 hG3 HN
            go_wp2_with fail
            refine HS.out.mono ?_
            rintro e w4 ⟨rfl, hD4, hG4⟩
            have HK4 := Lib.hid (below_of_grown HK3.out hG4 (Nat.le_refl _) HZ3.out)
            have HD4 := Lib.hid hD4
            have HP4 := Lib.hid (placeOf_at hD4)
            clear hD4 hG4 HS
            go_wp2_with fail
            go_roundw
            case rel => exact ⟨q + 1 + x, by omega, HD4, hEm, HK4⟩
            case measure => rw [HP.out, HP4.out]; omega
          · have hbt : b = false := by rw [← hEm.out]; exact ends_not (by omega)
            subst hbt
            go_wp2_with fail
            refine HN.out.mono ?_
            rintro e w3 ⟨rfl, hD3, hG3⟩
            have HS := Lib.hid (skip_no a s B (q + 1) x k w3 (by exact hD3) (by omega) (by omega) hs)
            have HK3 := Lib.hid (below_of_grown hK.out hG3 (Nat.le_refl _) (by have := hD.out.lt; omega))
            clear hD3 hG3 HN
            go_wp2_with fail
            refine HS.out.mono ?_
            rintro e w4 ⟨rfl, m, rfl⟩
            clear HS
            go_wp2_with fail
            refine ⟨rfl, rfl, ?_⟩
            rw [HG.out]
            exact below_drewN HK3.out m
    · have hbt : b = false := by rw [← hE.out]; exact ends_not (by omega)
      subst hbt
      have hno : Hid (holdsB s.size (q : Int) ((1 : Nat) : Int) = false) := holds_no (by omega)
      have HN := Lib.hid (number_no a s B k q 1 wr hD.out hs (by decide) (by omega) (by omega) hno)
      go_wp2_with fail
      refine HN.out.mono ?_
      rintro e w1 ⟨rfl, m, rfl⟩
      go_wp2_with fail
      refine ⟨rfl, rfl, ?_⟩
      rw [HG.out]
      exact below_drewN hK.out m
end Go.Proofs.Ytihkmdojakalbaa

/- The contract of a message's reader: a reader of a record's data. For texts of at most 10^6 bytes. -/
namespace Go.Proofs.Ytihkmdojakalbaa
open Go.RowKit NumMath NmMath Bytes

/-- A reader of the bytes up to t's end came back; the first reader stands behind these. -/
def SubEnd (w : World) (r p n : Nat) (s t : ByteArray) (e : Ending) (w' : World) : Prop :=
  ∃ q, e = .returned (.pointer (some ⟨q, 0, none⟩)) ∧ w.heap.size ≤ q ∧ RdrAt w' q s t (p : Int) 50 ∧ RdrAt w' r s s ((p + n : Nat) : Int) 2 ∧ w.grownBy w' (some r)

set_option maxHeartbeats 1000000 in
theorem data_yes (s t : ByteArray) (r p n : Nat) (w : World) (h : RdrAt w r s s p 2) (hp : p + n ≤ s.size) (hs : s.size ≤ 1000000) (ht : Hid (s.extract 0 (p + n) = t)) :
    Calls Try.prog 71 #[.pointer (some ⟨r, 0, none⟩), .int .i64 n] w (SubEnd w r p n s t) := by
  have h2 := h.c2
  have HS := Lib.hid (skip_yes s s r p n 2 w h hp hs)
  clear h
  obtain ⟨z, hz⟩ : ∃ z, p + n = z := ⟨_, rfl⟩
  have HZ := Lib.hid hz
  rw [hz] at HS ht hp
  clear hz
  go_enter Try.func71, Try.ntmps71
  go_wp2_with fail
  refine HS.out.mono ?_
  rintro e w1 ⟨rfl, hD, hG⟩
  have k0 := hD.c0
  have k2 := hD.c2
  have HD := Lib.hid hD
  have HG := Lib.hid hG
  have htt := ht.out
  have hzi : (z : Int) ≤ s.size := by omega
  clear hD hG HS h2
  go_wp2_with fail
  go_region
  go_wp2_with fail
  go_ret
  refine ⟨w1.heap.size, rfl, HG.out.size, ?_, ?_, ?_⟩
  · exact heap_alloc_new w1 _
  · rw [HZ.out]
    exact (HD.out.held ((Below.refl _ _).alloc (Nat.le_refl _) _)).drew
  · have := HG.out
    exact ⟨this.os, this.tape, this.output, by have := this.size; simp; omega, fun i hi hne => (Below.heap_alloc w1 _ i (Nat.lt_of_lt_of_le hi this.size)).trans (this.block i hi hne)⟩

theorem data_no (s : ByteArray) (r p n : Nat) (w : World) (h : RdrAt w r s s p 2) (hp : p ≤ s.size) (hn : s.size < p + n) (hs : s.size ≤ 1000000) :
    Calls Try.prog 71 #[.pointer (some ⟨r, 0, none⟩), .int .i64 n] w fun e w' => e = gave 2 ∧ w.grownBy w' (some r) := by
  have h2 := h.c2
  have HS := Lib.hid (skip_no s s r p n 2 w h hp hn hs)
  clear h
  go_enter Try.func71, Try.ntmps71
  go_wp2_with fail
  refine HS.out.mono ?_
  rintro e w1 ⟨rfl, m, rfl⟩
  go_wp2_with fail
  exact ⟨rfl, rfl, grown_drewN (grown_refl _ _) m⟩
end Go.Proofs.Ytihkmdojakalbaa

/- The contracts of rdata's Shape and of the document's Shape. No condition. -/
namespace Go.Proofs.Ytihkmdojakalbaa
open Go.RowKit Bytes RecMath

theorem int_ne {k n : Nat} (h : k ≠ n) : ((k : Int) == (n : Int)) = false := beq_eq_false_iff_ne.2 (by omega)
theorem int_eq {k n : Nat} (h : k = n) : ((k : Int) == (n : Int)) = true := beq_iff_eq.2 (by omega)
theorem int_nne {k n : Nat} (h : k ≠ n) : ((k : Int) != (n : Int)) = true := bne_iff_ne.2 (by omega)
theorem int_neq {k n : Nat} (h : k = n) : ((k : Int) != (n : Int)) = false := bne_eq_false_iff_eq.2 (by omega)

set_option maxHeartbeats 1000000 in
theorem shape_is (k a b c : Nat) (w : World) (ha : Hid (shA k = a)) (hb : Hid (shB k = b)) (hc : Hid (shC k = c)) :
    Calls Try.prog 82 #[.int .u16 k] w fun e w' => e = .returned (.tuple #[.int .i64 a, .int .i64 b, .int .i64 c]) ∧ w = w' := by
  have ha' := ha.out
  have hb' := hb.out
  have hc' := hc.out
  unfold shA at ha'
  unfold shB at hb'
  unfold shC at hc'
  clear ha hb hc
  by_cases h2 : k = 2
  · subst h2; simp at ha' hb' hc'; subst ha'; subst hb'; subst hc'
    go_enter Try.func82, Try.ntmps82
    go_wp2
    go_ret3
    exact ⟨rfl, rfl⟩
  by_cases h5 : k = 5
  · subst h5; simp at ha' hb' hc'; subst ha'; subst hb'; subst hc'
    go_enter Try.func82, Try.ntmps82
    go_wp2
    go_ret3
    exact ⟨rfl, rfl⟩
  by_cases h12 : k = 12
  · subst h12; simp at ha' hb' hc'; subst ha'; subst hb'; subst hc'
    go_enter Try.func82, Try.ntmps82
    go_wp2
    go_ret3
    exact ⟨rfl, rfl⟩
  by_cases h6 : k = 6
  · subst h6; simp at ha' hb' hc'; subst ha'; subst hb'; subst hc'
    go_enter Try.func82, Try.ntmps82
    go_wp2
    go_ret3
    exact ⟨rfl, rfl⟩
  by_cases h15 : k = 15
  · subst h15; simp at ha' hb' hc'; subst ha'; subst hb'; subst hc'
    go_enter Try.func82, Try.ntmps82
    go_wp2
    go_ret3
    exact ⟨rfl, rfl⟩
  by_cases h33 : k = 33
  · subst h33; simp at ha' hb' hc'; subst ha'; subst hb'; subst hc'
    go_enter Try.func82, Try.ntmps82
    go_wp2
    go_ret3
    exact ⟨rfl, rfl⟩
  · simp only [h2, h5, h12, h6, h15, h33, or_self, if_false] at ha' hb' hc'
    subst ha'; subst hb'; subst hc'
    have g2 : ((k : Int) == 2) = false := int_ne h2
    have g5 : ((k : Int) == 5) = false := int_ne h5
    have g12 : ((k : Int) == 12) = false := int_ne h12
    have g6 : ((k : Int) == 6) = false := int_ne h6
    have g15 : ((k : Int) == 15) = false := int_ne h15
    have g33 : ((k : Int) == 33) = false := int_ne h33
    clear h2 h5 h12 h6 h15 h33
    go_enter Try.func82, Try.ntmps82
    go_wp2
    go_ret3
    exact ⟨rfl, rfl⟩

set_option maxHeartbeats 1000000 in
theorem refShape_is (k a b c : Nat) (w : World) (ha : Hid (shA k = a)) (hb : Hid (shB k = b)) (hc : Hid (shC k = c)) :
    Calls Try.prog 74 #[.int .u16 k] w fun e w' => e = .returned (.tuple #[.int .i64 a, .int .i64 b, .int .i64 c]) ∧ w = w' := by
  have ha' := ha.out
  have hb' := hb.out
  have hc' := hc.out
  unfold shA at ha'
  unfold shB at hb'
  unfold shC at hc'
  clear ha hb hc
  by_cases h2 : k = 2
  · subst h2; simp at ha' hb' hc'; subst ha'; subst hb'; subst hc'
    go_enter Try.func74, Try.ntmps74
    go_wp2
    go_ret3
    exact ⟨rfl, rfl⟩
  by_cases h5 : k = 5
  · subst h5; simp at ha' hb' hc'; subst ha'; subst hb'; subst hc'
    go_enter Try.func74, Try.ntmps74
    go_wp2
    go_ret3
    exact ⟨rfl, rfl⟩
  by_cases h12 : k = 12
  · subst h12; simp at ha' hb' hc'; subst ha'; subst hb'; subst hc'
    go_enter Try.func74, Try.ntmps74
    go_wp2
    go_ret3
    exact ⟨rfl, rfl⟩
  by_cases h6 : k = 6
  · subst h6; simp at ha' hb' hc'; subst ha'; subst hb'; subst hc'
    go_enter Try.func74, Try.ntmps74
    go_wp2
    go_ret3
    exact ⟨rfl, rfl⟩
  by_cases h15 : k = 15
  · subst h15; simp at ha' hb' hc'; subst ha'; subst hb'; subst hc'
    go_enter Try.func74, Try.ntmps74
    go_wp2
    go_ret3
    exact ⟨rfl, rfl⟩
  by_cases h33 : k = 33
  · subst h33; simp at ha' hb' hc'; subst ha'; subst hb'; subst hc'
    go_enter Try.func74, Try.ntmps74
    go_wp2
    go_ret3
    exact ⟨rfl, rfl⟩
  · simp only [h2, h5, h12, h6, h15, h33, or_self, if_false] at ha' hb' hc'
    subst ha'; subst hb'; subst hc'
    have g2 : ((k : Int) == 2) = false := int_ne h2
    have g5 : ((k : Int) == 5) = false := int_ne h5
    have g12 : ((k : Int) == 12) = false := int_ne h12
    have g6 : ((k : Int) == 6) = false := int_ne h6
    have g15 : ((k : Int) == 15) = false := int_ne h15
    have g33 : ((k : Int) == 33) = false := int_ne h33
    clear h2 h5 h12 h6 h15 h33
    go_enter Try.func74, Try.ntmps74
    go_wp2
    go_ret3
    exact ⟨rfl, rfl⟩
end Go.Proofs.Ytihkmdojakalbaa

/- The contracts of the document's Get: what stands at a place of a text, or nothing. For texts of at most 2^63 - 1 bytes. -/
namespace Go.Proofs.Ytihkmdojakalbaa
open Go.RowKit NumMath

theorem refget_no (s : ByteArray) (at_ size : Int) (w : World) (hs : s.size ≤ maxLen)
    (hno : size < 1 ∨ 8 < size ∨ holdsB s.size at_ size = false) :
    Calls Try.prog 52 #[.string s, .int .i64 at_, .int .i64 size] w fun e w' => e = .returned (.tuple #[.int .u64 0, .bool false]) ∧ w = w' := by
  by_cases h1 : size < 1
  · clear hno
    go_enter Try.func52, Try.ntmps52
    go_wp2_with fail
    go_ret2
    exact ⟨rfl, rfl⟩
  · by_cases h2 : 8 < size
    · clear hno
      go_enter Try.func52, Try.ntmps52
      go_wp2_with fail
      go_ret2
      exact ⟨rfl, rfl⟩
    · have h3 : holdsB s.size at_ size = false := by
        rcases hno with h | h | h
        · omega
        · omega
        · exact h
      clear hno
      have H := Lib.hid h3; clear h3
      go_enter Try.func52, Try.ntmps52
      go_wp2_with fail
      refine (refpart_no s at_ size _ hs H.out).mono ?_
      rintro e w' ⟨rfl, rfl⟩
      go_wp2_with fail
      go_ret2
      exact ⟨rfl, rfl⟩

theorem refpart_eq (s t : ByteArray) (i n : Nat) (w : World) (hs : s.size ≤ maxLen) (hi : i + n ≤ s.size) (h : Hid (s.extract i (i + n) = t)) :
    Calls Try.prog 73 #[.string s, .int .i64 i, .int .i64 n] w fun e w' => e = .returned (.tuple #[.string t, .bool true]) ∧ w = w' := by
  have := refpart_yes s i n w hs hi
  rwa [h.out] at this

theorem refget_yes (s : ByteArray) (i n : Nat) (w : World) (hs : s.size ≤ maxLen) (hn1 : 1 ≤ n) (hn : n ≤ 8) (hi : i + n ≤ s.size) :
    Calls Try.prog 52 #[.string s, .int .i64 i, .int .i64 n] w fun e w' => e = .returned (.tuple #[.int .u64 (be ((s.data.toList.drop i).take n) : Nat), .bool true]) ∧ w = w' := by
  obtain ⟨t, ht⟩ : ∃ t, s.extract i (i + n) = t := ⟨_, rfl⟩
  have hsz : t.size = n := by rw [← ht, ByteArray.size_extract]; omega
  have hlist : (t.data.toList.drop 0).take n = (s.data.toList.drop i).take n := by
    rw [← ht, Lib.extract_data, List.drop_zero, Nat.add_sub_cancel_left, List.take_take, Nat.min_self]
  have HT := Lib.hid ht; clear ht
  have HL := Lib.hid hlist; clear hlist
  obtain ⟨x, hx⟩ : ∃ x, x = be ((s.data.toList.drop i).take n) := ⟨_, rfl⟩
  rw [← hx]
  have HX := Lib.hid hx; clear hx
  go_enter Try.func52, Try.ntmps52
  go_wp2_with fail
  refine (refpart_eq s t i n _ hs hi HT).mono ?_
  rintro e w' ⟨rfl, rfl⟩
  go_wp2_with fail
  go_loop [10, 11] (fun r k => ∃ j : Nat, j ≤ n ∧ k = .int .i64 j ∧ r = .int .u64 (be ((t.data.toList.drop 0).take j) : Nat)) (fun _ k => n - (intOf k).toNat)
  case atStart => exact ⟨0, Nat.zero_le _, rfl, rfl⟩
  case round =>
    obtain ⟨j, hj, rfl, rfl⟩ := hrel
    by_cases hlt : j < n
    · have hl : (j : Int) < t.size := by omega
      have hr := mul_round t 0 j (by omega) (by omega)
      have HR := Lib.hid hr; clear hr
      go_wp2_with fail
      go_round
      case rel => exact ⟨j + 1, by omega, by go_num, by rw [← HR.out]; simp⟩
      case measure => simp [intOf]; omega
    · have hjn : j = n := by omega
      subst hjn
      have e : x = be (List.take j t.data.toList) := by rw [HX.out, ← HL.out, List.drop_zero]
      have E := Lib.hid e; clear e
      go_wp2_with fail
      go_ret2
      exact ⟨by rw [E.out]; rfl, rfl⟩
end Go.Proofs.Ytihkmdojakalbaa

/- The contract of the document's Name in a message. For texts of at most 10^6 bytes. -/
namespace Go.Proofs.Ytihkmdojakalbaa
open Go.RowKit NumMath NmMath Bytes

theorem be_two {l : List UInt8} {p : Nat} (h : p + 1 < l.length) : be ((l.drop p).take 2) = bt l p * 256 + bt l (p + 1) := by
  rw [drop_cons (by omega), drop_cons h]
  unfold bt be
  simp
/-- The place behind a name, as the document's Name has it while none is known: -1. -/
def nextI : Option Nat → Int
  | none => -1
  | some n => n
/-- The document's answer. -/
def RefNmRet (w : World) : Except Nat (List UInt8 × Nat) → Ending → World → Prop
  | .error x, e, w' => e = .returned (.tuple #[.string ⟨#[]⟩, .int .i64 0, .int .i64 x]) ∧ w = w'
  | .ok (o, n), e, w' => e = .returned (.tuple #[.string (mk o), .int .i64 n, .int .i64 0]) ∧ w = w'

set_option maxHeartbeats 4000000 in
set_option maxRecDepth 100000 in
theorem refNm_nat (s : ByteArray) (p0 : Nat) (R : Except Nat (List UInt8 × Nat)) (w : World) (hs : s.size ≤ 1000000) (hp0 : p0 ≤ 9223372036854775807) (hR : Hid (nm s.data.toList s.size 2 p0 p0 none [] = R)) :
    Calls Try.prog 53 #[.string s, .int .i64 p0] w (RefNmRet w R) := by
  have SZ := Lib.hid (Lib.size_eq s)
  have hmx : s.size ≤ maxLen := by unfold maxLen; omega
  go_enter Try.func53, Try.ntmps53
  go_wp2_with fail
  go_loop [1, 7, 8, 9] (fun at_ bg nx out => ∃ (p b : Nat) (next : Option Nat) (o : List UInt8) (y : ByteArray) (v : Int), at_ = .int .i64 p ∧ bg = .int .i64 b ∧ nx = .int .i64 v ∧ out = .string y ∧ p ≤ 9223372036854775807 ∧ b ≤ 9223372036854775807 ∧ y.size ≤ 254 ∧ Hid (nextI next = v) ∧ (v = -1 ∨ (0 ≤ v ∧ v ≤ 1000002)) ∧ Hid (y.data.toList = o) ∧ Hid (o.length = y.size) ∧ Hid (nm s.data.toList s.size 2 p b next o = R)) (fun at_ bg _ _ => (intOf bg).toNat * 2000000 + (1000000 - (intOf at_).toNat))
  case atStart => exact ⟨p0, p0, none, [], ⟨#[]⟩, -1, rfl, rfl, rfl, rfl, hp0, hp0, by decide, rfl, .inl rfl, rfl, rfl, hR⟩
  case round =>
    obtain ⟨p, b, next, o, y, v, rfl, rfl, rfl, rfl, hp, hb, hy, hv, hvb, hY, hol, hR⟩ := hrel
    by_cases hlt : p < s.size
    · have hpl : p < s.data.toList.length := by rw [← SZ.out]; exact hlt
      obtain ⟨x, hx⟩ : ∃ x, bt s.data.toList p = x := ⟨_, rfl⟩
      have HX := Lib.hid hx
      have hxl : x < 256 := by rw [← hx]; exact bt_lt _ _
      have HG := Lib.hid (fun w' => by have := refget_yes s p 1 w' hmx (by decide) (by decide) (by omega); rwa [be_bt hpl, hx] at this)
      by_cases h0 : x = 0
      · subst h0
        have hRe : Hid (R = .ok (o ++ [0], next.getD (p + 1))) := by show _ = _; rw [← hR.out]; exact nm_zero hlt hx
        have hcat : Hid (y ++ ⟨#[0]⟩ = mk (o ++ [0])) := by show _ = _; rw [← hY.out, ← mk_cat, mk_data]; rfl
        clear hx hpl
        cases next with
        | none =>
          obtain rfl : v = -1 := hv.out.symm
          go_wp2_with fail
          refine (HG.out _).mono ?_
          rintro e w1 ⟨rfl, rfl⟩
          go_wp2_with fail
          go_ret3
          rw [hRe.out]
          exact ⟨by rw [← hcat.out]; rfl, rfl⟩
        | some n =>
          obtain rfl : v = (n : Int) := hv.out.symm
          have hn0 : (0 : Int) ≤ (n : Int) := by omega
          go_wp2_with fail
          refine (HG.out _).mono ?_
          rintro e w1 ⟨rfl, rfl⟩
          go_wp2_with fail
          go_ret3
          rw [hRe.out]
          exact ⟨by rw [← hcat.out]; rfl, rfl⟩
      · have hz : ((x : Int) == 0) = false := beq_eq_false_iff_ne.2 (by omega)
        by_cases h192 : 192 ≤ x
        · have hge : (192 : Int) ≤ x := by omega
          by_cases hin : p + 2 ≤ s.size
          · obtain ⟨z, hz2⟩ : ∃ z, bt s.data.toList (p + 1) = z := ⟨_, rfl⟩
            have hzl : z < 256 := by rw [← hz2]; exact bt_lt _ _
            have HG2 := Lib.hid (fun w' => by have := refget_yes s p 2 w' hmx (by decide) (by decide) (by omega); rwa [be_two (by rw [← SZ.out]; omega), hx, hz2] at this)
            obtain ⟨t, ht⟩ : ∃ t, place s.data.toList p = t := ⟨_, rfl⟩
            have htc : t = (x - 192) * 256 + z := by rw [← ht, ← hx, ← hz2]; rfl
            have hti : ((x * 256 + z : Nat) : Int) - 49152 = (t : Int) := by omega
            obtain ⟨u, hu⟩ : ∃ u, x * 256 + z = u := ⟨_, rfl⟩
            rw [hu] at HG2 hti
            have hul : u < 65536 := by omega
            have huc : (u : Int) - 49152 = (t : Int) := hti
            have HT := Lib.hid ht
            by_cases hback : t < b
            · have hRb : Hid (nm s.data.toList s.size 2 t t (some (next.getD (p + 2))) o = R) := by
                have := nm_back (b := b) (next := next) (o := o) (K := 2) (E := s.size) (l := s.data.toList) (p := p) (by rw [hx]; exact h192) hin (by rw [HT.out]; exact hback)
                rw [HT.out, ← SZ.out, hR.out] at this
                exact this.symm
              have hbi : (t : Int) < (b : Int) := by omega
              clear hx hpl h0 h192 hz2 htc hu hti ht hback hR
              cases next with
              | none =>
                obtain rfl : v = -1 := hv.out.symm
                go_wp2_with fail
                refine (HG.out _).mono ?_
                rintro e w1 ⟨rfl, rfl⟩
                go_wp2_with fail
                refine (HG2.out _).mono ?_
                rintro e w1 ⟨rfl, rfl⟩
                go_wp2_with fail
                go_round
                case rel => exact ⟨t, t, some (p + 2), o, y, _, rfl, rfl, rfl, rfl, by omega, by omega, hy, by simp [Hid, nextI], by omega, hY, hol, hRb⟩
                case measure => simp [intOf]; omega
              | some n =>
                obtain rfl : v = (n : Int) := hv.out.symm
                have hn0 : (0 : Int) ≤ (n : Int) := by omega
                go_wp2_with fail
                refine (HG.out _).mono ?_
                rintro e w1 ⟨rfl, rfl⟩
                go_wp2_with fail
                refine (HG2.out _).mono ?_
                rintro e w1 ⟨rfl, rfl⟩
                go_wp2_with fail
                go_round
                case rel => exact ⟨t, t, some n, o, y, _, rfl, rfl, rfl, rfl, by omega, by omega, hy, rfl, by omega, hY, hol, hRb⟩
                case measure => simp [intOf]; omega
            · have hRe : Hid (R = .error 42) := by show _ = _; rw [← hR.out]; exact nm_ahead (by rw [hx]; exact h192) hin (by rw [HT.out]; omega)
              have hbi : (b : Int) ≤ (t : Int) := by omega
              clear hx hpl h0 h192 hz2 htc hu hti ht hback hR
              go_wp2_with fail
              refine (HG.out _).mono ?_
              rintro e w1 ⟨rfl, rfl⟩
              go_wp2_with fail
              refine (HG2.out _).mono ?_
              rintro e w1 ⟨rfl, rfl⟩
              go_wp2_with fail
              go_ret3
              rw [hRe.out]
              exact ⟨rfl, rfl⟩
          · have hRe : Hid (R = .error 2) := by show _ = _; rw [← hR.out]; exact nm_cut hlt (by rw [hx]; exact h192) (by omega)
            have HG2 := Lib.hid (fun w' => refget_no s p 2 w' hmx (.inr (.inr (holds_no (n := s.size) (p := p) (m := 2) (by omega)))))
            clear hx hpl h0 h192 hR
            go_wp2_with fail
            refine (HG.out _).mono ?_
            rintro e w1 ⟨rfl, rfl⟩
            go_wp2_with fail
            refine (HG2.out _).mono ?_
            rintro e w1 ⟨rfl, rfl⟩
            go_wp2_with fail
            go_ret3
            rw [hRe.out]
            exact ⟨rfl, rfl⟩
        · have hlt192 : (x : Int) < 192 := by omega
          by_cases h64 : 64 ≤ x
          · have hRe : Hid (R = .error 41) := by show _ = _; rw [← hR.out]; exact nm_label hlt (by rw [hx]; exact h64) (by rw [hx]; omega)
            have hgt : (64 : Int) ≤ x := by omega
            clear hx hpl h0 h192 h64 hR
            go_wp2_with fail
            refine (HG.out _).mono ?_
            rintro e w1 ⟨rfl, rfl⟩
            go_wp2_with fail
            go_ret3
            rw [hRe.out]
            exact ⟨rfl, rfl⟩
          · have hlt64 : (x : Int) < 64 := by omega
            by_cases hin : p + 1 + x ≤ s.size
            · obtain ⟨q, hq⟩ : ∃ q, s.extract p (p + (x + 1)) = q := ⟨_, rfl⟩
              have hql : q.size = x + 1 := by rw [← hq, ByteArray.size_extract]; omega
              have HP := Lib.hid (fun w' => refpart_eq s q p (x + 1) w' hmx (by omega) (Lib.hid hq))
              have HQ : Hid (q.data.toList = cut s.data.toList p (x + 1)) := by show _ = _; rw [← hq, cut_extract]
              by_cases hlong : 253 < y.size + x
              · have hRe : Hid (R = .error 40) := by show _ = _; rw [← hR.out]; exact nm_long (by rw [hx]; exact h0) (by rw [hx]; omega) (by rw [hx]; exact hin) (by rw [hx, hol.out]; exact hlong)
                have hli : (253 : Int) < (y.size : Int) + x := by omega
                clear hx hpl h0 h192 h64 hR hq hlong
                go_wp2_with fail
                refine (HG.out _).mono ?_
                rintro e w1 ⟨rfl, rfl⟩
                go_wp2_with fail
                refine (HP.out _).mono ?_
                rintro e w1 ⟨rfl, rfl⟩
                go_wp2_with fail
                go_ret3
                rw [hRe.out]
                exact ⟨rfl, rfl⟩
              · have hRm : Hid (nm s.data.toList s.size 2 (p + (x + 1)) b next (o ++ cut s.data.toList p (x + 1)) = R) := by
                  show _ = _
                  have := nm_more (l := s.data.toList) (E := s.size) (K := 2) (p := p) (b := b) (next := next) (o := o) (by rw [hx]; exact h0) (by rw [hx]; omega) (by rw [hx]; exact hin) (by rw [hx, hol.out]; omega)
                  rw [hx, hR.out, Nat.add_assoc, Nat.add_comm 1 x] at this
                  exact this.symm
                have hli : (y.size : Int) + x ≤ (253 : Int) := by omega
                have hcs : (y ++ q).size = y.size + (x + 1) := by rw [ByteArray.size_append, hql]
                have HCS := Lib.hid hcs
                have HCL : Hid ((y ++ q).data.toList = o ++ cut s.data.toList p (x + 1)) := by show _ = _; rw [cat_list, hY.out, HQ.out]
                clear hx hpl h0 h192 h64 hR hq hlong hcs
                go_wp2_with fail
                refine (HG.out _).mono ?_
                rintro e w1 ⟨rfl, rfl⟩
                go_wp2_with fail
                refine (HP.out _).mono ?_
                rintro e w1 ⟨rfl, rfl⟩
                go_wp2_with fail
                go_round
                case rel => exact ⟨p + (x + 1), b, next, _, y ++ q, v, by go_num, rfl, rfl, rfl, by omega, hb, by rw [HCS.out]; omega, hv, hvb, HCL, by (show _ = _; rw [← HCL.out, ← Lib.size_eq]), hRm⟩
                case measure => simp [intOf]; omega
            · have hRe : Hid (R = .error 2) := by show _ = _; rw [← hR.out]; exact nm_short hlt (by rw [hx]; omega) (by rw [hx]; omega)
              have HP := Lib.hid (fun w' => refpart_no s (p : Int) ((x + 1 : Nat) : Int) w' hmx (holds_no (by omega)))
              clear hx hpl h0 h192 h64 hR
              go_wp2_with fail
              refine (HG.out _).mono ?_
              rintro e w1 ⟨rfl, rfl⟩
              go_wp2_with fail
              refine (HP.out _).mono ?_
              rintro e w1 ⟨rfl, rfl⟩
              go_wp2_with fail
              go_ret3
              rw [hRe.out]
              exact ⟨rfl, rfl⟩
    · have hRe : Hid (R = .error 2) := by show _ = _; rw [← hR.out]; exact nm_lack (by omega)
      have HG2 := Lib.hid (fun w' => refget_no s p 1 w' hmx (.inr (.inr (holds_no (n := s.size) (p := p) (m := 1) (by omega)))))
      clear hR
      go_wp2_with fail
      refine (HG2.out _).mono ?_
      rintro e w1 ⟨rfl, rfl⟩
      go_wp2_with fail
      go_ret3
      rw [hRe.out]
      exact ⟨rfl, rfl⟩

theorem refNm_any (s : ByteArray) (p : Int) (R : Except Nat (List UInt8 × Nat)) (w : World) (hs : s.size ≤ 1000000) (hp1 : -9223372036854775808 ≤ p) (hp2 : p ≤ 9223372036854775807) (hR : Hid (nmAt s.data.toList p = R)) :
    Calls Try.prog 53 #[.string s, .int .i64 p] w (RefNmRet w R) := by
  by_cases hp : p < 0
  · have hRe : R = .error 2 := by rw [← hR.out]; unfold nmAt; rw [if_pos hp]
    have HG2 := Lib.hid (fun w' => refget_no s p 1 w' (by unfold maxLen; omega) (.inr (.inr (by simp [holdsB]; omega))))
    rw [hRe]
    clear hRe hR
    go_enter Try.func53, Try.ntmps53
    go_wp2_with fail
    go_loop [1, 7, 8, 9] (fun a b c d => a = .int .i64 p ∧ b = .int .i64 p ∧ c = .int .i64 (-1) ∧ d = .string ⟨#[]⟩) (fun _ _ _ _ => 0)
    case atStart => exact ⟨rfl, rfl, rfl, rfl⟩
    case round =>
      obtain ⟨rfl, rfl, rfl, rfl⟩ := hrel
      go_wp2_with fail
      refine (HG2.out _).mono ?_
      rintro e w1 ⟨rfl, rfl⟩
      go_wp2_with fail
      go_ret3
      exact ⟨rfl, rfl⟩
  · obtain ⟨n, rfl⟩ : ∃ n : Nat, p = n := ⟨p.toNat, by omega⟩
    refine refNm_nat s n R w hs (by omega) ?_
    show _ = _
    rw [← hR.out]
    unfold nmAt
    rw [if_neg (by omega), ← Lib.size_eq]
    rfl
end Go.Proofs.Ytihkmdojakalbaa
