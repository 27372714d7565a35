/- Texts of one proof, one behind the other: NmBack, StMath, DatMath, DatMore, DatRight, DatSmall. -/
import Derived.Test.YtpmmjmnleoicjaaBytes
import Derived.Test.YtpmmjmnleoicjaaNameMath
import Derived.Test.YtpmmjmnleoicjaaNmMath
import Derived.Test.YtpmmjmnleoicjaaNmAt
import Derived.Test.YtpmmjmnleoicjaaNumBe
import Derived.Test.YtpmmjmnleoicjaaRecMath
import Derived.Test.YtpmmjmnleoicjaaMsgMath
import Derived.Test.YtpmmjmnleoicjaaRecAt
import Derived.Test.YtpmmjmnleoicjaaRdrRead

/- A name that stands at a place is read as it is; one that a pointer leads to, too. No program, no condition. -/
namespace Go.Proofs.Ytpmmjmnleoicjaa
open Go Bytes NameMath NmMath

theorem bt_drop {l t : List UInt8} {p : Nat} {c : UInt8} (h : l.drop p = c :: t) : bt l p = c.toNat ∧ p < l.length ∧ l.drop (p + 1) = t := by
  have hp : p < l.length := by
    rcases Nat.lt_or_ge p l.length with h1 | h1
    · exact h1
    · rw [List.drop_of_length_le h1] at h; cases h
  rw [drop_cons hp] at h
  injection h with h1 h2
  refine ⟨?_, hp, h2⟩
  unfold bt
  rw [h1]
theorem nm_wire {l rest : List UInt8} {E K b : Nat} {next : Option Nat} : ∀ {L : List (List UInt8)} {p : Nat} {o : List UInt8}, L.all okLab = true → l.drop p = nameL L ++ rest → p + (nameL L).length ≤ E → o.length + (nameL L).length ≤ 255 →
    nm l E K p b next o = .ok (o ++ nameL L, next.getD (p + (nameL L).length)) := by
  intro L
  induction L with
  | nil =>
    intro p o _ hd hE ho
    obtain ⟨h1, _, _⟩ := bt_drop (c := 0) (t := rest) hd
    have hl : (nameL []).length = 1 := rfl
    rw [nm_zero (by omega) h1]
    rfl
  | cons x L ih =>
    intro p o hA hd hE ho
    rw [List.all_cons, Bool.and_eq_true] at hA
    have hx := okLab_iff.1 hA.1
    have hof := ofNat_len hA.1
    have hn : nameL (x :: L) = UInt8.ofNat x.length :: (x ++ nameL L) := by
      show (UInt8.ofNat x.length :: (x ++ wire L)) ++ [0] = _
      unfold nameL
      rw [List.cons_append, List.append_assoc]
    have hl : (nameL (x :: L)).length = 1 + x.length + (nameL L).length := by rw [hn]; simp only [List.length_cons, List.length_append]; omega
    have h1l : 1 ≤ (nameL L).length := by unfold nameL; simp
    rw [hn, List.cons_append] at hd
    obtain ⟨h1, h2, h3⟩ := bt_drop hd
    rw [hof] at h1
    have hcut : cut l p (x.length + 1) = UInt8.ofNat x.length :: x := by
      unfold cut
      rw [hd, List.take_succ_cons, List.append_assoc, List.take_left' rfl]
    have hdrop : l.drop (p + 1 + x.length) = nameL L ++ rest := by
      rw [← List.drop_drop, h3, List.append_assoc, List.drop_left' rfl]
    rw [nm_more (by omega) (by omega) (by omega) (by omega), h1, hcut, ih hA.2 hdrop (by omega) (by simp only [List.length_append, List.length_cons]; omega), hl, hn, show p + 1 + x.length + (nameL L).length = p + (1 + x.length + (nameL L).length) by omega, List.append_assoc, List.cons_append]
section
variable {a m t : List UInt8} {b1 b2 : UInt8}
/-- A name behind any bytes. -/
theorem nmAt_name (h : isN m = true) : nmAt (a ++ m ++ t) a.length = .ok (m, a.length + m.length) := by
  obtain ⟨L, hL⟩ := isN_some h
  obtain ⟨e1, e2, e3⟩ := labels_some hL
  unfold nmAt
  rw [if_neg (by omega)]
  show nm (a ++ m ++ t) (a ++ m ++ t).length 2 a.length a.length none [] = _
  have hd : (a ++ m ++ t).drop a.length = nameL L ++ t := by rw [List.append_assoc, List.drop_left, e1]
  rw [nm_wire e2 hd (by rw [e1]; simp only [List.length_append]; omega) (by rw [e1]; simp only [List.length_nil]; omega), e1]
  rfl
theorem place_two {l r : List UInt8} {q : Nat} (hd : l.drop q = b1 :: b2 :: r) : bt l q = b1.toNat ∧ place l q = (b1.toNat - 192) * 256 + b2.toNat ∧ q + 2 ≤ l.length := by
  obtain ⟨h1, h2, h3⟩ := bt_drop hd
  obtain ⟨h4, h5, _⟩ := bt_drop h3
  refine ⟨h1, ?_, by omega⟩
  unfold place
  rw [h1, h4]
/-- A pointer to it. -/
theorem nmAt_back (h : isN m = true) (h1 : b1.toNat = 192 + a.length / 256) (h2 : b2.toNat = a.length % 256) : nmAt (a ++ m ++ (b1 :: b2 :: t)) ((a.length + m.length : Nat) : Int) = .ok (m, a.length + m.length + 2) := by
  obtain ⟨L, hL⟩ := isN_some h
  obtain ⟨e1, e2, e3⟩ := labels_some hL
  have hm1 : 1 ≤ m.length := by rw [← e1]; unfold nameL; simp
  unfold nmAt
  rw [if_neg (by omega)]
  show nm (a ++ m ++ (b1 :: b2 :: t)) (a ++ m ++ (b1 :: b2 :: t)).length 2 (a.length + m.length) (a.length + m.length) none [] = _
  have hd : (a ++ m ++ (b1 :: b2 :: t)).drop (a.length + m.length) = b1 :: b2 :: t := by rw [← List.length_append, List.drop_left]
  obtain ⟨p1, p2, p3⟩ := place_two hd
  have hp : place (a ++ m ++ (b1 :: b2 :: t)) (a.length + m.length) = a.length := by rw [p2]; omega
  have hd2 : (a ++ m ++ (b1 :: b2 :: t)).drop a.length = nameL L ++ (b1 :: b2 :: t) := by rw [List.append_assoc, List.drop_left, e1]
  rw [nm_back (by rw [p1]; omega) p3 (by rw [hp]; omega), hp, nm_wire e2 hd2 (by rw [e1]; simp only [List.length_append]; omega) (by rw [e1]; simp only [List.length_nil]; omega), e1]
  rfl
/-- A pointer to itself. -/
theorem nmAt_loop (h1 : b1.toNat = 192 + a.length / 256) (h2 : b2.toNat = a.length % 256) : nmAt (a ++ (b1 :: b2 :: t)) a.length = .error 42 := by
  unfold nmAt
  rw [if_neg (by omega)]
  show nm (a ++ (b1 :: b2 :: t)) (a ++ (b1 :: b2 :: t)).length 2 a.length a.length none [] = _
  have hd : (a ++ (b1 :: b2 :: t)).drop a.length = b1 :: b2 :: t := List.drop_left
  obtain ⟨p1, p2, p3⟩ := place_two hd
  exact nm_ahead (by rw [p1]; omega) p3 (by rw [p2]; omega)
end
end Go.Proofs.Ytpmmjmnleoicjaa

/- The document's reading of records, with an error that is kept. No program, no condition. -/
namespace Go.Proofs.Ytpmmjmnleoicjaa.StMath
open Go Bytes NmMath RecMath MsgMath

/-- Does a name that begins at a place end ahead of E? -/
def ends (l : List UInt8) (E p : Nat) : Bool :=
  if p < E then
    if 192 ≤ bt l p then decide (p + 2 ≤ E)
    else if bt l p = 0 ∨ 64 ≤ bt l p then true
    else ends l E (p + bt l p + 1)
  else false
  termination_by E - p
  decreasing_by omega
section
variable {l : List UInt8} {E p : Nat}
theorem ends_not (h : E ≤ p) : ends l E p = false := by rw [ends, if_neg (by omega)]
theorem ends_ptr (h : p < E) (h1 : 192 ≤ bt l p) : ends l E p = decide (p + 2 ≤ E) := by rw [ends, if_pos h, if_pos h1]
theorem ends_here (h : p < E) (h1 : bt l p < 192) (h2 : bt l p = 0 ∨ 64 ≤ bt l p) : ends l E p = true := by rw [ends, if_pos h, if_neg (by omega), if_pos h2]
theorem ends_more (h : p < E) (h1 : bt l p ≠ 0) (h2 : bt l p < 64) : ends l E p = ends l E (p + bt l p + 1) := by rw [ends, if_pos h, if_neg (by omega), if_neg (by omega)]
end
/-- The place, and the error that was met. -/
abbrev St := Nat × Nat
/-- The next number; 0 behind an error. -/
def numS (l : List UInt8) (n : Nat) (st : St) : Nat × St :=
  if st.2 ≠ 0 then (0, st) else if st.1 + n ≤ l.length then (nu l st.1 n, (st.1 + n, 0)) else (0, (st.1, 2))
/-- The next name. -/
def nameS (l : List UInt8) (st : St) : List UInt8 × St :=
  if st.2 ≠ 0 then ([], st) else
  match nm l l.length 2 st.1 st.1 none [] with
  | .error k => ([], (0, k))
  | .ok (o, q) => (o, (q, 0))
section
variable {l : List UInt8} {n p e : Nat}
theorem numS_err (h : e ≠ 0) : numS l n (p, e) = (0, (p, e)) := if_pos h
theorem numS_ok (h : p + n ≤ l.length) : numS l n (p, 0) = (nu l p n, (p + n, 0)) := by unfold numS; rw [if_neg (by simp)]; exact if_pos h
theorem numS_short (h : l.length < p + n) : numS l n (p, 0) = (0, (p, 2)) := by unfold numS; rw [if_neg (by simp)]; exact if_neg (by simp only; omega)
theorem nameS_err (h : e ≠ 0) : nameS l (p, e) = ([], (p, e)) := if_pos h
theorem nameS_no {k : Nat} (h : nm l l.length 2 p p none [] = .error k) : nameS l (p, 0) = ([], (0, k)) := by unfold nameS; rw [if_neg (by simp)]; simp only; rw [h]
theorem nameS_ok {o : List UInt8} {q : Nat} (h : nm l l.length 2 p p none [] = .ok (o, q)) : nameS l (p, 0) = (o, (q, 0)) := by unfold nameS; rw [if_neg (by simp)]; simp only; rw [h]
end
theorem numS_lt {l : List UInt8} {n : Nat} (hn : n ≤ 4) (st : St) : (numS l n st).1 < 4294967296 := by
  unfold numS
  split
  · show 0 < 4294967296; decide
  · split
    · have h := be_lt (cut l st.1 n)
      have h2 : (cut l st.1 n).length ≤ 4 := by unfold cut; rw [List.length_take]; omega
      have h3 : 256 ^ (cut l st.1 n).length ≤ 256 ^ 4 := Nat.pow_le_pow_right (by omega) h2
      unfold nu
      show be (cut l st.1 n) < _
      omega
    · show 0 < 4294967296; decide
theorem numS_le {l : List UInt8} {n N : Nat} {st : St} (h : st.1 ≤ N) (hl : l.length ≤ N) : (numS l n st).2.1 ≤ N := by
  unfold numS
  split
  · exact h
  · split
    · show st.1 + n ≤ N; omega
    · exact h
theorem nameS_le {l : List UInt8} {N : Nat} {st : St} (h : st.1 ≤ N) (hl : l.length ≤ N) : (nameS l st).2.1 ≤ N := by
  unfold nameS
  split
  · exact h
  · split
    · exact Nat.zero_le _
    · next o q hq =>
      have := nm_next (Nat.le_refl _) (fun x e => by cases e) hq
      show q ≤ N
      omega
/-- Numbers of data that ends at E, behind those in front. -/
def numbersS (l : List UInt8) (size E : Nat) : Nat → List Nat → St → List Nat × St
  | 0, out, st => (out, st)
  | m + 1, out, st =>
    if st.2 ≠ 0 then (out, st)
    else if E < st.1 + size then ([], (st.1, 50))
    else numbersS l size E m (out ++ [(numS l size st).1]) (numS l size st).2
/-- The next name of data, of a type. -/
def oneS (l : List UInt8) (kind : Nat) (st : St) : List UInt8 × St :=
  if kind = 33 then
    match bare l l.length 2 st.1 [] with
    | .error k => ([], (0, k))
    | .ok (o, q) => (o, (q, 0))
  else nameS l st
theorem bare_next {l : List UInt8} {p q : Nat} {o : List UInt8} (h : bare l l.length 2 p [] = .ok (o, q)) : q ≤ l.length := by
  unfold bare at h
  split at h
  · cases h
  · next o1 q1 hr =>
    have := (run_ok hr).2.1
    split at h
    · injection h with h; injection h with _ h2; omega
    · cases h
theorem oneS_le {l : List UInt8} {kind N : Nat} {st : St} (h : st.1 ≤ N) (hl : l.length ≤ N) : (oneS l kind st).2.1 ≤ N := by
  unfold oneS
  split
  · split
    · exact Nat.zero_le _
    · next o q hq =>
      have := bare_next hq
      show q ≤ N
      omega
  · exact nameS_le h hl
def namesS (l : List UInt8) (kind E : Nat) : Nat → List (List UInt8) → St → List (List UInt8) × St
  | 0, out, st => (out, st)
  | m + 1, out, st =>
    if st.2 ≠ 0 then (out, st)
    else if ends l E st.1 = false then ([], (st.1, 50))
    else namesS l kind E m (out ++ [(oneS l kind st).1]) (oneS l kind st).2
section
variable {l : List UInt8} {size E m kind : Nat} {out : List Nat} {outs : List (List UInt8)} {st : St}
theorem numbersS_zero : numbersS l size E 0 out st = (out, st) := rfl
theorem numbersS_stop (h : st.2 ≠ 0) : numbersS l size E m out st = (out, st) := by cases m with | zero => rfl | succ m => exact if_pos h
theorem numbersS_bad (h : st.2 = 0) (h2 : E < st.1 + size) : numbersS l size E (m + 1) out st = ([], (st.1, 50)) := by rw [numbersS, if_neg (by omega), if_pos h2]
theorem numbersS_more (h : st.2 = 0) (h2 : st.1 + size ≤ E) : numbersS l size E (m + 1) out st = numbersS l size E m (out ++ [(numS l size st).1]) (numS l size st).2 := by rw [numbersS, if_neg (by omega), if_neg (by omega)]
theorem namesS_zero : namesS l kind E 0 outs st = (outs, st) := rfl
theorem namesS_stop (h : st.2 ≠ 0) : namesS l kind E m outs st = (outs, st) := by cases m with | zero => rfl | succ m => exact if_pos h
theorem namesS_bad (h : st.2 = 0) (h2 : ends l E st.1 = false) : namesS l kind E (m + 1) outs st = ([], (st.1, 50)) := by rw [namesS, if_neg (by omega), if_pos h2]
theorem namesS_more (h : st.2 = 0) (h2 : ends l E st.1 = true) : namesS l kind E (m + 1) outs st = namesS l kind E m (outs ++ [(oneS l kind st).1]) (oneS l kind st).2 := by rw [namesS, if_neg (by omega), if_neg (by rw [h2]; decide)]
end
/-- The texts of TXT. -/
def textsS (l : List UInt8) (E : Nat) (out : List (List UInt8)) (p : Nat) : List (List UInt8) × St :=
  if p < E then
    if E < p + 1 + bt l p then (out, (p + 1, 50))
    else textsS l E (out ++ [cut l (p + 1) (bt l p)]) (p + 1 + bt l p)
  else (out, (p, 0))
  termination_by E - p
  decreasing_by omega
theorem textsS_end {l : List UInt8} {E p : Nat} {out : List (List UInt8)} (h : E ≤ p) : textsS l E out p = (out, (p, 0)) := by rw [textsS, if_neg (by omega)]
theorem textsS_bad {l : List UInt8} {E p : Nat} {out : List (List UInt8)} (h : p < E) (h2 : E < p + 1 + bt l p) : textsS l E out p = (out, (p + 1, 50)) := by rw [textsS, if_pos h, if_pos h2]
theorem textsS_more {l : List UInt8} {E p : Nat} {out : List (List UInt8)} (h : p < E) (h2 : p + 1 + bt l p ≤ E) : textsS l E out p = textsS l E (out ++ [cut l (p + 1) (bt l p)]) (p + 1 + bt l p) := by rw [textsS, if_pos h, if_neg (by omega)]
structure Dat where
  names : List (List UInt8)
  nums : List Nat
  texts : List (List UInt8)
  st : St
def dat1 (l : List UInt8) (kind E : Nat) (st : St) : List Nat × St := if kind ≠ 6 then numbersS l 2 E (shB kind) [] st else ([], st)
def dat2 (l : List UInt8) (kind E : Nat) (st : St) : List (List UInt8) × St := namesS l kind E (shA kind) [] st
def dat3 (l : List UInt8) (kind E : Nat) (ns : List Nat) (st : St) : List Nat × St := if kind = 6 then numbersS l 4 E (shB kind) [] st else (ns, st)
def dat4 (l : List UInt8) (kind E : Nat) (st : St) : List (List UInt8) × St :=
  if st.2 ≠ 0 then ([], st) else if kind = 16 then textsS l E [] st.1 else if 0 < shC kind then ([cut l st.1 (E - st.1)], (E, 0)) else ([], st)
def dat5 (E : Nat) (st : St) : St := if st.2 = 0 ∧ st.1 ≠ E then (st.1, 50) else st
/-- The data of a record that ends at E. -/
def datS (l : List UInt8) (kind E : Nat) (st : St) : Dat :=
  let a := dat1 l kind E st
  let b := dat2 l kind E a.2
  let c := dat3 l kind E a.1 b.2
  let d := dat4 l kind E c.2
  ⟨b.1, c.1, d.1, dat5 E d.2⟩
end Go.Proofs.Ytpmmjmnleoicjaa.StMath

/- A record as the code reads it: the data by its type, one behind the other. No program, no condition. -/
namespace Go.Proofs.Ytpmmjmnleoicjaa.DatMath
open Go Bytes NmMath RecMath MsgMath StMath

/-- The next number of so many bytes. -/
def numE (l : List UInt8) (E size p : Nat) : Except Nat (Nat × Nat) := if p + size ≤ E then .ok (nu l p size, p + size) else .error 50
/-- The next name. -/
def nameE (l : List UInt8) (E kind p : Nat) : Except Nat (List UInt8 × Nat) :=
  if ends l E p = false then .error 50 else if kind = 33 then bare l E 50 p [] else nm l E 50 p p none []
/-- A text of so many bytes. -/
def partE (l : List UInt8) (E n p : Nat) : Except Nat (List (List UInt8) × Nat) := if p + n ≤ E then .ok ([cut l p n], p + n) else .error 50
/-- The next text behind its length. -/
def measE (l : List UInt8) (E p : Nat) : Except Nat (List UInt8 × Nat) := if p < E ∧ p + 1 + bt l p ≤ E then .ok (cut l (p + 1) (bt l p), p + 1 + bt l p) else .error 50
/-- Texts up to the end, behind those in front. -/
def txtE (l : List UInt8) (E : Nat) (out : List (List UInt8)) (p : Nat) : Except Nat (List (List UInt8) × Nat) :=
  if p < E then
    if p + 1 + bt l p ≤ E then txtE l E (out ++ [cut l (p + 1) (bt l p)]) (p + 1 + bt l p) else .error 50
  else .ok (out, p)
  termination_by E - p
  decreasing_by omega
/-- The texts that a type has. -/
def textsE (l : List UInt8) (E kind p : Nat) : Except Nat (List (List UInt8) × Nat) :=
  if kind = 1 then partE l E 4 p
  else if kind = 28 then partE l E 16 p
  else if kind = 16 then (if p < E then txtE l E [] p else .error 50)
  else .ok ([cut l p (E - p)], E)
section
variable {l : List UInt8} {E size n kind p q : Nat} {out : List (List UInt8)}
theorem numE_ok (h : p + size ≤ E) : numE l E size p = .ok (nu l p size, p + size) := if_pos h
theorem numE_no (h : E < p + size) : numE l E size p = .error 50 := if_neg (by omega)
theorem nameE_no (h : ends l E p = false) : nameE l E kind p = .error 50 := if_pos h
theorem nameE_bare (h : ends l E p = true) (hk : kind = 33) : nameE l E kind p = bare l E 50 p [] := by unfold nameE; rw [if_neg (by rw [h]; decide), if_pos hk]
theorem nameE_nm (h : ends l E p = true) (hk : kind ≠ 33) : nameE l E kind p = nm l E 50 p p none [] := by unfold nameE; rw [if_neg (by rw [h]; decide), if_neg hk]
theorem partE_ok (h : p + n ≤ E) : partE l E n p = .ok ([cut l p n], p + n) := if_pos h
theorem partE_no (h : E < p + n) : partE l E n p = .error 50 := if_neg (by omega)
theorem measE_ok (h : p < E) (h2 : p + 1 + bt l p ≤ E) : measE l E p = .ok (cut l (p + 1) (bt l p), p + 1 + bt l p) := if_pos ⟨h, h2⟩
theorem measE_no (h : E < p + 1 + bt l p) : measE l E p = .error 50 := if_neg (by omega)
theorem txtE_end (h : E ≤ p) : txtE l E out p = .ok (out, p) := by rw [txtE, if_neg (by omega)]
theorem txtE_more {t : List UInt8} (h : p < E) (hm : measE l E p = .ok (t, q)) : txtE l E out p = txtE l E (out ++ [t]) q := by
  unfold measE at hm
  split at hm
  · next h2 =>
    injection hm with hm
    injection hm with h3 h4
    subst h3; subst h4
    rw [txtE, if_pos h, if_pos h2.2]
  · cases hm
theorem txtE_err {k : Nat} (h : p < E) (hm : measE l E p = .error k) : txtE l E out p = .error k := by
  unfold measE at hm
  split at hm
  · cases hm
  · next h2 =>
    injection hm with hm
    subst hm
    rw [txtE, if_pos h, if_neg (by omega)]
theorem measE_at {t : List UInt8} (hm : measE l E p = .ok (t, q)) : p < q ∧ q ≤ E ∧ t.length ≤ 255 := by
  unfold measE at hm
  split at hm
  · next h2 =>
    injection hm with hm
    injection hm with h3 h4
    subst h3; subst h4
    refine ⟨by omega, h2.2, ?_⟩
    unfold cut
    rw [List.length_take]
    have := bt_lt l p
    omega
  · cases hm
end
/-- What a record has beside its head. -/
structure Body where
  names : List (List UInt8)
  nums : List Nat
  texts : List (List UInt8)
/-- The texts, and what is left. -/
def endE (l : List UInt8) (E kind : Nat) (nms : List (List UInt8)) (ns : List Nat) (p : Nat) : Except Nat Body :=
  if 0 < shC kind then
    match textsE l E kind p with
    | .error k => .error k
    | .ok (L, q) => if q < E then .error 50 else .ok ⟨nms, ns, L⟩
  else if p < E then .error 50 else .ok ⟨nms, ns, []⟩
/-- The data of a type, that begins at p and ends at E. -/
def bodyE (l : List UInt8) (E kind p : Nat) : Except Nat Body :=
  if kind = 6 then
    match many (nameE l E 6) 2 p with
    | .error k => .error k
    | .ok (nms, q) =>
      match many (numE l E 4) 5 q with
      | .error k => .error k
      | .ok (ns, r) => endE l E 6 nms ns r
  else
    match many (numE l E 2) (shB kind) p with
    | .error k => .error k
    | .ok (ns, q) =>
      match many (nameE l E kind) (shA kind) q with
      | .error k => .error k
      | .ok (nms, r) => endE l E kind nms ns r
/-- Behind the data: its time may be too great. -/
def lateE (n : List UInt8) (kind cls ttl E : Nat) : Except Nat Body → Except Nat (Rec × Nat)
  | .error k => .error k
  | .ok D => if 2147483647 < ttl ∧ kind ≠ 41 then .error 1 else .ok (⟨n, kind, cls, ttl, D.names, D.nums, D.texts⟩, E)
/-- Behind the name: the head, then the data. -/
def headE (l : List UInt8) (n : List UInt8) (q : Nat) : Except Nat (Rec × Nat) :=
  if q + 10 ≤ l.length then
    if q + 10 + nu l (q + 8) 2 ≤ l.length then
      lateE n (nu l q 2) (nu l (q + 2) 2) (nu l (q + 4) 4) (q + 10 + nu l (q + 8) 2) (bodyE l (q + 10 + nu l (q + 8) 2) (nu l q 2) (q + 10))
    else .error 2
  else .error 2
/-- The record at a place. -/
def recE (l : List UInt8) (p : Nat) : Except Nat (Rec × Nat) :=
  match nm l l.length 2 p p none [] with
  | .error k => .error k
  | .ok (n, q) => headE l n q
theorem recE_err {l : List UInt8} {p k : Nat} (h : nm l l.length 2 p p none [] = .error k) : recE l p = .error k := by unfold recE; rw [h]
theorem recE_ok {l o : List UInt8} {p q : Nat} (h : nm l l.length 2 p p none [] = .ok (o, q)) : recE l p = headE l o q := by unfold recE; rw [h]
theorem headE_short {l o : List UInt8} {q : Nat} (h : l.length < q + 10) : headE l o q = .error 2 := if_neg (by omega)
theorem headE_cut {l o : List UInt8} {q : Nat} (h : q + 10 ≤ l.length) (h2 : l.length < q + 10 + nu l (q + 8) 2) : headE l o q = .error 2 := by unfold headE; rw [if_pos h, if_neg (by omega)]
theorem headE_ok {l o : List UInt8} {q : Nat} (h : q + 10 ≤ l.length) (h2 : q + 10 + nu l (q + 8) 2 ≤ l.length) : headE l o q = lateE o (nu l q 2) (nu l (q + 2) 2) (nu l (q + 4) 4) (q + 10 + nu l (q + 8) 2) (bodyE l (q + 10 + nu l (q + 8) 2) (nu l q 2) (q + 10)) := by unfold headE; rw [if_pos h, if_pos h2]
theorem recE_next {l : List UInt8} {p q : Nat} {R : Rec} (h : recE l p = .ok (R, q)) : q ≤ l.length := by
  unfold recE at h
  split at h
  · cases h
  · next n q0 hn =>
    unfold headE at h
    split at h
    · split at h
      · next h2 =>
        unfold lateE at h
        split at h
        · cases h
        · split at h
          · cases h
          · injection h with h
            injection h with _ h
            omega
      · cases h
    · cases h
end Go.Proofs.Ytpmmjmnleoicjaa.DatMath

/- Where readings of a record's data end: within the data. No program, no condition. -/
namespace Go.Proofs.Ytpmmjmnleoicjaa.DatMath
open Go Bytes NmMath RecMath MsgMath StMath

theorem nm_some {l : List UInt8} {E K p b x : Nat} {next : Option Nat} {o : List UInt8} (hx : next = some x) : ∀ {o' : List UInt8} {n : Nat}, nm l E K p b next o = .ok (o', n) → n = x := by
  fun_induction nm l E K p b next o with
  | case1 => intro o' n e; cases e
  | case2 E K p b next o o1 q hr h0 =>
    intro o' n e
    injection e with e
    injection e with e1 e2
    subst hx
    exact e2.symm
  | case3 E K p b next o o1 q hr h0 h1 h2 ih =>
    subst hx
    exact ih rfl
  | case4 => intro o' n e; cases e
  | case5 => intro o' n e; cases e
theorem nm_end {l : List UInt8} {E K p b n : Nat} {o o' : List UInt8} (h : nm l E K p b none o = .ok (o', n)) : n ≤ E := by
  rw [nm] at h
  split at h
  · cases h
  · next o1 q hr =>
    have hq := (run_ok hr).2.1
    split at h
    · injection h with h; injection h with _ h; show n ≤ E; have : q + 1 = n := h; omega
    · split at h
      · next h2 =>
        split at h
        · have := nm_some rfl h; show n ≤ E; have : n = q + 2 := this; omega
        · cases h
      · cases h
theorem nameE_end {l : List UInt8} {E kind p q : Nat} {o : List UInt8} (h : nameE l E kind p = .ok (o, q)) : q ≤ E := by
  unfold nameE at h
  split at h
  · cases h
  · split at h
    · unfold bare at h
      split at h
      · cases h
      · next o1 q1 hr =>
        have := (run_ok hr).2.1
        split at h
        · injection h with h; injection h with _ h2; omega
        · cases h
    · exact nm_end h
theorem txtE_at {l : List UInt8} {E p q : Nat} {out L : List (List UInt8)} (hp : p ≤ E) (h : txtE l E out p = .ok (L, q)) : q = E := by
  revert hp h
  fun_induction txtE l E out p with
  | case1 out p h h2 ih => intro hp h; exact ih (by omega) h
  | case2 => intro hp h; cases h
  | case3 out p h1 => intro hp h; injection h with h; injection h with _ h; omega
theorem partE_end {l : List UInt8} {E n p q : Nat} {L : List (List UInt8)} (h : partE l E n p = .ok (L, q)) : q ≤ E := by
  unfold partE at h
  split at h
  · injection h with h; injection h with _ h; omega
  · cases h
theorem textsE_end {l : List UInt8} {E kind p q : Nat} {L : List (List UInt8)} (h : textsE l E kind p = .ok (L, q)) : q ≤ E := by
  unfold textsE at h
  split at h
  · exact partE_end h
  · split at h
    · exact partE_end h
    · split at h
      · split at h
        · exact Nat.le_of_eq (txtE_at (by omega) h)
        · cases h
      · injection h with h; injection h with _ h; omega
theorem numE_end {l : List UInt8} {E size p q x : Nat} (h : numE l E size p = .ok (x, q)) : q ≤ E := by
  unfold numE at h
  split at h
  · injection h with h; injection h with _ h; omega
  · cases h
theorem run_up {l : List UInt8} {E K p q : Nat} {o o' : List UInt8} (h : run l E K p o = .ok (o', q)) : p ≤ q := (run_ok h).1
theorem nm_up {l : List UInt8} {E K p b n : Nat} {o o' : List UInt8} (h : nm l E K p b none o = .ok (o', n)) : p ≤ n := by
  rw [nm] at h
  split at h
  · cases h
  · next o1 q hr =>
    have hq := run_up hr
    split at h
    · injection h with h; injection h with _ h; have : q + 1 = n := h; omega
    · split at h
      · next h2 =>
        split at h
        · have := nm_some rfl h; have : n = q + 2 := this; omega
        · cases h
      · cases h
theorem nameE_up {l : List UInt8} {E kind p q : Nat} {o : List UInt8} (h : nameE l E kind p = .ok (o, q)) : p ≤ q := by
  unfold nameE at h
  split at h
  · cases h
  · split at h
    · unfold bare at h
      split at h
      · cases h
      · next o1 q1 hr =>
        have := run_up hr
        split at h
        · injection h with h; injection h with _ h2; omega
        · cases h
    · exact nm_up h
theorem numE_up {l : List UInt8} {E size p q x : Nat} (h : numE l E size p = .ok (x, q)) : p ≤ q := by
  unfold numE at h
  split at h
  · injection h with h; injection h with _ h; omega
  · cases h
theorem many_ge {α : Type} {f : Nat → Except Nat (α × Nat)} (hf : ∀ p x q, f p = .ok (x, q) → p ≤ q) : ∀ {n p q : Nat} {L : List α}, many f n p = .ok (L, q) → p ≤ q := by
  intro n
  induction n with
  | zero => intro p q L h; injection h with h; injection h with _ h; omega
  | succ n ih =>
    intro p q L h
    rw [many] at h
    split at h
    · cases h
    · next x r hx =>
      split at h
      · cases h
      · next xs s hxs =>
        injection h with h
        injection h with _ h
        have := hf _ _ _ hx
        have := ih hxs
        omega
section
variable {l : List UInt8} {E kind p q k : Nat} {nms L : List (List UInt8)} {ns : List Nat}
theorem endE_err (hc : 0 < shC kind) (h : textsE l E kind p = .error k) : endE l E kind nms ns p = .error k := by unfold endE; rw [if_pos hc, h]
theorem endE_left (hc : 0 < shC kind) (h : textsE l E kind p = .ok (L, q)) (h2 : q < E) : endE l E kind nms ns p = .error 50 := by unfold endE; rw [if_pos hc, h]; exact if_pos h2
theorem endE_ok (hc : 0 < shC kind) (h : textsE l E kind p = .ok (L, q)) (h2 : ¬ q < E) : endE l E kind nms ns p = .ok ⟨nms, ns, L⟩ := by unfold endE; rw [if_pos hc, h]; exact if_neg h2
theorem endE_none_left (hc : shC kind = 0) (h2 : p < E) : endE l E kind nms ns p = .error 50 := by unfold endE; rw [if_neg (by omega), if_pos h2]
theorem endE_none (hc : shC kind = 0) (h2 : ¬ p < E) : endE l E kind nms ns p = .ok ⟨nms, ns, []⟩ := by unfold endE; rw [if_neg (by omega), if_neg h2]
end
section
variable {l : List UInt8} {E kind p q r k : Nat} {nms : List (List UInt8)} {ns : List Nat}
theorem body_err1 (h6 : kind ≠ 6) (h : many (numE l E 2) (shB kind) p = .error k) : bodyE l E kind p = .error k := by unfold bodyE; rw [if_neg h6, h]
theorem body_err2 (h6 : kind ≠ 6) (h : many (numE l E 2) (shB kind) p = .ok (ns, q)) (h2 : many (nameE l E kind) (shA kind) q = .error k) : bodyE l E kind p = .error k := by unfold bodyE; rw [if_neg h6, h]; simp only; rw [h2]
theorem body_ok (h6 : kind ≠ 6) (h : many (numE l E 2) (shB kind) p = .ok (ns, q)) (h2 : many (nameE l E kind) (shA kind) q = .ok (nms, r)) : bodyE l E kind p = endE l E kind nms ns r := by unfold bodyE; rw [if_neg h6, h]; simp only; rw [h2]
theorem body_err16 (h6 : kind = 6) (h : many (nameE l E kind) (shA kind) p = .error k) : bodyE l E kind p = .error k := by subst h6; unfold bodyE; rw [if_pos rfl]; rw [show many (nameE l E 6) 2 p = .error k from h]
theorem body_err26 (h6 : kind = 6) (h : many (nameE l E kind) (shA kind) p = .ok (nms, q)) (h2 : many (numE l E 4) (shB kind) q = .error k) : bodyE l E kind p = .error k := by subst h6; unfold bodyE; rw [if_pos rfl, show many (nameE l E 6) 2 p = .ok (nms, q) from h]; simp only; rw [show many (numE l E 4) 5 q = .error k from h2]
theorem body_ok6 (h6 : kind = 6) (h : many (nameE l E kind) (shA kind) p = .ok (nms, q)) (h2 : many (numE l E 4) (shB kind) q = .ok (ns, r)) : bodyE l E kind p = endE l E kind nms ns r := by subst h6; unfold bodyE; rw [if_pos rfl, show many (nameE l E 6) 2 p = .ok (nms, q) from h]; simp only; rw [show many (numE l E 4) 5 q = .ok (ns, r) from h2]
end
end Go.Proofs.Ytpmmjmnleoicjaa.DatMath

/- What is read of any bytes is right: names are names, records have their types' shapes. No program, no condition. -/
namespace Go.Proofs.Ytpmmjmnleoicjaa.DatMath
open Go Bytes NameMath NmMath RecMath MsgMath StMath

theorem run_wire {l : List UInt8} {E K p : Nat} {o : List UInt8} (hE : E ≤ l.length) : ∀ {o' : List UInt8} {q : Nat} {A : List (List UInt8)}, o = wire A → A.all okLab = true → run l E K p o = .ok (o', q) → ∃ A', A'.all okLab = true ∧ o' = wire A' := by
  fun_induction run l E K p o with
  | case1 p o h h0 => intro o' q A e hA h; injection h with h; injection h with h1 h2; subst h1; exact ⟨A, hA, e⟩
  | case2 => intro o' q A e hA h; cases h
  | case3 => intro o' q A e hA h; cases h
  | case4 p o h h0 h1 h2 h3 ih =>
    intro o' q A e hA hr
    have hl : (cut l (p + 1) (bt l p)).length = bt l p := cut_len (by omega)
    have hof : UInt8.ofNat (cut l (p + 1) (bt l p)).length = l.getD p 0 := by rw [hl]; unfold bt; rw [UInt8.ofNat_toNat]
    refine ih (A := A ++ [cut l (p + 1) (bt l p)]) ?_ ?_ hr
    · rw [wire_snoc, hof, ← cut_head (by omega), e]
    · rw [List.all_append, hA, List.all_cons, okLab_iff.2 (by rw [hl]; omega)]
      rfl
  | case5 => intro o' q A e hA h; cases h
  | case6 => intro o' q A e hA h; cases h
theorem name_of {A : List (List UInt8)} {o : List UInt8} (hA : A.all okLab = true) (e : o = wire A) (h : o.length ≤ 254) : isN (o ++ [0]) = true := by
  subst e
  refine isN_of (L := A) (labels_name hA ?_)
  rw [nameL_len]
  omega
theorem nm_isN {l : List UInt8} {E K p b : Nat} {next : Option Nat} {o : List UInt8} (hE : E ≤ l.length) : ∀ {o' : List UInt8} {n : Nat} {A : List (List UInt8)}, o = wire A → A.all okLab = true → o.length ≤ 254 → nm l E K p b next o = .ok (o', n) → isN o' = true := by
  fun_induction nm l E K p b next o with
  | case1 => intro o' n A e hA ho h; cases h
  | case2 E K p b next o o1 q hr h0 =>
    intro o' n A e hA ho h
    injection h with h
    injection h with h1 h2
    subst h1
    obtain ⟨A', a1, a2⟩ := run_wire hE e hA hr
    exact name_of a1 a2 ((run_ok hr).2.2.2 ho)
  | case3 E K p b next o o1 q hr h0 h1 h2 ih =>
    intro o' n A e hA ho h
    obtain ⟨A', a1, a2⟩ := run_wire hE e hA hr
    exact ih (Nat.le_refl _) a2 a1 ((run_ok hr).2.2.2 ho) h
  | case4 => intro o' n A e hA ho h; cases h
  | case5 => intro o' n A e hA ho h; cases h
theorem nm_name {l : List UInt8} {E K p b n : Nat} {o : List UInt8} (hE : E ≤ l.length) (h : nm l E K p b none [] = .ok (o, n)) : isN o = true :=
  nm_isN hE (A := []) rfl rfl (Nat.zero_le _) h
theorem bare_name {l : List UInt8} {E K p n : Nat} {o : List UInt8} (hE : E ≤ l.length) (h : bare l E K p [] = .ok (o, n)) : isN o = true := by
  unfold bare at h
  split at h
  · cases h
  · next o1 q hr =>
    split at h
    · injection h with h
      injection h with h1 h2
      subst h1
      obtain ⟨A', a1, a2⟩ := run_wire hE (A := []) rfl rfl hr
      exact name_of a1 a2 ((run_ok hr).2.2.2 (Nat.zero_le _))
    · cases h
theorem nameE_name {l : List UInt8} {E kind p n : Nat} {o : List UInt8} (hE : E ≤ l.length) (h : nameE l E kind p = .ok (o, n)) : isN o = true := by
  unfold nameE at h
  split at h
  · cases h
  · split at h
    · exact bare_name hE h
    · exact nm_name hE h
theorem qn_name {l : List UInt8} {p q : Nat} {Q : Qn} (h : qn l p = .ok (Q, q)) : isN Q.name = true := by
  unfold qn at h
  split at h
  · cases h
  · next o q0 hn =>
    split at h
    · injection h with h
      injection h with h1 h2
      subst h1
      exact nm_name (Nat.le_refl _) hn
    · cases h
theorem many_all {α : Type} {f : Nat → Except Nat (α × Nat)} {P : α → Prop} (hf : ∀ p x q, f p = .ok (x, q) → P x) : ∀ {n p q : Nat} {L : List α}, many f n p = .ok (L, q) → ∀ x ∈ L, P x := by
  intro n
  induction n with
  | zero => intro p q L h; injection h with h; injection h with h _; subst h; intro x hx; cases hx
  | succ n ih =>
    intro p q L h
    rw [many] at h
    split at h
    · cases h
    · next x r hx =>
      split at h
      · cases h
      · next xs s hxs =>
        injection h with h
        injection h with h _
        subst h
        intro y hy
        rcases List.mem_cons.1 hy with rfl | hy
        · exact hf _ _ _ hx
        · exact ih hxs y hy
theorem numE_two {l : List UInt8} {E p q x : Nat} (h : numE l E 2 p = .ok (x, q)) : x < 65536 := by
  unfold numE at h
  split at h
  · injection h with h; injection h with h _; subst h; exact nu2_lt _ _
  · cases h
theorem bulk_app (k : Nat) (A B : List (List UInt8)) : bulk k (A ++ B) = bulk k A + bulk k B := by
  induction A with
  | nil => simp [bulk]
  | cons x A ih => rw [List.cons_append, bulk, bulk, ih]; omega
theorem txtE_right {l : List UInt8} {E p q : Nat} {out L : List (List UInt8)} (hE : E ≤ l.length) (hp : p ≤ E) (h : txtE l E out p = .ok (L, q)) (ho : ∀ x ∈ out, x.length ≤ 255) : (∀ x ∈ L, x.length ≤ 255) ∧ bulk 16 L = bulk 16 out + (E - p) ∧ out.length ≤ L.length := by
  revert hp h ho
  fun_induction txtE l E out p with
  | case1 out p h h2 ih =>
    intro hp hr ho
    have hl : (cut l (p + 1) (bt l p)).length = bt l p := cut_len (by omega)
    have hb := bt_lt l p
    obtain ⟨i1, i2, i3⟩ := ih (by omega) hr (fun x hx => by
      rcases List.mem_append.1 hx with hx | hx
      · exact ho x hx
      · rw [List.mem_singleton] at hx; subst hx; omega)
    refine ⟨i1, ?_, ?_⟩
    · rw [i2, bulk_app]
      simp only [bulk, if_true, hl]
      omega
    · rw [List.length_append] at i3; omega
  | case2 => intro hp h; cases h
  | case3 out p h1 =>
    intro hp h ho
    injection h with h
    injection h with h _
    subst h
    exact ⟨ho, by omega, Nat.le_refl _⟩
theorem textsE_right {l : List UInt8} {E kind p q : Nat} {L : List (List UInt8)} (hE : E ≤ l.length) (hp : p ≤ E) (hn : E - p ≤ 65535) (h : textsE l E kind p = .ok (L, q)) : L.any (badText kind) = false ∧ bulk kind L ≤ 65535 ∧ (kind = 16 → 0 < L.length) ∧ (kind ≠ 16 → L.length = 1) := by
  have part : ∀ n, n ≤ 16 → partE l E n p = .ok (L, q) → L = [cut l p n] ∧ (cut l p n).length = n := by
    intro n _ h
    unfold partE at h
    split at h
    · injection h with h; injection h with h _; exact ⟨h.symm, cut_len (by omega)⟩
    · cases h
  unfold textsE at h
  split at h
  · next hk =>
    obtain ⟨rfl, hl⟩ := part 4 (by decide) h
    subst hk
    refine ⟨?_, ?_, fun h => by omega, fun _ => rfl⟩
    · simp [badText, hl]
    · simp [bulk, hl]
  · next hk1 =>
    split at h
    · next hk =>
      obtain ⟨rfl, hl⟩ := part 16 (by decide) h
      subst hk
      refine ⟨?_, ?_, fun h => by omega, fun _ => rfl⟩
      · simp [badText, hl]
      · simp [bulk, hl]
    · next hk28 =>
      split at h
      · next hk =>
        subst hk
        split at h
        · next hlt =>
          obtain ⟨r1, r2, r3⟩ := txtE_right hE hp h (fun x hx => by cases hx)
          refine ⟨?_, ?_, fun _ => ?_, fun h => absurd rfl h⟩
          · rw [List.any_eq_false]
            intro x hx
            have := r1 x hx
            simp [badText]
            omega
          · rw [r2]; simp [bulk]; omega
          · rcases L with _ | ⟨x, L⟩
            · simp [bulk] at r2; omega
            · simp
        · cases h
      · next hk16 =>
        injection h with h
        injection h with h _
        subst h
        refine ⟨?_, ?_, fun h => absurd h hk16, fun _ => rfl⟩
        · simp [badText, hk16, hk1, hk28]
        · simp only [bulk, if_neg hk16]
          have : (cut l p (E - p)).length ≤ E - p := by unfold cut; rw [List.length_take]; omega
          omega
/-- What a body is like that was read. -/
structure Right (kind : Nat) (D : Body) : Prop where
  names : D.names.any badName = false
  nums : D.nums.any (badNum kind) = false
  texts : D.texts.any (badText kind) = false
  bulk : bulk kind D.texts ≤ 65535
  a : D.names.length = shA kind
  b : D.nums.length = shB kind
  c : (kind = 16 ∧ 0 < D.texts.length) ∨ (kind ≠ 16 ∧ D.texts.length = shC kind)
theorem endE_right {l : List UInt8} {E kind p : Nat} {nms : List (List UInt8)} {ns : List Nat} {D : Body} (hE : E ≤ l.length) (hp : p ≤ E) (hn : E - p ≤ 65535) (h : endE l E kind nms ns p = .ok D) : D.names = nms ∧ D.nums = ns ∧ D.texts.any (badText kind) = false ∧ RecMath.bulk kind D.texts ≤ 65535 ∧ ((kind = 16 ∧ 0 < D.texts.length) ∨ (kind ≠ 16 ∧ D.texts.length = shC kind)) := by
  unfold endE at h
  split at h
  · next hc =>
    split at h
    · cases h
    · next L q ht =>
      split at h
      · cases h
      · injection h with h
        subst h
        obtain ⟨r1, r2, r3, r4⟩ := textsE_right hE hp hn ht
        refine ⟨rfl, rfl, r1, r2, ?_⟩
        have h1 : shC kind = 1 := by
          have : shC kind ≤ 1 := by unfold shC; repeat' split
                                    all_goals omega
          omega
        by_cases hk : kind = 16
        · exact .inl ⟨hk, r3 hk⟩
        · exact .inr ⟨hk, by rw [r4 hk, h1]⟩
  · next hc =>
    split at h
    · cases h
    · injection h with h
      subst h
      refine ⟨rfl, rfl, rfl, Nat.zero_le _, ?_⟩
      by_cases hk : kind = 16
      · subst hk; exact absurd (by decide) hc
      · exact .inr ⟨hk, by show 0 = _; omega⟩
theorem names_right {l : List UInt8} {E kind n p q : Nat} {nms : List (List UInt8)} (hE : E ≤ l.length) (h : many (nameE l E kind) n p = .ok (nms, q)) : nms.any badName = false := by
  rw [List.any_eq_false]
  intro x hx
  have := many_all (P := fun x => isN x = true) (fun _ _ _ h => nameE_name hE h) h x hx
  unfold badName
  rw [this]
  simp
theorem bodyE_right {l : List UInt8} {E kind p : Nat} {D : Body} (hE : E ≤ l.length) (hp : p ≤ E) (hn : E - p ≤ 65535) (h : bodyE l E kind p = .ok D) : Right kind D := by
  unfold bodyE at h
  split at h
  · next hk =>
    split at h
    · cases h
    · next nms q h1 =>
      have hq : p ≤ q ∧ q ≤ E := ⟨many_ge (fun _ _ _ h => nameE_up h) h1, many_le (fun _ _ _ _ h => nameE_end h) hp h1⟩
      split at h
      · cases h
      · next ns r h2 =>
        have hr : q ≤ r ∧ r ≤ E := ⟨many_ge (fun _ _ _ h => numE_up h) h2, many_le (fun _ _ _ _ h => numE_end h) hq.2 h2⟩
        subst hk
        obtain ⟨e1, e2, e3, e4, e5⟩ := endE_right hE hr.2 (by omega) h
        refine ⟨by rw [e1]; exact names_right hE h1, ?_, e3, e4, by rw [e1, many_len h1]; rfl, by rw [e2, many_len h2]; rfl, e5⟩
        rw [List.any_eq_false]
        intro x _
        simp [badNum]
  · next hk =>
    split at h
    · cases h
    · next ns q h1 =>
      have hq : p ≤ q ∧ q ≤ E := ⟨many_ge (fun _ _ _ h => numE_up h) h1, many_le (fun _ _ _ _ h => numE_end h) hp h1⟩
      split at h
      · cases h
      · next nms r h2 =>
        have hr : q ≤ r ∧ r ≤ E := ⟨many_ge (fun _ _ _ h => nameE_up h) h2, many_le (fun _ _ _ _ h => nameE_end h) hq.2 h2⟩
        obtain ⟨e1, e2, e3, e4, e5⟩ := endE_right hE hr.2 (by omega) h
        refine ⟨by rw [e1]; exact names_right hE h2, ?_, e3, e4, by rw [e1, many_len h2], by rw [e2, many_len h1], e5⟩
        rw [e2, List.any_eq_false]
        intro x hx
        have := many_all (P := fun x => x < 65536) (fun _ _ _ h => numE_two h) h1 x hx
        simp [badNum]
        omega
theorem right_check {kind cls ttl : Nat} {n : List UInt8} {D : Body} (hn : isN n = true) (h : Right kind D) : checkE ⟨n, kind, cls, ttl, D.names, D.nums, D.texts⟩ = if 2147483647 < ttl ∧ kind ≠ 41 then 1 else 0 := by
  have h1 : namesB ⟨n, kind, cls, ttl, D.names, D.nums, D.texts⟩ = true := by
    unfold namesB badName
    simp only
    rw [hn, show (D.names.any fun l => !isN l) = false from h.names]
    rfl
  have h2 : okB ⟨n, kind, cls, ttl, D.names, D.nums, D.texts⟩ = true := by
    unfold okB shapedB cntOk fitsB
    simp only
    rw [h.nums, h.texts, decide_eq_true (And.intro h.a (And.intro h.b h.c)), decide_eq_true h.bulk]
    rfl
  unfold checkE
  rw [h1, h2]
  simp only [lateB, Bool.true_eq_false, if_false, decide_eq_true_eq]
/-- A record that was read is right. -/
theorem recE_right {l : List UInt8} {p q : Nat} {R : Rec} (h : recE l p = .ok (R, q)) : checkE R = 0 := by
  unfold recE at h
  split at h
  · cases h
  · next n q0 hn =>
    have hN := nm_name (Nat.le_refl _) hn
    unfold headE at h
    split at h
    · split at h
      · next h1 h2 =>
        unfold lateE at h
        split at h
        · cases h
        · next D hD =>
          split at h
          · cases h
          · next hl =>
            injection h with h
            injection h with h _
            subst h
            have hnn := nu2_lt l (q0 + 8)
            rw [right_check hN (bodyE_right h2 (by omega) (by omega) hD), if_neg hl]
      · cases h
    · cases h
/-- A message that was read: its bytes, its names, its records. -/
theorem msg_whole {l : List UInt8} {M : Msg} (h : msg (recE l) l = .ok M) : 12 ≤ l.length ∧ M.qs.length + (M.an.length + M.ns.length + M.ad.length) ≤ 256 ∧ (∀ Q ∈ M.qs, isN Q.name = true) ∧ ∀ R ∈ M.an ++ M.ns ++ M.ad, ∃ p q, recE l p = .ok (R, q) := by
  have hrec : ∀ {n p q : Nat} {L : List Rec}, many (recE l) n p = .ok (L, q) → ∀ R ∈ L, ∃ p q, recE l p = .ok (R, q) := fun h => many_all (fun p x q h => ⟨p, q, h⟩) h
  unfold msg at h
  split at h
  · cases h
  · next h1 =>
    split at h
    · cases h
    · next h2 =>
      unfold msg1 at h
      split at h
      · cases h
      · next qs q hq =>
        unfold msg2 at h
        split at h
        · cases h
        · next an q2 ha =>
          unfold msg3 at h
          split at h
          · cases h
          · next ns q3 hn =>
            unfold msg4 at h
            split at h
            · cases h
            · next ad q4 hx =>
              split at h
              · cases h
              · injection h with h
                subst h
                refine ⟨by omega, ?_, many_all (fun _ _ _ h => qn_name h) hq, fun R hR => ?_⟩
                · show qs.length + (an.length + ns.length + ad.length) ≤ 256
                  rw [many_len hq, many_len ha, many_len hn, many_len hx]; omega
                · rcases List.mem_append.1 hR with hR | hR
                  · rcases List.mem_append.1 hR with hR | hR
                    · exact hrec ha R hR
                    · exact hrec hn R hR
                  · exact hrec hx R hR
end Go.Proofs.Ytpmmjmnleoicjaa.DatMath

/- What was read can be gone through, and is right. No condition. -/
namespace Go.Proofs.Ytpmmjmnleoicjaa
open Go Bytes NameMath NmMath RecMath MsgMath StMath DatMath

theorem endE_nums {l : List UInt8} {E kind p : Nat} {nms : List (List UInt8)} {ns : List Nat} {D : Body} (h : endE l E kind nms ns p = .ok D) : D.nums = ns := by
  unfold endE at h
  split at h
  · split at h
    · cases h
    · split at h
      · cases h
      · injection h with h; subst h; rfl
  · split at h
    · cases h
    · injection h with h; subst h; rfl
theorem numE_four {l : List UInt8} {E p q x : Nat} (h : numE l E 4 p = .ok (x, q)) : x < 4294967296 := by
  unfold numE at h
  split at h
  · injection h with h; injection h with h _; subst h; exact nu4_lt _ _
  · cases h
theorem bodyE_nums {l : List UInt8} {E kind p : Nat} {D : Body} (h : bodyE l E kind p = .ok D) : ∀ x ∈ D.nums, x < 4294967296 := by
  unfold bodyE at h
  split at h
  · split at h
    · cases h
    · split at h
      · cases h
      · next h2 => rw [endE_nums h]; exact many_all (fun _ _ _ h => numE_four h) h2
  · split at h
    · cases h
    · next h1 =>
      split at h
      · cases h
      · rw [endE_nums h]; exact fun x hx => Nat.lt_of_lt_of_le (many_all (P := fun x => x < 65536) (fun _ _ _ h => numE_two h) h1 x hx) (by decide)
theorem recE_nums {l : List UInt8} {p q : Nat} {R : Rec} (h : recE l p = .ok (R, q)) : (∀ x ∈ R.nums, x < 4294967296) ∧ R.kind < 65536 ∧ R.cls < 65536 ∧ R.ttl < 4294967296 := by
  unfold recE at h
  split at h
  · cases h
  · unfold headE at h
    split at h
    · split at h
      · unfold lateE at h
        split at h
        · cases h
        · next D hD =>
          split at h
          · cases h
          · injection h with h
            injection h with h _
            subst h
            exact ⟨bodyE_nums hD, nu2_lt _ _, nu2_lt _ _, nu4_lt _ _⟩
      · cases h
    · cases h
theorem mem_getD {α : Type} {L : List α} {k : Nat} {d : α} (h : k < L.length) : L.getD k d ∈ L := by
  rw [List.getD_eq_getElem?_getD, List.getElem?_eq_getElem h]
  exact List.getElem_mem h
theorem bulk_count {L : List (List UInt8)} : L.length ≤ bulk 16 L := by
  induction L with
  | nil => exact Nat.zero_le _
  | cons x L ih => simp only [List.length_cons, bulk, if_true]; omega
theorem bulk_mem {k : Nat} {L : List (List UInt8)} {x : List UInt8} (h : x ∈ L) : x.length ≤ bulk k L := by
  induction L with
  | nil => cases h
  | cons y L ih =>
    rw [bulk]
    rcases List.mem_cons.1 h with rfl | h
    · omega
    · have := ih h; omega
theorem small_of {R : Rec} (hc : checkE R = 0) (hn : ∀ x ∈ R.nums, x < 4294967296) : Small R := by
  obtain ⟨h1, h2, _⟩ := check_ok hc
  obtain ⟨h3, _, _, h6⟩ := okB_cnt h2
  obtain ⟨c1, c2, c3⟩ := cnt_of h3
  have ha := shA_le R.kind
  have hb := shB_le R.kind
  unfold namesB at h1
  rw [Bool.and_eq_true] at h1
  have isn : ∀ l : List UInt8, badName l = false → l.length ≤ 100000 := fun l h => by
    obtain ⟨L, hL⟩ := isN_some (s := l) (by unfold badName at h; simpa using h)
    have := (labels_some hL).2.2
    omega
  have hnm : R.names.any badName = false := by simpa using h1.2
  refine ⟨isn _ (by simpa using h1.1), by omega, fun k hk => isn _ ?_, by omega, fun k hk => by have := hn _ (mem_getD (d := 0) hk); omega, ?_, fun k hk => by have := bulk_mem (k := R.kind) (mem_getD (d := []) hk); omega⟩
  · rw [List.any_eq_false] at hnm
    exact Bool.eq_false_iff.2 (hnm _ (mem_getD hk))
  · rcases c3 with ⟨hk, _⟩ | ⟨_, hl⟩
    · rw [hk] at h6
      have := bulk_count (L := R.texts)
      omega
    · have : shC R.kind ≤ 1 := by unfold shC; repeat' split
                                  all_goals omega
      omega
/-- A message that was read. -/
theorem msg_right {l : List UInt8} {M : Msg} (h : rd (recE l) l = .ok M) : l.length ≤ 65535 ∧ 12 ≤ l.length ∧ M.qs.length + (M.an.length + M.ns.length + M.ad.length) ≤ 256 ∧ (∀ Q ∈ M.qs, isN Q.name = true) ∧ ∀ R ∈ M.an ++ M.ns ++ M.ad, checkE R = 0 ∧ Small R := by
  unfold rd at h
  split at h
  · cases h
  · next hl =>
    obtain ⟨h1, h2, h3, h4⟩ := msg_whole h
    exact ⟨by omega, h1, h2, h3, fun R hR => by obtain ⟨p, q, hr⟩ := h4 R hR; exact ⟨recE_right hr, small_of (recE_right hr) (recE_nums hr).1⟩⟩
end Go.Proofs.Ytpmmjmnleoicjaa
