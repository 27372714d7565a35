/- A record as the code reads it: the data by its type, one behind the other. No program, no condition. -/
import Derived.Test.YtngbifdenbfepaaBytes
import Derived.Test.YtngbifdenbfepaaNmMath
import Derived.Test.YtngbifdenbfepaaNumBe
import Derived.Test.YtngbifdenbfepaaRecMath
import Derived.Test.YtngbifdenbfepaaMsgMath
import Derived.Test.YtngbifdenbfepaaStMath
namespace Go.Proofs.Ytngbifdenbfepaa.DatMath
open Go Bytes NmMath RecMath MsgMath StMath

/-- The next number of so many bytes. -/
def numE (l : List UInt8) (E size p : Nat) : Except Nat (Nat × Nat) := if p + size ≤ E then .ok (nu l p size, p + size) else .error 50
/-- The next name. -/
def nameE (l : List UInt8) (E kind p : Nat) : Except Nat (List UInt8 × Nat) :=
  if ends l E p = false then .error 50 else if kind = 33 then bare l E 50 p [] else nm l E 50 p p none []
/-- A text of so many bytes. -/
def partE (l : List UInt8) (E n p : Nat) : Except Nat (List (List UInt8) × Nat) := if p + n ≤ E then .ok ([cut l p n], p + n) else .error 50
/-- The next text behind its length. -/
def measE (l : List UInt8) (E p : Nat) : Except Nat (List UInt8 × Nat) := if p < E ∧ p + 1 + bt l p ≤ E then .ok (cut l (p + 1) (bt l p), p + 1 + bt l p) else .error 50
/-- Texts up to the end, behind those in front. -/
def txtE (l : List UInt8) (E : Nat) (out : List (List UInt8)) (p : Nat) : Except Nat (List (List UInt8) × Nat) :=
  if p < E then
    if p + 1 + bt l p ≤ E then txtE l E (out ++ [cut l (p + 1) (bt l p)]) (p + 1 + bt l p) else .error 50
  else .ok (out, p)
  termination_by E - p
  decreasing_by omega
/-- The texts that a type has. -/
def textsE (l : List UInt8) (E kind p : Nat) : Except Nat (List (List UInt8) × Nat) :=
  if kind = 1 then partE l E 4 p
  else if kind = 28 then partE l E 16 p
  else if kind = 16 then (if p < E then txtE l E [] p else .error 50)
  else .ok ([cut l p (E - p)], E)
section
variable {l : List UInt8} {E size n kind p q : Nat} {out : List (List UInt8)}
theorem numE_ok (h : p + size ≤ E) : numE l E size p = .ok (nu l p size, p + size) := if_pos h
theorem numE_no (h : E < p + size) : numE l E size p = .error 50 := if_neg (by omega)
theorem nameE_no (h : ends l E p = false) : nameE l E kind p = .error 50 := if_pos h
theorem nameE_bare (h : ends l E p = true) (hk : kind = 33) : nameE l E kind p = bare l E 50 p [] := by unfold nameE; rw [if_neg (by rw [h]; decide), if_pos hk]
theorem nameE_nm (h : ends l E p = true) (hk : kind ≠ 33) : nameE l E kind p = nm l E 50 p p none [] := by unfold nameE; rw [if_neg (by rw [h]; decide), if_neg hk]
theorem partE_ok (h : p + n ≤ E) : partE l E n p = .ok ([cut l p n], p + n) := if_pos h
theorem partE_no (h : E < p + n) : partE l E n p = .error 50 := if_neg (by omega)
theorem measE_ok (h : p < E) (h2 : p + 1 + bt l p ≤ E) : measE l E p = .ok (cut l (p + 1) (bt l p), p + 1 + bt l p) := if_pos ⟨h, h2⟩
theorem measE_no (h : E < p + 1 + bt l p) : measE l E p = .error 50 := if_neg (by omega)
theorem txtE_end (h : E ≤ p) : txtE l E out p = .ok (out, p) := by rw [txtE, if_neg (by omega)]
theorem txtE_more {t : List UInt8} (h : p < E) (hm : measE l E p = .ok (t, q)) : txtE l E out p = txtE l E (out ++ [t]) q := by
  unfold measE at hm
  split at hm
  · next h2 =>
    injection hm with hm
    injection hm with h3 h4
    subst h3; subst h4
    rw [txtE, if_pos h, if_pos h2.2]
  · cases hm
theorem txtE_err {k : Nat} (h : p < E) (hm : measE l E p = .error k) : txtE l E out p = .error k := by
  unfold measE at hm
  split at hm
  · cases hm
  · next h2 =>
    injection hm with hm
    subst hm
    rw [txtE, if_pos h, if_neg (by omega)]
theorem measE_at {t : List UInt8} (hm : measE l E p = .ok (t, q)) : p < q ∧ q ≤ E ∧ t.length ≤ 255 := by
  unfold measE at hm
  split at hm
  · next h2 =>
    injection hm with hm
    injection hm with h3 h4
    subst h3; subst h4
    refine ⟨by omega, h2.2, ?_⟩
    unfold cut
    rw [List.length_take]
    have := bt_lt l p
    omega
  · cases hm
end
/-- What a record has beside its head. -/
structure Body where
  names : List (List UInt8)
  nums : List Nat
  texts : List (List UInt8)
/-- The texts, and what is left. -/
def endE (l : List UInt8) (E kind : Nat) (nms : List (List UInt8)) (ns : List Nat) (p : Nat) : Except Nat Body :=
  if 0 < shC kind then
    match textsE l E kind p with
    | .error k => .error k
    | .ok (L, q) => if q < E then .error 50 else .ok ⟨nms, ns, L⟩
  else if p < E then .error 50 else .ok ⟨nms, ns, []⟩
/-- The data of a type, that begins at p and ends at E. -/
def bodyE (l : List UInt8) (E kind p : Nat) : Except Nat Body :=
  if kind = 6 then
    match many (nameE l E 6) 2 p with
    | .error k => .error k
    | .ok (nms, q) =>
      match many (numE l E 4) 5 q with
      | .error k => .error k
      | .ok (ns, r) => endE l E 6 nms ns r
  else
    match many (numE l E 2) (shB kind) p with
    | .error k => .error k
    | .ok (ns, q) =>
      match many (nameE l E kind) (shA kind) q with
      | .error k => .error k
      | .ok (nms, r) => endE l E kind nms ns r
/-- Behind the data: its time may be too great. -/
def lateE (n : List UInt8) (kind cls ttl E : Nat) : Except Nat Body → Except Nat (Rec × Nat)
  | .error k => .error k
  | .ok D => if 2147483647 < ttl ∧ kind ≠ 41 then .error 1 else .ok (⟨n, kind, cls, ttl, D.names, D.nums, D.texts⟩, E)
/-- Behind the name: the head, then the data. -/
def headE (l : List UInt8) (n : List UInt8) (q : Nat) : Except Nat (Rec × Nat) :=
  if q + 10 ≤ l.length then
    if q + 10 + nu l (q + 8) 2 ≤ l.length then
      lateE n (nu l q 2) (nu l (q + 2) 2) (nu l (q + 4) 4) (q + 10 + nu l (q + 8) 2) (bodyE l (q + 10 + nu l (q + 8) 2) (nu l q 2) (q + 10))
    else .error 2
  else .error 2
/-- The record at a place. -/
def recE (l : List UInt8) (p : Nat) : Except Nat (Rec × Nat) :=
  match nm l l.length 2 p p none [] with
  | .error k => .error k
  | .ok (n, q) => headE l n q
theorem recE_err {l : List UInt8} {p k : Nat} (h : nm l l.length 2 p p none [] = .error k) : recE l p = .error k := by unfold recE; rw [h]
theorem recE_ok {l o : List UInt8} {p q : Nat} (h : nm l l.length 2 p p none [] = .ok (o, q)) : recE l p = headE l o q := by unfold recE; rw [h]
theorem headE_short {l o : List UInt8} {q : Nat} (h : l.length < q + 10) : headE l o q = .error 2 := if_neg (by omega)
theorem headE_cut {l o : List UInt8} {q : Nat} (h : q + 10 ≤ l.length) (h2 : l.length < q + 10 + nu l (q + 8) 2) : headE l o q = .error 2 := by unfold headE; rw [if_pos h, if_neg (by omega)]
theorem headE_ok {l o : List UInt8} {q : Nat} (h : q + 10 ≤ l.length) (h2 : q + 10 + nu l (q + 8) 2 ≤ l.length) : headE l o q = lateE o (nu l q 2) (nu l (q + 2) 2) (nu l (q + 4) 4) (q + 10 + nu l (q + 8) 2) (bodyE l (q + 10 + nu l (q + 8) 2) (nu l q 2) (q + 10)) := by unfold headE; rw [if_pos h, if_pos h2]
theorem recE_next {l : List UInt8} {p q : Nat} {R : Rec} (h : recE l p = .ok (R, q)) : q ≤ l.length := by
  unfold recE at h
  split at h
  · cases h
  · next n q0 hn =>
    unfold headE at h
    split at h
    · split at h
      · next h2 =>
        unfold lateE at h
        split at h
        · cases h
        · split at h
          · cases h
          · injection h with h
            injection h with _ h
            omega
      · cases h
    · cases h
end Go.Proofs.Ytngbifdenbfepaa.DatMath
