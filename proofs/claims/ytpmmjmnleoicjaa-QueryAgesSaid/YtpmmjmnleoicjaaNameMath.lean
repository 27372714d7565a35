/- Domain names as lists of bytes: labels and the bytes in which they are sent, their texts, and how a text is read. No program, no condition. -/
import Derived.Test.YtpmmjmnleoicjaaBytes
import Derived.Test.YtpmmjmnleoicjaaLowMath
namespace Go.Proofs.Ytpmmjmnleoicjaa.NameMath
open Go Bytes Low

/-- Labels, each with its length ahead of it. -/
def wire : List (List UInt8) → List UInt8
  | [] => []
  | l :: L => UInt8.ofNat l.length :: (l ++ wire L)
def nameL (L : List (List UInt8)) : List UInt8 := wire L ++ [0]
def okLab (l : List UInt8) : Bool := decide (1 ≤ l.length ∧ l.length ≤ 63)
theorem okLab_iff {l : List UInt8} : okLab l = true ↔ 1 ≤ l.length ∧ l.length ≤ 63 := by unfold okLab; exact decide_eq_true_iff
theorem okLab_no {l : List UInt8} (h : ¬ (1 ≤ l.length ∧ l.length ≤ 63)) : okLab l = false := decide_eq_false h

/-- The labels that bytes tell, however many these are. -/
def lbs : List UInt8 → Option (List (List UInt8))
  | [] => none
  | n :: r => if n.toNat = 0 then (if r.length = 0 then some [] else none) else if 63 < n.toNat ∨ r.length < n.toNat then none else (lbs (r.drop n.toNat)).map (r.take n.toNat :: ·)
  termination_by s => s.length
  decreasing_by simp only [List.length_drop, List.length_cons]; omega
theorem lbs_nil : lbs [] = none := by rw [lbs]
theorem lbs_zero {n : UInt8} {r : List UInt8} (h : n.toNat = 0) : lbs (n :: r) = if r.length = 0 then some [] else none := by rw [lbs, if_pos h]
theorem lbs_bad {n : UInt8} {r : List UInt8} (h : n.toNat ≠ 0) (h2 : 63 < n.toNat ∨ r.length < n.toNat) : lbs (n :: r) = none := by rw [lbs, if_neg h, if_pos h2]
theorem lbs_more {n : UInt8} {r : List UInt8} (h : n.toNat ≠ 0) (h2 : n.toNat ≤ 63) (h3 : n.toNat ≤ r.length) : lbs (n :: r) = (lbs (r.drop n.toNat)).map (r.take n.toNat :: ·) := by
  rw [lbs, if_neg h, if_neg (by omega)]

theorem ofNat_len {l : List UInt8} (h : okLab l = true) : (UInt8.ofNat l.length).toNat = l.length := by
  have := okLab_iff.1 h
  rw [UInt8.toNat_ofNat']
  have e : (2 : Nat) ^ 8 = 256 := rfl
  omega
theorem lbs_name {L : List (List UInt8)} (h : L.all okLab = true) : lbs (nameL L) = some L := by
  induction L with
  | nil => unfold nameL wire; rw [List.nil_append, lbs_zero rfl]; rfl
  | cons l L ih =>
    rw [List.all_cons, Bool.and_eq_true] at h
    have hl := okLab_iff.1 h.1
    have e := ofNat_len h.1
    unfold nameL wire
    rw [List.cons_append, lbs_more (by omega) (by omega) (by rw [e]; simp only [List.length_append]; omega), e, List.append_assoc, List.drop_left, List.take_left]
    show (lbs (nameL L)).map _ = _
    rw [ih h.2]
    rfl
theorem name_lbs {s : List UInt8} : ∀ {L : List (List UInt8)}, lbs s = some L → nameL L = s ∧ L.all okLab = true := by
  fun_induction lbs s with
  | case1 => intro L h; cases h
  | case2 n r h0 h1 =>
    intro L h
    injection h with h
    subst h
    have : r = [] := List.length_eq_zero_iff.1 h1
    subst this
    have : n = 0 := UInt8.toNat_inj.1 h0
    subst this
    exact ⟨rfl, rfl⟩
  | case3 n r h0 h1 => intro L h; cases h
  | case4 n r h0 h1 => intro L h; cases h
  | case5 n r h0 h1 ih =>
    intro L h
    obtain ⟨M, hM, rfl⟩ := Option.map_eq_some_iff.1 h
    obtain ⟨i1, i2⟩ := ih hM
    have hlen : (r.take n.toNat).length = n.toNat := by rw [List.length_take]; omega
    refine ⟨?_, ?_⟩
    · unfold nameL wire
      rw [hlen, UInt8.ofNat_toNat, List.cons_append, List.append_assoc]
      show n :: (r.take n.toNat ++ nameL M) = n :: r
      rw [i1, List.take_append_drop]
    · rw [List.all_cons, i2, okLab_iff.2 (by omega)]
      rfl

/-- The labels of a name. -/
def labels (s : List UInt8) : Option (List (List UInt8)) := if s.length ≤ 255 then lbs s else none
def isN (s : List UInt8) : Bool := (labels s).isSome
def labL (s : List UInt8) : List (List UInt8) := (labels s).getD []
theorem labels_some {s : List UInt8} {L : List (List UInt8)} (h : labels s = some L) : nameL L = s ∧ L.all okLab = true ∧ s.length ≤ 255 := by
  unfold labels at h
  by_cases hs : s.length ≤ 255
  · rw [if_pos hs] at h
    exact ⟨(name_lbs h).1, (name_lbs h).2, hs⟩
  · rw [if_neg hs] at h
    cases h
theorem labels_name {L : List (List UInt8)} (h : L.all okLab = true) (h2 : (nameL L).length ≤ 255) : labels (nameL L) = some L := by
  unfold labels
  rw [if_pos h2, lbs_name h]
theorem isN_some {s : List UInt8} (h : isN s = true) : ∃ L, labels s = some L := Option.isSome_iff_exists.1 h
theorem isN_none {s : List UInt8} (h : isN s = false) : labels s = none := by
  unfold isN at h
  cases hl : labels s with
  | none => rfl
  | some L => rw [hl] at h; cases h
theorem isN_of {s : List UInt8} {L : List (List UInt8)} (h : labels s = some L) : isN s = true := by unfold isN; rw [h]; rfl

/-- What Make says of labels: 0, ErrLabel or ErrName. -/
def makeE (L : List (List UInt8)) : Nat := if L.all okLab = true then (if (nameL L).length ≤ 255 then 0 else 40) else 41
def makeL (L : List (List UInt8)) : List UInt8 := if makeE L = 0 then nameL L else []
theorem makeE_41 {L : List (List UInt8)} (h : L.all okLab = false) : makeE L = 41 := by unfold makeE; rw [if_neg (by rw [h]; decide)]
theorem makeE_40 {L : List (List UInt8)} (h : L.all okLab = true) (h2 : 255 < (nameL L).length) : makeE L = 40 := by unfold makeE; rw [if_pos h, if_neg (by omega)]
theorem makeE_0 {L : List (List UInt8)} (h : L.all okLab = true) (h2 : (nameL L).length ≤ 255) : makeE L = 0 := by unfold makeE; rw [if_pos h, if_pos h2]
theorem makeE_ok {L : List (List UInt8)} (h : makeE L = 0) : L.all okLab = true ∧ (nameL L).length ≤ 255 := by
  by_cases h1 : L.all okLab = true
  · by_cases h2 : (nameL L).length ≤ 255
    · exact ⟨h1, h2⟩
    · rw [makeE_40 h1 (by omega)] at h; cases h
  · rw [makeE_41 (Bool.eq_false_iff.2 h1)] at h; cases h
theorem makeL_no {L : List (List UInt8)} (h : makeE L ≠ 0) : makeL L = [] := if_neg h
theorem makeL_ok {L : List (List UInt8)} (h : makeE L = 0) : makeL L = nameL L := if_pos h
theorem make_labels {s : List UInt8} {L : List (List UInt8)} (h : labels s = some L) : makeE L = 0 ∧ makeL L = s := by
  obtain ⟨h1, h2, h3⟩ := labels_some h
  have e : makeE L = 0 := makeE_0 h2 (by rw [h1]; exact h3)
  exact ⟨e, by rw [makeL_ok e, h1]⟩
theorem labels_make {L : List (List UInt8)} (h : makeE L = 0) : labels (makeL L) = some L := by
  obtain ⟨h1, h2⟩ := makeE_ok h
  rw [makeL_ok h]
  exact labels_name h1 h2
theorem makeE_or (L : List (List UInt8)) : makeE L = 0 ∨ makeE L = 40 ∨ makeE L = 41 := by
  unfold makeE
  split
  · split
    · exact Or.inl rfl
    · exact Or.inr (Or.inl rfl)
  · exact Or.inr (Or.inr rfl)

theorem wire_append (A B : List (List UInt8)) : wire (A ++ B) = wire A ++ wire B := by
  induction A with
  | nil => rfl
  | cons l A ih => simp only [List.cons_append, wire, ih, List.append_assoc]
theorem wire_one (l : List UInt8) : wire [l] = UInt8.ofNat l.length :: l := by simp [wire]
theorem wire_snoc (A : List (List UInt8)) (l : List UInt8) : wire (A ++ [l]) = wire A ++ UInt8.ofNat l.length :: l := by rw [wire_append, wire_one]
theorem wire_len_snoc (A : List (List UInt8)) (l : List UInt8) : (wire (A ++ [l])).length = (wire A).length + (1 + l.length) := by
  rw [wire_snoc, List.length_append, List.length_cons]; omega
theorem nameL_len (L : List (List UInt8)) : (nameL L).length = (wire L).length + 1 := by unfold nameL; rw [List.length_append]; rfl
theorem wire_take_le (L : List (List UInt8)) (k : Nat) : (wire (L.take k)).length ≤ (wire L).length := by
  have := congrArg (fun l => (wire l).length) (List.take_append_drop k L)
  simp only [wire_append, List.length_append] at this
  omega
theorem lab_take {L : List (List UInt8)} {k : Nat} (h : k < L.length) : L.take (k + 1) = L.take k ++ [L.getD k []] := by
  rw [List.take_succ_eq_append_getElem h, List.getD_eq_getElem?_getD, List.getElem?_eq_getElem h]
  rfl
theorem lab_drop {L : List (List UInt8)} {k : Nat} (h : k < L.length) : L.drop k = L.getD k [] :: L.drop (k + 1) := by
  rw [List.drop_eq_getElem_cons h, List.getD_eq_getElem?_getD, List.getElem?_eq_getElem h]
  rfl
theorem all_take {L : List (List UInt8)} {k : Nat} {p : List UInt8 → Bool} (h : (L.take k).all p = true) (hk : k < L.length) (h2 : p (L.getD k []) = true) : (L.take (k + 1)).all p = true := by
  rw [lab_take hk, List.all_append, h, Bool.true_and, List.all_cons, h2]
  rfl
theorem all_no {L : List (List UInt8)} {k : Nat} {p : List UInt8 → Bool} (hk : k < L.length) (h2 : p (L.getD k []) = false) : L.all p = false := by
  rw [List.all_eq_false]
  refine ⟨L.getD k [], ?_, by rw [h2]; simp⟩
  rw [List.getD_eq_getElem?_getD, List.getElem?_eq_getElem hk]
  exact List.getElem_mem hk
theorem wire_take_snoc {L : List (List UInt8)} {k : Nat} (h : k < L.length) : wire (L.take (k + 1)) = wire (L.take k) ++ UInt8.ofNat (L.getD k []).length :: L.getD k [] := by rw [lab_take h, wire_snoc]
theorem wire_take_all {L : List (List UInt8)} {k : Nat} (h : L.length ≤ k) : wire (L.take k) = wire L := by rw [List.take_of_length_le h]

/-! Folded names. -/
def lowLs (L : List (List UInt8)) : List (List UInt8) := L.map lowL
theorem low_len (l : List UInt8) : (lowL l).length = l.length := List.length_map ..
theorem low_app (a b : List UInt8) : lowL (a ++ b) = lowL a ++ lowL b := List.map_append ..
theorem lowB_small {c : UInt8} (h : c.toNat ≤ 64) : lowB c = c := lowB_no (by omega)
theorem okLab_low (l : List UInt8) : okLab (lowL l) = okLab l := by unfold okLab; rw [low_len]
theorem all_low (L : List (List UInt8)) : (lowLs L).all okLab = L.all okLab := by
  induction L with
  | nil => rfl
  | cons l L ih =>
    show ((lowL l :: lowLs L).all okLab) = _
    rw [List.all_cons, List.all_cons, okLab_low, ih]
theorem wire_low {L : List (List UInt8)} (h : L.all okLab = true) : wire (lowLs L) = lowL (wire L) := by
  induction L with
  | nil => rfl
  | cons l L ih =>
    rw [List.all_cons, Bool.and_eq_true] at h
    have hl := okLab_iff.1 h.1
    show UInt8.ofNat (lowL l).length :: (lowL l ++ wire (lowLs L)) = lowL (UInt8.ofNat l.length :: (l ++ wire L))
    rw [low_len, ih h.2]
    show _ = lowB _ :: lowL (l ++ wire L)
    rw [low_app, lowB_small (by rw [ofNat_len h.1]; omega)]
theorem name_low {L : List (List UInt8)} (h : L.all okLab = true) : nameL (lowLs L) = lowL (nameL L) := by
  unfold nameL
  rw [wire_low h, low_app]
  rfl
theorem labels_low {s : List UInt8} {L : List (List UInt8)} (h : labels s = some L) : labels (lowL s) = some (lowLs L) := by
  obtain ⟨h1, h2, h3⟩ := labels_some h
  rw [← h1, ← name_low h2]
  refine labels_name (by rw [all_low]; exact h2) ?_
  rw [name_low h2, low_len, h1]
  exact h3
theorem isN_low {s : List UInt8} (h : isN s = true) : isN (lowL s) = true := by
  obtain ⟨L, hL⟩ := isN_some h
  exact isN_of (labels_low hL)
/-- Fold of bytes: nothing of what is no name. -/
def foldN (s : List UInt8) : List UInt8 := if isN s = true then lowL s else []
def sameN (a b : List UInt8) : Bool := isN a && (isN b && decide (lowL a = lowL b))
theorem fold_make {s : List UInt8} {L : List (List UInt8)} (h : labels s = some L) : makeL (lowLs L) = lowL s := (make_labels (labels_low h)).2
theorem foldN_yes {s : List UInt8} (h : isN s = true) : foldN s = lowL s := if_pos h
theorem foldN_no {s : List UInt8} (h : isN s = false) : foldN s = [] := if_neg (by rw [h]; decide)

/-! Zones. -/
def underL (A B : List (List UInt8)) : Bool := decide (B.length ≤ A.length ∧ lowLs (A.drop (A.length - B.length)) = lowLs B)
def underN (a b : List UInt8) : Bool := isN a && (isN b && underL (labL a) (labL b))
theorem lowLs_len (L : List (List UInt8)) : (lowLs L).length = L.length := List.length_map ..
theorem labL_of {s : List UInt8} {L : List (List UInt8)} (h : labels s = some L) : labL s = L := by unfold labL; rw [h]; rfl
theorem labL_no {s : List UInt8} (h : isN s = false) : labL s = [] := by unfold labL; rw [isN_none h]; rfl
theorem underN_of {a b : List UInt8} {A B : List (List UInt8)} (ha : labels a = some A) (hb : labels b = some B) : underN a b = underL A B := by
  unfold underN
  rw [isN_of ha, isN_of hb, labL_of ha, labL_of hb]
  rfl
theorem sameN_of {a b : List UInt8} {A B : List (List UInt8)} (ha : labels a = some A) (hb : labels b = some B) : sameN a b = decide (lowLs A = lowLs B) := by
  unfold sameN
  rw [isN_of ha, isN_of hb]
  have e : (lowL a = lowL b) = (lowLs A = lowLs B) := by
    refine propext ⟨fun h => ?_, fun h => ?_⟩
    · have h1 := labels_low ha
      rw [h, labels_low hb] at h1
      injection h1 with h1
      exact h1.symm
    · rw [← fold_make ha, ← fold_make hb, h]
  simp only [e, Bool.true_and]
theorem underL_self (A : List (List UInt8)) : underL A A = true := decide_eq_true ⟨Nat.le_refl _, by rw [Nat.sub_self]; rfl⟩
theorem underL_root (A : List (List UInt8)) : underL A [] = true := decide_eq_true ⟨Nat.zero_le _, by rw [List.length_nil, Nat.sub_zero, List.drop_length]⟩
theorem underL_both {A B : List (List UInt8)} (h : underL A B = true) : underL B A = decide (lowLs A = lowLs B) := by
  obtain ⟨h1, h2⟩ := of_decide_eq_true h
  unfold underL
  refine decide_eq_decide.2 ⟨fun ⟨h3, h4⟩ => ?_, fun h3 => ?_⟩
  · rw [show B.length - A.length = 0 by omega] at h4
    exact h4.symm
  · have e := congrArg List.length h3
    rw [lowLs_len, lowLs_len] at e
    refine ⟨by omega, ?_⟩
    rw [show B.length - A.length = 0 by omega]
    exact h3.symm
theorem underL_cons (l : List UInt8) (A : List (List UInt8)) : underL (l :: A) A = true := decide_eq_true ⟨by simp only [List.length_cons]; omega, by
  rw [List.length_cons, show A.length + 1 - A.length = 1 by omega]; rfl⟩
theorem underL_not (l : List UInt8) (A : List (List UInt8)) : underL A (l :: A) = false := decide_eq_false (fun h => by have := h.1; simp only [List.length_cons] at this; omega)
theorem underL_more {A B : List (List UInt8)} (l : List UInt8) (h : underL A B = true) : underL (l :: A) B = true := by
  obtain ⟨h1, h2⟩ := of_decide_eq_true h
  refine decide_eq_true ⟨by simp only [List.length_cons]; omega, ?_⟩
  rw [List.length_cons, show A.length + 1 - B.length = (A.length - B.length) + 1 by omega]
  exact h2
theorem labels_root : labels [0] = some [] := by
  unfold labels
  rw [if_pos (by decide), lbs_zero rfl]
  rfl
theorem nil_root {s : List UInt8} (h : labels s = some []) : s = [0] := (labels_some h).1.symm
end Go.Proofs.Ytpmmjmnleoicjaa.NameMath
