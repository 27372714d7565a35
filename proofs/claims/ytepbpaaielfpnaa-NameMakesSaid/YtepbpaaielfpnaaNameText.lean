/- Texts of domain names, over lists of bytes: how a byte is shown, which byte a text tells first, how a text is read. No program, no condition. -/
import Derived.Test.YtepbpaaielfpnaaBytes
import Derived.Test.YtepbpaaielfpnaaNameMath
namespace Go.Proofs.Ytepbpaaielfpnaa.NameMath
open Go Bytes

/-- A byte of a label as it is shown. -/
def sp (c : UInt8) : List UInt8 :=
  if c.toNat = 46 ∨ c.toNat = 92 then [92, c]
  else if c.toNat < 33 ∨ 126 < c.toNat then [92, UInt8.ofNat (48 + c.toNat / 100), UInt8.ofNat (48 + c.toNat / 10 % 10), UInt8.ofNat (48 + c.toNat % 10)]
  else [c]
theorem sp_esc {c : UInt8} (h : c.toNat = 46 ∨ c.toNat = 92) : sp c = [92, c] := if_pos h
theorem sp_num {c : UInt8} (h : c.toNat < 33 ∨ 126 < c.toNat) : sp c = [92, UInt8.ofNat (48 + c.toNat / 100), UInt8.ofNat (48 + c.toNat / 10 % 10), UInt8.ofNat (48 + c.toNat % 10)] := by
  unfold sp; rw [if_neg (by omega), if_pos h]
theorem sp_plain {c : UInt8} (h1 : ¬ (c.toNat = 46 ∨ c.toNat = 92)) (h2 : ¬ (c.toNat < 33 ∨ 126 < c.toNat)) : sp c = [c] := by
  unfold sp; rw [if_neg h1, if_neg h2]
theorem sp_len (c : UInt8) : 1 ≤ (sp c).length ∧ (sp c).length ≤ 4 := by
  unfold sp
  split
  · exact ⟨by simp, by simp⟩
  · split
    · exact ⟨by simp, by simp⟩
    · exact ⟨by simp, by simp⟩
theorem sp_head (c : UInt8) : ∀ r, (sp c ++ r).getD 0 0 ≠ 46 := by
  intro r
  unfold sp
  split
  · simp
  · split
    · simp
    · rename_i h _
      simp only [List.cons_append, List.getD_cons_zero]
      intro e
      exact h (Or.inl (by rw [e]; rfl))
def txt (L : List (List UInt8)) : List UInt8 := L.flatMap fun l => l.flatMap sp ++ [46]
def textL (L : List (List UInt8)) : List UInt8 := if L = [] then [46] else txt L
def textN (s : List UInt8) : List UInt8 := match labels s with | some L => textL L | none => []
theorem textN_of {s : List UInt8} {L : List (List UInt8)} (h : labels s = some L) : textN s = textL L := by unfold textN; rw [h]
theorem textN_no {s : List UInt8} (h : isN s = false) : textN s = [] := by unfold textN; rw [isN_none h]
theorem txt_snoc (A : List (List UInt8)) (l : List UInt8) : txt (A ++ [l]) = txt A ++ (l.flatMap sp ++ [46]) := by simp [txt]
theorem txt_cons (l : List UInt8) (L : List (List UInt8)) : txt (l :: L) = (l.flatMap sp ++ [46]) ++ txt L := by simp [txt]
theorem flat_snoc (l : List UInt8) (c : UInt8) : (l ++ [c]).flatMap sp = l.flatMap sp ++ sp c := by simp
theorem flat_take {l : List UInt8} {k : Nat} (h : k < l.length) : (l.take (k + 1)).flatMap sp = (l.take k).flatMap sp ++ sp (l.getD k 0) := by rw [take_snoc h, flat_snoc]
theorem flat_len (l : List UInt8) : (l.flatMap sp).length ≤ 4 * l.length := by
  induction l with
  | nil => exact Nat.le_refl _
  | cons c l ih =>
    have := (sp_len c).2
    simp only [List.flatMap_cons, List.length_append, List.length_cons]
    omega
theorem txt_len (L : List (List UInt8)) : (txt L).length ≤ 4 * (wire L).length := by
  induction L with
  | nil => exact Nat.le_refl _
  | cons l L ih =>
    have := flat_len l
    rw [txt_cons]
    simp only [wire, List.length_append, List.length_cons, List.length_nil]
    omega
theorem txt_take_le (L : List (List UInt8)) (k : Nat) : (txt (L.take k)).length ≤ 4 * (wire L).length := by
  have h1 := txt_len (L.take k)
  have h2 := wire_take_le L k
  omega
theorem txt_take {L : List (List UInt8)} {k : Nat} (h : k < L.length) : txt (L.take (k + 1)) = txt (L.take k) ++ ((L.getD k []).flatMap sp ++ [46]) := by rw [lab_take h, txt_snoc]

/-- The byte that a text may tell first, and how many bytes stand for it. -/
def cand (t : List UInt8) : UInt8 × Nat :=
  if (t.getD 0 0).toNat ≠ 92 then (t.getD 0 0, 1)
  else if 4 ≤ t.length ∧ 48 ≤ (t.getD 1 0).toNat ∧ (t.getD 1 0).toNat ≤ 57 then
    (UInt8.ofNat (100 * ((t.getD 1 0).toNat + 208) + 10 * ((t.getD 2 0).toNat + 208) + ((t.getD 3 0).toNat + 208)), 4)
  else if 2 ≤ t.length then (t.getD 1 0, 2)
  else (t.getD 0 0, 1)
def un (t : List UInt8) : Option UInt8 := if sp (cand t).1 = t.take (cand t).2 then some (cand t).1 else none
theorem cand_plain {t : List UInt8} (h : (t.getD 0 0).toNat ≠ 92) : cand t = (t.getD 0 0, 1) := if_pos h
theorem cand_num {t : List UInt8} (h : (t.getD 0 0).toNat = 92) (h2 : 4 ≤ t.length ∧ 48 ≤ (t.getD 1 0).toNat ∧ (t.getD 1 0).toNat ≤ 57) :
    cand t = (UInt8.ofNat (100 * ((t.getD 1 0).toNat + 208) + 10 * ((t.getD 2 0).toNat + 208) + ((t.getD 3 0).toNat + 208)), 4) := by
  unfold cand; rw [if_neg (by rw [h]; decide), if_pos h2]
theorem cand_esc {t : List UInt8} (h : (t.getD 0 0).toNat = 92) (h2 : ¬ (4 ≤ t.length ∧ 48 ≤ (t.getD 1 0).toNat ∧ (t.getD 1 0).toNat ≤ 57)) (h3 : 2 ≤ t.length) : cand t = (t.getD 1 0, 2) := by
  unfold cand; rw [if_neg (by rw [h]; decide), if_neg h2, if_pos h3]
theorem cand_last {t : List UInt8} (h : (t.getD 0 0).toNat = 92) (h3 : ¬ 2 ≤ t.length) : cand t = (t.getD 0 0, 1) := by
  unfold cand; rw [if_neg (by rw [h]; decide), if_neg (by omega), if_neg h3]
theorem un_yes {t : List UInt8} {c : UInt8} {n : Nat} (h : cand t = (c, n)) (h2 : sp c = t.take n) : un t = some c := by
  unfold un; rw [h]; exact if_pos h2
theorem un_no {t : List UInt8} {c : UInt8} {n : Nat} (h : cand t = (c, n)) (h2 : sp c ≠ t.take n) : un t = none := by
  unfold un; rw [h]; exact if_neg h2
theorem toNat_of {n : Nat} (h : n < 256) : (UInt8.ofNat n).toNat = n := by
  rw [UInt8.toNat_ofNat']
  have e : (2 : Nat) ^ 8 = 256 := rfl
  omega
/-- What stands for a byte tells just it. -/
theorem un_sp (c : UInt8) (r : List UInt8) : un (sp c ++ r) = some c := by
  have hc := c.toNat_lt
  by_cases h1 : c.toNat = 46 ∨ c.toNat = 92
  · rw [sp_esc h1]
    refine un_yes (n := 2) ?_ (by rw [sp_esc h1]; rfl)
    refine cand_esc rfl ?_ (by simp)
    intro h
    have h2 := h.2
    simp only [List.cons_append, List.getD_cons_zero, List.getD_cons_succ] at h2
    omega
  · by_cases h2 : c.toNat < 33 ∨ 126 < c.toNat
    · rw [sp_num h2]
      refine un_yes (n := 4) ?_ (by rw [sp_num h2]; rfl)
      have a1 := toNat_of (show 48 + c.toNat / 100 < 256 by omega)
      have a2 := toNat_of (show 48 + c.toNat / 10 % 10 < 256 by omega)
      have a3 := toNat_of (show 48 + c.toNat % 10 < 256 by omega)
      rw [cand_num rfl ?_]
      · simp only [List.cons_append, List.getD_cons_zero, List.getD_cons_succ, Prod.mk.injEq, and_true]
        apply UInt8.toNat_inj.1
        rw [UInt8.toNat_ofNat', a1, a2, a3]
        have e : (2 : Nat) ^ 8 = 256 := rfl
        have e2 : 100 * (c.toNat / 100) + 10 * (c.toNat / 10 % 10) + c.toNat % 10 = c.toNat := by
          have : c.toNat / 10 / 10 = c.toNat / 100 := Nat.div_div_eq_div_mul ..
          omega
        rw [e, show 100 * (48 + c.toNat / 100 + 208) + 10 * (48 + c.toNat / 10 % 10 + 208) + (48 + c.toNat % 10 + 208) = c.toNat + 256 * 111 by omega]
        omega
      · simp only [List.cons_append, List.getD_cons_zero, List.getD_cons_succ, List.length_cons]
        rw [a1]
        omega
    · rw [sp_plain h1 h2]
      refine un_yes (n := 1) ?_ (by rw [sp_plain h1 h2]; rfl)
      exact cand_plain (by simp only [List.cons_append, List.getD_cons_zero]; omega)
theorem un_pre {t : List UInt8} {c : UInt8} (h : un t = some c) : sp c ++ t.drop (sp c).length = t := by
  unfold un at h
  by_cases h2 : sp (cand t).1 = t.take (cand t).2
  · rw [if_pos h2] at h
    injection h with h
    rw [h] at h2
    have e : t.take (cand t).2 ++ t.drop (cand t).2 = t := List.take_append_drop _ _
    rw [← h2] at e
    have e3 : t.drop (sp c).length = t.drop (cand t).2 := by
      have h5 := congrArg List.length h2
      rw [List.length_take] at h5
      by_cases h4 : (cand t).2 ≤ t.length
      · rw [show (sp c).length = (cand t).2 by omega]
      · rw [List.drop_of_length_le (by omega), List.drop_of_length_le (by omega)]
    rw [e3]
    exact e
  · rw [if_neg h2] at h; cases h
theorem un_len {t : List UInt8} {c : UInt8} (h : un t = some c) : (sp c).length ≤ t.length := by
  have := congrArg List.length (un_pre h)
  rw [List.length_append] at this
  omega
theorem un_iff {t : List UInt8} {c : UInt8} : un t = some c ↔ (sp c).length ≤ t.length ∧ t.take (sp c).length = sp c := by
  refine ⟨fun h => ⟨un_len h, ?_⟩, fun ⟨h1, h2⟩ => ?_⟩
  · have h1 := un_pre h
    have h2 : t.take (sp c).length = (sp c ++ t.drop (sp c).length).take (sp c).length := by rw [h1]
    rw [h2, List.take_left]
  · have e : t = sp c ++ t.drop (sp c).length := by
      have := List.take_append_drop (sp c).length t
      rw [h2] at this
      exact this.symm
    rw [e]
    exact un_sp c _

/-- What is still to be read: labels so far, the bytes of one that is begun. -/
def rd (L : List (List UInt8)) (cur : List UInt8) (t : List UInt8) : Option (List (List UInt8)) :=
  if t.length = 0 then (if cur.length = 0 ∧ L.length ≠ 0 then some L else none)
  else if (t.getD 0 0).toNat = 46 then (if cur.length = 0 then none else rd (L ++ [cur]) [] (t.drop 1))
  else match un t with
    | none => none
    | some c => rd L (cur ++ [c]) (t.drop (sp c).length)
  termination_by t.length
  decreasing_by
    · simp only [List.length_drop]; omega
    · simp only [List.length_drop]; have := sp_len c; omega
theorem rd_end {L : List (List UInt8)} {cur t : List UInt8} (h : t.length = 0) : rd L cur t = if cur.length = 0 ∧ L.length ≠ 0 then some L else none := by rw [rd, if_pos h]
theorem rd_dot {L : List (List UInt8)} {cur t : List UInt8} (h : t.length ≠ 0) (h2 : (t.getD 0 0).toNat = 46) (h3 : cur.length ≠ 0) : rd L cur t = rd (L ++ [cur]) [] (t.drop 1) := by
  rw [rd, if_neg h, if_pos h2, if_neg h3]
theorem rd_void {L : List (List UInt8)} {cur t : List UInt8} (h : t.length ≠ 0) (h2 : (t.getD 0 0).toNat = 46) (h3 : cur.length = 0) : rd L cur t = none := by
  rw [rd, if_neg h, if_pos h2, if_pos h3]
theorem rd_byte {L : List (List UInt8)} {cur t : List UInt8} {c : UInt8} (h : t.length ≠ 0) (h2 : (t.getD 0 0).toNat ≠ 46) (h3 : un t = some c) : rd L cur t = rd L (cur ++ [c]) (t.drop (sp c).length) := by
  rw [rd, if_neg h, if_neg h2]; simp only [h3]
theorem rd_bad {L : List (List UInt8)} {cur t : List UInt8} (h : t.length ≠ 0) (h2 : (t.getD 0 0).toNat ≠ 46) (h3 : un t = none) : rd L cur t = none := by
  rw [rd, if_neg h, if_neg h2]; simp only [h3]

/-- Read of a text's bytes: the labels, or none by its form. -/
def readO (t : List UInt8) : Option (List (List UInt8)) := if t = [46] then some [] else rd [] [] t
def readE (t : List UInt8) : Nat := match readO t with | some L => makeE L | none => 4
def readL (t : List UInt8) : List UInt8 := match readO t with | some L => makeL L | none => []
theorem readE_of {t : List UInt8} {L : List (List UInt8)} (h : readO t = some L) : readE t = makeE L := by unfold readE; rw [h]
theorem readL_of {t : List UInt8} {L : List (List UInt8)} (h : readO t = some L) : readL t = makeL L := by unfold readL; rw [h]
theorem readE_no {t : List UInt8} (h : readO t = none) : readE t = 4 := by unfold readE; rw [h]
theorem readL_no {t : List UInt8} (h : readO t = none) : readL t = [] := by unfold readL; rw [h]

theorem rd_label (L : List (List UInt8)) (l : List UInt8) : ∀ (cur r : List UInt8), rd L cur (l.flatMap sp ++ r) = rd L (cur ++ l) r := by
  induction l with
  | nil => intro cur r; rw [List.append_nil]; rfl
  | cons c l ih =>
    intro cur r
    have hn := sp_len c
    rw [List.flatMap_cons, List.append_assoc, rd_byte (c := c) (by rw [List.length_append]; omega) (fun h => sp_head c _ (UInt8.toNat_inj.1 h)) (un_sp c _), List.drop_left, ih, List.append_assoc]
    rfl
theorem rd_txt (L : List (List UInt8)) : ∀ A : List (List UInt8), L.all okLab = true → rd A [] (txt L) = if (A ++ L).length ≠ 0 then some (A ++ L) else none := by
  induction L with
  | nil =>
    intro A _
    rw [rd_end rfl, List.append_nil]
    simp
  | cons l L ih =>
    intro A h
    rw [List.all_cons, Bool.and_eq_true] at h
    have hl := okLab_iff.1 h.1
    rw [txt_cons, List.append_assoc, rd_label, List.nil_append, rd_dot (by simp) rfl (by omega)]
    show rd (A ++ [l]) [] (txt L) = _
    rw [ih _ h.2, List.append_assoc]
    rfl
theorem read_text {s : List UInt8} {L : List (List UInt8)} (h : labels s = some L) : readO (textL L) = some L := by
  obtain ⟨h1, h2, h3⟩ := labels_some h
  unfold readO textL
  by_cases hL : L = []
  · subst hL
    rfl
  · rw [if_neg hL, if_neg, rd_txt _ _ h2]
    · rw [List.nil_append, if_pos (fun h => hL (List.length_eq_zero_iff.1 h))]
    · intro e
      have e2 := congrArg List.length e
      cases L with
      | nil => exact hL rfl
      | cons l L =>
        rw [List.all_cons, Bool.and_eq_true] at h2
        have hl := okLab_iff.1 h2.1
        rw [txt_cons] at e2
        cases l with
        | nil => exact absurd hl.1 (by decide)
        | cons c l =>
          have := sp_len c
          simp only [List.flatMap_cons, List.length_append, List.length_cons, List.length_nil] at e2
          omega
theorem rd_back {L : List (List UInt8)} {cur t : List UInt8} : ∀ {M : List (List UInt8)}, rd L cur t = some M → txt L ++ (cur.flatMap sp ++ t) = txt M ∧ M ≠ [] := by
  fun_induction rd L cur t with
  | case1 L cur t h0 h1 =>
    intro M h
    injection h with h
    subst h
    obtain ⟨e1, e2⟩ := h1
    have : cur = [] := List.length_eq_zero_iff.1 e1
    subst this
    have : t = [] := List.length_eq_zero_iff.1 h0
    subst this
    exact ⟨by simp, fun e => e2 (by rw [e]; rfl)⟩
  | case2 => intro M h; cases h
  | case3 => intro M h; cases h
  | case4 L cur t h0 h1 h2 ih =>
    intro M h
    obtain ⟨i1, i2⟩ := ih h
    refine ⟨?_, i2⟩
    rw [← i1, txt_snoc]
    have e : t = 46 :: t.drop 1 := by
      cases t with
      | nil => exact absurd rfl h0
      | cons c t =>
        have : c = 46 := UInt8.toNat_inj.1 h1
        rw [this]
        rfl
    have e2 : cur.flatMap sp ++ t = cur.flatMap sp ++ 46 :: t.drop 1 := by rw [← e]
    rw [e2]
    simp
  | case5 => intro M h; cases h
  | case6 L cur t h0 h1 c hc ih =>
    intro M h
    obtain ⟨i1, i2⟩ := ih h
    refine ⟨?_, i2⟩
    rw [← i1, flat_snoc, List.append_assoc, un_pre hc]
theorem text_read {t : List UInt8} {L : List (List UInt8)} (h : readO t = some L) : textL L = t := by
  unfold readO at h
  by_cases ht : t = [46]
  · rw [if_pos ht] at h
    injection h with h
    subst h
    rw [ht]
    rfl
  · rw [if_neg ht] at h
    obtain ⟨h1, h2⟩ := rd_back h
    unfold textL
    rw [if_neg h2, ← h1]
    rfl
theorem back_read {s : List UInt8} (h : isN s = true) : readE (textN s) = 0 ∧ readL (textN s) = s := by
  obtain ⟨L, hL⟩ := isN_some h
  have h1 := read_text hL
  rw [textN_of hL, readE_of h1, readL_of h1]
  exact make_labels hL
theorem back_text {t : List UInt8} (h : readE t = 0) : isN (readL t) = true ∧ textN (readL t) = t := by
  cases hr : readO t with
  | none => rw [readE_no hr] at h; cases h
  | some L =>
    rw [readE_of hr] at h
    rw [readL_of hr]
    have h1 := labels_make h
    exact ⟨isN_of h1, by rw [textN_of h1, text_read hr]⟩
theorem back_no {t : List UInt8} (h : readE t ≠ 0) : readL t = [] := by
  cases hr : readO t with
  | none => exact readL_no hr
  | some L =>
    rw [readE_of hr] at h
    rw [readL_of hr, makeL_no h]
theorem readE_or (t : List UInt8) : readE t = 0 ∨ readE t = 4 ∨ readE t = 40 ∨ readE t = 41 := by
  cases hr : readO t with
  | none => exact Or.inr (Or.inl (readE_no hr))
  | some L =>
    rw [readE_of hr]
    rcases makeE_or L with h | h | h
    · exact Or.inl h
    · exact Or.inr (Or.inr (Or.inl h))
    · exact Or.inr (Or.inr (Or.inr h))
end Go.Proofs.Ytepbpaaielfpnaa.NameMath
