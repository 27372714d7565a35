/- What the laws on texts speak of, over lists of bytes: folding, signs of tokens, values, media types, decimal numbers. -/
import Derived.Lib.Strings
import Derived.Lib.CutLaws
import Derived.Lib.IndexLaws
import Derived.Lib.SlTrimSet
import Derived.Lib.ItoaNum
import Derived.Lib.Hide
namespace Go.Proofs.YtpbbeeggblmneaaDoor.TextMath
open Go

/-- A text of these bytes. -/
def mk (l : List UInt8) : ByteArray := ⟨l.toArray⟩
theorem mk_list (l : List UInt8) : (mk l).data.toList = l := rfl
theorem mk_size (l : List UInt8) : (mk l).size = l.length := by
  rw [Lib.size_eq, mk_list]
theorem list_inj {s t : ByteArray} (h : s.data.toList = t.data.toList) : s = t := ByteArray.ext (Array.toList_inj.1 h)
theorem mk_data (s : ByteArray) : mk s.data.toList = s := list_inj rfl
theorem cat_list (s t : ByteArray) : (s ++ t).data.toList = s.data.toList ++ t.data.toList := by rw [ByteArray.data_append, Array.toList_append]
theorem eq_toList {s t : ByteArray} : (s.toList == t.toList) = decide (s = t) := by
  rw [Lib.toList_data, Lib.toList_data]
  by_cases h : s = t
  · subst h; simp
  · have : s.data.toList ≠ t.data.toList := fun e => h (list_inj e)
    rw [decide_eq_false h]
    exact beq_eq_false_iff_ne.2 this
theorem ne_toList {s t : ByteArray} (h : s ≠ t) : (s.toList == t.toList) = false := by rw [eq_toList]; simp [h]

/-- A letter A to Z as a to z. -/
def lowB (c : UInt8) : UInt8 := if 65 ≤ c.toNat ∧ c.toNat ≤ 90 then c + 32 else c
theorem lowB_up {c : UInt8} (h1 : 65 ≤ c.toNat) (h2 : c.toNat ≤ 90) : (lowB c).toNat = c.toNat + 32 := by
  unfold lowB
  rw [if_pos ⟨h1, h2⟩, UInt8.toNat_add]
  show (c.toNat + 32) % 256 = _
  omega
theorem lowB_no {c : UInt8} (h : ¬ (65 ≤ c.toNat ∧ c.toNat ≤ 90)) : lowB c = c := if_neg h
theorem lowB_low (c : UInt8) : lowB (lowB c) = lowB c := by
  by_cases h : 65 ≤ c.toNat ∧ c.toNat ≤ 90
  · exact lowB_no (by rw [lowB_up h.1 h.2]; omega)
  · rw [lowB_no h, lowB_no h]
def lowL (l : List UInt8) : List UInt8 := l.map lowB
theorem lowL_low (l : List UInt8) : lowL (lowL l) = lowL l := by simp [lowL, lowB_low]
def foldS (s : ByteArray) : ByteArray := mk (lowL s.data.toList)
theorem foldS_size (s : ByteArray) : (foldS s).size = s.size := by rw [foldS, mk_size, lowL, List.length_map, ← Lib.size_eq]
theorem foldS_fold (s : ByteArray) : foldS (foldS s) = foldS s := by unfold foldS; rw [mk_list, lowL_low]
theorem foldS_cat (s t : ByteArray) : foldS (s ++ t) = foldS s ++ foldS t := by
  apply list_inj
  rw [cat_list]
  simp only [foldS, mk_list, cat_list, lowL, List.map_append]

theorem byte_all {p q : UInt8 → Bool} (h : ((List.range 256).all fun i => p (UInt8.ofNat i) == q (UInt8.ofNat i)) = true) (c : UInt8) : p c = q c := by
  have := List.all_eq_true.1 h c.toNat (List.mem_range.2 c.toNat_lt)
  rw [UInt8.ofNat_toNat] at this
  exact eq_of_beq this
/-- Is a byte one from a to b? -/
def inB (a b : Nat) (c : UInt8) : Bool := decide (a ≤ c.toNat ∧ c.toNat ≤ b)
/-- May a byte stand in a token? -/
def signB (c : UInt8) : Bool :=
  inB 48 57 c || inB 65 90 c || inB 97 122 c || inB 33 33 c || inB 35 39 c || inB 42 43 c || inB 45 46 c || inB 94 96 c || inB 124 124 c || inB 126 126 c
def moreL : List UInt8 := [33, 35, 36, 37, 38, 39, 42, 43, 45, 46, 94, 95, 96, 124, 126]
theorem signB_more (c : UInt8) : signB c = (moreL.contains c || inB 48 57 c || inB 65 90 c || inB 97 122 c) := byte_all (q := fun c => moreL.contains c || inB 48 57 c || inB 65 90 c || inB 97 122 c) (by decide +kernel) c
def tokB (l : List UInt8) : Bool := l.all signB && !l.isEmpty
theorem tokB_cat (a b : List UInt8) : tokB (a ++ b) = (tokB a && tokB b || (tokB a && b.isEmpty || a.isEmpty && tokB b)) := by
  unfold tokB
  cases a with
  | nil => cases b <;> simp
  | cons x a =>
    cases b with
    | nil => simp
    | cons y b => simp [Bool.and_assoc]

/-- Is a byte 9 or 32? -/
def blankB (c : UInt8) : Bool := inB 9 9 c || inB 32 32 c
def blanks : List UInt8 := [9, 32]
theorem blank_contains (c : UInt8) : blanks.contains c = blankB c := byte_all (p := fun c => blanks.contains c) (by decide +kernel) c
/-- May a byte stand in a value? -/
def valB (c : UInt8) : Bool := inB 9 9 c || inB 32 126 c || inB 128 255 c
theorem valB_no (c : UInt8) : valB c = !(!inB 9 9 c && !inB 32 126 c && decide (c.toNat < 128)) := byte_all (q := fun c => !(!inB 9 9 c && !inB 32 126 c && decide (c.toNat < 128))) (by decide +kernel) c
/-- Neither end is blank. -/
def endsB (l : List UInt8) : Bool := l.head?.all (fun c => !blankB c) && l.getLast?.all (fun c => !blankB c)
theorem endsB_iff {l : List UInt8} : endsB l = true ↔ (∀ c, l.head? = some c → blankB c = false) ∧ ∀ c, l.getLast? = some c → blankB c = false := by
  unfold endsB
  cases h : l.head? <;> cases h' : l.getLast? <;> simp
def trimL (l : List UInt8) : List UInt8 := Lib.trimS l blanks
def valueB (l : List UInt8) : Bool := l.all valB && endsB l

theorem dropWhile_self {p : UInt8 → Bool} {l : List UInt8} (h : l.dropWhile p = l) : ∀ c, l.head? = some c → p c = false := by
  intro c hc
  cases l with
  | nil => cases hc
  | cons b l =>
    simp only [List.head?_cons, Option.some.injEq] at hc
    subst hc
    cases hp : p b with
    | false => rfl
    | true =>
      rw [List.dropWhile_cons_of_pos hp] at h
      have h1 := (List.dropWhile_suffix (l := l) p).length_le
      rw [h, List.length_cons] at h1
      omega
theorem trimL_self {l : List UInt8} : trimL l = l ↔ endsB l = true := by
  rw [endsB_iff]
  constructor
  · intro h
    unfold trimL Lib.trimS Lib.trimLeftS at h
    have s1 := List.dropWhile_suffix (l := Lib.trimRightS l blanks) (blanks.contains ·)
    have s2 : ((l.reverse.dropWhile (blanks.contains ·)).length ≤ l.reverse.length) := (List.dropWhile_suffix _).length_le
    have l1 := s1.length_le
    rw [h] at l1
    have hR : l.reverse.dropWhile (blanks.contains ·) = l.reverse := by
      refine (List.dropWhile_suffix _).eq_of_length ?_
      unfold Lib.trimRightS at l1
      rw [List.length_reverse] at l1 s2
      rw [List.length_reverse]
      omega
    have hR' : Lib.trimRightS l blanks = l := by unfold Lib.trimRightS; rw [hR, List.reverse_reverse]
    rw [hR'] at h
    refine ⟨fun c hc => ?_, fun c hc => ?_⟩
    · rw [← blank_contains]; exact dropWhile_self h c hc
    · rw [← blank_contains]; exact dropWhile_self hR c (by rw [List.head?_reverse]; exact hc)
  · intro ⟨h1, h2⟩
    have hR : Lib.trimRightS l blanks = l := by
      have := Lib.trimRightS_take l blanks l.length (Nat.le_refl _) (fun j b hj hb => by rw [List.getElem?_eq_none hj] at hb; cases hb) (fun b hp hb => by
        rw [blank_contains]; exact h2 b (by rw [List.getLast?_eq_getElem?]; exact hb))
      rw [this, List.take_length]
    unfold trimL Lib.trimS
    rw [hR]
    have := Lib.trimLeftS_drop l blanks 0 (Nat.zero_le _) (fun j b hj => absurd hj (Nat.not_lt_zero _)) (fun b hb => by
      rw [blank_contains]; exact h1 b (by rw [List.head?_eq_getElem?]; exact hb))
    rw [this, List.drop_zero]

/-- What stands ahead of the first semicolon. -/
def kindL (l : List UInt8) : List UInt8 := l.takeWhile (· != 59)
theorem kindL_take (l : List UInt8) : l.take (kindL l).length = kindL l := (List.prefix_iff_eq_take.1 (List.takeWhile_prefix _)).symm
theorem kindL_of {l : List UInt8} {k : Nat} (hk : k ≤ l.length) (h1 : ∀ j c, j < k → l[j]? = some c → c ≠ 59) (h2 : ∀ c, l[k]? = some c → c = 59) : kindL l = l.take k := by
  induction l generalizing k with
  | nil => simp [kindL]
  | cons b l ih =>
    cases k with
    | zero =>
      have : b = 59 := h2 b rfl
      subst this
      simp [kindL]
    | succ k =>
      have hb : b ≠ 59 := h1 0 b (by omega) rfl
      have := ih (k := k) (by simpa using hk) (fun j c hj hc => h1 (j + 1) c (by omega) (by simpa using hc)) (fun c hc => h2 c (by simpa using hc))
      unfold kindL at this ⊢
      rw [List.takeWhile_cons_of_pos (by simpa using hb), this, List.take_succ_cons]
theorem index_semi (l : List UInt8) : Lib.index l [59] = -1 ∧ kindL l = l ∨ ∃ k : Nat, Lib.index l [59] = k ∧ kindL l = l.take k := by
  induction l with
  | nil => exact .inl ⟨rfl, rfl⟩
  | cons b l ih =>
    by_cases hb : b = 59
    · subst hb
      exact .inr ⟨0, by simp [Lib.index], by simp [kindL]⟩
    · have hp : ([59] : List UInt8).isPrefixOf (b :: l) = false := by simp [List.isPrefixOf, Ne.symm hb]
      have hk : kindL (b :: l) = b :: kindL l := List.takeWhile_cons_of_pos (by simpa using hb)
      rcases ih with ⟨h, e⟩ | ⟨k, h, e⟩
      · exact .inl ⟨by simp [Lib.index, hp, h], by rw [hk, e]⟩
      · refine .inr ⟨k + 1, ?_, by rw [hk, e, List.take_succ_cons]⟩
        have : ¬ ((k : Int) = -1) := by omega
        simp [Lib.index, hp, h, this]
theorem cut_semi (l : List UInt8) : (Lib.cut l [59]).1 = kindL l := by
  unfold Lib.cut
  rcases index_semi l with ⟨h, e⟩ | ⟨k, h, e⟩
  · rw [h, e]; simp
  · rw [h, e]; simp
def mediaS (s : ByteArray) : ByteArray := mk (lowL (trimL (kindL s.data.toList)))

/-- The document's two ends are the trimmed text's. -/
theorem trimL_of {l : List UInt8} {f e : Nat} (hfe : f ≤ e) (he : e ≤ l.length) (h1 : ∀ j c, j < f → l[j]? = some c → blankB c = true) (h2 : ∀ j c, e ≤ j → l[j]? = some c → blankB c = true)
    (h3 : f = l.length ∨ ∀ c, l[f]? = some c → blankB c = false) (h4 : e = f ∨ ∀ c, l[e - 1]? = some c → blankB c = false) : trimL l = (l.take e).drop f := by
  unfold trimL Lib.trimS
  by_cases hf : f = l.length
  · subst hf
    have h0 := Lib.trimRightS_take l blanks 0 (Nat.zero_le _) (fun j b _ hb => by
      rw [blank_contains]
      have hj : j < l.length := by
        rcases Nat.lt_or_ge j l.length with h | h
        · exact h
        · rw [List.getElem?_eq_none h] at hb; cases hb
      exact h1 j b hj hb) (fun b h => absurd h (Nat.lt_irrefl _))
    rw [h0, List.take_zero, Lib.trimLeftS_nil, List.drop_of_length_le (by rw [List.length_take]; omega)]
  · have h3' : ∀ c, l[f]? = some c → blankB c = false := h3.resolve_left hf
    have hlt : f < l.length := by omega
    have hfe' : f < e := by
      rcases Nat.lt_or_ge f e with h | h
      · exact h
      · have a := h2 f l[f] h (List.getElem?_eq_getElem hlt)
        have b := h3' l[f] (List.getElem?_eq_getElem hlt)
        rw [a] at b; cases b
    have h4' := h4.resolve_left (by omega)
    have hr := Lib.trimRightS_take l blanks e he (fun j b hj hb => by rw [blank_contains]; exact h2 j b hj hb) (fun b _ hb => by rw [blank_contains]; exact h4' b hb)
    rw [hr]
    refine Lib.trimLeftS_drop (l.take e) blanks f (by rw [List.length_take]; omega) (fun j b hj hb => ?_) (fun b hb => ?_)
    · rw [List.getElem?_take_of_lt (by omega)] at hb
      rw [blank_contains]; exact h1 j b hj hb
    · rw [List.getElem?_take_of_lt (by omega)] at hb
      rw [blank_contains]; exact h3' b hb

/-- The number of decimal digits. -/
def dval (l : List UInt8) : Nat := l.foldl (fun n c => 10 * n + (c.toNat - 48)) 0
theorem dval_snoc (l : List UInt8) (c : UInt8) : dval (l ++ [c]) = 10 * dval l + (c.toNat - 48) := by simp [dval, List.foldl_append]
def digitB (c : UInt8) : Bool := inB 48 57 c
theorem digitB_iff {c : UInt8} : digitB c = true ↔ 48 ≤ c.toNat ∧ c.toNat ≤ 57 := by simp [digitB, inB]
theorem snoc_rec {p : List UInt8 → Prop} (h0 : p []) (h1 : ∀ l c, p l → p (l ++ [c])) (l : List UInt8) : p l := by
  have key : ∀ (n : Nat) (l : List UInt8), l.length = n → p l := by
    intro n
    induction n with
    | zero => intro l h; rw [List.length_eq_zero_iff.1 h]; exact h0
    | succ n ih =>
      intro l h
      rcases List.eq_nil_or_concat l with rfl | ⟨m, c, rfl⟩
      · exact h0
      · rw [List.concat_eq_append] at h ⊢
        exact h1 m c (ih m (by simpa using h))
  exact key _ l rfl
theorem all_snoc {p : UInt8 → Bool} {l : List UInt8} {c : UInt8} : (l ++ [c]).all p = true ↔ l.all p = true ∧ p c = true := by simp
theorem dval_lt (l : List UInt8) : l.all digitB = true → dval l < 10 ^ l.length := by
  induction l using snoc_rec with
  | h0 => intro _; simp [dval]
  | h1 l c ih =>
    intro h
    obtain ⟨ha, hc⟩ := all_snoc.1 h
    have := digitB_iff.1 hc
    have := ih ha
    rw [dval_snoc, List.length_append, List.length_singleton, Nat.pow_succ]
    omega
theorem ofNat_digit {c : UInt8} (h : digitB c = true) : UInt8.ofNat (48 + (c.toNat - 48)) = c := by
  have := digitB_iff.1 h
  apply UInt8.toNat_inj.1
  rw [UInt8.toNat_ofNat']
  omega
theorem dec_step {u : Nat} (h : ¬ u < 10) : Lib.decDigits u = Lib.decDigits (u / 10) ++ [UInt8.ofNat (48 + u % 10)] := by
  rw [Lib.decDigits, dif_neg h]
/-- No nought ahead. -/
def leadB (l : List UInt8) : Bool := decide (l.length ≤ 1) || !(l.head? == some 48)
theorem dval_pos (l : List UInt8) : l.all digitB = true → l ≠ [] → l.head? ≠ some 48 → 1 ≤ dval l := by
  induction l using snoc_rec with
  | h0 => intro _ h; exact absurd rfl h
  | h1 l c ih =>
    intro h _ hh
    obtain ⟨ha, hc⟩ := all_snoc.1 h
    rw [dval_snoc]
    cases l with
    | nil =>
      have hd := digitB_iff.1 hc
      have : c ≠ 48 := fun e => hh (by simp [e])
      have : c.toNat ≠ 48 := fun e => this (UInt8.toNat_inj.1 e)
      omega
    | cons b l =>
      have := ih ha (by simp) (by simpa using hh)
      omega
theorem dec_dval (l : List UInt8) : l.all digitB = true → l ≠ [] → leadB l = true → Lib.decDigits (dval l) = l := by
  induction l using snoc_rec with
  | h0 => intro _ h; exact absurd rfl h
  | h1 l c ih =>
    intro h _ hl
    obtain ⟨ha, hc⟩ := all_snoc.1 h
    have hd := digitB_iff.1 hc
    rw [dval_snoc]
    cases l with
    | nil =>
      have e : dval [] = 0 := rfl
      rw [e, Nat.mul_zero, Nat.zero_add, Lib.decDigits_one (by omega), ofNat_digit hc]
      rfl
    | cons b l =>
      have hh : (b :: l).head? ≠ some 48 := by
        have : b ≠ 48 := by simpa [leadB] using hl
        simpa using this
      have hp := dval_pos _ ha (by simp) hh
      have h10 : ¬ 10 * dval (b :: l) + (c.toNat - 48) < 10 := by omega
      rw [dec_step h10, show (10 * dval (b :: l) + (c.toNat - 48)) / 10 = dval (b :: l) from by omega, show (10 * dval (b :: l) + (c.toNat - 48)) % 10 = c.toNat - 48 from by omega,
        ofNat_digit hc, ih ha (by simp) (by simp only [leadB, Bool.or_eq_true]; exact .inr (by simpa using hh))]
theorem dec_ne_nil (u : Nat) : Lib.decDigits u ≠ [] := by
  intro h
  have := Lib.decDigits_length u
  have := Lib.nDigits_pos u
  rw [h] at *
  simp at *
  omega
theorem dec_head (u : Nat) (h : 1 ≤ u) : (Lib.decDigits u).head? ≠ some 48 := by
  induction u using Nat.strongRecOn with
  | _ u ih =>
    by_cases hu : u < 10
    · rw [Lib.decDigits_one hu]
      intro e
      simp only [List.head?_cons, Option.some.injEq] at e
      have := congrArg UInt8.toNat e
      rw [UInt8.toNat_ofNat'] at this
      have e48 : (48 : UInt8).toNat = 48 := rfl
      omega
    · rw [dec_step hu]
      have := ih (u / 10) (by omega) (by omega)
      cases hd : Lib.decDigits (u / 10) with
      | nil => exact absurd hd (dec_ne_nil _)
      | cons b l => rw [hd] at this; simpa using this
theorem dec_digits (u : Nat) : (Lib.decDigits u).all digitB = true := by
  have dg : ∀ k, k < 10 → digitB (UInt8.ofNat (48 + k)) = true := fun k hk => digitB_iff.2 (by rw [UInt8.toNat_ofNat']; omega)
  induction u using Nat.strongRecOn with
  | _ u ih =>
    by_cases hu : u < 10
    · rw [Lib.decDigits_one hu, List.all_cons, dg u hu]; rfl
    · rw [dec_step hu]
      exact all_snoc.2 ⟨ih (u / 10) (by omega), dg _ (by omega)⟩
theorem dval_dec (u : Nat) : dval (Lib.decDigits u) = u := by
  induction u using Nat.strongRecOn with
  | _ u ih =>
    by_cases hu : u < 10
    · rw [Lib.decDigits_one hu]
      simp only [dval, List.foldl_cons, List.foldl_nil, UInt8.toNat_ofNat']
      omega
    · rw [dec_step hu, dval_snoc, ih (u / 10) (by omega), UInt8.toNat_ofNat']
      omega
theorem dec_lead (u : Nat) : leadB (Lib.decDigits u) = true := by
  by_cases h : u = 0
  · subst h; rw [Lib.decDigits_one (by decide)]; rfl
  · have := dec_head u (by omega)
    simp only [leadB, Bool.or_eq_true]
    exact .inr (by simpa using this)
theorem dec_len_le {u : Nat} (h : u < 1000000000) : (Lib.decDigits u).length ≤ 9 := by
  rw [Lib.decDigits_length]
  by_cases h0 : u < 10
  · rw [Lib.nDigits_small h0]; omega
  by_cases h1 : u < 100
  · rw [Lib.nDigits_unique 1 u (by omega) (by omega)]; omega
  by_cases h2 : u < 1000
  · rw [Lib.nDigits_unique 2 u (by omega) (by omega)]; omega
  by_cases h3 : u < 10000
  · rw [Lib.nDigits_unique 3 u (by omega) (by omega)]; omega
  by_cases h4 : u < 100000
  · rw [Lib.nDigits_unique 4 u (by omega) (by omega)]; omega
  by_cases h5 : u < 1000000
  · rw [Lib.nDigits_unique 5 u (by omega) (by omega)]; omega
  by_cases h6 : u < 10000000
  · rw [Lib.nDigits_unique 6 u (by omega) (by omega)]; omega
  by_cases h7 : u < 100000000
  · rw [Lib.nDigits_unique 7 u (by omega) (by omega)]; omega
  · rw [Lib.nDigits_unique 8 u (by omega) (by omega)]; omega
theorem dec_len_gt {u : Nat} (h : 1000000000 ≤ u) : 9 < (Lib.decDigits u).length := by
  rw [Lib.decDigits_length]
  rcases Nat.lt_or_ge 9 (Lib.nDigits u) with h9 | h9
  · exact h9
  · have h1 := Lib.lt_pow_nDigits u
    have h2 : 10 ^ Lib.nDigits u ≤ 10 ^ 9 := Nat.pow_le_pow_right (by omega) h9
    omega

/-- What Decimal answers. -/
def decOk (l : List UInt8) (most : Int) : Bool := !l.isEmpty && decide (l.length ≤ 9) && leadB l && l.all digitB && decide ((dval l : Int) ≤ most)
def decN (l : List UInt8) (most : Int) : Int := if decOk l most = true then dval l else 0
/-- The document's own test: the number, written again, is the text. -/
theorem back_iff {l : List UInt8} (h : l.all digitB = true) : Lib.decDigits (dval l) = l ↔ (l ≠ [] ∧ leadB l = true) :=
  ⟨fun e => ⟨fun h0 => dec_ne_nil (dval l) (by rw [e, h0]), by rw [← e]; exact dec_lead _⟩, fun ⟨h1, h2⟩ => dec_dval l h h1 h2⟩
/-- What Number answers. -/
def numS (n : Int) : ByteArray := if n < 0 then mk [] else mk (Lib.decDigits n.toNat)
theorem num_neg {n : Int} (h : n < 0) : numS n = mk [] := if_pos h
theorem num_nat (n : Nat) : numS n = mk (Lib.decDigits n) := by
  unfold numS
  rw [if_neg (by omega)]
  rfl
theorem dec_of_num (n : Int) : decOk (numS n).data.toList 999999999 = decide (0 ≤ n ∧ n ≤ 999999999) ∧ (decOk (numS n).data.toList 999999999 = true → decN (numS n).data.toList 999999999 = n) := by
  by_cases h : n < 0
  · rw [num_neg h, mk_list]
    have : ¬ (0 ≤ n ∧ n ≤ 999999999) := by omega
    refine ⟨by rw [decide_eq_false this]; rfl, fun e => by cases e⟩
  · obtain ⟨u, rfl⟩ := Int.eq_ofNat_of_zero_le (show 0 ≤ n by omega)
    have e : (numS (u : Int)).data.toList = Lib.decDigits u := by rw [num_nat, mk_list]
    have hne := dec_ne_nil u
    by_cases hu : u < 1000000000
    · have h9 := dec_len_le hu
      have ok : decOk (Lib.decDigits u) 999999999 = true := by
        unfold decOk
        rw [dec_lead, dec_digits, dval_dec]
        simp [hne, h9]
        omega
      rw [e]
      refine ⟨?_, fun _ => ?_⟩
      · rw [ok, decide_eq_true]; omega
      · unfold decN; rw [if_pos ok, dval_dec]
    · have h9 := dec_len_gt (show 1000000000 ≤ u by omega)
      have ok : decOk (Lib.decDigits u) 999999999 = false := by
        unfold decOk
        have : ¬ (Lib.decDigits u).length ≤ 9 := by omega
        simp [this]
      rw [e, ok]
      refine ⟨?_, fun h => by cases h⟩
      rw [decide_eq_false]; omega
end Go.Proofs.YtpbbeeggblmneaaDoor.TextMath
