/- Frames out of bytes that come in pieces, as mathematics: what all bytes that came tell, and that pieces play no part. No program. -/
import Derived.Test.YtekcipmhljhelaaProg
import Derived.Test.YtekcipmhljhelaaBytes
import Derived.Test.YtekcipmhljhelaaNumBe
import Derived.Test.YtekcipmhljhelaaFrMath
import Derived.Test.YtekcipmhljhelaaFrBack
namespace Go.Proofs.Ytekcipmhljhelaa.Fd
open Go Bytes Fr

/-- The frames at the front, the code, how many bytes are left; at most k frames are looked for. -/
def go : Nat → List UInt8 → List Frm × Nat × Nat
  | 0, l => ([], 0, l.length)
  | k + 1, l =>
    if (parseF (mk l)).2.2 = 3 then ([], 6, 0)
    else if (parseF (mk l)).2.2 ≠ 0 then ([], 0, l.length)
    else ((parseF (mk l)).1 :: (go k (l.drop (parseF (mk l)).2.1)).1, (go k (l.drop (parseF (mk l)).2.1)).2.1, (go k (l.drop (parseF (mk l)).2.1)).2.2)
def run (l : List UInt8) : List Frm × Nat × Nat := go (l.length + 1) l
/-- The preface. -/
def pre : List UInt8 := [80, 82, 73, 32, 42, 32, 72, 84, 84, 80, 47, 50, 46, 48, 13, 10, 13, 10, 83, 77, 13, 10, 13, 10]
/-- What all bytes tell, the preface wanted or not. -/
def all (q : Bool) (l : List UInt8) : List Frm × Nat × Nat :=
  if q = true then
    if l.take 24 = pre then run (l.drop 24)
    else if l = pre.take l.length then ([], 0, l.length)
    else ([], 1, 0)
  else run l

theorem parse_len {l : List UInt8} {f : Frm} {n : Nat} (h : parseF (mk l) = (f, n, 0)) : 9 ≤ n ∧ n ≤ l.length := by
  obtain ⟨_, _, _, _, _, h9, hn, _⟩ := back_print h
  rw [mk_size] at hn
  exact ⟨h9, hn⟩
/-- What is there is there whatever stands behind. -/
theorem gN_more {l : List UInt8} (M : List UInt8) {i n : Nat} (h : i + n ≤ l.length) : gN (mk (l ++ M)) i n = gN (mk l) i n := by
  unfold gN
  rw [mk_list, mk_list, List.drop_append_of_le_length (by omega), List.take_append_of_le_length (by rw [List.length_drop]; omega)]
theorem bN_more {l : List UInt8} (M : List UInt8) {i : Nat} (h : i < l.length) : bN (mk (l ++ M)) i = bN (mk l) i := by
  unfold bN
  rw [mk_list, mk_list, List.getD_eq_getElem?_getD, List.getD_eq_getElem?_getD, List.getElem?_append_left h]
theorem ext_more {l : List UInt8} (M : List UInt8) {i j : Nat} (h : j ≤ l.length) : (mk (l ++ M)).extract i j = (mk l).extract i j := by
  apply list_inj
  rw [extract_list, extract_list, mk_list, mk_list, List.take_append_of_le_length h]
theorem parse_code (s : ByteArray) : (parseF s).2.2 = 0 ∨ (parseF s).2.2 = 2 ∨ (parseF s).2.2 = 3 := by
  unfold parseF
  repeat' split
  · exact .inr (.inl rfl)
  · exact .inr (.inr rfl)
  · exact .inr (.inl rfl)
  · exact .inl rfl
theorem parse_more {l : List UInt8} (M : List UInt8) (h : (parseF (mk l)).2.2 ≠ 2) : parseF (mk (l ++ M)) = parseF (mk l) := by
  unfold parseF at h ⊢
  rw [mk_size, mk_size, List.length_append]
  rw [mk_size] at h
  by_cases h9 : l.length < 9
  · rw [if_pos h9] at h; exact absurd rfl h
  rw [if_neg h9] at h
  rw [if_neg (show ¬ l.length + M.length < 9 by omega), if_neg h9, gN_more M (i := 0) (n := 3) (by omega)]
  by_cases hb : 16384 < gN (mk l) 0 3
  · rw [if_pos hb, if_pos hb]
  rw [if_neg hb] at h
  rw [if_neg hb, if_neg hb]
  by_cases hs : l.length - 9 < gN (mk l) 0 3
  · rw [if_pos hs] at h; exact absurd rfl h
  rw [if_neg hs, if_neg (by omega), gN_more M (i := 5) (n := 4) (by omega), bN_more M (by omega), bN_more M (by omega), ext_more M (by omega)]
/-- More looks than there are frames tell nothing more. -/
theorem go_fuel : ∀ (k j : Nat) (l : List UInt8), l.length < k → l.length < j → go k l = go j l
  | 0, _, _, h, _ => absurd h (Nat.not_lt_zero _)
  | _ + 1, 0, _, _, h => absurd h (Nat.not_lt_zero _)
  | k + 1, j + 1, l, hk, hj => by
    unfold go
    by_cases h3 : (parseF (mk l)).2.2 = 3
    · rw [if_pos h3, if_pos h3]
    rw [if_neg h3, if_neg h3]
    by_cases h0 : (parseF (mk l)).2.2 ≠ 0
    · rw [if_pos h0, if_pos h0]
    rw [if_neg h0, if_neg h0]
    have h9 := parse_len (l := l) (f := (parseF (mk l)).1) (n := (parseF (mk l)).2.1) (by rw [← Decidable.not_not.1 h0])
    rw [go_fuel k j (l.drop (parseF (mk l)).2.1) (by rw [List.length_drop]; omega) (by rw [List.length_drop]; omega)]
theorem run_long {l : List UInt8} {f : Frm} {n : Nat} (h : parseF (mk l) = (f, n, 3)) : run l = ([], 6, 0) := by
  unfold run go
  rw [h]
  rfl
theorem run_short {l : List UInt8} {f : Frm} {n : Nat} (h : parseF (mk l) = (f, n, 2)) : run l = ([], 0, l.length) := by
  unfold run go
  rw [h]
  rfl
theorem run_one {l : List UInt8} {f : Frm} {n : Nat} (h : parseF (mk l) = (f, n, 0)) : run l = (f :: (run (l.drop n)).1, (run (l.drop n)).2.1, (run (l.drop n)).2.2) := by
  have h9 := parse_len h
  have e : run (l.drop n) = go l.length (l.drop n) := go_fuel _ _ _ (by omega) (by rw [List.length_drop]; omega)
  rw [e]
  unfold run
  rw [go, h]
  rfl
/-- By the length of what is there. -/
theorem run_ind {P : List UInt8 → Prop} (h3 : ∀ l f n, parseF (mk l) = (f, n, 3) → P l) (h2 : ∀ l f n, parseF (mk l) = (f, n, 2) → P l) (h1 : ∀ l f n, parseF (mk l) = (f, n, 0) → 9 ≤ n → n ≤ l.length → P (l.drop n) → P l) : ∀ l, P l := by
  have key : ∀ k l, l.length < k → P l := by
    intro k
    induction k with
    | zero => intro l h; exact absurd h (Nat.not_lt_zero _)
    | succ k ih =>
      intro l hl
      obtain ⟨⟨f, n, c⟩, hp⟩ : ∃ z, parseF (mk l) = z := ⟨_, rfl⟩
      have hc := parse_code (mk l)
      rw [hp] at hc
      rcases hc with hc | hc | hc
      · have hc : c = 0 := hc
        subst hc
        have h9 := parse_len hp
        exact h1 l f n hp h9.1 h9.2 (ih _ (by rw [List.length_drop]; omega))
      · have hc : c = 2 := hc
        subst hc
        exact h2 l f n hp
      · have hc : c = 3 := hc
        subst hc
        exact h3 l f n hp
  exact fun l => key (l.length + 1) l (Nat.lt_succ_self _)
/-- What is left is the end of what came, and fewer bytes than a frame and its head. -/
theorem run_held : ∀ l, (run l).2.2 ≤ l.length ∧ (run l).2.2 < 16393 := by
  apply run_ind
  · intro l f n h; rw [run_long h]; exact ⟨Nat.zero_le _, by decide⟩
  · intro l f n h
    rw [run_short h]
    refine ⟨Nat.le_refl _, ?_⟩
    show l.length < 16393
    unfold parseF at h
    rw [mk_size] at h
    split at h
    · omega
    · split at h
      · injection h with _ h; injection h with _ h; exact absurd h (by decide)
      · split at h
        · omega
        · injection h with _ h; injection h with _ h; exact absurd h (by decide)
  · intro l f n h h9 hn ih
    rw [run_one h]
    rw [List.length_drop] at ih
    exact ⟨by show (run (l.drop n)).2.2 ≤ l.length; omega, ih.2⟩
theorem run_code : ∀ l, (run l).2.1 = 0 ∨ ((run l).2.1 = 6 ∧ (run l).2.2 = 0) := by
  apply run_ind
  · intro l f n h; rw [run_long h]; exact .inr ⟨rfl, rfl⟩
  · intro l f n h; rw [run_short h]; exact .inl rfl
  · intro l f n h _ _ ih; rw [run_one h]; exact ih
/-- Two pieces: what the first one leaves stands ahead of the second. -/
theorem run_more (M : List UInt8) : ∀ l, run (l ++ M) = if (run l).2.1 ≠ 0 then run l else ((run l).1 ++ (run (l.drop (l.length - (run l).2.2) ++ M)).1, (run (l.drop (l.length - (run l).2.2) ++ M)).2.1, (run (l.drop (l.length - (run l).2.2) ++ M)).2.2) := by
  apply run_ind
  · intro l f n h
    have h2 := parse_more M (l := l) (by rw [h]; show (3 : Nat) ≠ 2; decide)
    rw [run_long h, run_long (h2.trans h), if_pos (by decide)]
  · intro l f n h
    rw [run_short h, if_neg (show ¬ (0 : Nat) ≠ 0 by decide)]
    show run (l ++ M) = _
    rw [Nat.sub_self, List.drop_zero, List.nil_append]
  · intro l f n h h9 hn ih
    have h2 := parse_more M (l := l) (by rw [h]; show (0 : Nat) ≠ 2; decide)
    rw [run_one (h2.trans h), List.drop_append_of_le_length hn, ih, run_one h]
    have hh := (run_held (l.drop n)).1
    rw [List.length_drop] at hh
    by_cases hc : (run (l.drop n)).2.1 ≠ 0
    · rw [if_pos hc, if_pos hc]
    · rw [if_neg hc, if_neg hc]
      have e : (l.drop n).drop ((l.drop n).length - (run (l.drop n)).2.2) = l.drop (l.length - (run (l.drop n)).2.2) := by
        rw [List.drop_drop, List.length_drop]
        congr 1
        omega
      rw [e]
      rfl
/-- Printed frames, one behind the other. -/
def bytesF : List Frm → List UInt8
  | [] => []
  | f :: L => (printF f).1 ++ bytesF L
theorem run_nil : run [] = ([], 0, 0) := by kernel_rfl
theorem run_back : ∀ L : List Frm, (∀ f ∈ L, Okf f ∧ (printF f).2 = 0) → run (bytesF L) = (L, 0, 0)
  | [], _ => run_nil
  | f :: L, h => by
    have hf := h f (List.mem_cons_self ..)
    have hp : printF f = ((printF f).1, 0) := by rw [← hf.2]
    have hb := (back_parse hf.1 hp (bytesF L)).1
    rw [bytesF, run_one hb, List.drop_left, run_back L (fun g hg => h g (List.mem_cons_of_mem _ hg))]
theorem bytesF_cat : ∀ (A B : List Frm), bytesF (A ++ B) = bytesF A ++ bytesF B
  | [], _ => rfl
  | f :: A, B => by rw [List.cons_append, bytesF, bytesF_cat A B, bytesF, List.append_assoc]
theorem pre_len : pre.length = 24 := rfl
/-- Is the preface still wanted behind these bytes? -/
def still (q : Bool) (l : List UInt8) : Bool := q && decide (l.take 24 ≠ pre)
theorem all_code (q : Bool) (l : List UInt8) : (all q l).2.1 = 0 ∨ ((all q l).2.1 ≠ 0 ∧ (all q l).2.1 ≤ 6 ∧ (all q l).2.2 = 0) := by
  unfold all
  have h1 := run_code l
  have h2 := run_code (l.drop 24)
  split
  · split
    · rcases h2 with h | h
      · exact .inl h
      · exact .inr ⟨by omega, by omega, h.2⟩
    · split
      · exact .inl rfl
      · exact .inr ⟨by decide, by decide, rfl⟩
  · rcases h1 with h | h
    · exact .inl h
    · exact .inr ⟨by omega, by omega, h.2⟩
theorem all_held (q : Bool) (l : List UInt8) : (all q l).2.2 ≤ l.length ∧ (all q l).2.2 < 16393 := by
  unfold all
  have h1 := run_held l
  have h2 := run_held (l.drop 24)
  rw [List.length_drop] at h2
  split
  · split
    · exact ⟨by omega, h2.2⟩
    · split
      · next h3 h4 =>
        refine ⟨Nat.le_refl _, ?_⟩
        have := congrArg List.length h4
        rw [List.length_take, pre_len] at this
        show l.length < 16393
        omega
      · exact ⟨Nat.zero_le _, by decide⟩
  · exact h1
theorem take_more {l M : List UInt8} (h : 24 ≤ l.length) : (l ++ M).take 24 = l.take 24 := List.take_append_of_le_length h
theorem len_of_pre {l : List UInt8} (h : l.take 24 = pre) : 24 ≤ l.length := by
  have := congrArg List.length h
  rw [List.length_take, pre_len] at this
  omega
theorem all_off (l : List UInt8) : all false l = run l := by unfold all; rw [if_neg (by decide)]
/-- Two pieces. -/
theorem all_more (q : Bool) (l M : List UInt8) : all q (l ++ M) = if (all q l).2.1 ≠ 0 then all q l else ((all q l).1 ++ (all (still q l) (l.drop (l.length - (all q l).2.2) ++ M)).1, (all (still q l) (l.drop (l.length - (all q l).2.2) ++ M)).2.1, (all (still q l) (l.drop (l.length - (all q l).2.2) ++ M)).2.2) := by
  cases q with
  | false =>
    have e3 : still false l = false := by unfold still; rw [Bool.false_and]
    rw [e3, all_off, all_off, all_off]
    exact run_more M l
  | true =>
    by_cases h1 : l.take 24 = pre
    · have h24 := len_of_pre h1
      have e1 : all true l = run (l.drop 24) := by unfold all; rw [if_pos rfl, if_pos h1]
      have e2 : all true (l ++ M) = run (l.drop 24 ++ M) := by unfold all; rw [if_pos rfl, take_more h24, if_pos h1, List.drop_append_of_le_length h24]
      have e3 : still true l = false := by unfold still; rw [Bool.true_and]; exact decide_eq_false (by simp [h1])
      have hh := (run_held (l.drop 24)).1
      rw [List.length_drop] at hh
      rw [e1, e2, e3, all_off, run_more M (l.drop 24)]
      have e : (l.drop 24).drop ((l.drop 24).length - (run (l.drop 24)).2.2) = l.drop (l.length - (run (l.drop 24)).2.2) := by
        rw [List.drop_drop, List.length_drop]
        congr 1
        omega
      rw [e]
    · have e3 : still true l = true := by unfold still; rw [Bool.true_and]; exact decide_eq_true h1
      by_cases h2 : l = pre.take l.length
      · have e1 : all true l = ([], 0, l.length) := by unfold all; rw [if_pos rfl, if_neg h1, if_pos h2]
        rw [e1, if_neg (show ¬ (0 : Nat) ≠ 0 by decide), e3]
        show all true (l ++ M) = _
        rw [Nat.sub_self, List.drop_zero, List.nil_append]
      · have e1 : all true l = ([], 1, 0) := by unfold all; rw [if_pos rfl, if_neg h1, if_neg h2]
        rw [e1, if_pos (by decide)]
        have h3 : ¬ (l ++ M).take 24 = pre := fun h => by
          rcases Nat.lt_or_ge l.length 24 with hl | hl
          · refine h2 ?_
            rw [← h, List.take_take, Nat.min_eq_left (by omega), List.take_left]
          · rw [take_more hl] at h; exact h1 h
        have h4 : ¬ l ++ M = pre.take (l ++ M).length := fun h => by
          refine h2 ?_
          have h5 := congrArg (List.take l.length) h
          rw [List.take_left, List.take_take, Nat.min_eq_left (by rw [List.length_append]; omega)] at h5
          exact h5
        unfold all
        rw [if_pos rfl, if_neg h3, if_neg h4]
/-- A feed: is the preface wanted, what is held, is it down? -/
structure FSt where
  want : Bool
  held : List UInt8
  down : Bool
/-- Bytes come: the frames, the code, the feed behind it. -/
def add (S : FSt) (s : List UInt8) : List Frm × Nat × FSt :=
  if S.down = true then ([], 0, S)
  else if (all S.want (S.held ++ s)).2.1 ≠ 0 then ((all S.want (S.held ++ s)).1, (all S.want (S.held ++ s)).2.1, ⟨still S.want (S.held ++ s), [], true⟩)
  else ((all S.want (S.held ++ s)).1, 0, ⟨still S.want (S.held ++ s), (S.held ++ s).drop ((S.held ++ s).length - (all S.want (S.held ++ s)).2.2), false⟩)
/-- So many bytes came to a feed that was made so, and told these frames, this code. -/
structure Came (q : Bool) (l : List UInt8) (S : FSt) (fs : List Frm) (c : Nat) : Prop where
  frames : (all q l).1 = fs
  code : (all q l).2.1 = c
  held : S.held.length = (all q l).2.2
  down : S.down = decide (c ≠ 0)
  rest : c = 0 → S.held = l.drop (l.length - (all q l).2.2) ∧ S.want = still q l
theorem all_nil (q : Bool) : all q [] = ([], 0, 0) := by
  cases q
  · exact run_nil
  · kernel_rfl
theorem came_new (q : Bool) : Came q [] ⟨q, [], false⟩ [] 0 := by
  refine ⟨by rw [all_nil], by rw [all_nil], by rw [all_nil]; rfl, rfl, fun _ => ⟨by rw [List.drop_nil], ?_⟩⟩
  cases q <;> kernel_rfl
/-- Behind more bytes. -/
theorem came_add {q : Bool} {l s : List UInt8} {S S' : FSt} {fs gs : List Frm} {c d : Nat} (h : Came q l S fs c) (ha : add S s = (gs, d, S')) : Came q (l ++ s) S' (fs ++ gs) (max c d) ∧ (c ≠ 0 → gs = [] ∧ d = 0 ∧ S' = S) := by
  unfold add at ha
  have hm := all_more q l s
  by_cases hc : c = 0
  · have hd : S.down = false := by rw [h.down]; exact decide_eq_false (by simp [hc])
    obtain ⟨hr, hw⟩ := h.rest hc
    rw [hd, if_neg (by decide), hr, hw] at ha
    rw [h.code, if_neg (by simp [hc])] at hm
    obtain ⟨A, hA⟩ : ∃ A, l.drop (l.length - (all q l).2.2) ++ s = A := ⟨_, rfl⟩
    rw [hA] at ha hm
    refine ⟨?_, fun hn => absurd hc hn⟩
    subst hc
    rw [Nat.zero_max]
    have hlA : A.length = (all q l).2.2 + s.length := by
      rw [← hA, List.length_append, List.length_drop]
      have := (all_held q l).1
      omega
    have hst : still (still q l) A = still q (l ++ s) ∨ (all (still q l) A).2.1 ≠ 0 := by
      cases q with
      | false => exact .inl rfl
      | true =>
        by_cases h1 : l.take 24 = pre
        · have h24 := len_of_pre h1
          left
          unfold still
          rw [take_more h24, h1]
          simp
        · by_cases h2 : l = pre.take l.length
          · left
            have e1 : all true l = ([], 0, l.length) := by unfold all; rw [if_pos rfl, if_neg h1, if_pos h2]
            have : A = l ++ s := by rw [← hA, e1, Nat.sub_self, List.drop_zero]
            rw [this]
            unfold still
            rw [decide_eq_true h1]
            simp
          · exfalso
            have e1 : all true l = ([], 1, 0) := by unfold all; rw [if_pos rfl, if_neg h1, if_neg h2]
            have := h.code
            rw [e1] at this
            exact absurd this (by decide)
    by_cases h0 : (all (still q l) A).2.1 ≠ 0
    · rw [if_pos h0] at ha
      injection ha with e1 e2
      injection e2 with e2 e3
      subst e1 e2 e3
      have h00 := (all_code (still q l) A).resolve_left h0
      exact ⟨by rw [hm, h.frames], by rw [hm], by rw [hm]; exact h00.2.2.symm, by rw [decide_eq_true h0], fun e => absurd e h0⟩
    · rw [if_neg h0] at ha
      have h0 := Decidable.not_not.1 h0
      injection ha with e1 e2
      injection e2 with e2 e3
      subst e1 e2 e3
      have hle := (all_held (still q l) A).1
      refine ⟨by rw [hm, h.frames], by rw [hm]; exact h0, ?_, rfl, fun _ => ⟨?_, ?_⟩⟩
      · rw [hm]
        show (A.drop (A.length - (all (still q l) A).2.2)).length = (all (still q l) A).2.2
        rw [List.length_drop]
        omega
      · rw [hm]
        show A.drop (A.length - (all (still q l) A).2.2) = (l ++ s).drop ((l ++ s).length - (all (still q l) A).2.2)
        have hl := (all_held q l).1
        have e : A = (l ++ s).drop (l.length - (all q l).2.2) := by rw [← hA, List.drop_append_of_le_length (by omega)]
        rw [hlA]
        rw [e, List.drop_drop, List.length_append]
        congr 1
        rw [hlA] at hle
        rw [← e]
        omega
      · rcases hst with h | h
        · exact h
        · exact absurd h0 h
  · have hd : S.down = true := by rw [h.down]; exact decide_eq_true hc
    rw [if_pos hd] at ha
    injection ha with e1 e2
    injection e2 with e2 e3
    subst e1 e2 e3
    rw [h.code, if_pos hc] at hm
    refine ⟨?_, fun _ => ⟨rfl, rfl, rfl⟩⟩
    rw [List.append_nil, Nat.max_eq_left (Nat.zero_le _)]
    exact ⟨by rw [hm]; exact h.frames, by rw [hm]; exact h.code, by rw [hm]; exact h.held, h.down, fun e => absurd e hc⟩
end Go.Proofs.Ytekcipmhljhelaa.Fd
