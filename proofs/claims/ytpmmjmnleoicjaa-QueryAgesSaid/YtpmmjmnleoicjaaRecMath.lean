/- Records: their types' shapes, what is right, the plain bytes of their data, and what these tell. No program, no condition. -/
import Derived.Test.YtpmmjmnleoicjaaBytes
import Derived.Test.YtpmmjmnleoicjaaNameMath
import Derived.Test.YtpmmjmnleoicjaaNumBe
namespace Go.Proofs.Ytpmmjmnleoicjaa.RecMath
open Go Bytes NameMath

structure Rec where
  name : List UInt8
  kind : Nat
  cls : Nat
  ttl : Nat
  names : List (List UInt8)
  nums : List Nat
  texts : List (List UInt8)

def shA (k : Nat) : Nat := if k = 2 ∨ k = 5 ∨ k = 12 then 1 else if k = 6 then 2 else if k = 15 then 1 else if k = 33 then 1 else 0
def shB (k : Nat) : Nat := if k = 2 ∨ k = 5 ∨ k = 12 then 0 else if k = 6 then 5 else if k = 15 then 1 else if k = 33 then 3 else 0
def shC (k : Nat) : Nat := if k = 2 ∨ k = 5 ∨ k = 12 then 0 else if k = 6 then 0 else if k = 15 then 0 else if k = 33 then 0 else 1

def badName (l : List UInt8) : Bool := !isN l
def badNum (k n : Nat) : Bool := decide (65535 < n ∧ k ≠ 6)
def badText (k : Nat) (l : List UInt8) : Bool := decide ((k = 16 ∧ 255 < l.length) ∨ (k = 1 ∧ l.length ≠ 4) ∨ (k = 28 ∧ l.length ≠ 16))
/-- How many plain bytes texts take. -/
def bulk (k : Nat) : List (List UInt8) → Nat
  | [] => 0
  | l :: L => l.length + (if k = 16 then 1 else 0) + bulk k L
def cntOk (r : Rec) : Bool := decide (r.names.length = shA r.kind ∧ r.nums.length = shB r.kind ∧ ((r.kind = 16 ∧ 0 < r.texts.length) ∨ (r.kind ≠ 16 ∧ r.texts.length = shC r.kind)))
def shapedB (r : Rec) : Bool := cntOk r && !r.nums.any (badNum r.kind) && !r.texts.any (badText r.kind)
def fitsB (r : Rec) : Bool := decide (bulk r.kind r.texts ≤ 65535)
def okB (r : Rec) : Bool := shapedB r && fitsB r
def namesB (r : Rec) : Bool := !badName r.name && !r.names.any badName
def lateB (r : Rec) : Bool := decide (2147483647 < r.ttl ∧ r.kind ≠ 41)
def checkE (r : Rec) : Nat := if namesB r = false then 40 else if okB r = false then 50 else if lateB r = true then 1 else 0

def numsL (size : Nat) (L : List Nat) : List UInt8 := L.flatMap fun n => beTail n size
def textL (k : Nat) (l : List UInt8) : List UInt8 := if k = 16 then UInt8.ofNat l.length :: l else l
def plainL (r : Rec) : List UInt8 := (if r.kind = 6 then [] else numsL 2 r.nums) ++ (r.names.flatten ++ ((if r.kind = 6 then numsL 4 r.nums else []) ++ r.texts.flatMap (textL r.kind)))
def plainO (r : Rec) : List UInt8 := if checkE r = 0 then plainL r else []
def sameB (a b : Rec) : Bool := decide (a.name = b.name ∧ a.kind = b.kind ∧ a.cls = b.cls ∧ a.ttl = b.ttl ∧ a.names = b.names ∧ a.nums = b.nums ∧ a.texts = b.texts)

/-! What is gone through text by text. -/
def badLong (k : Nat) (left : Int) (l : List UInt8) : Bool :=
  if k = 1 then decide (l.length ≠ 4) else if k = 28 then decide (l.length ≠ 16) else if k = 16 then decide (255 < l.length ∨ left - (1 + l.length) < 0) else decide (65535 < l.length)
def leftT (k : Nat) (left : Int) (l : List UInt8) : Int := if k = 16 then left - (1 + l.length) else left
/-- Is one of the texts wrong, as they are asked from the first on? -/
def wrongs (k : Nat) : Int → List (List UInt8) → Bool
  | _, [] => false
  | left, l :: L => badLong k left l || wrongs k (leftT k left l) L

theorem wrongs_16 : ∀ (L : List (List UInt8)) (left : Int), 0 ≤ left → wrongs 16 left L = (L.any (badText 16) || decide (left < bulk 16 L)) := by
  intro L
  induction L with
  | nil =>
    intro left h
    rw [decide_eq_false (by rw [show bulk 16 [] = 0 from rfl]; omega)]
    rfl
  | cons l L ih =>
    intro left h
    have e1 : badLong 16 left l = decide (255 < l.length ∨ left - (1 + l.length) < 0) := by simp [badLong]
    have e2 : leftT 16 left l = left - (1 + l.length) := by simp [leftT]
    have e3 : badText 16 l = decide (255 < l.length) := by simp [badText]
    have e4 : bulk 16 (l :: L) = l.length + 1 + bulk 16 L := by simp [bulk]
    rw [wrongs, e1, e2, List.any_cons, e3, e4]
    by_cases h1 : 255 < l.length
    · rw [decide_eq_true (Or.inl h1), decide_eq_true h1, Bool.true_or, Bool.true_or, Bool.true_or]
    · by_cases h2 : left - (1 + (l.length : Int)) < 0
      · rw [decide_eq_true (Or.inr h2), Bool.true_or, decide_eq_true (show left < ((l.length + 1 + bulk 16 L : Nat) : Int) by omega), Bool.or_true]
      · rw [decide_eq_false (by rintro (h | h); exact h1 h; exact h2 h), Bool.false_or, ih _ (by omega), decide_eq_false h1, Bool.false_or]
        refine congrArg (fun b => L.any (badText 16) || b) (decide_eq_decide.2 ?_)
        omega
theorem wrongs_one {k : Nat} (hk : k ≠ 16) (l : List UInt8) : wrongs k 65535 [l] = (badText k l || decide (65535 < bulk k [l])) := by
  simp only [wrongs, bulk, if_neg hk, Bool.or_false, Nat.add_zero]
  by_cases h1 : k = 1
  · subst h1
    by_cases h : l.length = 4 <;> simp [badLong, badText, h]
  · by_cases h2 : k = 28
    · subst h2
      by_cases h : l.length = 16 <;> simp [badLong, badText, h]
    · simp [badLong, badText, h1, h2, hk]
theorem wrongs_none (k : Nat) (left : Int) : wrongs k left [] = false := rfl
theorem bulk_nil (k : Nat) : bulk k [] = 0 := rfl

/-- The code's own order of asking comes to the same. -/
theorem okB_wrongs (r : Rec) : okB r = (cntOk r && (!r.nums.any (badNum r.kind) && !wrongs r.kind 65535 r.texts)) := by
  unfold okB shapedB fitsB
  cases hc : cntOk r with
  | false => simp
  | true =>
    have hc' := of_decide_eq_true hc
    obtain ⟨_, _, h3⟩ := hc'
    have key : wrongs r.kind 65535 r.texts = (r.texts.any (badText r.kind) || decide (65535 < bulk r.kind r.texts)) := by
      rcases h3 with ⟨hk, _⟩ | ⟨hk, hn⟩
      · rw [hk]
        rw [wrongs_16 _ _ (by decide)]
        refine congrArg (fun b => r.texts.any (badText 16) || b) (decide_eq_decide.2 ?_)
        omega
      · have hle : r.texts.length ≤ 1 := by
          rw [hn]; unfold shC; repeat' split
          all_goals omega
        match ht : r.texts, hle with
        | [], _ => simp [wrongs, bulk]
        | [l], _ => rw [wrongs_one hk]; simp
    rw [key]
    have e : decide (bulk r.kind r.texts ≤ 65535) = !decide (65535 < bulk r.kind r.texts) := by
      by_cases h : bulk r.kind r.texts ≤ 65535
      · rw [decide_eq_true h, decide_eq_false (by omega)]; rfl
      · rw [decide_eq_false h, decide_eq_true (by omega)]; rfl
    rw [e]
    cases r.nums.any (badNum r.kind) <;> cases r.texts.any (badText r.kind) <;> cases decide (65535 < bulk r.kind r.texts) <;> rfl

theorem checkE_40 {r : Rec} (h : namesB r = false) : checkE r = 40 := by unfold checkE; rw [if_pos h]
theorem checkE_50 {r : Rec} (h : namesB r = true) (h2 : okB r = false) : checkE r = 50 := by unfold checkE; rw [if_neg (by rw [h]; decide), if_pos h2]
theorem checkE_1 {r : Rec} (h : namesB r = true) (h2 : okB r = true) (h3 : lateB r = true) : checkE r = 1 := by unfold checkE; rw [if_neg (by rw [h]; decide), if_neg (by rw [h2]; decide), if_pos h3]
theorem checkE_0 {r : Rec} (h : namesB r = true) (h2 : okB r = true) (h3 : lateB r = false) : checkE r = 0 := by unfold checkE; rw [if_neg (by rw [h]; decide), if_neg (by rw [h2]; decide), if_neg (by rw [h3]; decide)]
theorem check_ok {r : Rec} (h : checkE r = 0) : namesB r = true ∧ okB r = true ∧ lateB r = false := by
  unfold checkE at h
  split at h
  · cases h
  · split at h
    · cases h
    · split at h
      · cases h
      · rename_i h1 h2 h3
        exact ⟨Bool.not_eq_false _ ▸ h1, Bool.not_eq_false _ ▸ h2, Bool.not_eq_true _ ▸ h3⟩
theorem plainO_ok {r : Rec} (h : checkE r = 0) : plainO r = plainL r := if_pos h
theorem plainO_no {r : Rec} (h : checkE r ≠ 0) : plainO r = [] := if_neg h
theorem okB_cnt {r : Rec} (h : okB r = true) : cntOk r = true ∧ r.nums.any (badNum r.kind) = false ∧ r.texts.any (badText r.kind) = false ∧ bulk r.kind r.texts ≤ 65535 := by
  unfold okB shapedB at h
  rw [Bool.and_eq_true, Bool.and_eq_true, Bool.and_eq_true] at h
  obtain ⟨⟨⟨h1, h2⟩, h3⟩, h4⟩ := h
  exact ⟨h1, by simpa using h2, by simpa using h3, of_decide_eq_true h4⟩
theorem cnt_of {r : Rec} (h : cntOk r = true) : r.names.length = shA r.kind ∧ r.nums.length = shB r.kind ∧ ((r.kind = 16 ∧ 0 < r.texts.length) ∨ (r.kind ≠ 16 ∧ r.texts.length = shC r.kind)) := of_decide_eq_true h

/-! What is still to come. -/
theorem bulk_drop {L : List (List UInt8)} {j : Nat} (k : Nat) (h : j < L.length) : bulk k (L.drop j) = (L.getD j []).length + (if k = 16 then 1 else 0) + bulk k (L.drop (j + 1)) := by
  rw [lab_drop h, bulk]
theorem numsL_drop {L : List Nat} {j : Nat} (size : Nat) (h : j < L.length) : numsL size (L.drop j) = beTail (L.getD j 0) size ++ numsL size (L.drop (j + 1)) := by
  rw [List.drop_eq_getElem_cons h, List.getD_eq_getElem?_getD, List.getElem?_eq_getElem h]
  rfl
theorem flat_drop {L : List (List UInt8)} {j : Nat} (h : j < L.length) : (L.drop j).flatten = L.getD j [] ++ (L.drop (j + 1)).flatten := by
  rw [lab_drop h, List.flatten_cons]
theorem textL_drop {L : List (List UInt8)} {j : Nat} (k : Nat) (h : j < L.length) : (L.drop j).flatMap (textL k) = textL k (L.getD j []) ++ (L.drop (j + 1)).flatMap (textL k) := by
  rw [lab_drop h, List.flatMap_cons]
theorem numsL_len (size : Nat) (L : List Nat) : (numsL size L).length = size * L.length := by
  induction L with
  | nil => simp [numsL]
  | cons n L ih =>
    have e : numsL size (n :: L) = beTail n size ++ numsL size L := rfl
    rw [e, List.length_append, ih, beTail_length, List.length_cons, Nat.mul_succ]
    omega
theorem textL_len (k : Nat) (L : List (List UInt8)) : (L.flatMap (textL k)).length = bulk k L := by
  induction L with
  | nil => rfl
  | cons l L ih =>
    rw [List.flatMap_cons, List.length_append, ih, bulk]
    unfold textL
    split <;> simp
theorem flat_len2 {L : List (List UInt8)} {M : Nat} (h : ∀ j, j < L.length → (L.getD j []).length ≤ M) : L.flatten.length ≤ L.length * M := by
  induction L with
  | nil => simp
  | cons l L ih =>
    rw [List.flatten_cons, List.length_append, List.length_cons, Nat.succ_mul]
    have h0 := h 0 (by simp)
    have := ih (fun j hj => h (j + 1) (by simpa using hj))
    simp at h0
    omega
theorem shA_le (k : Nat) : shA k ≤ 2 := by unfold shA; repeat' split
                                           all_goals omega
theorem shB_le (k : Nat) : shB k ≤ 5 := by unfold shB; repeat' split
                                           all_goals omega
theorem plain_len {r : Rec} (h1 : cntOk r = true) (h2 : bulk r.kind r.texts ≤ 65535) (h3 : ∀ j, j < r.names.length → (r.names.getD j []).length ≤ 100000) : (plainL r).length ≤ 300000 := by
  obtain ⟨c1, c2, _⟩ := cnt_of h1
  have hf := flat_len2 h3
  have ha := shA_le r.kind
  have hb := shB_le r.kind
  have ht := textL_len r.kind r.texts
  have e4 := numsL_len 4 r.nums
  have e2 := numsL_len 2 r.nums
  unfold plainL
  rw [List.length_append, List.length_append, List.length_append, ht]
  have hm : r.names.length * 100000 ≤ 200000 := by omega
  split <;> simp only [List.length_nil] <;> omega
theorem plainL_6 {r : Rec} (h : r.kind = 6) : plainL r = r.names.flatten ++ (numsL 4 r.nums ++ r.texts.flatMap (textL r.kind)) := by
  unfold plainL; rw [if_pos h, if_pos h]; rfl
theorem plainL_not {r : Rec} (h : r.kind ≠ 6) : plainL r = numsL 2 r.nums ++ (r.names.flatten ++ r.texts.flatMap (textL r.kind)) := by
  unfold plainL; rw [if_neg h, if_neg h]; rfl
theorem textL_16 (l : List UInt8) : textL 16 l = UInt8.ofNat l.length :: l := if_pos rfl
theorem textL_not {k : Nat} (h : k ≠ 16) (l : List UInt8) : textL k l = l := if_neg h
theorem any_short {L : List (List UInt8)} (h : L.any (badText 16) = false) (j : Nat) (hj : j < L.length) : (L.getD j []).length ≤ 255 := by
  rw [List.any_eq_false] at h
  have := h (L.getD j []) (by rw [List.getD_eq_getElem?_getD, List.getElem?_eq_getElem hj]; exact List.getElem_mem hj)
  have h2 := of_decide_eq_false (Bool.eq_false_iff.2 this)
  omega
end Go.Proofs.Ytpmmjmnleoicjaa.RecMath
