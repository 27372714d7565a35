/- The plain bytes of a right record tell its data; what one change makes of a right record. No program, no condition. -/
import Derived.Test.YtnpdhfjglfpjcaaBytes
import Derived.Test.YtnpdhfjglfpjcaaNameMath
import Derived.Test.YtnpdhfjglfpjcaaNumBe
import Derived.Test.YtnpdhfjglfpjcaaRecMath
namespace Go.Proofs.Ytnpdhfjglfpjcaa.RecMath
open Go Bytes NameMath

theorem nameL_inj : ∀ {L M : List (List UInt8)} {s t : List UInt8}, L.all okLab = true → M.all okLab = true → nameL L ++ s = nameL M ++ t → nameL L = nameL M ∧ s = t := by
  intro L
  induction L with
  | nil =>
    intro M s t _ hM h
    cases M with
    | nil => exact ⟨rfl, List.append_cancel_left h⟩
    | cons m M =>
      rw [List.all_cons, Bool.and_eq_true] at hM
      have hm := okLab_iff.1 hM.1
      have e := ofNat_len hM.1
      have h0 : (0 : UInt8) = UInt8.ofNat m.length := by
        simp only [nameL, wire, List.nil_append, List.cons_append] at h
        injection h
      rw [← h0] at e
      have : (0 : UInt8).toNat = 0 := rfl
      omega
  | cons l L ih =>
    intro M s t hL hM h
    rw [List.all_cons, Bool.and_eq_true] at hL
    have hl := okLab_iff.1 hL.1
    have el := ofNat_len hL.1
    cases M with
    | nil =>
      have h0 : UInt8.ofNat l.length = (0 : UInt8) := by
        simp only [nameL, wire, List.nil_append, List.cons_append] at h
        injection h
      rw [h0] at el
      have : (0 : UInt8).toNat = 0 := rfl
      omega
    | cons m M =>
      rw [List.all_cons, Bool.and_eq_true] at hM
      have em := ofNat_len hM.1
      have hcons : UInt8.ofNat l.length :: (l ++ (nameL L ++ s)) = UInt8.ofNat m.length :: (m ++ (nameL M ++ t)) := by
        simpa [nameL, wire, List.append_assoc] using h
      injection hcons with h1 h2
      have hlen : l.length = m.length := by rw [← el, ← em, h1]
      obtain ⟨h3, h4⟩ := List.append_inj h2 hlen
      obtain ⟨h5, h6⟩ := ih hL.2 hM.2 h4
      subst h3
      refine ⟨?_, h6⟩
      show wire (l :: L) ++ [0] = wire (l :: M) ++ [0]
      simp only [wire, List.cons_append, List.append_assoc]
      have h5' : wire L ++ [0] = wire M ++ [0] := h5
      rw [h5']
theorem isN_inj {a b s t : List UInt8} (ha : isN a = true) (hb : isN b = true) (h : a ++ s = b ++ t) : a = b ∧ s = t := by
  obtain ⟨L, hL⟩ := isN_some ha
  obtain ⟨M, hM⟩ := isN_some hb
  obtain ⟨h1, h2, _⟩ := labels_some hL
  obtain ⟨h3, h4, _⟩ := labels_some hM
  rw [← h1, ← h3] at h
  obtain ⟨h5, h6⟩ := nameL_inj h2 h4 h
  exact ⟨by rw [← h1, ← h3, h5], h6⟩
theorem numsL_inj {size : Nat} : ∀ {L M : List Nat}, L.length = M.length → (∀ n ∈ L, n < 256 ^ size) → (∀ n ∈ M, n < 256 ^ size) → numsL size L = numsL size M → L = M := by
  intro L
  induction L with
  | nil =>
    intro M hl _ _ _
    exact (List.length_eq_zero_iff.1 hl.symm).symm
  | cons n L ih =>
    intro M hl hL hM h
    cases M with
    | nil => cases hl
    | cons m M =>
      have e : beTail n size ++ numsL size L = beTail m size ++ numsL size M := h
      obtain ⟨h1, h2⟩ := List.append_inj e (by rw [beTail_length, beTail_length])
      have hb := congrArg be h1
      rw [be_beTail, be_beTail, Nat.mod_eq_of_lt (hL n List.mem_cons_self), Nat.mod_eq_of_lt (hM m List.mem_cons_self)] at hb
      rw [hb, ih (by simpa using hl) (fun x hx => hL x (List.mem_cons_of_mem _ hx)) (fun x hx => hM x (List.mem_cons_of_mem _ hx)) h2]
theorem textL_inj : ∀ {L M : List (List UInt8)}, (∀ l ∈ L, l.length ≤ 255) → (∀ l ∈ M, l.length ≤ 255) → L.flatMap (textL 16) = M.flatMap (textL 16) → L = M := by
  intro L
  induction L with
  | nil =>
    intro M _ _ h
    cases M with
    | nil => rfl
    | cons m M => simp [textL_16] at h
  | cons l L ih =>
    intro M hL hM h
    cases M with
    | nil => simp [textL_16] at h
    | cons m M =>
      rw [List.flatMap_cons, List.flatMap_cons, textL_16, textL_16, List.cons_append, List.cons_append] at h
      injection h with h1 h2
      have hl := hL l List.mem_cons_self
      have hm := hM m List.mem_cons_self
      have hlen : l.length = m.length := by
        have := congrArg UInt8.toNat h1
        rw [UInt8.toNat_ofNat', UInt8.toNat_ofNat'] at this
        have e : (2 : Nat) ^ 8 = 256 := rfl
        omega
      obtain ⟨h3, h4⟩ := List.append_inj h2 hlen
      rw [h3, ih (fun x hx => hL x (List.mem_cons_of_mem _ hx)) (fun x hx => hM x (List.mem_cons_of_mem _ hx)) h4]
theorem len0 {α : Type} {L : List α} (h : L.length = 0) : L = [] := List.length_eq_zero_iff.1 h
theorem len1 {α : Type} {L : List α} (h : L.length = 1) : ∃ a, L = [a] := List.length_eq_one_iff.1 h
theorem len2 {α : Type} {L : List α} (h : L.length = 2) : ∃ a b, L = [a, b] := by
  match L, h with
  | [a, b], _ => exact ⟨a, b, rfl⟩
theorem name_of {r : Rec} (h : namesB r = true) : isN r.name = true ∧ ∀ l ∈ r.names, isN l = true := by
  unfold namesB at h
  rw [Bool.and_eq_true] at h
  refine ⟨by simpa [badName] using h.1, fun l hl => ?_⟩
  have h2 : r.names.any badName = false := by simpa using h.2
  rw [List.any_eq_false] at h2
  simpa [badName] using h2 l hl
theorem nums_of {r : Rec} (h : r.nums.any (badNum r.kind) = false) (hk : r.kind ≠ 6) : ∀ n ∈ r.nums, n < 256 ^ 2 := fun n hn => by
  rw [List.any_eq_false] at h
  have := of_decide_eq_false (Bool.eq_false_iff.2 (h n hn))
  have e : (256 : Nat) ^ 2 = 65536 := rfl
  omega
theorem plain_inj {R Q : Rec} (hR : checkE R = 0) (hQ : checkE Q = 0) (hk : R.kind = Q.kind) (hu : ∀ n ∈ R.nums, n ≤ 4294967295) (hv : ∀ n ∈ Q.nums, n ≤ 4294967295) (h : plainL R = plainL Q) : R.names = Q.names ∧ R.nums = Q.nums ∧ R.texts = Q.texts := by
  obtain ⟨a1, a2, _⟩ := check_ok hR
  obtain ⟨b1, b2, _⟩ := check_ok hQ
  obtain ⟨_, an⟩ := name_of a1
  obtain ⟨_, bn⟩ := name_of b1
  obtain ⟨ac, anum, atx, _⟩ := okB_cnt a2
  obtain ⟨bc, bnum, btx, _⟩ := okB_cnt b2
  obtain ⟨x1, x2, x3⟩ := cnt_of ac
  obtain ⟨y1, y2, y3⟩ := cnt_of bc
  rw [← hk] at y1 y2 y3
  by_cases h6 : R.kind = 6
  · rw [h6] at x1 x2 x3 y1 y2 y3
    obtain ⟨p1, p2, hp⟩ := len2 (x1.trans (show shA 6 = 2 from rfl))
    obtain ⟨q1, q2, hq⟩ := len2 (y1.trans (show shA 6 = 2 from rfl))
    have ht : R.texts = [] := len0 (by rw [show shC 6 = 0 from rfl] at x3; omega)
    have hs : Q.texts = [] := len0 (by rw [show shC 6 = 0 from rfl] at y3; omega)
    rw [plainL_6 h6, plainL_6 (hk ▸ h6), ht, hs, hp, hq] at h
    simp only [List.flatten_cons, List.flatten_nil, List.flatMap_nil, List.append_nil, List.append_assoc] at h
    rw [hp] at an
    rw [hq] at bn
    obtain ⟨e1, h⟩ := isN_inj (an p1 (by simp)) (bn q1 (by simp)) h
    obtain ⟨e2, h⟩ := isN_inj (an p2 (by simp)) (bn q2 (by simp)) h
    have e : (256 : Nat) ^ 4 = 4294967296 := rfl
    have e3 := numsL_inj (size := 4) (by rw [x2, y2]) (fun n hn => by have := hu n hn; omega) (fun n hn => by have := hv n hn; omega) h
    exact ⟨by rw [hp, hq, e1, e2], e3, by rw [ht, hs]⟩
  · have h6' : Q.kind ≠ 6 := hk ▸ h6
    rw [plainL_not h6, plainL_not h6', ← hk] at h
    have hln : (numsL 2 R.nums).length = (numsL 2 Q.nums).length := by rw [numsL_len, numsL_len, x2, y2]
    obtain ⟨hn, h⟩ := List.append_inj h hln
    have e3 := numsL_inj (size := 2) (by rw [x2, y2]) (nums_of anum h6) (nums_of bnum h6') hn
    by_cases h16 : R.kind = 16
    · rw [h16] at x1 x3 y1 y3 h
      have hp : R.names = [] := len0 (x1.trans (show shA 16 = 0 from rfl))
      have hq : Q.names = [] := len0 (y1.trans (show shA 16 = 0 from rfl))
      rw [hp, hq] at h
      simp only [List.flatten_nil, List.nil_append] at h
      have hshort : ∀ {r : Rec}, r.kind = 16 → r.texts.any (badText r.kind) = false → ∀ l ∈ r.texts, l.length ≤ 255 := fun {r} hr hb l hl => by
        rw [hr, List.any_eq_false] at hb
        have := of_decide_eq_false (Bool.eq_false_iff.2 (hb l hl))
        omega
      exact ⟨by rw [hp, hq], e3, textL_inj (hshort h16 atx) (hshort (hk ▸ h16) btx) h⟩
    · have x3' : R.texts.length = shC R.kind := by omega
      have y3' : Q.texts.length = shC R.kind := by omega
      have hcase : (shA R.kind = 1 ∧ shC R.kind = 0) ∨ (shA R.kind = 0 ∧ shC R.kind = 1) := by
        unfold shA shC
        by_cases c1 : R.kind = 2 ∨ R.kind = 5 ∨ R.kind = 12
        · rw [if_pos c1, if_pos c1]; exact Or.inl ⟨rfl, rfl⟩
        · rw [if_neg c1, if_neg c1, if_neg h6, if_neg h6]
          by_cases c2 : R.kind = 15
          · rw [if_pos c2, if_pos c2]; exact Or.inl ⟨rfl, rfl⟩
          · rw [if_neg c2, if_neg c2]
            by_cases c3 : R.kind = 33
            · rw [if_pos c3, if_pos c3]; exact Or.inl ⟨rfl, rfl⟩
            · rw [if_neg c3, if_neg c3]; exact Or.inr ⟨rfl, rfl⟩
      rcases hcase with ⟨s1, s2⟩ | ⟨s1, s2⟩
      · obtain ⟨p1, hp⟩ := len1 (x1.trans s1)
        obtain ⟨q1, hq⟩ := len1 (y1.trans s1)
        have ht : R.texts = [] := len0 (x3'.trans s2)
        have hs : Q.texts = [] := len0 (y3'.trans s2)
        rw [hp, hq, ht, hs] at h
        simp only [List.flatten_cons, List.flatten_nil, List.flatMap_nil, List.append_nil] at h
        exact ⟨by rw [hp, hq, h], e3, by rw [ht, hs]⟩
      · obtain ⟨p1, hp⟩ := len1 (x3'.trans s2)
        obtain ⟨q1, hq⟩ := len1 (y3'.trans s2)
        have ht : R.names = [] := len0 (x1.trans s1)
        have hs : Q.names = [] := len0 (y1.trans s1)
        rw [hp, hq, ht, hs] at h
        simp only [List.flatMap_cons, List.flatten_nil, List.flatMap_nil, List.append_nil, List.nil_append, textL_not h16] at h
        exact ⟨by rw [ht, hs], e3, by rw [hp, hq, h]⟩

/-! What one change makes of a right record. -/
theorem sameB_data {R Q : Rec} (h0 : R.name = Q.name) (h1 : R.kind = Q.kind) (h2 : R.cls = Q.cls) (h3 : R.ttl = Q.ttl) : sameB R Q = decide (R.names = Q.names ∧ R.nums = Q.nums ∧ R.texts = Q.texts) := by
  unfold sameB
  refine decide_eq_decide.2 ⟨fun h => h.2.2.2.2, fun h => ⟨h0, h1, h2, h3, h⟩⟩
theorem plainO_inj {R Q : Rec} (hR : checkE R = 0) (hQ : checkE Q = 0) (h0 : R.name = Q.name) (h1 : R.kind = Q.kind) (h2 : R.cls = Q.cls) (h3 : R.ttl = Q.ttl) (hu : ∀ n ∈ R.nums, n ≤ 4294967295) (hv : ∀ n ∈ Q.nums, n ≤ 4294967295) : decide (plainO R = plainO Q) = sameB R Q := by
  rw [sameB_data h0 h1 h2 h3, plainO_ok hR, plainO_ok hQ]
  refine decide_eq_decide.2 ⟨plain_inj hR hQ h1 hu hv, fun ⟨e1, e2, e3⟩ => ?_⟩
  unfold plainL
  rw [h1, e1, e2, e3]
theorem late_check {R : Rec} (h : checkE R = 0) {t : Nat} (ht : 2147483647 < t) (hk : R.kind ≠ 41) : checkE { R with ttl := t } = 1 := by
  obtain ⟨h1, h2, _⟩ := check_ok h
  exact checkE_1 h1 h2 (decide_eq_true ⟨ht, hk⟩)
theorem name_check {R : Rec} (h : checkE R = 0) (c : UInt8) : checkE { R with name := R.name ++ [c] } = 40 := by
  obtain ⟨h1, _, _⟩ := check_ok h
  obtain ⟨h2, _⟩ := name_of h1
  refine checkE_40 ?_
  have hno : isN (R.name ++ [c]) = false := by
    cases hb : isN (R.name ++ [c]) with
    | false => rfl
    | true =>
      have := (isN_inj h2 hb (s := [c]) (t := []) (by simp)).1
      have := congrArg List.length this
      simp at this
  unfold namesB badName
  rw [hno]
  rfl
theorem cnt_not {Q : Rec} (hn : namesB Q = true) (h : cntOk Q = false) : checkE Q = 50 := by
  refine checkE_50 hn ?_
  unfold okB shapedB
  rw [h]
  rfl
theorem names_check {R : Rec} (h : checkE R = 0) : checkE { R with names := R.names ++ [[0]] } = 50 := by
  obtain ⟨h1, h2, _⟩ := check_ok h
  obtain ⟨hc, _⟩ := okB_cnt h2
  obtain ⟨c1, _⟩ := cnt_of hc
  refine cnt_not ?_ ?_
  · have hroot : isN [0] = true := isN_of labels_root
    unfold namesB at h1 ⊢
    rw [List.any_append]
    simp only [List.any_cons, List.any_nil, badName, hroot, Bool.not_true, Bool.or_false]
    exact h1
  · refine decide_eq_false (fun h => ?_)
    have h5 : (R.names ++ [[0]]).length = shA R.kind := h.1
    rw [List.length_append, List.length_singleton] at h5
    omega
theorem nums_check {R : Rec} (h : checkE R = 0) (n : Nat) : checkE { R with nums := R.nums ++ [n] } = 50 := by
  obtain ⟨h1, h2, _⟩ := check_ok h
  obtain ⟨hc, _⟩ := okB_cnt h2
  obtain ⟨_, c2, _⟩ := cnt_of hc
  refine cnt_not h1 (decide_eq_false (fun h => ?_))
  have h5 : (R.nums ++ [n]).length = shB R.kind := h.2.1
  rw [List.length_append, List.length_singleton] at h5
  omega
theorem big_check {R : Rec} (h : checkE R = 0) (hk : R.kind ≠ 6) {n : Nat} (hn : 65535 < n) (N : List Nat) : checkE { R with nums := n :: N } = 50 := by
  obtain ⟨h1, _, _⟩ := check_ok h
  refine checkE_50 h1 ?_
  unfold okB shapedB
  have e : (n :: N).any (badNum R.kind) = true := by rw [List.any_cons, show badNum R.kind n = true from decide_eq_true ⟨hn, hk⟩]; rfl
  show (cntOk { R with nums := n :: N } && !(n :: N).any (badNum R.kind) && _ && _) = false
  rw [e]
  simp
end Go.Proofs.Ytnpdhfjglfpjcaa.RecMath
