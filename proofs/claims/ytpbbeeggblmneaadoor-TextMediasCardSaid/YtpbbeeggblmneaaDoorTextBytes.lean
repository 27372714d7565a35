/- The contracts of the functions on single bytes: text's within, lower, ofToken, ofValue; the document's in, blank and sign. No condition. -/
import Derived.Test.YtpbbeeggblmneaaDoorProg
import Derived.Test.YtpbbeeggblmneaaDoorTextMath
import Derived.WalkKit
import Derived.Lib.Hide
import Derived.Outline
import Derived.WalkSpells
import Derived.IntWalk
namespace Go.Proofs.YtpbbeeggblmneaaDoor
open Go.RowKit TextMath

theorem inB_true {a b : Nat} {c : UInt8} (h : a ≤ c.toNat ∧ c.toNat ≤ b) : inB a b c = true := decide_eq_true h
theorem inB_false {a b : Nat} {c : UInt8} (h : ¬ (a ≤ c.toNat ∧ c.toNat ≤ b)) : inB a b c = false := decide_eq_false h

theorem within_any (c : UInt8) (a b : Nat) (w : World) :
    Calls Tryd.prog 30 #[.int .u8 c.toNat, .int .u8 a, .int .u8 b] w fun e w' => e = .returned (.bool (inB a b c)) ∧ w = w' := by
  have hl := c.toNat_lt
  by_cases h1 : a ≤ c.toNat
  · by_cases h2 : c.toNat ≤ b
    · have e := Lib.hid (inB_true ⟨h1, h2⟩)
      go_enter Tryd.func30, Tryd.ntmps30
      go_wp2
      go_ret
      exact ⟨by rw [e.out]; rfl, rfl⟩
    · have e := Lib.hid (inB_false (c := c) (a := a) (b := b) (fun h => h2 h.2))
      go_enter Tryd.func30, Tryd.ntmps30
      go_wp2
      go_ret
      exact ⟨by rw [e.out]; rfl, rfl⟩
  · have e := Lib.hid (inB_false (c := c) (a := a) (b := b) (fun h => h1 h.1))
    go_enter Tryd.func30, Tryd.ntmps30
    go_wp2
    go_ret
    exact ⟨by rw [e.out]; rfl, rfl⟩

theorem in_any (c : UInt8) (a b : Nat) (w : World) :
    Calls Tryd.prog 23 #[.int .u8 c.toNat, .int .u8 a, .int .u8 b] w fun e w' => e = .returned (.bool (inB a b c)) ∧ w = w' := by
  have hl := c.toNat_lt
  by_cases h1 : a ≤ c.toNat
  · by_cases h2 : c.toNat ≤ b
    · have e := Lib.hid (inB_true ⟨h1, h2⟩)
      go_enter Tryd.func23, Tryd.ntmps23
      go_wp2
      go_ret
      exact ⟨by rw [e.out]; rfl, rfl⟩
    · have e := Lib.hid (inB_false (c := c) (a := a) (b := b) (fun h => h2 h.2))
      go_enter Tryd.func23, Tryd.ntmps23
      go_wp2
      go_ret
      exact ⟨by rw [e.out]; rfl, rfl⟩
  · have e := Lib.hid (inB_false (c := c) (a := a) (b := b) (fun h => h1 h.1))
    go_enter Tryd.func23, Tryd.ntmps23
    go_wp2
    go_ret
    exact ⟨by rw [e.out]; rfl, rfl⟩

/-- The result is known by name. -/
theorem within_is (c : UInt8) (a b : Nat) (q : Bool) (h : Hid (inB a b c = q)) (w : World) :
    Calls Tryd.prog 30 #[.int .u8 c.toNat, .int .u8 a, .int .u8 b] w fun e w' => e = .returned (.bool q) ∧ w = w' := by
  have := within_any c a b w
  rwa [h.out] at this
theorem in_is (c : UInt8) (a b : Nat) (q : Bool) (h : Hid (inB a b c = q)) (w : World) :
    Calls Tryd.prog 23 #[.int .u8 c.toNat, .int .u8 a, .int .u8 b] w fun e w' => e = .returned (.bool q) ∧ w = w' := by
  have := in_any c a b w
  rwa [h.out] at this

theorem lower_any (c : UInt8) (w : World) :
    Calls Tryd.prog 22 #[.int .u8 c.toNat] w fun e w' => e = .returned (.int .u8 (lowB c).toNat) ∧ w = w' := by
  by_cases h : 65 ≤ c.toNat ∧ c.toNat ≤ 90
  · have e1 := Lib.hid (lowB_up h.1 h.2)
    have h1 := h.1
    have h2 := h.2
    clear h
    go_enter Tryd.func22, Tryd.ntmps22
    go_wp2_with fail
    refine (within_is c 65 90 true (Lib.hid (inB_true ⟨h1, h2⟩)) _).mono ?_
    rintro e w' ⟨rfl, rfl⟩
    go_wp2_with fail
    go_ret
    refine ⟨?_, rfl⟩
    rw [e1.out]
    refine congrArg (fun x : Int => Ending.returned (Value.int .u8 x)) ?_
    omega
  · have e1 := Lib.hid (lowB_no h)
    have e2 := Lib.hid (inB_false h)
    clear h
    go_enter Tryd.func22, Tryd.ntmps22
    go_wp2_with fail
    refine (within_is c 65 90 false e2 _).mono ?_
    rintro e w' ⟨rfl, rfl⟩
    go_wp2_with fail
    go_ret
    exact ⟨by rw [e1.out]; rfl, rfl⟩

theorem inB_eq_true {a : Nat} {c : UInt8} (h : c.toNat = a) : inB a a c = true := inB_true (by omega)
theorem inB_eq_false {a : Nat} {c : UInt8} (h : ¬ c.toNat = a) : inB a a c = false := inB_false (by omega)
set_option maxHeartbeats 1000000 in
theorem ofToken_any (c : UInt8) (w : World) :
    Calls Tryd.prog 24 #[.int .u8 c.toNat] w fun e w' => e = .returned (.bool (signB c)) ∧ w = w' := by
  obtain ⟨r, hr⟩ : ∃ r, r = signB c := ⟨_, rfl⟩
  rw [← hr]
  unfold signB at hr
  generalize h1 : inB 48 57 c = q1 at hr
  generalize h2 : inB 65 90 c = q2 at hr
  generalize h3 : inB 97 122 c = q3 at hr
  generalize h5 : inB 35 39 c = q5 at hr
  generalize h6 : inB 42 43 c = q6 at hr
  generalize h7 : inB 45 46 c = q7 at hr
  generalize h8 : inB 94 96 c = q8 at hr
  have R := Lib.hid hr; clear hr
  have H1 := Lib.hid h1; clear h1
  have H2 := Lib.hid h2; clear h2
  have H3 := Lib.hid h3; clear h3
  have H5 := Lib.hid h5; clear h5
  have H6 := Lib.hid h6; clear h6
  have H7 := Lib.hid h7; clear h7
  have H8 := Lib.hid h8; clear h8
  go_enter Tryd.func24, Tryd.ntmps24
  go_wp2_with fail
  refine (within_is c 48 57 q1 H1 _).mono ?_
  rintro e w' ⟨rfl, rfl⟩
  cases q1 with
  | true =>
    go_wp2_with fail
    go_ret
    exact ⟨congrArg (fun b => Ending.returned (Value.bool b)) (show true = r from by rw [R.out]; simp), rfl⟩
  | false =>
  go_wp2_with fail
  refine (within_is c 65 90 q2 H2 _).mono ?_
  rintro e w' ⟨rfl, rfl⟩
  cases q2 with
  | true =>
    go_wp2_with fail
    go_ret
    exact ⟨congrArg (fun b => Ending.returned (Value.bool b)) (show true = r from by rw [R.out]; simp), rfl⟩
  | false =>
  go_wp2_with fail
  refine (within_is c 97 122 q3 H3 _).mono ?_
  rintro e w' ⟨rfl, rfl⟩
  cases q3 with
  | true =>
    go_wp2_with fail
    go_ret
    exact ⟨congrArg (fun b => Ending.returned (Value.bool b)) (show true = r from by rw [R.out]; simp), rfl⟩
  | false =>
  by_cases h4 : c.toNat = 33
  · have k4 := Lib.hid (inB_eq_true h4)
    go_wp2_with fail
    go_ret
    exact ⟨congrArg (fun b => Ending.returned (Value.bool b)) (show true = r from by rw [R.out, k4.out]; simp), rfl⟩
  have k4 := Lib.hid (inB_eq_false h4)
  have f4 : ((c.toNat : Int) == 33) = false := beq_eq_false_iff_ne.2 (by omega)
  go_wp2_with fail
  refine (within_is c 35 39 q5 H5 _).mono ?_
  rintro e w' ⟨rfl, rfl⟩
  cases q5 with
  | true =>
    go_wp2_with fail
    go_ret
    exact ⟨congrArg (fun b => Ending.returned (Value.bool b)) (show true = r from by rw [R.out]; simp), rfl⟩
  | false =>
  go_wp2_with fail
  refine (within_is c 42 43 q6 H6 _).mono ?_
  rintro e w' ⟨rfl, rfl⟩
  cases q6 with
  | true =>
    go_wp2_with fail
    go_ret
    exact ⟨congrArg (fun b => Ending.returned (Value.bool b)) (show true = r from by rw [R.out]; simp), rfl⟩
  | false =>
  go_wp2_with fail
  refine (within_is c 45 46 q7 H7 _).mono ?_
  rintro e w' ⟨rfl, rfl⟩
  cases q7 with
  | true =>
    go_wp2_with fail
    go_ret
    exact ⟨congrArg (fun b => Ending.returned (Value.bool b)) (show true = r from by rw [R.out]; simp), rfl⟩
  | false =>
  go_wp2_with fail
  refine (within_is c 94 96 q8 H8 _).mono ?_
  rintro e w' ⟨rfl, rfl⟩
  cases q8 with
  | true =>
    go_wp2_with fail
    go_ret
    exact ⟨congrArg (fun b => Ending.returned (Value.bool b)) (show true = r from by rw [R.out]; simp), rfl⟩
  | false =>
  by_cases h9 : c.toNat = 124
  · have k9 := Lib.hid (inB_eq_true h9)
    go_wp2_with fail
    go_ret
    exact ⟨congrArg (fun b => Ending.returned (Value.bool b)) (show true = r from by rw [R.out, k9.out]; simp), rfl⟩
  have k9 := Lib.hid (inB_eq_false h9)
  have f9 : ((c.toNat : Int) == 124) = false := beq_eq_false_iff_ne.2 (by omega)
  by_cases h10 : c.toNat = 126
  · have k10 := Lib.hid (inB_eq_true h10)
    go_wp2_with fail
    go_ret
    exact ⟨congrArg (fun b => Ending.returned (Value.bool b)) (show true = r from by rw [R.out, k10.out]; simp), rfl⟩
  have k10 := Lib.hid (inB_eq_false h10)
  have f10 : ((c.toNat : Int) == 126) = false := beq_eq_false_iff_ne.2 (by omega)
  go_wp2_with fail
  go_ret
  exact ⟨by rw [R.out, k4.out, k9.out, k10.out]; rfl, rfl⟩

theorem ofValue_any (c : UInt8) (w : World) :
    Calls Tryd.prog 26 #[.int .u8 c.toNat] w fun e w' => e = .returned (.bool (valB c)) ∧ w = w' := by
  have hl := c.toNat_lt
  obtain ⟨r, hr⟩ : ∃ r, r = valB c := ⟨_, rfl⟩
  rw [← hr]
  unfold valB at hr
  generalize h1 : inB 32 126 c = q1 at hr
  have R := Lib.hid hr; clear hr
  have H1 := Lib.hid h1; clear h1
  by_cases h9 : c.toNat = 9
  · have k9 := Lib.hid (inB_eq_true h9)
    go_enter Tryd.func26, Tryd.ntmps26
    go_wp2_with fail
    go_ret
    exact ⟨congrArg (fun b => Ending.returned (Value.bool b)) (show true = r from by rw [R.out, k9.out]; simp), rfl⟩
  have k9 := Lib.hid (inB_eq_false h9)
  have f9 : ((c.toNat : Int) == 9) = false := beq_eq_false_iff_ne.2 (by omega)
  go_enter Tryd.func26, Tryd.ntmps26
  go_wp2_with fail
  refine (within_is c 32 126 q1 H1 _).mono ?_
  rintro e w' ⟨rfl, rfl⟩
  cases q1 with
  | true =>
    go_wp2_with fail
    go_ret
    exact ⟨congrArg (fun b => Ending.returned (Value.bool b)) (show true = r from by rw [R.out]; simp), rfl⟩
  | false =>
  have e2 : decide (128 ≤ (c.toNat : Int)) = inB 128 255 c := by
    by_cases h : 128 ≤ c.toNat
    · rw [inB_true ⟨h, by omega⟩, decide_eq_true (by omega)]
    · rw [inB_false (by omega), decide_eq_false (by omega)]
  have E2 := Lib.hid e2; clear e2
  go_wp2_with fail
  go_ret
  exact ⟨congrArg (fun b => Ending.returned (Value.bool b)) (show decide (128 ≤ (c.toNat : Int)) = r from by rw [R.out, k9.out, E2.out]; simp), rfl⟩

theorem blank_any (c : UInt8) (w : World) :
    Calls Tryd.prog 28 #[.int .u8 c.toNat] w fun e w' => e = .returned (.bool (blankB c)) ∧ w = w' := by
  obtain ⟨r, hr⟩ : ∃ r, r = blankB c := ⟨_, rfl⟩
  rw [← hr]
  unfold blankB at hr
  have R := Lib.hid hr; clear hr
  by_cases h9 : c.toNat = 9
  · have k9 := Lib.hid (inB_eq_true h9)
    go_enter Tryd.func28, Tryd.ntmps28
    go_wp2_with fail
    go_ret
    exact ⟨congrArg (fun b => Ending.returned (Value.bool b)) (show true = r from by rw [R.out, k9.out]; simp), rfl⟩
  have k9 := Lib.hid (inB_eq_false h9)
  have f9 : ((c.toNat : Int) == 9) = false := beq_eq_false_iff_ne.2 (by omega)
  by_cases h2 : c.toNat = 32
  · have k2 := Lib.hid (inB_eq_true h2)
    have f2 : ((c.toNat : Int) == 32) = true := beq_iff_eq.2 (by omega)
    go_enter Tryd.func28, Tryd.ntmps28
    go_wp2_with fail
    go_ret
    exact ⟨by rw [R.out, k9.out, k2.out]; rfl, rfl⟩
  · have k2 := Lib.hid (inB_eq_false h2)
    have f2 : ((c.toNat : Int) == 32) = false := beq_eq_false_iff_ne.2 (by omega)
    go_enter Tryd.func28, Tryd.ntmps28
    go_wp2_with fail
    go_ret
    exact ⟨by rw [R.out, k9.out, k2.out]; rfl, rfl⟩

def moreS : ByteArray := ⟨#[33, 35, 36, 37, 38, 39, 42, 43, 45, 46, 94, 95, 96, 124, 126]⟩
theorem more_at (k : Nat) (h : k < moreS.size) : moreL[k]? = some (moreS[k]'h) := by
  have e : moreS.data.toList = moreL := rfl
  have h' : k < moreS.data.toList.length := by rw [← Lib.size_eq]; exact h
  rw [← e, List.getElem?_eq_getElem h']
  rfl
theorem more_none (c : UInt8) (h : ∀ (j : Nat) x, j < 15 → moreL[j]? = some x → x ≠ c) : moreL.contains c = false := by
  rw [Bool.eq_false_iff]
  intro hc
  obtain ⟨j, hj, e⟩ := List.mem_iff_getElem.1 (List.contains_iff_mem.1 hc)
  exact h j c hj (by rw [List.getElem?_eq_getElem hj, e]) rfl
set_option maxHeartbeats 1000000 in
theorem sign_any (c : UInt8) (w : World) :
    Calls Tryd.prog 25 #[.int .u8 c.toNat] w fun e w' => e = .returned (.bool (signB c)) ∧ w = w' := by
  obtain ⟨r, hr⟩ : ∃ r, r = signB c := ⟨_, rfl⟩
  rw [← hr]
  rw [signB_more] at hr
  generalize h1 : inB 48 57 c = q1 at hr
  generalize h2 : inB 65 90 c = q2 at hr
  generalize h3 : inB 97 122 c = q3 at hr
  have R := Lib.hid hr; clear hr
  have H1 := Lib.hid h1; clear h1
  have H2 := Lib.hid h2; clear h2
  have H3 := Lib.hid h3; clear h3
  go_enter Tryd.func25, Tryd.ntmps25
  go_wp2_with fail
  go_loop [3] (fun i => ∃ k : Nat, k ≤ 15 ∧ i = .int .i64 k ∧ Hid (∀ (j : Nat) x, j < k → moreL[j]? = some x → x ≠ c)) (fun i => 15 - (intOf i).toNat)
  case atStart => exact ⟨0, by omega, rfl, Lib.hid (fun j x hj => absurd hj (Nat.not_lt_zero _))⟩
  case round =>
    obtain ⟨k, hk, rfl, hn⟩ := hrel
    by_cases hlt : k < 15
    · have hs : k < moreS.size := hlt
      obtain ⟨x, hx⟩ : ∃ x, moreS[k]'hs = x := ⟨_, rfl⟩
      have hm0 := more_at k hs
      rw [hx] at hm0
      have hm := Lib.hid hm0; clear hm0
      have hx2 : ∀ h, ({ data := #[33, 35, 36, 37, 38, 39, 42, 43, 45, 46, 94, 95, 96, 124, 126] } : ByteArray)[k]'h = x := fun _ => hx
      have hs2 : k < ({ data := #[33, 35, 36, 37, 38, 39, 42, 43, 45, 46, 94, 95, 96, 124, 126] } : ByteArray).size := hs
      clear hx hs
      by_cases he : x = c
      · subst he
        go_wp2_with fail
        go_ret
        exact ⟨congrArg (fun b => Ending.returned (Value.bool b)) (show true = r from by rw [R.out, List.contains_iff_mem.2 (List.mem_of_getElem? hm.out)]; simp), rfl⟩
      · have f0 : ((x.toNat : Int) == c.toNat) = false := beq_eq_false_iff_ne.2 (fun e => he (UInt8.toNat_inj.1 (by omega)))
        have hn' : Hid (∀ (j : Nat) y, j < k + 1 → moreL[j]? = some y → y ≠ c) := by
          intro j y hj hy
          rcases Nat.lt_or_ge j k with h | h
          · exact hn.out j y h hy
          · have e : j = k := by omega
            subst e
            have := hm.out
            rw [hy] at this
            cases this
            exact he
        go_wp2_with fail
        go_round
        case rel => exact ⟨k + 1, by omega, by go_num, hn'⟩
        case measure => simp [intOf]; omega
    · have e : k = 15 := by omega
      subst e
      have M := Lib.hid (more_none c hn.out)
      clear hn
      go_wp2_with fail
      refine (in_is c 48 57 q1 H1 _).mono ?_
      rintro e w' ⟨rfl, rfl⟩
      cases q1 with
      | true =>
        go_wp2_with fail
        go_ret
        exact ⟨congrArg (fun b => Ending.returned (Value.bool b)) (show true = r from by rw [R.out]; simp), rfl⟩
      | false =>
      go_wp2_with fail
      refine (in_is c 65 90 q2 H2 _).mono ?_
      rintro e w' ⟨rfl, rfl⟩
      cases q2 with
      | true =>
        go_wp2_with fail
        go_ret
        exact ⟨congrArg (fun b => Ending.returned (Value.bool b)) (show true = r from by rw [R.out]; simp), rfl⟩
      | false =>
      go_wp2_with fail
      refine (in_is c 97 122 q3 H3 _).mono ?_
      rintro e w' ⟨rfl, rfl⟩
      go_wp2_with fail
      go_ret
      exact ⟨congrArg (fun b => Ending.returned (Value.bool b)) (show q3 = r from by rw [R.out, M.out]; simp), rfl⟩
end Go.Proofs.YtpbbeeggblmneaaDoor
