/- The contracts of text's Value and Media, and of the document's. For texts of fewer than 2^32 - 15 bytes; what internal/bytealg.MaxLen holds is free. -/
import Derived.Test.YtpbbeeggblmneaaDoorProg
import Derived.Test.YtpbbeeggblmneaaDoorTextMath
import Derived.Test.YtpbbeeggblmneaaDoorTextBytes
import Derived.Test.YtpbbeeggblmneaaDoorTextFold
import Derived.Test.YtpbbeeggblmneaaDoorTextSame
import Derived.Test.YtpbbeeggblmneaaDoorShelf
import Derived.Shelf.Strings.SlTrimAscii
import Derived.Lib.LaidTab
import Derived.Lib.AppendIntMem
import Derived.WalkKit
import Derived.Lib.Hide
import Derived.Outline
import Derived.IntWalk
import Derived.WalkSpells
import Derived.WalkLawsBesides
import Derived.Deep.QuietTactic
import Derived.BigQuiet
import Derived.Deep.Draws
namespace Go.Proofs.YtpbbeeggblmneaaDoor
open Go.RowKit TextMath

/-- What the library's functions read of package-level variables, now and as long as no block below B turns. -/
def Std (B : Nat) (w : World) : Prop :=
  (∀ w', Below B w w' → ∃ m, w'.cell? ⟨0, 0, none⟩ = some (.int .i64 m)) ∧ Lib.TabBelow Tryd.prog B w "internal/strconv.uint64pow10" .u64 Lib.pow10Tab
theorem Std.on {B : Nat} {w w' : World} (h : Std B w) (hb : Below B w w') : Std B w' := ⟨fun _ k => h.1 _ (hb.trans k), h.2.on hb⟩
theorem Std.len {B : Nat} {w : World} (h : Std B w) : ∃ m, w.cell? ⟨0, 0, none⟩ = some (.int .i64 m) := h.1 w (Below.refl _ _)
theorem Std.tab {B : Nat} {w : World} (h : Std B w) : Lib.TabIs Tryd.prog w "internal/strconv.uint64pow10" .u64 Lib.pow10Tab := h.2.here

def blankS : ByteArray := ⟨#[9, 32]⟩
theorem trim_any (s : ByteArray) (w : World) (hs : s.size ≤ 140737488351232) :
    Calls Tryd.prog 27 #[.string s, .string blankS] w fun e w' => e = .returned (.string (mk (trimL s.data.toList))) ∧ Below w.heap.size w w' :=
  Any.strings_Trim_laid Tryd.lays160 (by kernel_rfl) s blankS w (by omega) (by decide) (ascii_of_all (by decide))
theorem trim_is (s t : ByteArray) (h : Hid (mk (trimL s.data.toList) = t)) (w : World) (hs : s.size ≤ 140737488351232) :
    Calls Tryd.prog 27 #[.string s, .string ⟨#[9, 32]⟩] w fun e w' => e = .returned (.string t) ∧ Below w.heap.size w w' := by
  have := trim_any s w hs
  rwa [h.out] at this

theorem val_at {s : ByteArray} {k : Nat} {x : UInt8} (h : k < s.size) (hx : s.data.toList.getD k 0 = x) (hq : valB x = false) : valueB s.data.toList = false := by
  have h' : k < s.data.toList.length := by rw [← Lib.size_eq]; exact h
  have hm : s.data.toList.all valB = false := by
    rw [List.all_eq_false]
    refine ⟨x, ?_, by rw [hq]; simp⟩
    rw [← hx, List.getD_eq_getElem?_getD, List.getElem?_eq_getElem h']
    exact List.getElem_mem h'
  unfold valueB
  rw [hm]
  rfl
theorem val_end {s t : ByteArray} {n : Nat} (h : ∀ j, j < n → valB (s.data.toList.getD j 0) = true) (hn : n = s.size) (ht : mk (trimL s.data.toList) = t) : (s.toList == t.toList) = valueB s.data.toList := by
  unfold valueB
  rw [all_of h hn, Bool.true_and, eq_toList, ← ht]
  by_cases e : endsB s.data.toList = true
  · rw [e, decide_eq_true]
    rw [trimL_self.2 e, mk_data]
  · rw [Bool.not_eq_true] at e
    rw [e, decide_eq_false]
    intro h'
    have h2 := congrArg (fun b => b.data.toList) h'
    simp only [mk_list] at h2
    rw [trimL_self.1 h2.symm] at e
    cases e

set_option maxHeartbeats 1000000 in
theorem value_any (s : ByteArray) (w : World) (hs : s.size ≤ 140737488351232) :
    Calls Tryd.prog 14 #[.string s] w fun e w' => e = .returned (.bool (valueB s.data.toList)) ∧ Below w.heap.size w w' := by
  obtain ⟨r, hr⟩ : ∃ r, r = valueB s.data.toList := ⟨_, rfl⟩
  rw [← hr]
  have R := Lib.hid hr; clear hr
  go_enter Tryd.func14, Tryd.ntmps14
  go_wp2_with fail
  go_loop [6] (fun i => ∃ k : Nat, k ≤ s.size ∧ i = .int .i64 k ∧ Hid (∀ j, j < k → valB (s.data.toList.getD j 0) = true)) (fun i => s.size - (intOf i).toNat)
  case atStart => exact ⟨0, Nat.zero_le _, rfl, Lib.hid (fun j hj => absurd hj (Nat.not_lt_zero _))⟩
  case round =>
    obtain ⟨k, hk, rfl, hR⟩ := hrel
    by_cases hlt : k < s.size
    · have hx0 := getD_byte hlt
      generalize hx1 : s.data.toList.getD k 0 = x at hx0
      have hx : s[k]'hlt = x := hx0.symm
      have HX := Lib.hid hx1
      clear hx0 hx1
      obtain ⟨q, hq0⟩ : ∃ q, valB x = q := ⟨_, rfl⟩
      have HC := ofValue_any x
      rw [hq0] at HC
      have HQ := Lib.hid hq0
      have HCC := Lib.hid HC
      clear HC hq0
      cases q with
      | true =>
        have hR' : Hid (∀ j, j < k + 1 → valB (s.data.toList.getD j 0) = true) := fun j hj => by
          rcases Nat.lt_or_ge j k with h | h
          · exact hR.out j h
          · have e : j = k := by omega
            subst e
            rw [HX.out, HQ.out]
        go_wp2_with fail
        refine (HCC.out _).mono ?_
        rintro e w' ⟨rfl, rfl⟩
        go_wp2_with fail
        go_round
        case rel => exact ⟨k + 1, by omega, by go_num, hR'⟩
        case measure => simp [intOf]; omega
      | false =>
        have hF : r = false := by rw [R.out]; exact val_at hlt HX.out HQ.out
        subst hF
        go_wp2_with fail
        refine (HCC.out _).mono ?_
        rintro e w' ⟨rfl, rfl⟩
        go_wp2_with fail
        go_ret
        exact ⟨rfl, Below.refl _ _⟩
    · obtain ⟨t, ht⟩ : ∃ t, mk (trimL s.data.toList) = t := ⟨_, rfl⟩
      have E := Lib.hid (val_end hR.out (show k = s.size by omega) ht)
      have HT := Lib.hid ht
      clear hR ht
      go_wp2_with fail
      refine (trim_is s t HT _ hs).mono ?_
      rintro e w1 ⟨rfl, hB⟩
      go_wp2_with fail
      go_ret
      exact ⟨congrArg (fun b => Ending.returned (Value.bool b)) (show (s.toList == t.toList) = r from by rw [R.out, E.out]), hB⟩

theorem valB_true {c : UInt8} (h : inB 9 9 c = true ∨ inB 32 126 c = true ∨ ¬ c.toNat < 128) : valB c = true := by
  rw [valB_no]
  rcases h with h | h | h
  · rw [h]; rfl
  · rw [h]; simp
  · rw [decide_eq_false h]; simp
theorem valB_false {c : UInt8} (h1 : inB 9 9 c = false) (h2 : inB 32 126 c = false) (h3 : c.toNat < 128) : valB c = false := by
  rw [valB_no, h1, h2, decide_eq_true h3]
  rfl
theorem ends_of {s : ByteArray} {m : Nat} {x y : UInt8} (hm : s.size = m + 1) (hx : s.data.toList.getD 0 0 = x) (hy : s.data.toList.getD m 0 = y) : endsB s.data.toList = (!blankB x && !blankB y) := by
  have hl : s.data.toList.length = m + 1 := by rw [← Lib.size_eq]; exact hm
  unfold endsB
  have h1 : s.data.toList.head? = some x := by
    rw [List.head?_eq_getElem?, ← hx, List.getD_eq_getElem?_getD, List.getElem?_eq_getElem (by omega)]
    rfl
  have h2 : s.data.toList.getLast? = some y := by
    rw [List.getLast?_eq_getElem?, hl, Nat.add_sub_cancel, List.getElem?_eq_getElem (show m < s.data.toList.length by omega), ← hy, List.getD_eq_getElem?_getD, List.getElem?_eq_getElem (show m < s.data.toList.length by omega)]
    rfl
  rw [h1, h2]
  rfl
theorem ref_val_end {s : ByteArray} {n : Nat} (h : ∀ j, j < n → valB (s.data.toList.getD j 0) = true) (hn : n = s.size) : valueB s.data.toList = endsB s.data.toList := by
  unfold valueB
  rw [all_of h hn, Bool.true_and]
theorem blank_is (c : UInt8) (q : Bool) (h : Hid (blankB c = q)) (w : World) :
    Calls Tryd.prog 28 #[.int .u8 c.toNat] w fun e w' => e = .returned (.bool q) ∧ w = w' := by
  have := blank_any c w
  rwa [h.out] at this

set_option maxHeartbeats 1000000 in
set_option maxRecDepth 100000 in
theorem refValue_any (s : ByteArray) (w : World) (hs : s.size ≤ 140737488351232) :
    Calls Tryd.prog 15 #[.string s] w fun e w' => e = .returned (.bool (valueB s.data.toList)) ∧ w = w' := by
  obtain ⟨r, hr⟩ : ∃ r, r = valueB s.data.toList := ⟨_, rfl⟩
  rw [← hr]
  have R := Lib.hid hr; clear hr
  go_enter Tryd.func15, Tryd.ntmps15
  go_wp2_with fail
  go_loop [3] (fun i => ∃ k : Nat, k ≤ s.size ∧ i = .int .i64 k ∧ Hid (∀ j, j < k → valB (s.data.toList.getD j 0) = true)) (fun i => s.size - (intOf i).toNat)
  case atStart => exact ⟨0, Nat.zero_le _, rfl, Lib.hid (fun j hj => absurd hj (Nat.not_lt_zero _))⟩
  case round =>
    obtain ⟨k, hk, rfl, hR⟩ := hrel
    by_cases hlt : k < s.size
    · have hx0 := getD_byte hlt
      generalize hx1 : s.data.toList.getD k 0 = x at hx0
      have hx : s[k]'hlt = x := hx0.symm
      have HX := Lib.hid hx1
      clear hx0 hx1
      have next : valB x = true → Hid (∀ j, j < k + 1 → valB (s.data.toList.getD j 0) = true) := fun hv j hj => by
        rcases Nat.lt_or_ge j k with h | h
        · exact hR.out j h
        · have e : j = k := by omega
          subst e
          rw [HX.out, hv]
      have NX := Lib.hid next
      clear next
      by_cases h9 : x.toNat = 9
      · have hR' := NX.out (valB_true (.inl (inB_eq_true h9)))
        have f9 : ((x.toNat : Int) != 9) = false := by rw [h9]; rfl
        go_wp2_with fail
        go_round
        case rel => exact ⟨k + 1, by omega, by go_num, hR'⟩
        case measure => simp [intOf]; omega
      have f9 : ((x.toNat : Int) != 9) = true := bne_iff_ne.2 (by omega)
      obtain ⟨q, hq0⟩ : ∃ q, inB 32 126 x = q := ⟨_, rfl⟩
      have HQ := Lib.hid hq0
      clear hq0
      cases q with
      | true =>
        have hR' := NX.out (valB_true (.inr (.inl HQ.out)))
        go_wp2_with fail
        refine (in_is x 32 126 true HQ _).mono ?_
        rintro e w' ⟨rfl, rfl⟩
        go_wp2_with fail
        go_round
        case rel => exact ⟨k + 1, by omega, by go_num, hR'⟩
        case measure => simp [intOf]; omega
      | false =>
      by_cases h8 : x.toNat < 128
      · have hF : r = false := by rw [R.out]; exact val_at hlt HX.out (valB_false (inB_eq_false h9) HQ.out h8)
        subst hF
        go_wp2_with fail
        refine (in_is x 32 126 false HQ _).mono ?_
        rintro e w' ⟨rfl, rfl⟩
        go_wp2_with fail
        go_ret
        exact ⟨rfl, rfl⟩
      · have hR' := NX.out (valB_true (.inr (.inr h8)))
        go_wp2_with fail
        refine (in_is x 32 126 false HQ _).mono ?_
        rintro e w' ⟨rfl, rfl⟩
        go_wp2_with fail
        go_round
        case rel => exact ⟨k + 1, by omega, by go_num, hR'⟩
        case measure => simp [intOf]; omega
    · have hE := ref_val_end hR.out (show k = s.size by omega)
      clear hR
      by_cases h0 : s.size = 0
      · have hT : r = true := by
          have : s.data.toList = [] := List.length_eq_zero_iff.1 (by rw [← Lib.size_eq]; exact h0)
          rw [R.out, hE, this]
          rfl
        subst hT
        clear hE
        go_wp2_with fail
        go_ret
        exact ⟨rfl, rfl⟩
      · obtain ⟨m, hm⟩ : ∃ m, s.size = m + 1 := ⟨s.size - 1, by omega⟩
        have l0 : 0 < s.size := by omega
        have lm : m < s.size := by omega
        have hx0 := getD_byte l0
        have hy0 := getD_byte lm
        generalize hx1 : s.data.toList.getD 0 0 = x at hx0
        generalize hy1 : s.data.toList.getD m 0 = y at hy0
        have hx : s[0]'l0 = x := hx0.symm
        have hy : s[m]'lm = y := hy0.symm
        have HE := Lib.hid (ends_of hm hx1 hy1)
        have E := Lib.hid hE
        clear hx0 hx1 hy0 hy1 hE
        have f0 : ((s.size : Int) == 0) = false := beq_eq_false_iff_ne.2 (by omega)
        have hz : (s.size : Int) - 1 = m := by omega
        clear hm
        obtain ⟨p, hp⟩ : ∃ p, blankB x = p := ⟨_, rfl⟩
        obtain ⟨q, hq⟩ : ∃ q, blankB y = q := ⟨_, rfl⟩
        have HP := Lib.hid hp
        have HQ := Lib.hid hq
        clear hp hq
        go_wp2_with fail
        refine (blank_is x p HP _).mono ?_
        rintro e w' ⟨rfl, rfl⟩
        cases p with
        | true =>
          have hF : r = false := by rw [R.out, E.out, HE.out, HP.out]; rfl
          subst hF
          go_wp2_with fail
          go_ret
          exact ⟨rfl, rfl⟩
        | false =>
          go_wp2_with fail
          refine (blank_is y q HQ _).mono ?_
          rintro e w' ⟨rfl, rfl⟩
          go_wp2_with fail
          go_ret
          exact ⟨congrArg (fun b => Ending.returned (Value.bool b)) (show (!q) = r from by rw [R.out, E.out, HE.out, HP.out, HQ.out]; rfl), rfl⟩
end Go.Proofs.YtpbbeeggblmneaaDoor
