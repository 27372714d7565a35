/- Letters A to Z as a to z, over bytes; the contracts of text's within and lower, and of the document's in. No condition. -/
import Derived.Test.YtepbpaaielfpnaaProg
import Derived.Test.YtepbpaaielfpnaaBytes
import Derived.WalkKit
import Derived.Lib.Hide
import Derived.Outline
import Derived.WalkSpells
import Derived.IntWalk
namespace Go.Proofs.Ytepbpaaielfpnaa.Low
open Go Go.RowKit Bytes

/-- A letter A to Z as a to z. -/
def lowB (c : UInt8) : UInt8 := if 65 ≤ c.toNat ∧ c.toNat ≤ 90 then c + 32 else c
theorem lowB_up {c : UInt8} (h1 : 65 ≤ c.toNat) (h2 : c.toNat ≤ 90) : (lowB c).toNat = c.toNat + 32 := by
  unfold lowB
  rw [if_pos ⟨h1, h2⟩, UInt8.toNat_add]
  show (c.toNat + 32) % 256 = _
  omega
theorem lowB_no {c : UInt8} (h : ¬ (65 ≤ c.toNat ∧ c.toNat ≤ 90)) : lowB c = c := if_neg h
theorem lowB_low (c : UInt8) : lowB (lowB c) = lowB c := by
  by_cases h : 65 ≤ c.toNat ∧ c.toNat ≤ 90
  · exact lowB_no (by rw [lowB_up h.1 h.2]; omega)
  · rw [lowB_no h, lowB_no h]
def lowL (l : List UInt8) : List UInt8 := l.map lowB
theorem lowL_low (l : List UInt8) : lowL (lowL l) = lowL l := by simp [lowL, lowB_low]
def foldS (s : ByteArray) : ByteArray := mk (lowL s.data.toList)
theorem foldS_size (s : ByteArray) : (foldS s).size = s.size := by rw [foldS, mk_size, lowL, List.length_map, ← Lib.size_eq]
theorem foldS_fold (s : ByteArray) : foldS (foldS s) = foldS s := by unfold foldS; rw [mk_list, lowL_low]
theorem foldS_cat (s t : ByteArray) : foldS (s ++ t) = foldS s ++ foldS t := by
  apply list_inj
  rw [cat_list]
  simp only [foldS, mk_list, cat_list, lowL, List.map_append]

/-- Is a byte one from a to b? -/
def inB (a b : Nat) (c : UInt8) : Bool := decide (a ≤ c.toNat ∧ c.toNat ≤ b)

end Go.Proofs.Ytepbpaaielfpnaa.Low
namespace Go.Proofs.Ytepbpaaielfpnaa
open Go.RowKit Bytes Low

theorem inB_true {a b : Nat} {c : UInt8} (h : a ≤ c.toNat ∧ c.toNat ≤ b) : inB a b c = true := decide_eq_true h
theorem inB_false {a b : Nat} {c : UInt8} (h : ¬ (a ≤ c.toNat ∧ c.toNat ≤ b)) : inB a b c = false := decide_eq_false h

theorem within_any (c : UInt8) (a b : Nat) (w : World) :
    Calls Try.prog 46 #[.int .u8 c.toNat, .int .u8 a, .int .u8 b] w fun e w' => e = .returned (.bool (inB a b c)) ∧ w = w' := by
  have hl := c.toNat_lt
  by_cases h1 : a ≤ c.toNat
  · by_cases h2 : c.toNat ≤ b
    · have e := Lib.hid (inB_true ⟨h1, h2⟩)
      go_enter Try.func46, Try.ntmps46
      go_wp2
      go_ret
      exact ⟨by rw [e.out]; rfl, rfl⟩
    · have e := Lib.hid (inB_false (c := c) (a := a) (b := b) (fun h => h2 h.2))
      go_enter Try.func46, Try.ntmps46
      go_wp2
      go_ret
      exact ⟨by rw [e.out]; rfl, rfl⟩
  · have e := Lib.hid (inB_false (c := c) (a := a) (b := b) (fun h => h1 h.1))
    go_enter Try.func46, Try.ntmps46
    go_wp2
    go_ret
    exact ⟨by rw [e.out]; rfl, rfl⟩

theorem in_any (c : UInt8) (a b : Nat) (w : World) :
    Calls Try.prog 41 #[.int .u8 c.toNat, .int .u8 a, .int .u8 b] w fun e w' => e = .returned (.bool (inB a b c)) ∧ w = w' := by
  have hl := c.toNat_lt
  by_cases h1 : a ≤ c.toNat
  · by_cases h2 : c.toNat ≤ b
    · have e := Lib.hid (inB_true ⟨h1, h2⟩)
      go_enter Try.func41, Try.ntmps41
      go_wp2
      go_ret
      exact ⟨by rw [e.out]; rfl, rfl⟩
    · have e := Lib.hid (inB_false (c := c) (a := a) (b := b) (fun h => h2 h.2))
      go_enter Try.func41, Try.ntmps41
      go_wp2
      go_ret
      exact ⟨by rw [e.out]; rfl, rfl⟩
  · have e := Lib.hid (inB_false (c := c) (a := a) (b := b) (fun h => h1 h.1))
    go_enter Try.func41, Try.ntmps41
    go_wp2
    go_ret
    exact ⟨by rw [e.out]; rfl, rfl⟩

/-- The result is known by name. -/
theorem within_is (c : UInt8) (a b : Nat) (q : Bool) (h : Hid (inB a b c = q)) (w : World) :
    Calls Try.prog 46 #[.int .u8 c.toNat, .int .u8 a, .int .u8 b] w fun e w' => e = .returned (.bool q) ∧ w = w' := by
  have := within_any c a b w
  rwa [h.out] at this
theorem in_is (c : UInt8) (a b : Nat) (q : Bool) (h : Hid (inB a b c = q)) (w : World) :
    Calls Try.prog 41 #[.int .u8 c.toNat, .int .u8 a, .int .u8 b] w fun e w' => e = .returned (.bool q) ∧ w = w' := by
  have := in_any c a b w
  rwa [h.out] at this

theorem lower_any (c : UInt8) (w : World) :
    Calls Try.prog 43 #[.int .u8 c.toNat] w fun e w' => e = .returned (.int .u8 (lowB c).toNat) ∧ w = w' := by
  by_cases h : 65 ≤ c.toNat ∧ c.toNat ≤ 90
  · have e1 := Lib.hid (lowB_up h.1 h.2)
    have h1 := h.1
    have h2 := h.2
    clear h
    go_enter Try.func43, Try.ntmps43
    go_wp2_with fail
    refine (within_is c 65 90 true (Lib.hid (inB_true ⟨h1, h2⟩)) _).mono ?_
    rintro e w' ⟨rfl, rfl⟩
    go_wp2_with fail
    go_ret
    refine ⟨?_, rfl⟩
    rw [e1.out]
    refine congrArg (fun x : Int => Ending.returned (Value.int .u8 x)) ?_
    omega
  · have e1 := Lib.hid (lowB_no h)
    have e2 := Lib.hid (inB_false h)
    clear h
    go_enter Try.func43, Try.ntmps43
    go_wp2_with fail
    refine (within_is c 65 90 false e2 _).mono ?_
    rintro e w' ⟨rfl, rfl⟩
    go_wp2_with fail
    go_ret
    exact ⟨by rw [e1.out]; rfl, rfl⟩

end Go.Proofs.Ytepbpaaielfpnaa
