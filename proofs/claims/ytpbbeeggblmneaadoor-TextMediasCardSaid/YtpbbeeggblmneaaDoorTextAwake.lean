/- The laws' own look at answers that the document fixes: all stand. -/
import Derived.Test.YtpbbeeggblmneaaDoorProg
import Derived.Test.YtpbbeeggblmneaaDoorTextMath
import Derived.Test.YtpbbeeggblmneaaDoorTextBytes
import Derived.Test.YtpbbeeggblmneaaDoorTextFold
import Derived.Test.YtpbbeeggblmneaaDoorTextSame
import Derived.Test.YtpbbeeggblmneaaDoorTextValue
import Derived.Test.YtpbbeeggblmneaaDoorTextMedia
import Derived.Test.YtpbbeeggblmneaaDoorTextNumber
import Derived.WalkKit
import Derived.Lib.Hide
import Derived.Outline
import Derived.IntWalk
import Derived.WalkSpells
namespace Go.Proofs.YtpbbeeggblmneaaDoor
open Go.RowKit TextMath

theorem aw_dec (w : World) : Calls Tryd.prog 18 #[.string ⟨#[49, 50, 48]⟩, .int .i64 120] w fun e w' => e = .returned (.tuple #[.int .i64 120, .bool true]) ∧ w = w' := by
  have h := decimal_any ⟨#[49, 50, 48]⟩ 120 w (by decide)
  rw [show decN (⟨#[49, 50, 48]⟩ : ByteArray).data.toList 120 = 120 from by decide +kernel, show decOk (⟨#[49, 50, 48]⟩ : ByteArray).data.toList 120 = true from by decide +kernel] at h
  exact h
theorem aw_fold (w : World) : Calls Tryd.prog 9 #[.string ⟨#[87, 119, 87, 46, 69, 120]⟩] w fun e w' => e = .returned (.string ⟨#[119, 119, 119, 46, 101, 120]⟩) ∧ Below w.heap.size w w' := by
  have h := fold_any ⟨#[87, 119, 87, 46, 69, 120]⟩ w (by decide)
  rw [show foldS ⟨#[87, 119, 87, 46, 69, 120]⟩ = ⟨#[119, 119, 119, 46, 101, 120]⟩ from by decide +kernel] at h
  exact h
theorem aw_same1 (w : World) : Calls Tryd.prog 11 #[.string ⟨#[65]⟩, .string ⟨#[97]⟩] w fun e w' => e = .returned (.bool true) ∧ Below w.heap.size w w' := by
  have h := same_any ⟨#[65]⟩ ⟨#[97]⟩ w (by decide)
  rw [show decide (foldS ⟨#[65]⟩ = foldS ⟨#[97]⟩) = true from by decide +kernel] at h
  exact h
theorem aw_same2 (w : World) : Calls Tryd.prog 11 #[.string ⟨#[65]⟩, .string ⟨#[98]⟩] w fun e w' => e = .returned (.bool false) ∧ Below w.heap.size w w' := by
  have h := same_any ⟨#[65]⟩ ⟨#[98]⟩ w (by decide)
  rw [show decide (foldS ⟨#[65]⟩ = foldS ⟨#[98]⟩) = false from by decide +kernel] at h
  exact h
theorem aw_tok1 (w : World) : Calls Tryd.prog 12 #[.string ⟨#[97, 45, 98]⟩] w fun e w' => e = .returned (.bool true) ∧ w = w' := by
  have h := token_any ⟨#[97, 45, 98]⟩ w (by decide)
  rw [show tokB (⟨#[97, 45, 98]⟩ : ByteArray).data.toList = true from by decide +kernel] at h
  exact h
theorem aw_tok2 (w : World) : Calls Tryd.prog 12 #[.string ⟨#[97, 32, 98]⟩] w fun e w' => e = .returned (.bool false) ∧ w = w' := by
  have h := token_any ⟨#[97, 32, 98]⟩ w (by decide)
  rw [show tokB (⟨#[97, 32, 98]⟩ : ByteArray).data.toList = false from by decide +kernel] at h
  exact h
theorem aw_val (w : World) : Calls Tryd.prog 14 #[.string ⟨#[97, 32, 98]⟩] w fun e w' => e = .returned (.bool true) ∧ Below w.heap.size w w' := by
  have h := value_any ⟨#[97, 32, 98]⟩ w (by decide)
  rw [show valueB (⟨#[97, 32, 98]⟩ : ByteArray).data.toList = true from by decide +kernel] at h
  exact h
theorem aw_num (B : Nat) (w : World) (hS : Std B w) : Calls Tryd.prog 20 #[.int .i64 12] w fun e w' => e = .returned (.string ⟨#[49, 50]⟩) ∧ Below w.heap.size w w' := by
  have h := number_any B 12 w hS (by decide) (by decide)
  rw [show numS 12 = ⟨#[49, 50]⟩ from by
    rw [show (12 : Int) = ((12 : Nat) : Int) from rfl, num_nat, Lib.decDigits_two (by decide) (by decide)]
    rfl] at h
  exact h
theorem aw_media (B : Nat) (w : World) (hS : Std B w) : Calls Tryd.prog 16 #[.string ⟨#[32, 84, 101, 120, 116, 47, 80, 108, 97, 105, 110, 32, 59, 32, 97, 61, 98]⟩] w fun e w' => e = .returned (.string ⟨#[116, 101, 120, 116, 47, 112, 108, 97, 105, 110]⟩) ∧ Below w.heap.size w w' := by
  have h := media_any B ⟨#[32, 84, 101, 120, 116, 47, 80, 108, 97, 105, 110, 32, 59, 32, 97, 61, 98]⟩ w hS (by decide)
  rw [show mediaS ⟨#[32, 84, 101, 120, 116, 47, 80, 108, 97, 105, 110, 32, 59, 32, 97, 61, 98]⟩ = ⟨#[116, 101, 120, 116, 47, 112, 108, 97, 105, 110]⟩ from by decide +kernel] at h
  exact h

set_option maxHeartbeats 2000000 in
theorem awake_any (B : Nat) (w : World) (hS : Std B w) (hBw : B ≤ w.heap.size) :
    Calls Tryd.prog 8 #[] w fun e w' => e = .returned (.bool true) ∧ Below B w w' := by
  have HS := Lib.hid hS; clear hS
  have n0 : Below B w w := Below.refl _ _
  go_enter Tryd.func8, Tryd.ntmps8
  go_wp2_with fail
  refine (aw_dec _).mono ?_
  rintro e w' ⟨rfl, rfl⟩
  go_wp2_with fail
  refine (aw_fold _).mono ?_
  rintro e w1 ⟨rfl, hB⟩
  have n1 := n0.trans (hB.mono hBw)
  have s1 := n1.size
  clear hB n0
  go_wp2_with fail
  refine (aw_same1 _).mono ?_
  rintro e w2 ⟨rfl, hB⟩
  have n2 := n1.trans (hB.mono (by omega))
  have s2 := n2.size
  clear hB n1 s1
  go_wp2_with fail
  refine (aw_same2 _).mono ?_
  rintro e w3 ⟨rfl, hB⟩
  have n3 := n2.trans (hB.mono (by omega))
  have s3 := n3.size
  clear hB n2 s2
  go_wp2_with fail
  refine (aw_tok1 _).mono ?_
  rintro e w' ⟨rfl, rfl⟩
  go_wp2_with fail
  refine (aw_tok2 _).mono ?_
  rintro e w' ⟨rfl, rfl⟩
  go_wp2_with fail
  refine (aw_val _).mono ?_
  rintro e w4 ⟨rfl, hB⟩
  have n4 := n3.trans (hB.mono (by omega))
  have s4 := n4.size
  clear hB n3 s3
  go_wp2_with fail
  refine (aw_num B _ (HS.out.on n4)).mono ?_
  rintro e w5 ⟨rfl, hB⟩
  have n5 := n4.trans (hB.mono (by omega))
  have s5 := n5.size
  clear hB n4 s4
  go_wp2_with fail
  refine (aw_media B _ (HS.out.on n5)).mono ?_
  rintro e w6 ⟨rfl, hB⟩
  have n6 := n5.trans (hB.mono (by omega))
  clear hB n5 s5
  go_wp2_with fail
  go_ret
  exact ⟨rfl, n6⟩
end Go.Proofs.YtpbbeeggblmneaaDoor
