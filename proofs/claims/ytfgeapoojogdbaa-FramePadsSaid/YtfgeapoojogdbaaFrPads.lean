/- Frames with padding and a priority: nothing is wrong with them, and their content is the data. No program. -/
import Derived.Test.YtfgeapoojogdbaaProg
import Derived.Test.YtfgeapoojogdbaaBytes
import Derived.Test.YtfgeapoojogdbaaNumBe
import Derived.Test.YtfgeapoojogdbaaFrMath
import Derived.Test.YtfgeapoojogdbaaFrBack
namespace Go.Proofs.Ytfgeapoojogdbaa.Fr
open Go Bytes

theorem cut_mid {r d : ByteArray} {A Z : List UInt8} {i j : Nat} (hr : r.data.toList = A ++ (d.data.toList ++ Z)) (hi : A.length = i) (hj : j = i + d.size) : r.extract i j = d := by
  apply list_inj
  rw [extract_list, hr, hj, ← hi, ← List.append_assoc, List.take_append_of_le_length (by rw [List.length_append, size_l]; omega)]
  rw [show A.length + d.size = (A ++ d.data.toList).length by rw [List.length_append, size_l], List.take_length, List.drop_left]
theorem bN_head {r : ByteArray} {p : Nat} {M : List UInt8} (hp : p < 256) (hr : r.data.toList = UInt8.ofNat p :: M) : bN r 0 = p := by
  unfold bN
  rw [hr]
  exact to_u8 hp
/-- With a priority. -/
theorem pads_on {st on p : Nat} {d r : ByteArray} (hst : st ≠ 0) (hne : on % 2147483648 ≠ st) (hp : p < 256)
    (hr : r.data.toList = UInt8.ofNat p :: (beTail on 4 ++ 7 :: (d.data.toList ++ List.replicate p 0))) : wrongF ⟨1, 40, st, r⟩ = (0, 0) ∧ contentF ⟨1, 40, st, r⟩ = d := by
  have hsz : r.size = 6 + d.size + p := by
    rw [← size_l, hr, List.length_cons, List.length_append, List.length_cons, List.length_append, List.length_replicate, size_l, beTail_length]
    omega
  have h0 := bN_head hp hr
  have f8 : flagF ⟨1, 40, st, r⟩ 8 = true := decide_eq_true (by show 40 / 8 % 2 = 1; decide)
  have f32 : flagF ⟨1, 40, st, r⟩ 32 = true := decide_eq_true (by show 40 / 32 % 2 = 1; decide)
  have ha : aheadF ⟨1, 40, st, r⟩ = 6 := by unfold aheadF; rw [f8, f32]; simp
  have hs : selfF ⟨1, 40, st, r⟩ (6 - 5) = false := by
    unfold selfF gN
    have e : (r.data.toList.drop (6 - 5)).take 4 = beTail on 4 := by
      rw [hr]
      show (beTail on 4 ++ _).take 4 = _
      exact List.take_left' (beTail_length _ _)
    show decide (be ((r.data.toList.drop (6 - 5)).take 4) % 2147483648 = st) = false
    rw [e, be_beTail]
    have h4 : (256 : Nat) ^ 4 = 4294967296 := by simp
    rw [h4]
    exact decide_eq_false (by omega)
  have hw : wrongF ⟨1, 40, st, r⟩ = (0, 0) := by
    show headsF ⟨1, 40, st, r⟩ = (0, 0)
    unfold headsF
    rw [ha, hs]
    show (if st = 0 then ((2, 1) : Nat × Nat) else if r.size < 6 then (2, 6) else if flagF ⟨1, 40, st, r⟩ 8 = true ∧ r.size - 6 < bN r 0 then (2, 1) else if flagF ⟨1, 40, st, r⟩ 32 = true ∧ false = true then (1, 1) else (0, 0)) = (0, 0)
    rw [if_neg hst, if_neg (by omega), if_neg (by rw [h0]; omega), if_neg (by simp)]
  refine ⟨hw, ?_⟩
  unfold contentF
  rw [hw, ha, if_neg (by show ¬ (1 < 1 ∨ 0 = 2); omega)]
  have hpad : padF ⟨1, 40, st, r⟩ = p := by
    unfold padF
    rw [if_pos f8]
    exact h0
  rw [hpad]
  show r.extract 6 (r.size - p) = d
  refine cut_mid (A := UInt8.ofNat p :: (beTail on 4 ++ [7])) (Z := List.replicate p 0) (by rw [hr]; simp [List.append_assoc]) ?_ (by omega)
  rw [List.length_cons, List.length_append, beTail_length]
  rfl
/-- Without. -/
theorem pads_off {st p : Nat} {d r : ByteArray} (hst : st ≠ 0) (hp : p < 256)
    (hr : r.data.toList = UInt8.ofNat p :: (d.data.toList ++ List.replicate p 0)) : wrongF ⟨1, 8, st, r⟩ = (0, 0) ∧ contentF ⟨1, 8, st, r⟩ = d ∧ contentF ⟨0, 8, st, r⟩ = d := by
  have hsz : r.size = 1 + d.size + p := by
    rw [← size_l, hr, List.length_cons, List.length_append, List.length_replicate, size_l]
    omega
  have h0 := bN_head hp hr
  have f8 : flagF ⟨1, 8, st, r⟩ 8 = true := decide_eq_true (by show 8 / 8 % 2 = 1; decide)
  have g8 : flagF ⟨0, 8, st, r⟩ 8 = true := decide_eq_true (by show 8 / 8 % 2 = 1; decide)
  have f32 : flagF ⟨1, 8, st, r⟩ 32 = false := decide_eq_false (by show ¬ 8 / 32 % 2 = 1; decide)
  have ha : aheadF ⟨1, 8, st, r⟩ = 1 := by unfold aheadF; rw [f8, f32]; simp
  have ha0 : aheadF ⟨0, 8, st, r⟩ = 1 := by unfold aheadF; rw [g8]; simp
  have hw : wrongF ⟨1, 8, st, r⟩ = (0, 0) := by
    show headsF ⟨1, 8, st, r⟩ = (0, 0)
    unfold headsF
    rw [ha, f32]
    show (if st = 0 then ((2, 1) : Nat × Nat) else if r.size < 1 then (2, 6) else if flagF ⟨1, 8, st, r⟩ 8 = true ∧ r.size - 1 < bN r 0 then (2, 1) else if false = true ∧ _ then (1, 1) else (0, 0)) = (0, 0)
    rw [if_neg hst, if_neg (by omega), if_neg (by rw [h0]; omega), if_neg (by simp)]
  have hw0 : wrongF ⟨0, 8, st, r⟩ = (0, 0) := by
    show (if st = 0 then ((2, 1) : Nat × Nat) else if flagF ⟨0, 8, st, r⟩ 8 = true ∧ r.size = 0 then (2, 6) else if flagF ⟨0, 8, st, r⟩ 8 = true ∧ r.size ≤ bN r 0 then (2, 1) else (0, 0)) = (0, 0)
    rw [if_neg hst, if_neg (by omega), if_neg (by rw [h0]; omega)]
  have hpad : padF ⟨1, 8, st, r⟩ = p := by
    unfold padF
    rw [if_pos f8]
    exact h0
  have hpad0 : padF ⟨0, 8, st, r⟩ = p := by
    unfold padF
    rw [if_pos g8]
    exact h0
  have hcut : r.extract 1 (r.size - p) = d := cut_mid (A := [UInt8.ofNat p]) (Z := List.replicate p 0) hr rfl (by omega)
  refine ⟨hw, ?_, ?_⟩
  · unfold contentF
    rw [hw, ha, hpad, if_neg (by show ¬ (1 < 1 ∨ 0 = 2); omega)]
    exact hcut
  · unfold contentF
    rw [hw0, ha0, hpad0, if_neg (by show ¬ (1 < 0 ∨ 0 = 2); omega)]
    exact hcut
end Go.Proofs.Ytfgeapoojogdbaa.Fr
