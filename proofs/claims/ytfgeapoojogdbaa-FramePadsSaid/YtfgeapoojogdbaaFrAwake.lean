/- The law's awake of layer 14. No condition. -/
import Derived.Test.YtfgeapoojogdbaaProg
import Derived.Test.YtfgeapoojogdbaaFrCode
import Derived.WalkKit
import Derived.Lib.Hide
import Derived.Laws.Rows
import Derived.Outline
import Derived.IntWalk
import Derived.WalkSpells
import Derived.WalkLawsBesides
namespace Go.Proofs.Ytfgeapoojogdbaa
open Go Go.RowKit Bytes Fr

theorem frA (a b c : Nat) (s t : ByteArray) (h : s = t) : frV ⟨a, b, c, s⟩ = .agg #[.int .u8 (a : Int), .int .u8 (b : Int), .int .u32 (c : Int), .string t] := by rw [← h]; rfl
set_option maxHeartbeats 8000000 in
set_option maxRecDepth 100000 in
theorem awake_is (w : World) : Calls Try.prog 8 #[] w fun e w' => e = .returned (.bool true) ∧ Below w.heap.size w w' := by
  have pr : printF (resetF 1 8) = ([0, 0, 4, 3, 0, 0, 0, 0, 1, 0, 0, 0, 8], 0) := by kernel_rfl
  obtain ⟨s1, hs1⟩ : ∃ s, mk [0, 0, 4, 3, 0, 0, 0, 0, 1, 0, 0, 0, 8] = s := ⟨_, rfl⟩
  obtain ⟨d1, hd1⟩ : ∃ d, mk [0, 0, 0, 8] = d := ⟨_, rfl⟩
  have pp : parseF s1 = (⟨3, 0, 1, d1⟩, 13, 0) := by rw [← hs1, ← hd1]; kernel_rfl
  have pw : wrongF (winF 0 0) = (2, 1) := by kernel_rfl
  have ps : printF (setF []) = ([0, 0, 0, 4, 0, 0, 0, 0, 0], 0) := by kernel_rfl
  obtain ⟨s2, hs2⟩ : ∃ s, mk [0, 0, 0, 4, 0, 0, 0, 0, 0] = s := ⟨_, rfl⟩
  obtain ⟨s3, hs3⟩ : ∃ s, mk [97] = s := ⟨_, rfl⟩
  have pc : contentF ⟨0, 8, 1, ⟨#[1, 97, 98]⟩⟩ = s3 := by rw [← hs3]; kernel_rfl
  have HA := Lib.hid (fun W : World => creset_is 1 8 W (by decide) (by decide))
  have HB := Lib.hid (fun W : World => cprint_is (resetF 1 8) _ 0 s1 W ⟨by decide, by decide, by decide⟩ (by decide) (Lib.hid pr) (Lib.hid hs1))
  have HC : Hid (∀ W : World, Calls Try.prog 9 #[.string s1] W fun e w' => e = .returned (.tuple #[.agg #[.int .u8 3, .int .u8 0, .int .u32 1, .string d1], .int .i64 13, .int .i64 0]) ∧ Below W.heap.size W w') := Lib.hid (fun W => cparse_is s1 _ 13 0 W (by rw [← hs1]; decide) (Lib.hid pp))
  have HD := Lib.hid (fun W : World => cwindow_is 0 0 W (by decide) (by decide))
  have HE := Lib.hid (fun W : World => cwrong_is (winF 0 0) 2 1 W ⟨by decide, by decide, by decide⟩ (by decide) (Lib.hid pw))
  have HF := Lib.hid (fun W : World => cset_is none 0 0 [] W (Lib.hid (fun k hk => absurd hk (Nat.not_lt_zero k))) (Lib.hid rfl) (by decide))
  have HG := Lib.hid (fun W : World => cprint_is (setF []) _ 0 s2 W ⟨by decide, by decide, by decide⟩ (by decide) (Lib.hid ps) (Lib.hid hs2))
  have HI : Hid (∀ W : World, Calls Try.prog 15 #[.agg #[.int .u8 0, .int .u8 8, .int .u32 1, .string ⟨#[1, 97, 98]⟩]] W fun e w' => e = .returned (.string s3) ∧ Below W.heap.size W w') := Lib.hid (fun W => ccont_is ⟨0, 8, 1, ⟨#[1, 97, 98]⟩⟩ s3 W ⟨by decide, by decide, by decide⟩ (by decide) (Lib.hid pc))
  have t1 : (s1.toList == [0, 0, 4, 3, 0, 0, 0, 0, 1, 0, 0, 0, 8]) = true := by rw [← hs1]; kernel_rfl
  have t2 : (s2.toList == [0, 0, 0, 4, 0, 0, 0, 0, 0]) = true := by rw [← hs2]; kernel_rfl
  have t3 : (s3.toList == [97]) = true := by rw [← hs3]; kernel_rfl
  clear pr pp pw ps pc hs1 hs2 hs3 hd1
  go_enter Try.func8, Try.ntmps8
  go_wp2_with fail
  refine (HA.out _).mono ?_
  rintro e w1 ⟨rfl, hB1⟩
  have HB1 := Lib.hid hB1
  clear hB1
  go_wp2_with fail
  refine (HB.out _).mono ?_
  rintro e w2 ⟨rfl, hB2⟩
  have HB2 := Lib.hid (HB1.out.trans (hB2.mono HB1.out.size))
  clear hB2
  go_wp2_with fail
  refine (HC.out _).mono ?_
  rintro e w3 ⟨rfl, hB3⟩
  have HB3 := Lib.hid (HB2.out.trans (hB3.mono HB2.out.size))
  clear hB3
  go_upto_region 3 with fail
  have hN := heap_alloc_new w3 (.cells #[.int .u8 3, .int .u8 0, .int .u32 1, .string d1] 24)
  have hBN := (Below.refl _ w3).alloc (Nat.le_refl _) (.cells #[.int .u8 3, .int .u8 0, .int .u32 1, .string d1] 24)
  obtain ⟨w4, hw4⟩ : ∃ w4, w3.alloc (.cells #[.int .u8 3, .int .u8 0, .int .u32 1, .string d1] 24) = w4 := ⟨_, rfl⟩
  rw [hw4] at hN hBN ⊢
  clear hw4
  obtain ⟨X, hX⟩ : ∃ X, w3.heap.size = X := ⟨_, rfl⟩
  have HB4 := Lib.hid (HB3.out.trans (hBN.mono HB3.out.size))
  rw [hX] at hN ⊢
  have HX4 : Hid (BoxF w4 X ⟨3, 0, 1, d1⟩) := Lib.hid hN
  clear hN hBN hX
  go_wp2_with fail
  refine (HD.out _).mono ?_
  rintro e w5 ⟨rfl, hB5⟩
  have HX5 := Lib.hid (HX4.out.below hB5)
  have HB5 := Lib.hid (HB4.out.trans (hB5.mono HB4.out.size))
  clear hB5
  go_wp2_with fail
  refine (HE.out _).mono ?_
  rintro e w6 ⟨rfl, hB6⟩
  have HX6 := Lib.hid (HX5.out.below hB6)
  have HB6 := Lib.hid (HB5.out.trans (hB6.mono HB5.out.size))
  clear hB6
  go_wp2_with fail
  refine (HF.out _).mono ?_
  rintro e w7 ⟨rfl, hB7⟩
  have HX7 := Lib.hid (HX6.out.below hB7)
  have HB7 := Lib.hid (HB6.out.trans (hB7.mono HB6.out.size))
  clear hB7
  go_wp2_with fail
  refine (HG.out _).mono ?_
  rintro e w8 ⟨rfl, hB8⟩
  have HX8 := Lib.hid (HX7.out.below hB8)
  have HB8 := Lib.hid (HB7.out.trans (hB8.mono HB7.out.size))
  clear hB8
  obtain ⟨a0, a1, a2, a3⟩ := HX8.out.c
  go_wp2_with fail
  refine (HI.out _).mono ?_
  rintro e w9 ⟨rfl, hB9⟩
  have HB9 := Lib.hid (HB8.out.trans (hB9.mono HB8.out.size))
  clear hB9
  go_wp2_with fail
  go_ret
  exact ⟨rfl, HB9.out⟩
end Go.Proofs.Ytfgeapoojogdbaa
