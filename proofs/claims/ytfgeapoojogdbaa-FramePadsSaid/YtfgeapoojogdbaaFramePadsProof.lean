import Derived.Test.YtfgeapoojogdbaaRows
import Derived.Test.YtfgeapoojogdbaaProg
import Derived.Test.YtfgeapoojogdbaaBytes
import Derived.Test.YtfgeapoojogdbaaNumBe
import Derived.Test.YtfgeapoojogdbaaFrMath
import Derived.Test.YtfgeapoojogdbaaFrFrame
import Derived.Test.YtfgeapoojogdbaaNumRefPut
import Derived.Test.YtfgeapoojogdbaaFrRef
import Derived.Test.YtfgeapoojogdbaaFrBack
import Derived.Test.YtfgeapoojogdbaaFrPads
import Derived.Test.YtfgeapoojogdbaaFrZeros
import Derived.Test.YtfgeapoojogdbaaFrCode
import Derived.Test.YtfgeapoojogdbaaFrAwake
import Derived.Deep.CutRange
import Derived.Deep.RegionWith
import Derived.Lib.Hide
import Derived.Outline
import Derived.IntWalk
import Derived.WalkSpells
import Derived.WalkLawsBesides
import Derived.Laws.Rows
import Derived.WalkKit
import Derived.ProofKit
import Derived.OpenShut
import Derived.ShutString
import Derived.ChangeOld
import Derived.Below
namespace Go.Proofs.Ytfgeapoojogdbaa.framePads
open Go Go.ChangeShapes Go.WideShapes Go.ChangeAt Go.RowKit Bytes Fr
open Go.ChangeMaps (open_string shut_string)
set_option linter.unusedVariables false

theorem own : ownKnob Try.prog.godebug = none := by kernel_rfl
theorem laidOut : laidOutB Try.prog = true := by kernel_rfl

set_option maxHeartbeats 8000000 in
set_option maxRecDepth 100000 in
theorem walk (m0 : Nat) (s1 : ByteArray) (m2 : Nat) (q3 : Bool) (m4 : Nat) (w : World) (hm0 : m0 ≤ 4294967295) (hs1 : s1.size ≤ maxLen) (hm2 : m2 ≤ 255) (hm4 : m4 ≤ 4294967295) :
    Calls Try.prog 7 #[.int .u32 (m0 : Int), .string s1, .int .u8 (m2 : Int), .bool q3, .int .u32 (m4 : Int)] w fun e w' => e = .returned (.bool true) ∧ Below w.heap.size w w' := by
  go_enter Try.func7, Try.ntmps7
  go_wp2_with fail
  refine (awake_is w).mono ?_
  rintro e w1 ⟨rfl, hB1⟩
  have HB1 := Lib.hid hB1
  clear hB1
  by_cases hbig : 10000 < s1.size
  · have b1 : (10000 : Int) < (s1.size : Int) := by omega
    go_wp2_with fail
    go_ret
    exact ⟨rfl, HB1.out⟩
  have b1 : ¬ ((10000 : Int) < (s1.size : Int)) := by omega
  have b1d : decide ((10000 : Int) < (s1.size : Int)) = false := decide_eq_false b1
  by_cases hz : m0 = 0
  · subst m0
    go_wp2_with fail
    go_ret
    exact ⟨rfl, HB1.out⟩
  have hzd : ((m0 : Int) == 0) = false := by simp; omega
  by_cases hst : 2147483647 < m0
  · have b2 : (2147483647 : Int) < (m0 : Int) := by omega
    go_wp2_with fail
    go_ret
    exact ⟨rfl, HB1.out⟩
  have b2 : ¬ ((2147483647 : Int) < (m0 : Int)) := by omega
  have b2d : decide ((2147483647 : Int) < (m0 : Int)) = false := decide_eq_false b2
  by_cases hne : m4 % 2147483648 = m0
  · have hned : ((m4 : Int) % 2147483648 == (m0 : Int)) = true := by simp; omega
    go_wp2_with fail
    go_ret
    exact ⟨rfl, HB1.out⟩
  have hned : ((m4 : Int) % 2147483648 == (m0 : Int)) = false := by simp; omega
  have hm2b : m2 < 256 := by omega
  obtain ⟨pb, hpb⟩ : ∃ pb, mk [UInt8.ofNat m2] = pb := ⟨_, rfl⟩
  have hcv := conv_new w1 [UInt8.ofNat m2] #[.int .u8 (m2 : Int)] 1 (by rw [byteCells_one, to_u8 hm2b]) rfl
  rw [hpb] at hcv
  have HPB := Lib.hid hpb
  clear hpb
  go_upto_region 6 with fail
  obtain ⟨V, hV⟩ : ∃ V, w1.alloc (.cells #[.int .u8 (m2 : Int)] 5) = V := ⟨_, rfl⟩
  have hVs : V.heap.size = w1.heap.size + 1 := by rw [← hV]; simp
  have HVB := Lib.hid (hV ▸ (Below.refl _ w1).alloc (Nat.le_refl _) (.cells #[.int .u8 (m2 : Int)] 5))
  rw [hV, ← hVs]
  clear hcv hV
  obtain ⟨hX2, hB2⟩ := boxF_new V ⟨1, 8, m0, pb⟩
  have HX2 := Lib.hid hX2
  have HB2 := Lib.hid (HB1.out.trans (((HVB.out.trans (hB2.mono HVB.out.size))).mono HB1.out.size))
  clear hX2 hB2 HVB
  replace HX2 : Hid (BoxF (V.alloc (.cells #[.int .u8 1, .int .u8 8, .int .u32 (m0 : Int), .string pb] 24)) V.heap.size ⟨1, 8, m0, pb⟩) := HX2
  replace HB2 : Hid (Below w.heap.size w (V.alloc (.cells #[.int .u8 1, .int .u8 8, .int .u32 (m0 : Int), .string pb] 24))) := HB2
  generalize V.alloc (.cells #[.int .u8 1, .int .u8 8, .int .u32 (m0 : Int), .string pb] 24) = W2 at *
  obtain ⟨X, hX⟩ : ∃ X, V.heap.size = X := ⟨_, rfl⟩
  have hgX : w.heap.size ≤ X := by have := HB1.out.size; omega
  rw [hX] at HX2 ⊢
  clear hX hVs
  have hm2' : m2 ≤ 255 := by omega
  have hps : pb.size = 1 := by rw [← HPB.out]; rfl
  obtain ⟨q4, hq4⟩ : ∃ q, mk (beTail m4 4) = q := ⟨_, rfl⟩
  have hq4s : q4.size = 4 := by rw [← hq4, mk_size, beTail_length]
  have HPQ : Hid (∀ W : World, Calls Try.prog 17 #[.string ⟨#[]⟩, .int .u64 (m4 : Int), .int .i64 4] W fun e w' => e = .returned (.string q4) ∧ Below W.heap.size W w') := Lib.hid (fun W : World => refPut_is ⟨#[]⟩ q4 m4 4 W (by decide) (by decide) (by omega) (Lib.hid (by rw [← hq4]; rfl)))
  have ew4 : IntKind.u64.wrap (m4 : Int) = (m4 : Int) := by rw [IntKind.wrap_u64]; omega
  go_upto_if 38 with fail
  go_cut [] from 39 to 47 (fun wx => ∃ (fl : Nat) (p : ByteArray), Hid (PadsOf q3 fl p pb q4) ∧ Hid (BoxF wx X ⟨1, fl, m0, p⟩) ∧ Hid (Below w.heap.size w wx))
  case first =>
    cases q3
    · go_wp2_with fail
      go_meet
      exact ⟨8, pb, Lib.hid (.inl ⟨rfl, rfl, rfl⟩), HX2, HB2⟩
    · obtain ⟨a0, a1, a2, a3⟩ := HX2.out.c
      have hfz : ∀ i, W2.frozen? ⟨X, i, none⟩ = false := HX2.out.frz
      have f1 := hfz 1
      go_upto_region 8 with fail
      have HX3 : Hid (BoxF (W2.setCell ⟨X, 1, none⟩ (.int .u8 40)) X ⟨1, 40, m0, pb⟩) := Lib.hid (HX2.out.setfl 40)
      have HB3 : Hid (Below w.heap.size w (W2.setCell ⟨X, 1, none⟩ (.int .u8 40))) := Lib.hid (HB2.out.setCell (p := ⟨X, 1, none⟩) hgX _)
      generalize W2.setCell ⟨X, 1, none⟩ (.int .u8 40) = W3 at *
      clear a0 a1 a2 a3 hfz f1
      obtain ⟨a0, a1, a2, a3⟩ := HX3.out.c
      have HX3d : Hid (BoxF W3.drew X ⟨1, 40, m0, pb⟩) := HX3
      have HB3d := Lib.hid HB3.out.drew
      have hcs : (pb ++ q4).size ≤ 10 := by rw [ByteArray.size_append]; omega
      go_region_with (go_at_call 17; (with_reducible refine (HPQ.out _).mono ?_); rintro e W4 ⟨rfl, hB4⟩; have HX4 := Lib.hid (HX3d.out.below hB4); have HB4 := Lib.hid (HB3d.out.trans (hB4.mono HB3d.out.size)); clear hB4; (obtain ⟨b0, b1, b2, b3⟩ := HX4.out.c); have g3 := HX4.out.frz 3)
      all_goals
        go_wp2_with fail
        go_meet
        exact ⟨40, _, Lib.hid (.inr ⟨rfl, rfl, rfl⟩), Lib.hid (HX4.out.set _), Lib.hid (HB4.out.setCell (p := ⟨X, 3, none⟩) hgX _)⟩
  case rest =>
    obtain ⟨fl, p, HFP, HX3, HB3⟩ := hcut
    generalize wc = W3 at *
    clear HX2 HB2 HPQ ew4
    have hp20 : p.size ≤ 20 := by
      rcases HFP.out with ⟨_, _, rfl⟩ | ⟨_, _, rfl⟩
      · omega
      · rw [ByteArray.size_append, ByteArray.size_append]
        have : (⟨#[7]⟩ : ByteArray).size = 1 := rfl
        omega
    have hmz := make_zeros m2 hm2'
    have hzs : (zerosT m2).size = m2 := by unfold zerosT; rw [mk_size, List.length_replicate]
    obtain ⟨r, hr⟩ : ∃ r, p ++ s1 ++ zerosT m2 = r := ⟨_, rfl⟩
    obtain ⟨r0, hr0⟩ : ∃ r0, pb ++ s1 ++ zerosT m2 = r0 := ⟨_, rfl⟩
    have hrl0 : r0.data.toList = UInt8.ofNat m2 :: (s1.data.toList ++ List.replicate m2 0) := by
      rw [← hr0, cat_list, cat_list, ← HPB.out, mk_list]
      unfold zerosT
      rw [mk_list, List.append_assoc]
      rfl
    obtain ⟨hw0, hc1, hc0⟩ := pads_off hz hm2b hrl0
    have hfl : fl < 256 := by
      rcases HFP.out with ⟨_, rfl, _⟩ | ⟨_, rfl, _⟩ <;> decide
    have hboth : wrongF ⟨1, fl, m0, r⟩ = (0, 0) ∧ contentF ⟨1, fl, m0, r⟩ = s1 := by
      rcases HFP.out with ⟨_, rfl, rfl⟩ | ⟨_, rfl, rfl⟩
      · have e : r = r0 := hr.symm.trans hr0
        rw [e]
        exact ⟨hw0, hc1⟩
      · have hrl : r.data.toList = UInt8.ofNat m2 :: (beTail m4 4 ++ 7 :: (s1.data.toList ++ List.replicate m2 0)) := by
          rw [← hr, cat_list, cat_list, cat_list, cat_list, ← HPB.out, ← hq4, mk_list, mk_list]
          unfold zerosT
          rw [mk_list]
          simp
        exact pads_on hz hne hm2b hrl
    have hrs : r.size ≤ 1000000 := by rw [← hr, ByteArray.size_append, ByteArray.size_append]; omega
    have hrs0 : r0.size ≤ 1000000 := by rw [← hr0, ByteArray.size_append, ByteArray.size_append]; omega
    have okf1 : Okf ⟨1, fl, m0, r⟩ := ⟨by show 1 < 256; omega, hfl, by show m0 < 4294967296; omega⟩
    have okf0 : Okf ⟨0, 8, m0, r0⟩ := ⟨by show 0 < 256; omega, by show 8 < 256; omega, by show m0 < 4294967296; omega⟩
    have HCW : Hid (∀ W : World, Calls Try.prog 13 #[.agg #[.int .u8 1, .int .u8 (fl : Int), .int .u32 (m0 : Int), .string r]] W fun e w' => e = .returned (.tuple #[.int .i64 0, .int .u32 0]) ∧ Below W.heap.size W w') := Lib.hid (fun W => cwrong_is ⟨1, fl, m0, r⟩ 0 0 W okf1 hrs (Lib.hid hboth.1))
    have HCA : Hid (∀ W : World, Calls Try.prog 15 #[.agg #[.int .u8 1, .int .u8 (fl : Int), .int .u32 (m0 : Int), .string r]] W fun e w' => e = .returned (.string s1) ∧ Below W.heap.size W w') := Lib.hid (fun W => ccont_is ⟨1, fl, m0, r⟩ s1 W okf1 hrs (Lib.hid hboth.2))
    have HCB : Hid (∀ W : World, Calls Try.prog 15 #[.agg #[.int .u8 0, .int .u8 8, .int .u32 (m0 : Int), .string (pb ++ s1 ++ zerosT m2)]] W fun e w' => e = .returned (.string s1) ∧ Below W.heap.size W w') := Lib.hid (fun W => by rw [hr0]; exact ccont_is ⟨0, 8, m0, r0⟩ s1 W okf0 hrs0 (Lib.hid hc0))
    have HRR := Lib.hid hr
    clear hrl0 hw0 hc1 hc0 hboth okf1 okf0 hrs0 hr0 hr hq4 hq4s hfl r0
    obtain ⟨a0, a1, a2, a3⟩ := HX3.out.c
    have HX4 := HX3.out.below ((Below.refl _ W3).alloc (Nat.le_refl _) (ZerosO m2))
    obtain ⟨c0, c1, c2, c3⟩ := HX4.c
    have hfz := HX4.free
    have hf2 := HX3.out.free
    have hcz : (convert 52 9 (.slice (some ⟨W3.heap.size, 0, none⟩) m2 m2)).run Try.prog (W3.alloc (ZerosO m2)).drew = .ok (.string (zerosT m2)) (W3.alloc (ZerosO m2)).drew := conv_zeros m2 W3.drew
    go_upto_region 9 with fail
    go_cut [] from 48 to 56 (fun wx => Hid (BoxF wx X ⟨1, fl, m0, r⟩) ∧ Hid (Below w.heap.size w wx))
    case first =>
      go_region
      all_goals
        go_wp2_with fail
        go_meet
        rw [HRR.out]
        exact ⟨Lib.hid (HX4.set r), Lib.hid (((HB3.out.alloc HB3.out.size (ZerosO m2)).setCell (p := ⟨X, 3, none⟩) hgX _).drew)⟩
    case rest =>
      obtain ⟨HX5, HB5⟩ := hcut
      generalize wc = W5 at *
      clear HX4 a0 a1 a2 a3 c0 c1 c2 c3 hfz hf2 hcz HX3 HB3 HRR HFP
      obtain ⟨a0, a1, a2, a3⟩ := HX5.out.c
      replace a0 : W5.cell? ⟨X, 0, none⟩ = some (.int .u8 1) := a0
      go_wp2_with fail
      refine (HCW.out _).mono ?_
      rintro e W6 ⟨rfl, hB6⟩
      have HX6 := Lib.hid (HX5.out.below hB6)
      have HB6 := Lib.hid (HB5.out.trans (hB6.mono HB5.out.size))
      clear hB6 a0 a1 a2 a3 HX5 HB5 HCW hz hst hne hbig hrs
      obtain ⟨a0, a1, a2, a3⟩ := HX6.out.c
      replace a0 : W6.cell? ⟨X, 0, none⟩ = some (.int .u8 1) := a0
      have hss : (s1.toList == s1.toList) = true := beq_self_eq_true _
      go_upto_region 11 with fail
      have HB6d := Lib.hid HB6.out.drew
      refine wp_region_any (by kernel_rfl) ?_
      change wpAny _ _ _ _ _ _ _ (World.drew _)
      refine take_at (i := 0) (d := 62) (v := ?_) rfl rfl (by kernel_rfl) (by kernel_rfl) (by kernel_rfl) (fun _ _ _ h => h) (by kernel_rfl) ?_ ?_
      rotate_left
      · intro w; go_simp; try with_reducible rfl
      simp only [List.setIfInBounds_toArray, List.set_cons_succ, List.set_cons_zero]
      refine take_at (i := 1) (d := 63) (v := ?_) rfl rfl (by kernel_rfl) (by kernel_rfl) (by kernel_rfl) (fun _ _ _ h => h) (by kernel_rfl) ?_ ?_
      rotate_left
      · intro w; go_simp; try with_reducible rfl
      simp only [List.setIfInBounds_toArray, List.set_cons_succ, List.set_cons_zero]
      refine take_at (i := 2) (d := 64) (v := ?_) rfl rfl (by kernel_rfl) (by kernel_rfl) (by kernel_rfl) (fun _ _ _ h => h) (by kernel_rfl) ?_ ?_
      rotate_left
      · intro w; go_simp; try with_reducible rfl
      simp only [List.setIfInBounds_toArray, List.set_cons_succ, List.set_cons_zero]
      refine take_at (i := 3) (d := 65) (v := ?_) rfl rfl (by kernel_rfl) (by kernel_rfl) (by kernel_rfl) (fun _ _ _ h => h) (by kernel_rfl) ?_ ?_
      rotate_left
      · intro w; go_simp; try with_reducible rfl
      simp only [List.setIfInBounds_toArray, List.set_cons_succ, List.set_cons_zero]
      refine take_at (i := 4) (d := 66) (v := ?_) rfl rfl (by kernel_rfl) (by kernel_rfl) (by kernel_rfl) (fun _ _ _ h => h) (by kernel_rfl) ?_ ?_
      rotate_left
      · intro w; go_simp; try with_reducible rfl
      simp only [List.setIfInBounds_toArray, List.set_cons_succ, List.set_cons_zero]
      refine take_at (i := 5) (d := 67) (v := ?_) rfl rfl (by kernel_rfl) (by kernel_rfl) (by kernel_rfl) (fun _ _ _ h => h) (by kernel_rfl) ?_ ?_
      rotate_left
      · intro w; go_simp; try with_reducible rfl
      simp only [List.setIfInBounds_toArray, List.set_cons_succ, List.set_cons_zero]
      refine take_at (i := 6) (d := 68) (v := ?_) rfl rfl (by kernel_rfl) (by kernel_rfl) (by kernel_rfl) (fun _ _ _ h => h) (by kernel_rfl) ?_ ?_
      rotate_left
      · intro w; go_simp; try with_reducible rfl
      simp only [List.setIfInBounds_toArray, List.set_cons_succ, List.set_cons_zero]
      refine take_at (i := 9) (d := 71) (v := ?_) rfl rfl (by kernel_rfl) (by kernel_rfl) (by kernel_rfl) (fun _ _ _ h => h) (by kernel_rfl) ?_ ?_
      rotate_left
      · intro w; go_simp; try with_reducible rfl
      simp only [List.setIfInBounds_toArray, List.set_cons_succ, List.set_cons_zero]
      refine wpAny_ready (rs := [7]) (by kernel_rfl) (by simp) ?_
      refine AllReady.cons rfl (fun K hK => ?_) AllReady.nil
      go_simp
      refine hK _ _ ?_
      clear hK K
      refine wpAny_ready (rs := [8]) (by kernel_rfl) (by simp) ?_
      refine AllReady.cons rfl (fun K hK => ?_) AllReady.nil
      go_simp
      refine (HCA.out _).mono ?_
      rintro e W7 ⟨rfl, hB7⟩
      have HB7 := Lib.hid (HB6d.out.trans (hB7.mono HB6d.out.size))
      clear hB7
      refine hK _ _ ?_
      clear hK K
      refine take_at (i := 10) (d := 72) (v := ?_) rfl rfl (by kernel_rfl) (by kernel_rfl) (by kernel_rfl) (fun _ _ _ h => h) (by kernel_rfl) ?_ ?_
      rotate_left
      · intro w; go_simp; try with_reducible rfl
      simp only [List.setIfInBounds_toArray, List.set_cons_succ, List.set_cons_zero]
      refine take_at (i := 11) (d := 73) (v := ?_) rfl rfl (by kernel_rfl) (by kernel_rfl) (by kernel_rfl) (fun _ _ _ h => h) (by kernel_rfl) ?_ ?_
      rotate_left
      · intro w; go_simp; try with_reducible rfl
      simp only [List.setIfInBounds_toArray, List.set_cons_succ, List.set_cons_zero]
      refine take_at (i := 12) (d := 74) (v := ?_) rfl rfl (by kernel_rfl) (by kernel_rfl) (by kernel_rfl) (fun _ _ _ h => h) (by kernel_rfl) ?_ ?_
      rotate_left
      · intro w; go_simp; try with_reducible rfl
      simp only [List.setIfInBounds_toArray, List.set_cons_succ, List.set_cons_zero]
      refine take_at (i := 13) (d := 75) (v := ?_) rfl rfl (by kernel_rfl) (by kernel_rfl) (by kernel_rfl) (fun _ _ _ h => h) (by kernel_rfl) ?_ ?_
      rotate_left
      · intro w; go_simp; try with_reducible rfl
      simp only [List.setIfInBounds_toArray, List.set_cons_succ, List.set_cons_zero]
      refine take_at (i := 14) (d := 76) (v := ?_) rfl rfl (by kernel_rfl) (by kernel_rfl) (by kernel_rfl) (fun _ _ _ h => h) (by kernel_rfl) ?_ ?_
      rotate_left
      · intro w; go_simp; try with_reducible rfl
      simp only [List.setIfInBounds_toArray, List.set_cons_succ, List.set_cons_zero]
      refine take_at (i := 17) (d := 79) (v := ?_) rfl rfl (by kernel_rfl) (by kernel_rfl) (by kernel_rfl) (fun _ _ _ h => h) (by kernel_rfl) ?_ ?_
      rotate_left
      · intro w; go_simp; try with_reducible rfl
      simp only [List.setIfInBounds_toArray, List.set_cons_succ, List.set_cons_zero]
      refine take_at (i := 19) (d := 81) (v := ?_) rfl rfl (by kernel_rfl) (by kernel_rfl) (by kernel_rfl) (fun _ _ _ h => h) (by kernel_rfl) ?_ ?_
      rotate_left
      · intro w; go_simp; try with_reducible rfl
      simp only [List.setIfInBounds_toArray, List.set_cons_succ, List.set_cons_zero]
      refine take_at (i := 25) (d := 87) (v := ?_) rfl rfl (by kernel_rfl) (by kernel_rfl) (by kernel_rfl) (fun _ _ _ h => h) (by kernel_rfl) ?_ ?_
      rotate_left
      · intro w; go_simp; try with_reducible rfl
      simp only [List.setIfInBounds_toArray, List.set_cons_succ, List.set_cons_zero]
      clear a0 a1 a2 a3 HX6 HB6 HB6d HCA
      obtain ⟨S, hS⟩ : ∃ S, W7.heap.size = S := ⟨_, rfl⟩
      obtain ⟨O1, hO1⟩ : ∃ O1 : Obj, O1 = .cells #[.int .u8 (m2 : Int)] 5 := ⟨_, rfl⟩
      have hc5 : (#[.int .u8 (m2 : Int)] : Array Value).toList = byteCells [UInt8.ofNat m2] := by rw [byteCells_one, to_u8 hm2b]
      have hcZ : (madeCells #[.int .u8 0] m2).toList = byteCells (List.replicate m2 0) := by rw [toList_madeCells_one]; simp [byteCells]
      have hA1 : (W7.alloc (.cells #[.int .u8 (m2 : Int)] 5)).heap[S]? = some (.cells #[.int .u8 (m2 : Int)] 5 (0, 0)) := by rw [← hS]; exact heap_alloc_new W7 _
      have hAs : (W7.alloc (.cells #[.int .u8 (m2 : Int)] 5)).heap.size = S + 1 := by simp [hS]
      have hA2 : ((W7.alloc (.cells #[.int .u8 (m2 : Int)] 5)).alloc (ZerosO m2)).heap[S]? = some (.cells #[.int .u8 (m2 : Int)] 5 (0, 0)) := (heap_alloc_old _ _ (by omega)).trans hA1
      have hA3 : ((W7.alloc (.cells #[.int .u8 (m2 : Int)] 5)).alloc (ZerosO m2)).heap[S + 1]? = some (ZerosO m2) := by rw [← hAs]; exact heap_alloc_new _ _
      have hD1 : (W7.alloc (ZerosO m2)).heap[S]? = some (ZerosO m2) := by rw [← hS]; exact heap_alloc_new W7 _
      have hDs : (W7.alloc (ZerosO m2)).heap.size = S + 1 := by simp [hS]
      have hD2 : ((W7.alloc (ZerosO m2)).alloc (.cells #[.int .u8 (m2 : Int)] 5)).heap[S]? = some (ZerosO m2) := (heap_alloc_old _ _ (by omega)).trans hD1
      have hD3 : ((W7.alloc (ZerosO m2)).alloc (.cells #[.int .u8 (m2 : Int)] 5)).heap[S + 1]? = some (.cells #[.int .u8 (m2 : Int)] 5 (0, 0)) := by rw [← hDs]; exact heap_alloc_new _ _
      have k1 := conv_any (n := 1) hA1 hc5 rfl
      have k2 := conv_any (n := m2) hA3 hcZ (List.length_replicate ..)
      have k3 := conv_any (n := 1) hA2 hc5 rfl
      have k4 := conv_any (n := m2) hD1 hcZ (List.length_replicate ..)
      have k5 := conv_any (n := 1) hD3 hc5 rfl
      have k6 := conv_any (n := m2) hD2 hcZ (List.length_replicate ..)
      rw [HPB.out] at k1 k3 k5
      rw [show mk (List.replicate m2 0) = zerosT m2 from rfl] at k2 k4 k6
      have HBA : Hid (Below w.heap.size w ((W7.alloc (.cells #[.int .u8 (m2 : Int)] 5)).alloc (ZerosO m2))) := Lib.hid ((HB7.out.alloc HB7.out.size _).alloc (by have := HB7.out.size; simp; omega) _)
      have HBD : Hid (Below w.heap.size w ((W7.alloc (ZerosO m2)).alloc (.cells #[.int .u8 (m2 : Int)] 5))) := Lib.hid ((HB7.out.alloc HB7.out.size _).alloc (by have := HB7.out.size; simp; omega) _)
      have hn1 : ¬ 9223372036854775807 < 1 + s1.size := by omega
      have hn2 : ¬ 9223372036854775807 < 1 + s1.size + m2 := by omega
      clear hA1 hA2 hA3 hD1 hD2 hD3 hc5 hcZ hAs hDs hO1
      refine wpAny_ready (rs := [15, 20]) (by kernel_rfl) (by simp) ?_
      refine AllReady.cons rfl (fun K hK => ?_) (AllReady.cons rfl (fun K hK => ?_) AllReady.nil)
      · go_simp
        refine hK _ _ ?_
        clear hK K
        refine wpAny_ready (rs := [16, 20]) (by kernel_rfl) (by simp) ?_
        refine AllReady.cons rfl (fun K hK => ?_) (AllReady.cons rfl (fun K hK => ?_) AllReady.nil)
        · go_simp
          refine hK _ _ ?_
          clear hK K
          refine take_at (i := 18) (d := 80) (v := ?_) rfl rfl (by kernel_rfl) (by kernel_rfl) (by kernel_rfl) (fun _ _ _ h => h) (by kernel_rfl) ?_ ?_
          rotate_left
          · intro w; go_simp; try with_reducible rfl
          simp only [List.setIfInBounds_toArray, List.set_cons_succ, List.set_cons_zero]
          refine wpAny_ready (rs := [20]) (by kernel_rfl) (by simp) ?_
          refine AllReady.cons rfl (fun K hK => ?_) AllReady.nil
          go_simp
          refine hK _ _ ?_
          clear hK K
          refine wpAny_ready (rs := [21]) (by kernel_rfl) (by simp) ?_
          refine AllReady.cons rfl (fun K hK => ?_) AllReady.nil
          go_simp
          refine hK _ _ ?_
          clear hK K
          refine take_at (i := 22) (d := 84) (v := ?_) rfl rfl (by kernel_rfl) (by kernel_rfl) (by kernel_rfl) (fun _ _ _ h => h) (by kernel_rfl) ?_ ?_
          rotate_left
          · intro w; go_simp; try with_reducible rfl
          simp only [List.setIfInBounds_toArray, List.set_cons_succ, List.set_cons_zero]
          have HBF := HBA
          refine take_at (i := 23) (d := 85) (v := ?_) rfl rfl (by kernel_rfl) (by kernel_rfl) (by kernel_rfl) (fun _ _ _ h => h) (by kernel_rfl) ?_ ?_
          rotate_left
          · intro w; go_simp; try with_reducible rfl
          simp only [List.setIfInBounds_toArray, List.set_cons_succ, List.set_cons_zero]
          refine wpAny_ready (rs := [24]) (by kernel_rfl) (by simp) ?_
          refine AllReady.cons rfl (fun K hK => ?_) AllReady.nil
          go_simp
          refine (HCB.out _).mono ?_
          rintro e W8 ⟨rfl, hB8⟩
          have HB8 := Lib.hid (HBF.out.trans (hB8.mono HBF.out.size))
          clear hB8
          refine hK _ _ ?_
          clear hK K
          refine take_at (i := 26) (d := 88) (v := ?_) rfl rfl (by kernel_rfl) (by kernel_rfl) (by kernel_rfl) (fun _ _ _ h => h) (by kernel_rfl) ?_ ?_
          rotate_left
          · intro w; go_simp; try with_reducible rfl
          simp only [List.setIfInBounds_toArray, List.set_cons_succ, List.set_cons_zero]
          refine take_at (i := 27) (d := 89) (v := ?_) rfl rfl (by kernel_rfl) (by kernel_rfl) (by kernel_rfl) (fun _ _ _ h => h) (by kernel_rfl) ?_ ?_
          rotate_left
          · intro w; go_simp; try with_reducible rfl
          simp only [List.setIfInBounds_toArray, List.set_cons_succ, List.set_cons_zero]
          refine take_at (i := 28) (d := 10) (v := ?_) rfl rfl (by kernel_rfl) (by kernel_rfl) (by kernel_rfl) (fun _ _ _ h => h) (by kernel_rfl) ?_ ?_
          rotate_left
          · intro w; go_simp; try with_reducible rfl
          simp only [List.setIfInBounds_toArray, List.set_cons_succ, List.set_cons_zero]
          refine wpAny_done (by kernel_rfl) ?_ _
          go_wp2_with fail
          go_ret
          exact ⟨rfl, HB8.out⟩
        · go_simp
          refine hK _ _ ?_
          clear hK K
          refine wpAny_ready (rs := [16, 21]) (by kernel_rfl) (by simp) ?_
          refine AllReady.cons rfl (fun K hK => ?_) (AllReady.cons rfl (fun K hK => ?_) AllReady.nil)
          · go_simp
            refine hK _ _ ?_
            clear hK K
            refine take_at (i := 18) (d := 80) (v := ?_) rfl rfl (by kernel_rfl) (by kernel_rfl) (by kernel_rfl) (fun _ _ _ h => h) (by kernel_rfl) ?_ ?_
            rotate_left
            · intro w; go_simp; try with_reducible rfl
            simp only [List.setIfInBounds_toArray, List.set_cons_succ, List.set_cons_zero]
            refine wpAny_ready (rs := [21]) (by kernel_rfl) (by simp) ?_
            refine AllReady.cons rfl (fun K hK => ?_) AllReady.nil
            go_simp
            refine hK _ _ ?_
            clear hK K
            refine take_at (i := 22) (d := 84) (v := ?_) rfl rfl (by kernel_rfl) (by kernel_rfl) (by kernel_rfl) (fun _ _ _ h => h) (by kernel_rfl) ?_ ?_
            rotate_left
            · intro w; go_simp; try with_reducible rfl
            simp only [List.setIfInBounds_toArray, List.set_cons_succ, List.set_cons_zero]
            have HBF := HBA
            refine take_at (i := 23) (d := 85) (v := ?_) rfl rfl (by kernel_rfl) (by kernel_rfl) (by kernel_rfl) (fun _ _ _ h => h) (by kernel_rfl) ?_ ?_
            rotate_left
            · intro w; go_simp; try with_reducible rfl
            simp only [List.setIfInBounds_toArray, List.set_cons_succ, List.set_cons_zero]
            refine wpAny_ready (rs := [24]) (by kernel_rfl) (by simp) ?_
            refine AllReady.cons rfl (fun K hK => ?_) AllReady.nil
            go_simp
            refine (HCB.out _).mono ?_
            rintro e W8 ⟨rfl, hB8⟩
            have HB8 := Lib.hid (HBF.out.trans (hB8.mono HBF.out.size))
            clear hB8
            refine hK _ _ ?_
            clear hK K
            refine take_at (i := 26) (d := 88) (v := ?_) rfl rfl (by kernel_rfl) (by kernel_rfl) (by kernel_rfl) (fun _ _ _ h => h) (by kernel_rfl) ?_ ?_
            rotate_left
            · intro w; go_simp; try with_reducible rfl
            simp only [List.setIfInBounds_toArray, List.set_cons_succ, List.set_cons_zero]
            refine take_at (i := 27) (d := 89) (v := ?_) rfl rfl (by kernel_rfl) (by kernel_rfl) (by kernel_rfl) (fun _ _ _ h => h) (by kernel_rfl) ?_ ?_
            rotate_left
            · intro w; go_simp; try with_reducible rfl
            simp only [List.setIfInBounds_toArray, List.set_cons_succ, List.set_cons_zero]
            refine take_at (i := 28) (d := 10) (v := ?_) rfl rfl (by kernel_rfl) (by kernel_rfl) (by kernel_rfl) (fun _ _ _ h => h) (by kernel_rfl) ?_ ?_
            rotate_left
            · intro w; go_simp; try with_reducible rfl
            simp only [List.setIfInBounds_toArray, List.set_cons_succ, List.set_cons_zero]
            refine wpAny_done (by kernel_rfl) ?_ _
            go_wp2_with fail
            go_ret
            exact ⟨rfl, HB8.out⟩
          · go_simp
            refine hK _ _ ?_
            clear hK K
            refine wpAny_ready (rs := [16]) (by kernel_rfl) (by simp) ?_
            refine AllReady.cons rfl (fun K hK => ?_) AllReady.nil
            go_simp
            refine hK _ _ ?_
            clear hK K
            refine take_at (i := 18) (d := 80) (v := ?_) rfl rfl (by kernel_rfl) (by kernel_rfl) (by kernel_rfl) (fun _ _ _ h => h) (by kernel_rfl) ?_ ?_
            rotate_left
            · intro w; go_simp; try with_reducible rfl
            simp only [List.setIfInBounds_toArray, List.set_cons_succ, List.set_cons_zero]
            refine take_at (i := 22) (d := 84) (v := ?_) rfl rfl (by kernel_rfl) (by kernel_rfl) (by kernel_rfl) (fun _ _ _ h => h) (by kernel_rfl) ?_ ?_
            rotate_left
            · intro w; go_simp; try with_reducible rfl
            simp only [List.setIfInBounds_toArray, List.set_cons_succ, List.set_cons_zero]
            have HBF := HBA
            refine take_at (i := 23) (d := 85) (v := ?_) rfl rfl (by kernel_rfl) (by kernel_rfl) (by kernel_rfl) (fun _ _ _ h => h) (by kernel_rfl) ?_ ?_
            rotate_left
            · intro w; go_simp; try with_reducible rfl
            simp only [List.setIfInBounds_toArray, List.set_cons_succ, List.set_cons_zero]
            refine wpAny_ready (rs := [24]) (by kernel_rfl) (by simp) ?_
            refine AllReady.cons rfl (fun K hK => ?_) AllReady.nil
            go_simp
            refine (HCB.out _).mono ?_
            rintro e W8 ⟨rfl, hB8⟩
            have HB8 := Lib.hid (HBF.out.trans (hB8.mono HBF.out.size))
            clear hB8
            refine hK _ _ ?_
            clear hK K
            refine take_at (i := 26) (d := 88) (v := ?_) rfl rfl (by kernel_rfl) (by kernel_rfl) (by kernel_rfl) (fun _ _ _ h => h) (by kernel_rfl) ?_ ?_
            rotate_left
            · intro w; go_simp; try with_reducible rfl
            simp only [List.setIfInBounds_toArray, List.set_cons_succ, List.set_cons_zero]
            refine take_at (i := 27) (d := 89) (v := ?_) rfl rfl (by kernel_rfl) (by kernel_rfl) (by kernel_rfl) (fun _ _ _ h => h) (by kernel_rfl) ?_ ?_
            rotate_left
            · intro w; go_simp; try with_reducible rfl
            simp only [List.setIfInBounds_toArray, List.set_cons_succ, List.set_cons_zero]
            refine take_at (i := 28) (d := 10) (v := ?_) rfl rfl (by kernel_rfl) (by kernel_rfl) (by kernel_rfl) (fun _ _ _ h => h) (by kernel_rfl) ?_ ?_
            rotate_left
            · intro w; go_simp; try with_reducible rfl
            simp only [List.setIfInBounds_toArray, List.set_cons_succ, List.set_cons_zero]
            refine wpAny_done (by kernel_rfl) ?_ _
            go_wp2_with fail
            go_ret
            exact ⟨rfl, HB8.out⟩
      · go_simp
        refine hK _ _ ?_
        clear hK K
        refine wpAny_ready (rs := [15, 21]) (by kernel_rfl) (by simp) ?_
        refine AllReady.cons rfl (fun K hK => ?_) (AllReady.cons rfl (fun K hK => ?_) AllReady.nil)
        · go_simp
          refine hK _ _ ?_
          clear hK K
          refine wpAny_ready (rs := [16, 21]) (by kernel_rfl) (by simp) ?_
          refine AllReady.cons rfl (fun K hK => ?_) (AllReady.cons rfl (fun K hK => ?_) AllReady.nil)
          · go_simp
            refine hK _ _ ?_
            clear hK K
            refine take_at (i := 18) (d := 80) (v := ?_) rfl rfl (by kernel_rfl) (by kernel_rfl) (by kernel_rfl) (fun _ _ _ h => h) (by kernel_rfl) ?_ ?_
            rotate_left
            · intro w; go_simp; try with_reducible rfl
            simp only [List.setIfInBounds_toArray, List.set_cons_succ, List.set_cons_zero]
            refine wpAny_ready (rs := [21]) (by kernel_rfl) (by simp) ?_
            refine AllReady.cons rfl (fun K hK => ?_) AllReady.nil
            go_simp
            refine hK _ _ ?_
            clear hK K
            refine take_at (i := 22) (d := 84) (v := ?_) rfl rfl (by kernel_rfl) (by kernel_rfl) (by kernel_rfl) (fun _ _ _ h => h) (by kernel_rfl) ?_ ?_
            rotate_left
            · intro w; go_simp; try with_reducible rfl
            simp only [List.setIfInBounds_toArray, List.set_cons_succ, List.set_cons_zero]
            have HBF := HBD
            refine take_at (i := 23) (d := 85) (v := ?_) rfl rfl (by kernel_rfl) (by kernel_rfl) (by kernel_rfl) (fun _ _ _ h => h) (by kernel_rfl) ?_ ?_
            rotate_left
            · intro w; go_simp; try with_reducible rfl
            simp only [List.setIfInBounds_toArray, List.set_cons_succ, List.set_cons_zero]
            refine wpAny_ready (rs := [24]) (by kernel_rfl) (by simp) ?_
            refine AllReady.cons rfl (fun K hK => ?_) AllReady.nil
            go_simp
            refine (HCB.out _).mono ?_
            rintro e W8 ⟨rfl, hB8⟩
            have HB8 := Lib.hid (HBF.out.trans (hB8.mono HBF.out.size))
            clear hB8
            refine hK _ _ ?_
            clear hK K
            refine take_at (i := 26) (d := 88) (v := ?_) rfl rfl (by kernel_rfl) (by kernel_rfl) (by kernel_rfl) (fun _ _ _ h => h) (by kernel_rfl) ?_ ?_
            rotate_left
            · intro w; go_simp; try with_reducible rfl
            simp only [List.setIfInBounds_toArray, List.set_cons_succ, List.set_cons_zero]
            refine take_at (i := 27) (d := 89) (v := ?_) rfl rfl (by kernel_rfl) (by kernel_rfl) (by kernel_rfl) (fun _ _ _ h => h) (by kernel_rfl) ?_ ?_
            rotate_left
            · intro w; go_simp; try with_reducible rfl
            simp only [List.setIfInBounds_toArray, List.set_cons_succ, List.set_cons_zero]
            refine take_at (i := 28) (d := 10) (v := ?_) rfl rfl (by kernel_rfl) (by kernel_rfl) (by kernel_rfl) (fun _ _ _ h => h) (by kernel_rfl) ?_ ?_
            rotate_left
            · intro w; go_simp; try with_reducible rfl
            simp only [List.setIfInBounds_toArray, List.set_cons_succ, List.set_cons_zero]
            refine wpAny_done (by kernel_rfl) ?_ _
            go_wp2_with fail
            go_ret
            exact ⟨rfl, HB8.out⟩
          · go_simp
            refine hK _ _ ?_
            clear hK K
            refine wpAny_ready (rs := [16]) (by kernel_rfl) (by simp) ?_
            refine AllReady.cons rfl (fun K hK => ?_) AllReady.nil
            go_simp
            refine hK _ _ ?_
            clear hK K
            refine take_at (i := 18) (d := 80) (v := ?_) rfl rfl (by kernel_rfl) (by kernel_rfl) (by kernel_rfl) (fun _ _ _ h => h) (by kernel_rfl) ?_ ?_
            rotate_left
            · intro w; go_simp; try with_reducible rfl
            simp only [List.setIfInBounds_toArray, List.set_cons_succ, List.set_cons_zero]
            refine take_at (i := 22) (d := 84) (v := ?_) rfl rfl (by kernel_rfl) (by kernel_rfl) (by kernel_rfl) (fun _ _ _ h => h) (by kernel_rfl) ?_ ?_
            rotate_left
            · intro w; go_simp; try with_reducible rfl
            simp only [List.setIfInBounds_toArray, List.set_cons_succ, List.set_cons_zero]
            have HBF := HBD
            refine take_at (i := 23) (d := 85) (v := ?_) rfl rfl (by kernel_rfl) (by kernel_rfl) (by kernel_rfl) (fun _ _ _ h => h) (by kernel_rfl) ?_ ?_
            rotate_left
            · intro w; go_simp; try with_reducible rfl
            simp only [List.setIfInBounds_toArray, List.set_cons_succ, List.set_cons_zero]
            refine wpAny_ready (rs := [24]) (by kernel_rfl) (by simp) ?_
            refine AllReady.cons rfl (fun K hK => ?_) AllReady.nil
            go_simp
            refine (HCB.out _).mono ?_
            rintro e W8 ⟨rfl, hB8⟩
            have HB8 := Lib.hid (HBF.out.trans (hB8.mono HBF.out.size))
            clear hB8
            refine hK _ _ ?_
            clear hK K
            refine take_at (i := 26) (d := 88) (v := ?_) rfl rfl (by kernel_rfl) (by kernel_rfl) (by kernel_rfl) (fun _ _ _ h => h) (by kernel_rfl) ?_ ?_
            rotate_left
            · intro w; go_simp; try with_reducible rfl
            simp only [List.setIfInBounds_toArray, List.set_cons_succ, List.set_cons_zero]
            refine take_at (i := 27) (d := 89) (v := ?_) rfl rfl (by kernel_rfl) (by kernel_rfl) (by kernel_rfl) (fun _ _ _ h => h) (by kernel_rfl) ?_ ?_
            rotate_left
            · intro w; go_simp; try with_reducible rfl
            simp only [List.setIfInBounds_toArray, List.set_cons_succ, List.set_cons_zero]
            refine take_at (i := 28) (d := 10) (v := ?_) rfl rfl (by kernel_rfl) (by kernel_rfl) (by kernel_rfl) (fun _ _ _ h => h) (by kernel_rfl) ?_ ?_
            rotate_left
            · intro w; go_simp; try with_reducible rfl
            simp only [List.setIfInBounds_toArray, List.set_cons_succ, List.set_cons_zero]
            refine wpAny_done (by kernel_rfl) ?_ _
            go_wp2_with fail
            go_ret
            exact ⟨rfl, HB8.out⟩
        · go_simp
          refine hK _ _ ?_
          clear hK K
          refine wpAny_ready (rs := [15]) (by kernel_rfl) (by simp) ?_
          refine AllReady.cons rfl (fun K hK => ?_) AllReady.nil
          go_simp
          refine hK _ _ ?_
          clear hK K
          refine wpAny_ready (rs := [16]) (by kernel_rfl) (by simp) ?_
          refine AllReady.cons rfl (fun K hK => ?_) AllReady.nil
          go_simp
          refine hK _ _ ?_
          clear hK K
          refine take_at (i := 18) (d := 80) (v := ?_) rfl rfl (by kernel_rfl) (by kernel_rfl) (by kernel_rfl) (fun _ _ _ h => h) (by kernel_rfl) ?_ ?_
          rotate_left
          · intro w; go_simp; try with_reducible rfl
          simp only [List.setIfInBounds_toArray, List.set_cons_succ, List.set_cons_zero]
          refine take_at (i := 22) (d := 84) (v := ?_) rfl rfl (by kernel_rfl) (by kernel_rfl) (by kernel_rfl) (fun _ _ _ h => h) (by kernel_rfl) ?_ ?_
          rotate_left
          · intro w; go_simp; try with_reducible rfl
          simp only [List.setIfInBounds_toArray, List.set_cons_succ, List.set_cons_zero]
          have HBF := HBD
          refine take_at (i := 23) (d := 85) (v := ?_) rfl rfl (by kernel_rfl) (by kernel_rfl) (by kernel_rfl) (fun _ _ _ h => h) (by kernel_rfl) ?_ ?_
          rotate_left
          · intro w; go_simp; try with_reducible rfl
          simp only [List.setIfInBounds_toArray, List.set_cons_succ, List.set_cons_zero]
          refine wpAny_ready (rs := [24]) (by kernel_rfl) (by simp) ?_
          refine AllReady.cons rfl (fun K hK => ?_) AllReady.nil
          go_simp
          refine (HCB.out _).mono ?_
          rintro e W8 ⟨rfl, hB8⟩
          have HB8 := Lib.hid (HBF.out.trans (hB8.mono HBF.out.size))
          clear hB8
          refine hK _ _ ?_
          clear hK K
          refine take_at (i := 26) (d := 88) (v := ?_) rfl rfl (by kernel_rfl) (by kernel_rfl) (by kernel_rfl) (fun _ _ _ h => h) (by kernel_rfl) ?_ ?_
          rotate_left
          · intro w; go_simp; try with_reducible rfl
          simp only [List.setIfInBounds_toArray, List.set_cons_succ, List.set_cons_zero]
          refine take_at (i := 27) (d := 89) (v := ?_) rfl rfl (by kernel_rfl) (by kernel_rfl) (by kernel_rfl) (fun _ _ _ h => h) (by kernel_rfl) ?_ ?_
          rotate_left
          · intro w; go_simp; try with_reducible rfl
          simp only [List.setIfInBounds_toArray, List.set_cons_succ, List.set_cons_zero]
          refine take_at (i := 28) (d := 10) (v := ?_) rfl rfl (by kernel_rfl) (by kernel_rfl) (by kernel_rfl) (fun _ _ _ h => h) (by kernel_rfl) ?_ ?_
          rotate_left
          · intro w; go_simp; try with_reducible rfl
          simp only [List.setIfInBounds_toArray, List.set_cons_succ, List.set_cons_zero]
          refine wpAny_done (by kernel_rfl) ?_ _
          go_wp2_with fail
          go_ret
          exact ⟨rfl, HB8.out⟩

set_option maxRecDepth 100000 in
theorem lifted (os : Os) (started : os.Started) (H : Type) (enc : TypeId × Value → H) :
    ReturnsInHanded {} Try.checked os 7 .any (Rows.framePadsSpec.pre6 enc Try.prog Try.f7 Rows.framePadsRow.domain false) (Rows.framePadsSpec.post enc Try.prog Try.f7 false true false false) := by
  refine returnsInHanded_of_change (C := Try.checked) own started (by kernel_rfl) Try.func7
    (ChangeSpec.witness6 (enc := enc) (C := Try.checked) false ⟨#[], #[.int .u32 0, .string ByteArray.empty, .int .u8 0, .bool false, .int .u32 0], []⟩ 8 (by kernel_rfl) (by kernel_rfl) (by kernel_rfl) (by kernel_rfl)) ?_
  intro W base args ds gs before hval0 hW hcnd _
  have hval : ∀ (j : Nat) t v, Try.f7.params[j]? = some t → args[j]? = some v → Value.okWide Try.prog W .any base t v := hval0
  have hW' := hW
  obtain ⟨p, q, hA0, hV, rfl, hfz, hnd⟩ := hW
  have hA : DataW.TrodAll enc Try.prog W 0 (fun _ => true) true Try.f7.params.toList args.toList ds p := hA0
  rw [Try.params7] at hA hval
  obtain ⟨v0, vs0, d0, ds0, p0, q0, hargs, rfl, rfl, h0, r0⟩ := trodAll_cons hA
  obtain ⟨v1, vs1, d1, ds1, p1, q1, rfl, rfl, rfl, h1, r1⟩ := trodAll_cons r0
  obtain ⟨v2, vs2, d2, ds2, p2, q2, rfl, rfl, rfl, h2, r2⟩ := trodAll_cons r1
  obtain ⟨v3, vs3, d3, ds3, p3, q3, rfl, rfl, rfl, h3, r3⟩ := trodAll_cons r2
  obtain ⟨v4, vs4, d4, ds4, p4, q4, rfl, rfl, rfl, h4, r4⟩ := trodAll_cons r3
  obtain ⟨rfl, rfl, rfl⟩ := trodAll_nil r4
  obtain rfl : args = #[v0, v1, v2, v3, v4] := by cases args; simp_all
  obtain ⟨rfl, rfl⟩ := trodVars_none hV
  obtain ⟨z0, rfl, rfl, rfl, wf0⟩ := open_int Try.underlying22 (hval 0 22 v0 rfl rfl) h0
  have bd0 := bounds_u32 wf0
  obtain ⟨m0, rfl⟩ := Int.eq_ofNat_of_zero_le bd0.1
  obtain ⟨s1, rfl, rfl, rfl, ws1⟩ := open_string Try.underlying9 (hval 1 9 v1 rfl rfl) h1
  obtain ⟨z2, rfl, rfl, rfl, wf2⟩ := open_int Try.underlying5 (hval 2 5 v2 rfl rfl) h2
  have bd2 := bounds_u8 wf2
  obtain ⟨m2, rfl⟩ := Int.eq_ofNat_of_zero_le bd2.1
  have k3 := h3
  have lt3 : ∀ x ∈ p3, x.block < W.heap.size := by obtain ⟨m, hm⟩ := k3; exact DataW.trod_lt m _ _ _ hm
  obtain ⟨q3, rfl⟩ := okWide_bool Try.underlying4 (hval 3 4 v3 rfl rfl)
  obtain ⟨z4, rfl, rfl, rfl, wf4⟩ := open_int Try.underlying22 (hval 4 22 v4 rfl rfl) h4
  have bd4 := bounds_u32 wf4
  obtain ⟨m4, rfl⟩ := Int.eq_ofNat_of_zero_le bd4.1
  clear hA0 hval0
  refine (walk m0 s1 m2 q3 m4 W (by omega) ws1 (by omega) (by omega)).mono fun e W' ⟨he, bel⟩ => ?_
  subst he
  exact ⟨_, rfl, _, _, _, [], _, [], hW', trodAll_mk1 (shut_bool Try.underlying4 _), (trodAll_cons_mk (shut_int Try.underlying22 wf0) (trodAll_cons_mk (shut_string Try.underlying9 ws1) (trodAll_cons_mk (shut_int Try.underlying5 wf2) (trodAll_cons_mk (Below.trod laidOut (by kernel_rfl) (of_decide_eq_true (by kernel_rfl)) k3 bel lt3) (trodAll_cons_mk (shut_int Try.underlying22 wf4) trodAll_mk0))))), rfl, bel.frame _, fun h => by cases h⟩

theorem over : Rows.framePadsRow.holds Try.pinned (OpenSpec.ofChange Rows.framePadsSpec) :=
  OpenClaim.holds_of_wide 7 Try.f7 rfl rfl rfl rfl rfl rfl rfl ⟨rfl, rfl, rfl, rfl, rfl⟩ rfl rfl rfl rfl rfl (by kernel_rfl) Try.func7 (by kernel_rfl)
    (of_decide_eq_true (by kernel_rfl)) (by unfold Func.isWrapper; first | (rw [if_pos (by decide +kernel)]; kernel_rfl) | (rw [if_neg (by decide +kernel)]; exact ⟨rfl, rfl⟩))
    (fun os started H enc _ => lifted os started H enc)

theorem proved : Rows.FramePadsSaid := over
#print axioms proved
end Go.Proofs.Ytfgeapoojogdbaa.framePads
