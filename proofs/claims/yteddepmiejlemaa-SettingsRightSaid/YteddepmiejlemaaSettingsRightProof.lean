import Derived.Test.YteddepmiejlemaaRows
import Derived.Test.YteddepmiejlemaaProg
import Derived.Test.YteddepmiejlemaaBytes
import Derived.Test.YteddepmiejlemaaNumBe
import Derived.Test.YteddepmiejlemaaFrMath
import Derived.Test.YteddepmiejlemaaFrFrame
import Derived.Test.YteddepmiejlemaaFrSets
import Derived.Test.YteddepmiejlemaaSeMath
import Derived.Test.YteddepmiejlemaaSeRef
import Derived.Test.YteddepmiejlemaaSePar
import Derived.Test.YteddepmiejlemaaSeSame
import Derived.Test.YteddepmiejlemaaSeEq
import Derived.Test.YteddepmiejlemaaSeVal
import Derived.Test.YteddepmiejlemaaSeRows
import Derived.Test.YteddepmiejlemaaSeCode
import Derived.Test.YteddepmiejlemaaSeAwake
import Derived.LoopTactic
import Derived.Deep.CutRange
import Derived.Deep.RegionLaw
import Derived.Lib.Hide
import Derived.Outline
import Derived.IntWalk
import Derived.WalkSpells
import Derived.WalkLawsBesides
import Derived.Laws.Rows
import Derived.WalkKit
import Derived.ProofKit
import Derived.OpenShut
import Derived.ShutString
import Derived.ChangeOld
import Derived.Below
namespace Go.Proofs.Yteddepmiejlemaa.settingsRight
open Go Go.ChangeShapes Go.WideShapes Go.ChangeAt Go.RowKit Bytes Fr Se
open Go.ChangeMaps (open_string shut_string)
set_option linter.unusedVariables false

theorem own : ownKnob Try.prog.godebug = none := by kernel_rfl
theorem laidOut : laidOutB Try.prog = true := by kernel_rfl

set_option maxHeartbeats 8000000 in
set_option maxRecDepth 100000 in
theorem walk (q0 : Bool) (a1 : Option Addr) (len1 cap1 : Nat) (M1 : List (List (Nat × Nat))) (w : World) (hl1 : len1 ≤ maxLen) (hL1 : M1.length = len1) (hR1 : RRd w w.heap.size a1 M1) :
    Calls Try.prog 6 #[.bool q0, .slice a1 len1 cap1] w fun e w' => e = .returned (.bool true) ∧ Below w.heap.size w w' := by
  have HL := Lib.hid hL1
  have HR := Lib.hid hR1
  clear hL1 hR1
  obtain ⟨d, hd⟩ : ∃ d, defV = d := ⟨_, rfl⟩
  have HRN : Hid (Right q0 { d with push := !q0 }) := Lib.hid (by rw [← hd]; exact right_new q0)
  have HD : Hid (∀ W : World, Calls Try.prog 10 #[] W fun e w' => e = .returned (valV d) ∧ Below W.heap.size W w') := Lib.hid (fun W => by rw [← hd]; exact cdef_is W)
  clear hd
  go_enter Try.func6, Try.ntmps6
  go_wp2_with fail
  refine (sawake_is w).mono ?_
  rintro e w1 ⟨rfl, hB1⟩
  have HB1 := Lib.hid hB1
  clear hB1
  by_cases h1 : (50 : Int) < (len1 : Int)
  · go_wp2_with fail
    go_ret
    exact ⟨rfl, HB1.out⟩
  have h1d : decide ((50 : Int) < (len1 : Int)) = false := decide_eq_false h1
  obtain ⟨g, hg⟩ : ∃ g, w.heap.size = g := ⟨_, rfl⟩
  have G := Lib.hid hg
  have HB1g : Hid (Below g w w1) := Lib.hid (by rw [← hg]; exact HB1.out)
  have HRg : Hid (RRd w g a1 M1) := Lib.hid (by rw [← hg]; exact HR.out)
  have hg1 : Hid (g ≤ w1.heap.size) := Lib.hid (by rw [← hg]; exact HB1.out.size)
  clear hg HB1 HR
  go_wp2_with fail
  refine (HD.out _).mono ?_
  rintro e w2 ⟨rfl, hB2⟩
  have HB2 := Lib.hid (HB1g.out.trans (hB2.mono hg1.out))
  have hg2 : Hid (g ≤ w2.heap.size) := Lib.hid (Nat.le_trans hg1.out hB2.size)
  clear hB2 HB1g hg1
  unfold valV
  go_upto_region 6 with fail
  obtain ⟨hX, hBX, hsz⟩ := boxV_new w2 d
  obtain ⟨w3, hw3⟩ : ∃ w3, w2.alloc (.cells #[.int .u32 (d.table : Int), .int .u32 (d.streams : Int), .int .u32 (d.window : Int), .int .u32 (d.frame : Int), .int .u32 (d.list : Int), .bool d.push] 26) = w3 := ⟨_, rfl⟩
  rw [hw3] at hX hBX hsz ⊢
  obtain ⟨X, hXX⟩ : ∃ X, w2.heap.size = X := ⟨_, rfl⟩
  have HB3 := Lib.hid (HB2.out.trans (hBX.mono hg2.out))
  have hgX : g ≤ X := by rw [← hXX]; exact hg2.out
  rw [hXX] at hX hsz ⊢
  have HX3 := Lib.hid hX
  clear hw3 hXX hX hBX hsz HB2 hg2
  obtain ⟨x0, x1, x2, x3, x4, x5⟩ := HX3.out.cells
  have z5 := HX3.out.frz 5
  have hX4 : BoxV (w3.setCell ⟨X, 5, none⟩ (.bool (!q0))) X { d with push := !q0 } := by
    have h := HX3.out
    unfold BoxV at h ⊢
    simp [World.setCell, Array.getElem?_modify, h]
  obtain ⟨w4, hw4⟩ : ∃ w4, w3.setCell ⟨X, 5, none⟩ (.bool (!q0)) = w4 := ⟨_, rfl⟩
  have HB4 : Hid (Below g w w4) := Lib.hid (by rw [← hw4]; exact HB3.out.setCell (p := ⟨X, 5, none⟩) hgX _)
  rw [hw4] at hX4
  have HX4 := Lib.hid hX4
  clear hX4 HB3 HX3
  go_upto_region 7 with fail
  clear x0 x1 x2 x3 x4 x5 z5 hw4
  go_wp2_with fail
  go_loopw [6, 7, 8] (fun i _ _ wr => ∃ (k : Nat) (v : Vals), k ≤ len1 ∧ i = .int .i64 (k : Int) ∧ Hid (Right q0 v) ∧ Hid (BoxV wr X v) ∧ Hid (Below g w wr)) (fun i _ _ _ => len1 - (intOf i).toNat)
  case atStart => exact ⟨0, _, Nat.zero_le _, rfl, HRN, HX4, HB4⟩
  case round =>
    obtain ⟨k, v, hk, rfl, hRt, hXr, hBw⟩ := hrel
    have hgw : Hid (g ≤ wr.heap.size) := Lib.hid (by have := hBw.out.size; have := G.out; omega)
    by_cases hlt : k < len1
    · have hki : (k : Int) < (len1 : Int) := by omega
      have hk0 : (0 : Int) ≤ (k : Int) := by omega
      obtain ⟨b0, off, A, n, c0, rfl, hb0, hc0, hn, hnm, hrd⟩ := HRg.out k (by rw [HL.out]; exact hlt)
      have d0 : wr.cell? ⟨b0, off + k, none⟩ = some (.slice A n c0) := (hBw.out.cell (p := ⟨b0, off + k, none⟩) hb0).trans hc0
      obtain ⟨L, hL⟩ : ∃ L, rowAt2 M1 k = L := ⟨_, rfl⟩
      rw [hL] at hn hrd
      have HN := Lib.hid hn
      have HRD := Lib.hid hrd
      have HB0 := Lib.hid hb0
      clear hL hn hrd hc0 hnm hb0
      by_cases h2 : (200 : Int) < (n : Int)
      · go_wp2_with fail
        go_ret
        exact ⟨rfl, by rw [G.out]; exact hBw.out⟩
      have h2d : decide ((200 : Int) < (n : Int)) = false := decide_eq_false h2
      have hn2 : n ≤ 200 := by omega
      obtain ⟨⟨u, c⟩, hu⟩ : ∃ z, applyS v q0 L = z := ⟨_, rfl⟩
      have HU := Lib.hid hu
      clear hu
      go_upto_region 12 with fail
      go_cut [7, 8] from 30 to 39 (fun p z wx => ∃ Z : Nat, p = .pointer (some ⟨Z, 0, none⟩) ∧ z = .int .u32 (c : Int) ∧ Hid (BoxV wx Z u) ∧ Hid (Below wr.heap.size wr wx) ∧ Hid (wr.heap.size ≤ Z))
      case first =>
        have HCA : Hid (∀ W : World, Below wr.heap.size wr W → Calls Try.prog 9 #[.agg #[.int .u32 (v.table : Int), .int .u32 (v.streams : Int), .int .u32 (v.window : Int), .int .u32 (v.frame : Int), .int .u32 (v.list : Int), .bool v.push], .bool q0, .slice A n c0] W fun e w' => e = .returned (.tuple #[.agg #[.int .u32 (u.table : Int), .int .u32 (u.streams : Int), .int .u32 (u.window : Int), .int .u32 (u.frame : Int), .int .u32 (u.list : Int), .bool u.push], .int .u32 (c : Int)]) ∧ Below W.heap.size W w') := Lib.hid (fun W h => capply_is v u q0 A n c0 c L W (Lib.hid (HRD.out.on (hBw.out.trans (h.mono hgw.out)) (Nat.le_trans hgw.out h.size))) HN (by omega) HU)
        have HD0 : Hid (∀ W : World, Below wr.heap.size wr W → W.cell? ⟨b0, off + k, none⟩ = some (.slice A n c0)) := Lib.hid (fun W h => (h.cell (p := ⟨b0, off + k, none⟩) (World.block_lt_of_cell? _ _ d0)).trans d0)
        refine wp_region_any (by kernel_rfl) ?_
        change wpAny _ _ _ _ _ _ _ (World.drew _)
        have QD0 : Hid (BoxV wr.drew X v) := hXr
        have QR0 : Hid (wr.drew.cell? ⟨b0, off + k, none⟩ = some (.slice A n c0)) := Lib.hid d0
        have QB0 : Hid (Below wr.heap.size wr wr.drew) := Lib.hid (Below.refl _ wr).drew
        obtain ⟨V0, hV0⟩ : ∃ V0, wr.drew = V0 := ⟨_, rfl⟩
        rw [hV0] at QD0 QR0 QB0 ⊢
        clear hV0 d0
        refine take_at (i := 1) (d := 32) (v := ?_) rfl rfl (by kernel_rfl) (by kernel_rfl) (by kernel_rfl) (fun _ _ _ h => h) (by kernel_rfl) ?_ ?_
        rotate_left
        · intro w; go_simp; try with_reducible rfl
        simp only [List.setIfInBounds_toArray, List.set_cons_succ, List.set_cons_zero]
        refine take_at (i := 2) (d := 33) (v := ?_) rfl rfl (by kernel_rfl) (by kernel_rfl) (by kernel_rfl) (fun _ _ _ h => h) (by kernel_rfl) ?_ ?_
        rotate_left
        · intro w; go_simp; try with_reducible rfl
        simp only [List.setIfInBounds_toArray, List.set_cons_succ, List.set_cons_zero]
        refine take_at (i := 3) (d := 34) (v := ?_) rfl rfl (by kernel_rfl) (by kernel_rfl) (by kernel_rfl) (fun _ _ _ h => h) (by kernel_rfl) ?_ ?_
        rotate_left
        · intro w; go_simp; try with_reducible rfl
        simp only [List.setIfInBounds_toArray, List.set_cons_succ, List.set_cons_zero]
        refine take_at (i := 4) (d := 35) (v := ?_) rfl rfl (by kernel_rfl) (by kernel_rfl) (by kernel_rfl) (fun _ _ _ h => h) (by kernel_rfl) ?_ ?_
        rotate_left
        · intro w; go_simp; try with_reducible rfl
        simp only [List.setIfInBounds_toArray, List.set_cons_succ, List.set_cons_zero]
        refine wpAny_ready (rs := [0, 5, 10]) (by kernel_rfl) (by simp) ?_
        refine AllReady.cons rfl (fun K hK => ?_) (AllReady.cons rfl (fun K hK => ?_) (AllReady.cons rfl (fun K hK => ?_) (AllReady.nil)))
        · obtain ⟨x0, x1, x2, x3, x4, x5⟩ := (QD0.out).cells
          go_simp
          clear x0 x1 x2 x3 x4 x5
          refine hK _ _ ?_
          clear hK K
          refine wpAny_ready (rs := [5, 10]) (by kernel_rfl) (by simp) ?_
          refine AllReady.cons rfl (fun K hK => ?_) (AllReady.cons rfl (fun K hK => ?_) (AllReady.nil))
          · have x0 := QR0.out
            go_simp
            clear x0
            refine hK _ _ ?_
            clear hK K
            refine wpAny_ready (rs := [6, 10]) (by kernel_rfl) (by simp) ?_
            refine AllReady.cons rfl (fun K hK => ?_) (AllReady.cons rfl (fun K hK => ?_) (AllReady.nil))
            · go_simp
              refine (HCA.out _ QB0.out).mono ?_
              rintro e V1 ⟨rfl, hB⟩
              obtain ⟨b8, z8⟩ := after_call QB0.out (Nat.le_refl _) hB
              have QB1 := Lib.hid b8
              have QD1 := Lib.hid (hXr.out.below b8)
              have QR1 := Lib.hid (HD0.out _ b8)
              clear hB b8 z8
              refine hK _ _ ?_
              clear hK K
              refine take_at (i := 7) (d := 30) (v := ?_) rfl rfl (by kernel_rfl) (by kernel_rfl) (by kernel_rfl) (fun _ _ _ h => h) (by kernel_rfl) ?_ ?_
              rotate_left
              · intro w; go_simp; try with_reducible rfl
              simp only [List.setIfInBounds_toArray, List.set_cons_succ, List.set_cons_zero]
              refine take_at (i := 8) (d := 38) (v := ?_) rfl rfl (by kernel_rfl) (by kernel_rfl) (by kernel_rfl) (fun _ _ _ h => h) (by kernel_rfl) ?_ ?_
              rotate_left
              · intro w; go_simp; try with_reducible rfl
              simp only [List.setIfInBounds_toArray, List.set_cons_succ, List.set_cons_zero]
              refine take_at (i := 9) (d := 39) (v := ?_) rfl rfl (by kernel_rfl) (by kernel_rfl) (by kernel_rfl) (fun _ _ _ h => h) (by kernel_rfl) ?_ ?_
              rotate_left
              · intro w; go_simp; try with_reducible rfl
              simp only [List.setIfInBounds_toArray, List.set_cons_succ, List.set_cons_zero]
              refine wpAny_ready (rs := [10]) (by kernel_rfl) (by simp) ?_
              refine AllReady.cons rfl (fun K hK => ?_) (AllReady.nil)
              · go_simp
                refine hK _ _ ?_
                clear hK K
                have QD2 := Lib.hid (QD1.out.more (.cells #[.int .u32 0, .int .u32 0, .int .u32 0, .int .u32 0, .int .u32 0, .bool false] 26))
                have QB2 := Lib.hid (QB1.out.alloc QB1.out.size (.cells #[.int .u32 0, .int .u32 0, .int .u32 0, .int .u32 0, .int .u32 0, .bool false] 26))
                have QZ2 := Lib.hid (zero_new V1)
                have QR2 := Lib.hid (HD0.out _ QB2.out)
                obtain ⟨Z, hg⟩ : ∃ Z, V1.heap.size = Z := ⟨_, rfl⟩
                have QG2 : Hid (wr.heap.size ≤ Z) := Lib.hid (by rw [← hg]; exact QB1.out.size)
                rw [hg] at QZ2 ⊢
                clear hg
                obtain ⟨V2, hV⟩ : ∃ V, V1.alloc (.cells #[.int .u32 0, .int .u32 0, .int .u32 0, .int .u32 0, .int .u32 0, .bool false] 26) = V := ⟨_, rfl⟩
                rw [hV] at QD2 QB2 QZ2 QR2 ⊢
                clear hV
                obtain ⟨e0, e1, e2, e3, e4, e5⟩ := (QZ2.out).box.cells
                have g0 := QZ2.out.box.frz 0
                have g1 := QZ2.out.box.frz 1
                have g2 := QZ2.out.box.frz 2
                have g3 := QZ2.out.box.frz 3
                have g4 := QZ2.out.box.frz 4
                have g5 := QZ2.out.box.frz 5
                refine wpAny_ready (rs := [11]) (by kernel_rfl) (by simp) ?_
                refine AllReady.cons rfl (fun K hK => ?_) AllReady.nil
                go_simp
                refine hK _ _ ?_
                clear hK K
                refine take_at (i := 12) (d := 8) (v := ?_) rfl rfl (by kernel_rfl) (by kernel_rfl) (by kernel_rfl) (fun _ _ _ h => h) (by kernel_rfl) ?_ ?_
                rotate_left
                · intro w; go_simp; try with_reducible rfl
                simp only [List.setIfInBounds_toArray, List.set_cons_succ, List.set_cons_zero]
                refine wpAny_done (by kernel_rfl) ?_ _
                go_wp2_with fail
                go_meet
                exact ⟨_, rfl, rfl, Lib.hid (QZ2.out.box.put u), Lib.hid (putV_below QB2.out QG2.out), QG2⟩
            · go_simp
              refine hK _ _ ?_
              clear hK K
              have QD1 := Lib.hid (QD0.out.more (.cells #[.int .u32 0, .int .u32 0, .int .u32 0, .int .u32 0, .int .u32 0, .bool false] 26))
              have QB1 := Lib.hid (QB0.out.alloc QB0.out.size (.cells #[.int .u32 0, .int .u32 0, .int .u32 0, .int .u32 0, .int .u32 0, .bool false] 26))
              have QZ1 := Lib.hid (zero_new V0)
              have QR1 := Lib.hid (HD0.out _ QB1.out)
              obtain ⟨Z, hg⟩ : ∃ Z, V0.heap.size = Z := ⟨_, rfl⟩
              have QG1 : Hid (wr.heap.size ≤ Z) := Lib.hid (by rw [← hg]; exact QB0.out.size)
              rw [hg] at QZ1 ⊢
              clear hg
              obtain ⟨V1, hV⟩ : ∃ V, V0.alloc (.cells #[.int .u32 0, .int .u32 0, .int .u32 0, .int .u32 0, .int .u32 0, .bool false] 26) = V := ⟨_, rfl⟩
              rw [hV] at QD1 QB1 QZ1 QR1 ⊢
              clear hV
              refine wpAny_ready (rs := [6]) (by kernel_rfl) (by simp) ?_
              refine AllReady.cons rfl (fun K hK => ?_) (AllReady.nil)
              · go_simp
                refine (HCA.out _ QB1.out).mono ?_
                rintro e V2 ⟨rfl, hB⟩
                obtain ⟨b8, z8⟩ := after_call QB1.out (Nat.le_refl _) hB
                have QB2 := Lib.hid b8
                have QD2 := Lib.hid (hXr.out.below b8)
                have QR2 := Lib.hid (HD0.out _ b8)
                have QZ2 := Lib.hid (z8 _ QZ1.out)
                have QG2 := QG1
                clear hB b8 z8
                refine hK _ _ ?_
                clear hK K
                refine take_at (i := 7) (d := 30) (v := ?_) rfl rfl (by kernel_rfl) (by kernel_rfl) (by kernel_rfl) (fun _ _ _ h => h) (by kernel_rfl) ?_ ?_
                rotate_left
                · intro w; go_simp; try with_reducible rfl
                simp only [List.setIfInBounds_toArray, List.set_cons_succ, List.set_cons_zero]
                refine take_at (i := 8) (d := 38) (v := ?_) rfl rfl (by kernel_rfl) (by kernel_rfl) (by kernel_rfl) (fun _ _ _ h => h) (by kernel_rfl) ?_ ?_
                rotate_left
                · intro w; go_simp; try with_reducible rfl
                simp only [List.setIfInBounds_toArray, List.set_cons_succ, List.set_cons_zero]
                refine take_at (i := 9) (d := 39) (v := ?_) rfl rfl (by kernel_rfl) (by kernel_rfl) (by kernel_rfl) (fun _ _ _ h => h) (by kernel_rfl) ?_ ?_
                rotate_left
                · intro w; go_simp; try with_reducible rfl
                simp only [List.setIfInBounds_toArray, List.set_cons_succ, List.set_cons_zero]
                obtain ⟨e0, e1, e2, e3, e4, e5⟩ := (QZ2.out).box.cells
                have g0 := QZ2.out.box.frz 0
                have g1 := QZ2.out.box.frz 1
                have g2 := QZ2.out.box.frz 2
                have g3 := QZ2.out.box.frz 3
                have g4 := QZ2.out.box.frz 4
                have g5 := QZ2.out.box.frz 5
                refine wpAny_ready (rs := [11]) (by kernel_rfl) (by simp) ?_
                refine AllReady.cons rfl (fun K hK => ?_) AllReady.nil
                go_simp
                refine hK _ _ ?_
                clear hK K
                refine take_at (i := 12) (d := 8) (v := ?_) rfl rfl (by kernel_rfl) (by kernel_rfl) (by kernel_rfl) (fun _ _ _ h => h) (by kernel_rfl) ?_ ?_
                rotate_left
                · intro w; go_simp; try with_reducible rfl
                simp only [List.setIfInBounds_toArray, List.set_cons_succ, List.set_cons_zero]
                refine wpAny_done (by kernel_rfl) ?_ _
                go_wp2_with fail
                go_meet
                exact ⟨_, rfl, rfl, Lib.hid (QZ2.out.box.put u), Lib.hid (putV_below QB2.out QG2.out), QG2⟩
          · go_simp
            refine hK _ _ ?_
            clear hK K
            have QD1 := Lib.hid (QD0.out.more (.cells #[.int .u32 0, .int .u32 0, .int .u32 0, .int .u32 0, .int .u32 0, .bool false] 26))
            have QB1 := Lib.hid (QB0.out.alloc QB0.out.size (.cells #[.int .u32 0, .int .u32 0, .int .u32 0, .int .u32 0, .int .u32 0, .bool false] 26))
            have QZ1 := Lib.hid (zero_new V0)
            have QR1 := Lib.hid (HD0.out _ QB1.out)
            obtain ⟨Z, hg⟩ : ∃ Z, V0.heap.size = Z := ⟨_, rfl⟩
            have QG1 : Hid (wr.heap.size ≤ Z) := Lib.hid (by rw [← hg]; exact QB0.out.size)
            rw [hg] at QZ1 ⊢
            clear hg
            obtain ⟨V1, hV⟩ : ∃ V, V0.alloc (.cells #[.int .u32 0, .int .u32 0, .int .u32 0, .int .u32 0, .int .u32 0, .bool false] 26) = V := ⟨_, rfl⟩
            rw [hV] at QD1 QB1 QZ1 QR1 ⊢
            clear hV
            refine wpAny_ready (rs := [5]) (by kernel_rfl) (by simp) ?_
            refine AllReady.cons rfl (fun K hK => ?_) (AllReady.nil)
            · have x0 := QR1.out
              go_simp
              clear x0
              refine hK _ _ ?_
              clear hK K
              refine wpAny_ready (rs := [6]) (by kernel_rfl) (by simp) ?_
              refine AllReady.cons rfl (fun K hK => ?_) (AllReady.nil)
              · go_simp
                refine (HCA.out _ QB1.out).mono ?_
                rintro e V2 ⟨rfl, hB⟩
                obtain ⟨b8, z8⟩ := after_call QB1.out (Nat.le_refl _) hB
                have QB2 := Lib.hid b8
                have QD2 := Lib.hid (hXr.out.below b8)
                have QR2 := Lib.hid (HD0.out _ b8)
                have QZ2 := Lib.hid (z8 _ QZ1.out)
                have QG2 := QG1
                clear hB b8 z8
                refine hK _ _ ?_
                clear hK K
                refine take_at (i := 7) (d := 30) (v := ?_) rfl rfl (by kernel_rfl) (by kernel_rfl) (by kernel_rfl) (fun _ _ _ h => h) (by kernel_rfl) ?_ ?_
                rotate_left
                · intro w; go_simp; try with_reducible rfl
                simp only [List.setIfInBounds_toArray, List.set_cons_succ, List.set_cons_zero]
                refine take_at (i := 8) (d := 38) (v := ?_) rfl rfl (by kernel_rfl) (by kernel_rfl) (by kernel_rfl) (fun _ _ _ h => h) (by kernel_rfl) ?_ ?_
                rotate_left
                · intro w; go_simp; try with_reducible rfl
                simp only [List.setIfInBounds_toArray, List.set_cons_succ, List.set_cons_zero]
                refine take_at (i := 9) (d := 39) (v := ?_) rfl rfl (by kernel_rfl) (by kernel_rfl) (by kernel_rfl) (fun _ _ _ h => h) (by kernel_rfl) ?_ ?_
                rotate_left
                · intro w; go_simp; try with_reducible rfl
                simp only [List.setIfInBounds_toArray, List.set_cons_succ, List.set_cons_zero]
                obtain ⟨e0, e1, e2, e3, e4, e5⟩ := (QZ2.out).box.cells
                have g0 := QZ2.out.box.frz 0
                have g1 := QZ2.out.box.frz 1
                have g2 := QZ2.out.box.frz 2
                have g3 := QZ2.out.box.frz 3
                have g4 := QZ2.out.box.frz 4
                have g5 := QZ2.out.box.frz 5
                refine wpAny_ready (rs := [11]) (by kernel_rfl) (by simp) ?_
                refine AllReady.cons rfl (fun K hK => ?_) AllReady.nil
                go_simp
                refine hK _ _ ?_
                clear hK K
                refine take_at (i := 12) (d := 8) (v := ?_) rfl rfl (by kernel_rfl) (by kernel_rfl) (by kernel_rfl) (fun _ _ _ h => h) (by kernel_rfl) ?_ ?_
                rotate_left
                · intro w; go_simp; try with_reducible rfl
                simp only [List.setIfInBounds_toArray, List.set_cons_succ, List.set_cons_zero]
                refine wpAny_done (by kernel_rfl) ?_ _
                go_wp2_with fail
                go_meet
                exact ⟨_, rfl, rfl, Lib.hid (QZ2.out.box.put u), Lib.hid (putV_below QB2.out QG2.out), QG2⟩
        · have x0 := QR0.out
          go_simp
          clear x0
          refine hK _ _ ?_
          clear hK K
          refine wpAny_ready (rs := [0, 10]) (by kernel_rfl) (by simp) ?_
          refine AllReady.cons rfl (fun K hK => ?_) (AllReady.cons rfl (fun K hK => ?_) (AllReady.nil))
          · obtain ⟨x0, x1, x2, x3, x4, x5⟩ := (QD0.out).cells
            go_simp
            clear x0 x1 x2 x3 x4 x5
            refine hK _ _ ?_
            clear hK K
            refine wpAny_ready (rs := [6, 10]) (by kernel_rfl) (by simp) ?_
            refine AllReady.cons rfl (fun K hK => ?_) (AllReady.cons rfl (fun K hK => ?_) (AllReady.nil))
            · go_simp
              refine (HCA.out _ QB0.out).mono ?_
              rintro e V1 ⟨rfl, hB⟩
              obtain ⟨b8, z8⟩ := after_call QB0.out (Nat.le_refl _) hB
              have QB1 := Lib.hid b8
              have QD1 := Lib.hid (hXr.out.below b8)
              have QR1 := Lib.hid (HD0.out _ b8)
              clear hB b8 z8
              refine hK _ _ ?_
              clear hK K
              refine take_at (i := 7) (d := 30) (v := ?_) rfl rfl (by kernel_rfl) (by kernel_rfl) (by kernel_rfl) (fun _ _ _ h => h) (by kernel_rfl) ?_ ?_
              rotate_left
              · intro w; go_simp; try with_reducible rfl
              simp only [List.setIfInBounds_toArray, List.set_cons_succ, List.set_cons_zero]
              refine take_at (i := 8) (d := 38) (v := ?_) rfl rfl (by kernel_rfl) (by kernel_rfl) (by kernel_rfl) (fun _ _ _ h => h) (by kernel_rfl) ?_ ?_
              rotate_left
              · intro w; go_simp; try with_reducible rfl
              simp only [List.setIfInBounds_toArray, List.set_cons_succ, List.set_cons_zero]
              refine take_at (i := 9) (d := 39) (v := ?_) rfl rfl (by kernel_rfl) (by kernel_rfl) (by kernel_rfl) (fun _ _ _ h => h) (by kernel_rfl) ?_ ?_
              rotate_left
              · intro w; go_simp; try with_reducible rfl
              simp only [List.setIfInBounds_toArray, List.set_cons_succ, List.set_cons_zero]
              refine wpAny_ready (rs := [10]) (by kernel_rfl) (by simp) ?_
              refine AllReady.cons rfl (fun K hK => ?_) (AllReady.nil)
              · go_simp
                refine hK _ _ ?_
                clear hK K
                have QD2 := Lib.hid (QD1.out.more (.cells #[.int .u32 0, .int .u32 0, .int .u32 0, .int .u32 0, .int .u32 0, .bool false] 26))
                have QB2 := Lib.hid (QB1.out.alloc QB1.out.size (.cells #[.int .u32 0, .int .u32 0, .int .u32 0, .int .u32 0, .int .u32 0, .bool false] 26))
                have QZ2 := Lib.hid (zero_new V1)
                have QR2 := Lib.hid (HD0.out _ QB2.out)
                obtain ⟨Z, hg⟩ : ∃ Z, V1.heap.size = Z := ⟨_, rfl⟩
                have QG2 : Hid (wr.heap.size ≤ Z) := Lib.hid (by rw [← hg]; exact QB1.out.size)
                rw [hg] at QZ2 ⊢
                clear hg
                obtain ⟨V2, hV⟩ : ∃ V, V1.alloc (.cells #[.int .u32 0, .int .u32 0, .int .u32 0, .int .u32 0, .int .u32 0, .bool false] 26) = V := ⟨_, rfl⟩
                rw [hV] at QD2 QB2 QZ2 QR2 ⊢
                clear hV
                obtain ⟨e0, e1, e2, e3, e4, e5⟩ := (QZ2.out).box.cells
                have g0 := QZ2.out.box.frz 0
                have g1 := QZ2.out.box.frz 1
                have g2 := QZ2.out.box.frz 2
                have g3 := QZ2.out.box.frz 3
                have g4 := QZ2.out.box.frz 4
                have g5 := QZ2.out.box.frz 5
                refine wpAny_ready (rs := [11]) (by kernel_rfl) (by simp) ?_
                refine AllReady.cons rfl (fun K hK => ?_) AllReady.nil
                go_simp
                refine hK _ _ ?_
                clear hK K
                refine take_at (i := 12) (d := 8) (v := ?_) rfl rfl (by kernel_rfl) (by kernel_rfl) (by kernel_rfl) (fun _ _ _ h => h) (by kernel_rfl) ?_ ?_
                rotate_left
                · intro w; go_simp; try with_reducible rfl
                simp only [List.setIfInBounds_toArray, List.set_cons_succ, List.set_cons_zero]
                refine wpAny_done (by kernel_rfl) ?_ _
                go_wp2_with fail
                go_meet
                exact ⟨_, rfl, rfl, Lib.hid (QZ2.out.box.put u), Lib.hid (putV_below QB2.out QG2.out), QG2⟩
            · go_simp
              refine hK _ _ ?_
              clear hK K
              have QD1 := Lib.hid (QD0.out.more (.cells #[.int .u32 0, .int .u32 0, .int .u32 0, .int .u32 0, .int .u32 0, .bool false] 26))
              have QB1 := Lib.hid (QB0.out.alloc QB0.out.size (.cells #[.int .u32 0, .int .u32 0, .int .u32 0, .int .u32 0, .int .u32 0, .bool false] 26))
              have QZ1 := Lib.hid (zero_new V0)
              have QR1 := Lib.hid (HD0.out _ QB1.out)
              obtain ⟨Z, hg⟩ : ∃ Z, V0.heap.size = Z := ⟨_, rfl⟩
              have QG1 : Hid (wr.heap.size ≤ Z) := Lib.hid (by rw [← hg]; exact QB0.out.size)
              rw [hg] at QZ1 ⊢
              clear hg
              obtain ⟨V1, hV⟩ : ∃ V, V0.alloc (.cells #[.int .u32 0, .int .u32 0, .int .u32 0, .int .u32 0, .int .u32 0, .bool false] 26) = V := ⟨_, rfl⟩
              rw [hV] at QD1 QB1 QZ1 QR1 ⊢
              clear hV
              refine wpAny_ready (rs := [6]) (by kernel_rfl) (by simp) ?_
              refine AllReady.cons rfl (fun K hK => ?_) (AllReady.nil)
              · go_simp
                refine (HCA.out _ QB1.out).mono ?_
                rintro e V2 ⟨rfl, hB⟩
                obtain ⟨b8, z8⟩ := after_call QB1.out (Nat.le_refl _) hB
                have QB2 := Lib.hid b8
                have QD2 := Lib.hid (hXr.out.below b8)
                have QR2 := Lib.hid (HD0.out _ b8)
                have QZ2 := Lib.hid (z8 _ QZ1.out)
                have QG2 := QG1
                clear hB b8 z8
                refine hK _ _ ?_
                clear hK K
                refine take_at (i := 7) (d := 30) (v := ?_) rfl rfl (by kernel_rfl) (by kernel_rfl) (by kernel_rfl) (fun _ _ _ h => h) (by kernel_rfl) ?_ ?_
                rotate_left
                · intro w; go_simp; try with_reducible rfl
                simp only [List.setIfInBounds_toArray, List.set_cons_succ, List.set_cons_zero]
                refine take_at (i := 8) (d := 38) (v := ?_) rfl rfl (by kernel_rfl) (by kernel_rfl) (by kernel_rfl) (fun _ _ _ h => h) (by kernel_rfl) ?_ ?_
                rotate_left
                · intro w; go_simp; try with_reducible rfl
                simp only [List.setIfInBounds_toArray, List.set_cons_succ, List.set_cons_zero]
                refine take_at (i := 9) (d := 39) (v := ?_) rfl rfl (by kernel_rfl) (by kernel_rfl) (by kernel_rfl) (fun _ _ _ h => h) (by kernel_rfl) ?_ ?_
                rotate_left
                · intro w; go_simp; try with_reducible rfl
                simp only [List.setIfInBounds_toArray, List.set_cons_succ, List.set_cons_zero]
                obtain ⟨e0, e1, e2, e3, e4, e5⟩ := (QZ2.out).box.cells
                have g0 := QZ2.out.box.frz 0
                have g1 := QZ2.out.box.frz 1
                have g2 := QZ2.out.box.frz 2
                have g3 := QZ2.out.box.frz 3
                have g4 := QZ2.out.box.frz 4
                have g5 := QZ2.out.box.frz 5
                refine wpAny_ready (rs := [11]) (by kernel_rfl) (by simp) ?_
                refine AllReady.cons rfl (fun K hK => ?_) AllReady.nil
                go_simp
                refine hK _ _ ?_
                clear hK K
                refine take_at (i := 12) (d := 8) (v := ?_) rfl rfl (by kernel_rfl) (by kernel_rfl) (by kernel_rfl) (fun _ _ _ h => h) (by kernel_rfl) ?_ ?_
                rotate_left
                · intro w; go_simp; try with_reducible rfl
                simp only [List.setIfInBounds_toArray, List.set_cons_succ, List.set_cons_zero]
                refine wpAny_done (by kernel_rfl) ?_ _
                go_wp2_with fail
                go_meet
                exact ⟨_, rfl, rfl, Lib.hid (QZ2.out.box.put u), Lib.hid (putV_below QB2.out QG2.out), QG2⟩
          · go_simp
            refine hK _ _ ?_
            clear hK K
            have QD1 := Lib.hid (QD0.out.more (.cells #[.int .u32 0, .int .u32 0, .int .u32 0, .int .u32 0, .int .u32 0, .bool false] 26))
            have QB1 := Lib.hid (QB0.out.alloc QB0.out.size (.cells #[.int .u32 0, .int .u32 0, .int .u32 0, .int .u32 0, .int .u32 0, .bool false] 26))
            have QZ1 := Lib.hid (zero_new V0)
            have QR1 := Lib.hid (HD0.out _ QB1.out)
            obtain ⟨Z, hg⟩ : ∃ Z, V0.heap.size = Z := ⟨_, rfl⟩
            have QG1 : Hid (wr.heap.size ≤ Z) := Lib.hid (by rw [← hg]; exact QB0.out.size)
            rw [hg] at QZ1 ⊢
            clear hg
            obtain ⟨V1, hV⟩ : ∃ V, V0.alloc (.cells #[.int .u32 0, .int .u32 0, .int .u32 0, .int .u32 0, .int .u32 0, .bool false] 26) = V := ⟨_, rfl⟩
            rw [hV] at QD1 QB1 QZ1 QR1 ⊢
            clear hV
            refine wpAny_ready (rs := [0]) (by kernel_rfl) (by simp) ?_
            refine AllReady.cons rfl (fun K hK => ?_) (AllReady.nil)
            · obtain ⟨x0, x1, x2, x3, x4, x5⟩ := (QD1.out).cells
              go_simp
              clear x0 x1 x2 x3 x4 x5
              refine hK _ _ ?_
              clear hK K
              refine wpAny_ready (rs := [6]) (by kernel_rfl) (by simp) ?_
              refine AllReady.cons rfl (fun K hK => ?_) (AllReady.nil)
              · go_simp
                refine (HCA.out _ QB1.out).mono ?_
                rintro e V2 ⟨rfl, hB⟩
                obtain ⟨b8, z8⟩ := after_call QB1.out (Nat.le_refl _) hB
                have QB2 := Lib.hid b8
                have QD2 := Lib.hid (hXr.out.below b8)
                have QR2 := Lib.hid (HD0.out _ b8)
                have QZ2 := Lib.hid (z8 _ QZ1.out)
                have QG2 := QG1
                clear hB b8 z8
                refine hK _ _ ?_
                clear hK K
                refine take_at (i := 7) (d := 30) (v := ?_) rfl rfl (by kernel_rfl) (by kernel_rfl) (by kernel_rfl) (fun _ _ _ h => h) (by kernel_rfl) ?_ ?_
                rotate_left
                · intro w; go_simp; try with_reducible rfl
                simp only [List.setIfInBounds_toArray, List.set_cons_succ, List.set_cons_zero]
                refine take_at (i := 8) (d := 38) (v := ?_) rfl rfl (by kernel_rfl) (by kernel_rfl) (by kernel_rfl) (fun _ _ _ h => h) (by kernel_rfl) ?_ ?_
                rotate_left
                · intro w; go_simp; try with_reducible rfl
                simp only [List.setIfInBounds_toArray, List.set_cons_succ, List.set_cons_zero]
                refine take_at (i := 9) (d := 39) (v := ?_) rfl rfl (by kernel_rfl) (by kernel_rfl) (by kernel_rfl) (fun _ _ _ h => h) (by kernel_rfl) ?_ ?_
                rotate_left
                · intro w; go_simp; try with_reducible rfl
                simp only [List.setIfInBounds_toArray, List.set_cons_succ, List.set_cons_zero]
                obtain ⟨e0, e1, e2, e3, e4, e5⟩ := (QZ2.out).box.cells
                have g0 := QZ2.out.box.frz 0
                have g1 := QZ2.out.box.frz 1
                have g2 := QZ2.out.box.frz 2
                have g3 := QZ2.out.box.frz 3
                have g4 := QZ2.out.box.frz 4
                have g5 := QZ2.out.box.frz 5
                refine wpAny_ready (rs := [11]) (by kernel_rfl) (by simp) ?_
                refine AllReady.cons rfl (fun K hK => ?_) AllReady.nil
                go_simp
                refine hK _ _ ?_
                clear hK K
                refine take_at (i := 12) (d := 8) (v := ?_) rfl rfl (by kernel_rfl) (by kernel_rfl) (by kernel_rfl) (fun _ _ _ h => h) (by kernel_rfl) ?_ ?_
                rotate_left
                · intro w; go_simp; try with_reducible rfl
                simp only [List.setIfInBounds_toArray, List.set_cons_succ, List.set_cons_zero]
                refine wpAny_done (by kernel_rfl) ?_ _
                go_wp2_with fail
                go_meet
                exact ⟨_, rfl, rfl, Lib.hid (QZ2.out.box.put u), Lib.hid (putV_below QB2.out QG2.out), QG2⟩
        · go_simp
          refine hK _ _ ?_
          clear hK K
          have QD1 := Lib.hid (QD0.out.more (.cells #[.int .u32 0, .int .u32 0, .int .u32 0, .int .u32 0, .int .u32 0, .bool false] 26))
          have QB1 := Lib.hid (QB0.out.alloc QB0.out.size (.cells #[.int .u32 0, .int .u32 0, .int .u32 0, .int .u32 0, .int .u32 0, .bool false] 26))
          have QZ1 := Lib.hid (zero_new V0)
          have QR1 := Lib.hid (HD0.out _ QB1.out)
          obtain ⟨Z, hg⟩ : ∃ Z, V0.heap.size = Z := ⟨_, rfl⟩
          have QG1 : Hid (wr.heap.size ≤ Z) := Lib.hid (by rw [← hg]; exact QB0.out.size)
          rw [hg] at QZ1 ⊢
          clear hg
          obtain ⟨V1, hV⟩ : ∃ V, V0.alloc (.cells #[.int .u32 0, .int .u32 0, .int .u32 0, .int .u32 0, .int .u32 0, .bool false] 26) = V := ⟨_, rfl⟩
          rw [hV] at QD1 QB1 QZ1 QR1 ⊢
          clear hV
          refine wpAny_ready (rs := [0, 5]) (by kernel_rfl) (by simp) ?_
          refine AllReady.cons rfl (fun K hK => ?_) (AllReady.cons rfl (fun K hK => ?_) (AllReady.nil))
          · obtain ⟨x0, x1, x2, x3, x4, x5⟩ := (QD1.out).cells
            go_simp
            clear x0 x1 x2 x3 x4 x5
            refine hK _ _ ?_
            clear hK K
            refine wpAny_ready (rs := [5]) (by kernel_rfl) (by simp) ?_
            refine AllReady.cons rfl (fun K hK => ?_) (AllReady.nil)
            · have x0 := QR1.out
              go_simp
              clear x0
              refine hK _ _ ?_
              clear hK K
              refine wpAny_ready (rs := [6]) (by kernel_rfl) (by simp) ?_
              refine AllReady.cons rfl (fun K hK => ?_) (AllReady.nil)
              · go_simp
                refine (HCA.out _ QB1.out).mono ?_
                rintro e V2 ⟨rfl, hB⟩
                obtain ⟨b8, z8⟩ := after_call QB1.out (Nat.le_refl _) hB
                have QB2 := Lib.hid b8
                have QD2 := Lib.hid (hXr.out.below b8)
                have QR2 := Lib.hid (HD0.out _ b8)
                have QZ2 := Lib.hid (z8 _ QZ1.out)
                have QG2 := QG1
                clear hB b8 z8
                refine hK _ _ ?_
                clear hK K
                refine take_at (i := 7) (d := 30) (v := ?_) rfl rfl (by kernel_rfl) (by kernel_rfl) (by kernel_rfl) (fun _ _ _ h => h) (by kernel_rfl) ?_ ?_
                rotate_left
                · intro w; go_simp; try with_reducible rfl
                simp only [List.setIfInBounds_toArray, List.set_cons_succ, List.set_cons_zero]
                refine take_at (i := 8) (d := 38) (v := ?_) rfl rfl (by kernel_rfl) (by kernel_rfl) (by kernel_rfl) (fun _ _ _ h => h) (by kernel_rfl) ?_ ?_
                rotate_left
                · intro w; go_simp; try with_reducible rfl
                simp only [List.setIfInBounds_toArray, List.set_cons_succ, List.set_cons_zero]
                refine take_at (i := 9) (d := 39) (v := ?_) rfl rfl (by kernel_rfl) (by kernel_rfl) (by kernel_rfl) (fun _ _ _ h => h) (by kernel_rfl) ?_ ?_
                rotate_left
                · intro w; go_simp; try with_reducible rfl
                simp only [List.setIfInBounds_toArray, List.set_cons_succ, List.set_cons_zero]
                obtain ⟨e0, e1, e2, e3, e4, e5⟩ := (QZ2.out).box.cells
                have g0 := QZ2.out.box.frz 0
                have g1 := QZ2.out.box.frz 1
                have g2 := QZ2.out.box.frz 2
                have g3 := QZ2.out.box.frz 3
                have g4 := QZ2.out.box.frz 4
                have g5 := QZ2.out.box.frz 5
                refine wpAny_ready (rs := [11]) (by kernel_rfl) (by simp) ?_
                refine AllReady.cons rfl (fun K hK => ?_) AllReady.nil
                go_simp
                refine hK _ _ ?_
                clear hK K
                refine take_at (i := 12) (d := 8) (v := ?_) rfl rfl (by kernel_rfl) (by kernel_rfl) (by kernel_rfl) (fun _ _ _ h => h) (by kernel_rfl) ?_ ?_
                rotate_left
                · intro w; go_simp; try with_reducible rfl
                simp only [List.setIfInBounds_toArray, List.set_cons_succ, List.set_cons_zero]
                refine wpAny_done (by kernel_rfl) ?_ _
                go_wp2_with fail
                go_meet
                exact ⟨_, rfl, rfl, Lib.hid (QZ2.out.box.put u), Lib.hid (putV_below QB2.out QG2.out), QG2⟩
          · have x0 := QR1.out
            go_simp
            clear x0
            refine hK _ _ ?_
            clear hK K
            refine wpAny_ready (rs := [0]) (by kernel_rfl) (by simp) ?_
            refine AllReady.cons rfl (fun K hK => ?_) (AllReady.nil)
            · obtain ⟨x0, x1, x2, x3, x4, x5⟩ := (QD1.out).cells
              go_simp
              clear x0 x1 x2 x3 x4 x5
              refine hK _ _ ?_
              clear hK K
              refine wpAny_ready (rs := [6]) (by kernel_rfl) (by simp) ?_
              refine AllReady.cons rfl (fun K hK => ?_) (AllReady.nil)
              · go_simp
                refine (HCA.out _ QB1.out).mono ?_
                rintro e V2 ⟨rfl, hB⟩
                obtain ⟨b8, z8⟩ := after_call QB1.out (Nat.le_refl _) hB
                have QB2 := Lib.hid b8
                have QD2 := Lib.hid (hXr.out.below b8)
                have QR2 := Lib.hid (HD0.out _ b8)
                have QZ2 := Lib.hid (z8 _ QZ1.out)
                have QG2 := QG1
                clear hB b8 z8
                refine hK _ _ ?_
                clear hK K
                refine take_at (i := 7) (d := 30) (v := ?_) rfl rfl (by kernel_rfl) (by kernel_rfl) (by kernel_rfl) (fun _ _ _ h => h) (by kernel_rfl) ?_ ?_
                rotate_left
                · intro w; go_simp; try with_reducible rfl
                simp only [List.setIfInBounds_toArray, List.set_cons_succ, List.set_cons_zero]
                refine take_at (i := 8) (d := 38) (v := ?_) rfl rfl (by kernel_rfl) (by kernel_rfl) (by kernel_rfl) (fun _ _ _ h => h) (by kernel_rfl) ?_ ?_
                rotate_left
                · intro w; go_simp; try with_reducible rfl
                simp only [List.setIfInBounds_toArray, List.set_cons_succ, List.set_cons_zero]
                refine take_at (i := 9) (d := 39) (v := ?_) rfl rfl (by kernel_rfl) (by kernel_rfl) (by kernel_rfl) (fun _ _ _ h => h) (by kernel_rfl) ?_ ?_
                rotate_left
                · intro w; go_simp; try with_reducible rfl
                simp only [List.setIfInBounds_toArray, List.set_cons_succ, List.set_cons_zero]
                obtain ⟨e0, e1, e2, e3, e4, e5⟩ := (QZ2.out).box.cells
                have g0 := QZ2.out.box.frz 0
                have g1 := QZ2.out.box.frz 1
                have g2 := QZ2.out.box.frz 2
                have g3 := QZ2.out.box.frz 3
                have g4 := QZ2.out.box.frz 4
                have g5 := QZ2.out.box.frz 5
                refine wpAny_ready (rs := [11]) (by kernel_rfl) (by simp) ?_
                refine AllReady.cons rfl (fun K hK => ?_) AllReady.nil
                go_simp
                refine hK _ _ ?_
                clear hK K
                refine take_at (i := 12) (d := 8) (v := ?_) rfl rfl (by kernel_rfl) (by kernel_rfl) (by kernel_rfl) (fun _ _ _ h => h) (by kernel_rfl) ?_ ?_
                rotate_left
                · intro w; go_simp; try with_reducible rfl
                simp only [List.setIfInBounds_toArray, List.set_cons_succ, List.set_cons_zero]
                refine wpAny_done (by kernel_rfl) ?_ _
                go_wp2_with fail
                go_meet
                exact ⟨_, rfl, rfl, Lib.hid (QZ2.out.box.put u), Lib.hid (putV_below QB2.out QG2.out), QG2⟩
      case rest =>
        obtain ⟨Z, rfl, rfl, HZ, HBZ, HZX⟩ := hcut
        generalize wc = w8 at *
        have HB8 := Lib.hid (hBw.out.trans (HBZ.out.mono hgw.out))
        have HX8 := Lib.hid (hXr.out.below HBZ.out)
        have hXZ : X ≠ Z := by have h1 := hXr.out.lt; have h2 := HZX.out; omega
        have HRU := Lib.hid (apply_right HU.out hRt.out)
        have HSAME : Hid (∀ (v : Vals) (W : World), (binOp .neq 26 (.agg #[.int .u32 (v.table : Int), .int .u32 (v.streams : Int), .int .u32 (v.window : Int), .int .u32 (v.frame : Int), .int .u32 (v.list : Int), .bool v.push]) (.agg #[.int .u32 (v.table : Int), .int .u32 (v.streams : Int), .int .u32 (v.window : Int), .int .u32 (v.frame : Int), .int .u32 (v.list : Int), .bool v.push])).run Try.prog W = .ok (.bool false) W) := Lib.hid (fun v W => val_same' v W)
        have hco := apply_code HU.out
        have hcu : c ≠ 0 → u = v := fun h => apply_bad HU.out h
        obtain ⟨y0, y1, y2, y3, y4, y5⟩ := HZ.out.cells
        clear HBZ hXr hBw HU hRt d0 HZX h2
        go_upto_region 13 with fail
        go_cut [58] from 40 to 58 (fun v wx => v = .bool false ∧ w8 = wx)
        case first =>
          rcases hco with rfl | rfl | rfl
          · clear hcu
            go_wp2_with fail
            go_meet
            exact ⟨rfl, rfl⟩
          · have e := hcu (by decide)
            subst e
            obtain ⟨x0, x1, x2, x3, x4, x5⟩ := HX8.out.cells
            go_wp2_with (rw [HSAME.out])
            go_meet
            exact ⟨rfl, rfl⟩
          · have e := hcu (by decide)
            subst e
            obtain ⟨x0, x1, x2, x3, x4, x5⟩ := HX8.out.cells
            go_wp2_with (rw [HSAME.out])
            go_meet
            exact ⟨rfl, rfl⟩
        case rest =>
          obtain ⟨rfl, rfl⟩ := hcut
          clear hco hcu
          obtain ⟨x0, x1, x2, x3, x4, x5⟩ := HX8.out.cells
          have z0 := HX8.out.frz 0
          have z1 := HX8.out.frz 1
          have z2 := HX8.out.frz 2
          have z3 := HX8.out.frz 3
          have z4 := HX8.out.frz 4
          have z5 := HX8.out.frz 5
          obtain ⟨w9, hw9⟩ : ∃ w9, putV w8 X u = w9 := ⟨_, rfl⟩
          have hX9 := HX8.out.put u
          have hB9 := putV_below (u := u) HB8.out hgX
          rw [hw9] at hX9 hB9
          have HX9 := Lib.hid hX9
          have HB9 := Lib.hid hB9
          unfold putV at hw9
          go_upto_region 16 with fail
          clear hw9 hX9 hB9 HX8 HB8 HZ x0 x1 x2 x3 x4 x5 y0 y1 y2 y3 y4 y5 z0 z1 z2 z3 z4 z5
          obtain ⟨p0, p1, p2, p3, p4, p5⟩ := HX9.out.cells
          have r1 := HRU.out.window
          have r2 := HRU.out.least
          have r3 := HRU.out.most
          have r1i : ¬ (2147483647 : Int) < (u.window : Int) := by omega
          have r1d : decide ((2147483647 : Int) < (u.window : Int)) = false := decide_eq_false r1i
          have r2i : ¬ (u.frame : Int) < 16384 := by omega
          have r2d : decide ((u.frame : Int) < 16384) = false := decide_eq_false r2i
          have r3i : ¬ (16777215 : Int) < (u.frame : Int) := by omega
          have r3d : decide ((16777215 : Int) < (u.frame : Int)) = false := decide_eq_false r3i
          cases q0 with
          | true =>
            have hpu : u.push = false := HRU.out.push rfl
            rw [hpu] at p5
            go_wp2_with fail
            go_roundw
            case rel => exact ⟨k + 1, u, by omega, by go_num, HRU, HX9, HB9⟩
            case measure => simp [intOf]; omega
          | false =>
            go_wp2_with fail
            go_roundw
            case rel => exact ⟨k + 1, u, by omega, by go_num, HRU, HX9, HB9⟩
            case measure => simp [intOf]; omega
    · have hnk : ¬ ((k : Int) < (len1 : Int)) := by omega
      go_wp2_with fail
      go_ret
      exact ⟨rfl, by rw [G.out]; exact hBw.out⟩

set_option maxRecDepth 100000 in
theorem lifted (os : Os) (started : os.Started) (H : Type) (enc : TypeId × Value → H) :
    ReturnsInHanded {} Try.checked os 6 .any (Rows.settingsRightSpec.pre6 enc Try.prog Try.f6 Rows.settingsRightRow.domain false) (Rows.settingsRightSpec.post enc Try.prog Try.f6 false true false false) := by
  refine returnsInHanded_of_change (C := Try.checked) own started (by kernel_rfl) Try.func6
    (ChangeSpec.witness6 (enc := enc) (C := Try.checked) false ⟨#[], #[.bool false, .slice none 0 0], []⟩ 8 (by kernel_rfl) (by kernel_rfl) (by kernel_rfl) (by kernel_rfl)) ?_
  intro W base args ds gs before hval0 hW hcnd _
  have hval : ∀ (j : Nat) t v, Try.f6.params[j]? = some t → args[j]? = some v → Value.okWide Try.prog W .any base t v := hval0
  have hW' := hW
  obtain ⟨p, q, hA0, hV, rfl, hfz, hnd⟩ := hW
  have hA : DataW.TrodAll enc Try.prog W 0 (fun _ => true) true Try.f6.params.toList args.toList ds p := hA0
  rw [Try.params6] at hA hval
  obtain ⟨v0, vs0, d0, ds0, p0, q0, hargs, rfl, rfl, h0, r0⟩ := trodAll_cons hA
  obtain ⟨v1, vs1, d1, ds1, p1, q1, rfl, rfl, rfl, h1, r1⟩ := trodAll_cons r0
  obtain ⟨rfl, rfl, rfl⟩ := trodAll_nil r1
  obtain rfl : args = #[v0, v1] := by cases args; simp_all
  obtain ⟨rfl, rfl⟩ := trodVars_none hV
  have k0 := h0
  have lt0 : ∀ x ∈ p0, x.block < W.heap.size := by obtain ⟨m, hm⟩ := k0; exact DataW.trod_lt m _ _ _ hm
  obtain ⟨q0, rfl⟩ := okWide_bool Try.underlying4 (hval 0 4 v0 rfl rfl)
  obtain ⟨a1, len1, cap1, rfl⟩ := okWide_slice Try.underlying44 (hval 1 44 v1 rfl rfl)
  have k1 := h1
  have lt1 : ∀ x ∈ p1, x.block < W.heap.size := by obtain ⟨m, hm⟩ := k1; exact DataW.trod_lt m _ _ _ hm
  obtain ⟨hl1, M1, hN1, hR1⟩ : len1 ≤ maxLen ∧ ∃ M : List (List (Nat × Nat)), M.length = len1 ∧ RRd W W.heap.size a1 M := by
    obtain ⟨fuel, hf⟩ := h1
    exact rrd_of_trod hf
  clear hA0 hval0
  refine (walk q0 a1 len1 cap1 M1 W hl1 hN1 hR1).mono fun e W' ⟨he, bel⟩ => ?_
  subst he
  exact ⟨_, rfl, _, _, _, [], _, [], hW', trodAll_mk1 (shut_bool Try.underlying4 _), (trodAll_cons_mk (Below.trod laidOut (by kernel_rfl) (of_decide_eq_true (by kernel_rfl)) k0 bel lt0) (trodAll_cons_mk (Below.trod laidOut (by kernel_rfl) (of_decide_eq_true (by kernel_rfl)) k1 bel lt1) trodAll_mk0)), rfl, bel.frame _, fun h => by cases h⟩

theorem over : Rows.settingsRightRow.holds Try.pinned (OpenSpec.ofChange Rows.settingsRightSpec) :=
  OpenClaim.holds_of_wide 6 Try.f6 rfl rfl rfl rfl rfl rfl rfl ⟨rfl, rfl, rfl, rfl, rfl⟩ rfl rfl rfl rfl rfl (by kernel_rfl) Try.func6 (by kernel_rfl)
    (of_decide_eq_true (by kernel_rfl)) (by unfold Func.isWrapper; first | (rw [if_pos (by decide +kernel)]; kernel_rfl) | (rw [if_neg (by decide +kernel)]; exact ⟨rfl, rfl⟩))
    (fun os started H enc _ => lifted os started H enc)

theorem proved : Rows.SettingsRightSaid := over
#print axioms proved
end Go.Proofs.Yteddepmiejlemaa.settingsRight
