/- The code's wrong, with, Defaults of layer 16. No condition. -/
import Derived.Test.YteddepmiejlemaaProg
import Derived.Test.YteddepmiejlemaaFrFrame
import Derived.Test.YteddepmiejlemaaSeMath
import Derived.Test.YteddepmiejlemaaSeWrong
import Derived.Test.YteddepmiejlemaaSeRef
import Derived.Test.YteddepmiejlemaaSeSame
import Derived.Test.YteddepmiejlemaaSeVal
import Derived.WalkKit
import Derived.Lib.Hide
import Derived.Laws.Rows
import Derived.Outline
import Derived.IntWalk
import Derived.WalkSpells
import Derived.WalkLawsBesides
import Derived.Deep.CutRange
namespace Go.Proofs.Yteddepmiejlemaa
open Go Go.RowKit Se Fr
set_option linter.unusedVariables false

set_option maxHeartbeats 8000000 in
set_option maxRecDepth 100000 in
theorem cwrong_is (q : Bool) (a b c : Nat) (w : World) (ha : a < 65536) (hb : b < 4294967296) (hc : Hid (wrongS q (a, b) = c)) :
    Calls Try.prog 18 #[.agg #[.int .u16 (a : Int), .int .u32 (b : Int)], .bool q] w fun e w' => e = .returned (.int .u32 (c : Int)) ∧ Below w.heap.size w w' := by
  obtain ⟨a0, a1⟩ := box2 w a b
  have HB := Lib.hid ((Below.refl _ w).alloc (Nat.le_refl _) (.cells #[.int .u16 (a : Int), .int .u32 (b : Int)] 48))
  have hcc := hc.out
  unfold wrongS at hcc
  simp only at hcc
  clear hc
  go_enter Try.func18, Try.ntmps18
  go_upto_region 1 with fail
  generalize w.alloc (.cells #[.int .u16 (a : Int), .int .u32 (b : Int)] 48) = W at *
  by_cases h2 : a = 2
  · have t2 : ((a : Int) == 2) = true := beq_iff_eq.2 (by omega)
    have t4 : ((a : Int) == 4) = false := beq_eq_false_iff_ne.2 (by omega)
    have t5 : ((a : Int) == 5) = false := beq_eq_false_iff_ne.2 (by omega)
    by_cases h1 : 1 < b
    · have s1 : (1 : Int) < (b : Int) := by omega
      have s1d : decide ((1 : Int) < (b : Int)) = true := decide_eq_true s1
      rw [if_pos ⟨h2, .inl h1⟩] at hcc
      subst hcc
      clear h2 ha
      go_wp2_with fail
      go_ret
      exact ⟨rfl, HB.out⟩
    have s1 : ¬ (1 : Int) < (b : Int) := by omega
    have s1d : decide ((1 : Int) < (b : Int)) = false := decide_eq_false s1
    by_cases h0 : b = 1
    · have u1 : ((b : Int) == 1) = true := beq_iff_eq.2 (by omega)
      cases q with
      | false =>
        rw [if_neg (by rintro ⟨_, h | h⟩; exact h1 h; exact absurd h.1 (by decide)), if_neg (by omega), if_neg (by omega)] at hcc
        subst hcc
        clear h2 ha h0 h1
        go_wp2_with fail
        go_ret
        exact ⟨rfl, HB.out⟩
      | true =>
        rw [if_pos ⟨h2, .inr ⟨rfl, by omega⟩⟩] at hcc
        subst hcc
        clear h2 ha h0 h1
        go_wp2_with fail
        go_ret
        exact ⟨rfl, HB.out⟩
    · have u1 : ((b : Int) == 1) = false := beq_eq_false_iff_ne.2 (by omega)
      rw [if_neg (by rintro ⟨_, h | h⟩; exact h1 h; exact h0 (by omega)), if_neg (by omega), if_neg (by omega)] at hcc
      subst hcc
      clear h2 ha h0 h1
      go_wp2_with fail
      go_ret
      exact ⟨rfl, HB.out⟩
  have t2 : ((a : Int) == 2) = false := beq_eq_false_iff_ne.2 (by omega)
  rw [if_neg (by rintro ⟨h, _⟩; exact h2 h)] at hcc
  by_cases h4 : a = 4
  · have t4 : ((a : Int) == 4) = true := beq_iff_eq.2 (by omega)
    have t5 : ((a : Int) == 5) = false := beq_eq_false_iff_ne.2 (by omega)
    by_cases h1 : 2147483648 ≤ b
    · have s1 : (2147483647 : Int) < (b : Int) := by omega
      have s1d : decide ((2147483647 : Int) < (b : Int)) = true := decide_eq_true s1
      rw [if_pos ⟨h4, h1⟩] at hcc
      subst hcc
      clear h4 ha h2 h1
      go_wp2_with fail
      go_ret
      exact ⟨rfl, HB.out⟩
    · have s1 : ¬ (2147483647 : Int) < (b : Int) := by omega
      have s1d : decide ((2147483647 : Int) < (b : Int)) = false := decide_eq_false s1
      rw [if_neg (by rintro ⟨_, h⟩; exact h1 h), if_neg (by omega)] at hcc
      subst hcc
      clear h4 ha h2 h1
      go_wp2_with fail
      go_ret
      exact ⟨rfl, HB.out⟩
  have t4 : ((a : Int) == 4) = false := beq_eq_false_iff_ne.2 (by omega)
  rw [if_neg (by rintro ⟨h, _⟩; exact h4 h)] at hcc
  by_cases h5 : a = 5
  · have t5 : ((a : Int) == 5) = true := beq_iff_eq.2 (by omega)
    by_cases h1 : b < 16384
    · have s1 : (b : Int) < 16384 := by omega
      have s1d : decide ((b : Int) < 16384) = true := decide_eq_true s1
      rw [if_pos ⟨h5, .inl h1⟩] at hcc
      subst hcc
      clear h5 ha h2 h4 h1
      go_wp2_with fail
      go_ret
      exact ⟨rfl, HB.out⟩
    have s1 : ¬ (b : Int) < 16384 := by omega
    have s1d : decide ((b : Int) < 16384) = false := decide_eq_false s1
    by_cases h6 : 16777216 ≤ b
    · have s2 : (16777215 : Int) < (b : Int) := by omega
      have s2d : decide ((16777215 : Int) < (b : Int)) = true := decide_eq_true s2
      rw [if_pos ⟨h5, .inr h6⟩] at hcc
      subst hcc
      clear h5 ha h2 h4 h1 h6
      go_wp2_with fail
      go_ret
      exact ⟨rfl, HB.out⟩
    · have s2 : ¬ (16777215 : Int) < (b : Int) := by omega
      have s2d : decide ((16777215 : Int) < (b : Int)) = false := decide_eq_false s2
      rw [if_neg (by rintro ⟨_, h | h⟩; exact h1 h; exact h6 h)] at hcc
      subst hcc
      clear h5 ha h2 h4 h1 h6
      go_wp2_with fail
      go_ret
      exact ⟨rfl, HB.out⟩
  · have t5 : ((a : Int) == 5) = false := beq_eq_false_iff_ne.2 (by omega)
    rw [if_neg (by rintro ⟨h, _⟩; exact h5 h)] at hcc
    subst hcc
    clear h5 ha h2 h4
    go_wp2_with fail
    go_ret
    exact ⟨rfl, HB.out⟩

namespace Se
theorem BoxV.put1 {w : World} {X : Nat} {v u : Vals} (h : BoxV w X v) (j : Nat) (y : Value) (hy : (#[.int .u32 (v.table : Int), .int .u32 (v.streams : Int), .int .u32 (v.window : Int), .int .u32 (v.frame : Int), .int .u32 (v.list : Int), .bool v.push] : Array Value).setIfInBounds j y = #[.int .u32 (u.table : Int), .int .u32 (u.streams : Int), .int .u32 (u.window : Int), .int .u32 (u.frame : Int), .int .u32 (u.list : Int), .bool u.push]) : BoxV (w.setCell ⟨X, j, none⟩ y) X u := by
  unfold BoxV
  rw [heap_setCell_same _ _ _ _ _ _ h, hy]
/-- The result, laid into its box. -/
theorem lay6 {w : World} {R : Nat} (v : Vals) (h : w.heap[R]? = some (.cells #[.int .u32 0, .int .u32 0, .int .u32 0, .int .u32 0, .int .u32 0, .bool false] 26 (0, 0))) : BoxV (putV w R v) R v := by
  unfold BoxV putV
  simp [World.setCell, Array.getElem?_modify, h]
end Se

set_option maxHeartbeats 8000000 in
set_option maxRecDepth 100000 in
theorem cwith_is (v u : Vals) (a b : Nat) (w : World) (ha : a < 65536) (hb : b < 4294967296) (hU : Hid (Se.set v (a, b) = u)) :
    Calls Try.prog 19 #[valV v, .agg #[.int .u16 (a : Int), .int .u32 (b : Int)]] w fun e w' => e = .returned (valV u) ∧ Below w.heap.size w w' := by
  obtain ⟨g, hg⟩ : ∃ g, w.heap.size = g := ⟨_, rfl⟩
  obtain ⟨W1, hW1⟩ : ∃ W, w.alloc (.cells #[.int .u32 (v.table : Int), .int .u32 (v.streams : Int), .int .u32 (v.window : Int), .int .u32 (v.frame : Int), .int .u32 (v.list : Int), .bool v.push] 26) = W := ⟨_, rfl⟩
  obtain ⟨W2, hW2⟩ : ∃ W, W1.alloc (.cells #[.int .u16 (a : Int), .int .u32 (b : Int)] 48) = W := ⟨_, rfl⟩
  obtain ⟨V, hV⟩ : ∃ W, W2.alloc (.cells #[.int .u32 0, .int .u32 0, .int .u32 0, .int .u32 0, .int .u32 0, .bool false] 26) = W := ⟨_, rfl⟩
  have s1 : W1.heap.size = g + 1 := by rw [← hW1, ← hg]; simp
  have s2 : W2.heap.size = g + 2 := by rw [← hW2]; simp [s1]
  have b1 : Below g w W1 := by rw [← hW1, ← hg]; exact (Below.refl _ w).alloc (Nat.le_refl _) _
  have b2 : Below (g + 1) W1 W2 := by rw [← hW2, ← s1]; exact (Below.refl _ W1).alloc (Nat.le_refl _) _
  have b3 : Below (g + 2) W2 V := by rw [← hV, ← s2]; exact (Below.refl _ W2).alloc (Nat.le_refl _) _
  have x1 : W1.heap[g]? = some (.cells #[.int .u32 (v.table : Int), .int .u32 (v.streams : Int), .int .u32 (v.window : Int), .int .u32 (v.frame : Int), .int .u32 (v.list : Int), .bool v.push] 26 (0, 0)) := by rw [← hW1, ← hg]; exact heap_alloc_new w _
  have x2 : W2.heap[g + 1]? = some (.cells #[.int .u16 (a : Int), .int .u32 (b : Int)] 48 (0, 0)) := by rw [← hW2, ← s1]; exact heap_alloc_new W1 _
  have x3 : V.heap[g + 2]? = some (.cells #[.int .u32 0, .int .u32 0, .int .u32 0, .int .u32 0, .int .u32 0, .bool false] 26 (0, 0)) := by rw [← hV, ← s2]; exact heap_alloc_new W2 _
  have HX : Hid (BoxV V g v) := Lib.hid ((b3.block g (by omega)).trans ((b2.block g (by omega)).trans x1))
  have y2 := (b3.block (g + 1) (by omega)).trans x2
  have y0 : V.cell? ⟨g + 1, 0, none⟩ = some (.int .u16 (a : Int)) := cell_of_row _ _ 0 _ _ _ y2
  have y1 : V.cell? ⟨g + 1, 1, none⟩ = some (.int .u32 (b : Int)) := cell_of_row _ _ 1 _ _ _ y2
  have HZ : Hid (V.heap[g + 2]? = some (.cells #[.int .u32 0, .int .u32 0, .int .u32 0, .int .u32 0, .int .u32 0, .bool false] 26 (0, 0))) := Lib.hid x3
  have HB : Hid (Below g w V) := Lib.hid (b1.trans ((b2.mono (by omega)).trans (b3.mono (by omega))))
  clear x1 x2 x3 b1 b2 b3 y2
  have HW1 := Lib.hid hW1
  have HW2 := Lib.hid hW2
  have HV := Lib.hid hV
  have S1 := Lib.hid s1
  have S2 := Lib.hid s2
  have G := Lib.hid hg
  clear hW1 hW2 hV s1 s2 hg
  show Calls Try.prog 19 #[.agg #[.int .u32 (v.table : Int), .int .u32 (v.streams : Int), .int .u32 (v.window : Int), .int .u32 (v.frame : Int), .int .u32 (v.list : Int), .bool v.push], .agg #[.int .u16 (a : Int), .int .u32 (b : Int)]] w _
  go_enter Try.func19, Try.ntmps19
  go_upto_region 1 with fail
  rw [HW1.out, HW2.out, HV.out]
  try rw [G.out]
  try rw [S1.out]
  try rw [S2.out]
  have hZ := HZ.out
  have r0 : V.cell? ⟨g + 2, 0, none⟩ = some (.int .u32 0) := cell_of_row _ _ 0 _ _ _ hZ
  have r1 : V.cell? ⟨g + 2, 1, none⟩ = some (.int .u32 0) := cell_of_row _ _ 1 _ _ _ hZ
  have r2 : V.cell? ⟨g + 2, 2, none⟩ = some (.int .u32 0) := cell_of_row _ _ 2 _ _ _ hZ
  have r3 : V.cell? ⟨g + 2, 3, none⟩ = some (.int .u32 0) := cell_of_row _ _ 3 _ _ _ hZ
  have r4 : V.cell? ⟨g + 2, 4, none⟩ = some (.int .u32 0) := cell_of_row _ _ 4 _ _ _ hZ
  have r5 : V.cell? ⟨g + 2, 5, none⟩ = some (.bool false) := cell_of_row _ _ 5 _ _ _ hZ
  clear hZ
  obtain ⟨c0, c1, c2, c3, c4, c5⟩ := HX.out.cells

  by_cases h1 : a = 1
  · have e1 : ((a : Int) == 1) = true := beq_iff_eq.2 (by omega)
    have hs : Se.set v (a, b) = ⟨b, v.streams, v.window, v.frame, v.list, v.push⟩ := by rw [h1]; rfl
    rw [hU.out] at hs
    have HX2 : Hid (BoxV (V.setCell ⟨g, 0, none⟩ (.int .u32 (b : Int))) g u) := Lib.hid (HX.out.put1 0 _ (by rw [hs]; rfl))
    have HZ2 : Hid ((V.setCell ⟨g, 0, none⟩ (.int .u32 (b : Int))).heap[g + 2]? = some (.cells #[.int .u32 0, .int .u32 0, .int .u32 0, .int .u32 0, .int .u32 0, .bool false] 26 (0, 0))) := Lib.hid ((Below.heap_setCell V ⟨g, 0, none⟩ _ (g + 2) (by show g + 2 ≠ g; omega)).trans HZ.out)
    have HB2 : Hid (Below g w (V.setCell ⟨g, 0, none⟩ (.int .u32 (b : Int)))) := Lib.hid (HB.out.setCell (p := ⟨g, 0, none⟩) (Nat.le_refl _) _)
    have zf := HX.out.frz 0
    clear h1 hs ha hU
    go_upto_region 14 with fail
    obtain ⟨V2, hV2⟩ : ∃ V2, (V.setCell ⟨g, 0, none⟩ (.int .u32 (b : Int))) = V2 := ⟨_, rfl⟩
    rw [hV2] at HX2 HZ2 HB2 ⊢
    clear hV2 HX HZ HB r0 r1 r2 r3 r4 r5 c0 c1 c2 c3 c4 c5 y0 y1 zf
    have hZ := HZ2.out
    have r0 : V2.cell? ⟨g + 2, 0, none⟩ = some (.int .u32 0) := cell_of_row _ _ 0 _ _ _ hZ
    have r1 : V2.cell? ⟨g + 2, 1, none⟩ = some (.int .u32 0) := cell_of_row _ _ 1 _ _ _ hZ
    have r2 : V2.cell? ⟨g + 2, 2, none⟩ = some (.int .u32 0) := cell_of_row _ _ 2 _ _ _ hZ
    have r3 : V2.cell? ⟨g + 2, 3, none⟩ = some (.int .u32 0) := cell_of_row _ _ 3 _ _ _ hZ
    have r4 : V2.cell? ⟨g + 2, 4, none⟩ = some (.int .u32 0) := cell_of_row _ _ 4 _ _ _ hZ
    have r5 : V2.cell? ⟨g + 2, 5, none⟩ = some (.bool false) := cell_of_row _ _ 5 _ _ _ hZ
    have hfz : ∀ i, V2.frozen? ⟨g + 2, i, none⟩ = false := fun i => by simp [World.frozen?, hZ]
    have z0 := hfz 0
    have z1 := hfz 1
    have z2 := hfz 2
    have z3 := hfz 3
    have z4 := hfz 4
    have z5 := hfz 5
    obtain ⟨c0, c1, c2, c3, c4, c5⟩ := HX2.out.cells
    have HK := Lib.hid (lay6 u hZ).cells
    have HBK := Lib.hid (putV_below (u := u) (X := g + 2) HB2.out (by omega))
    unfold putV at HK HBK
    clear hZ hfz
    go_wp2_with fail
    obtain ⟨k0, k1, k2, k3, k4, k5⟩ := HK.out
    refine bodyPost_ret (v := valV u) (by simp [results, Try.results19, go_sem, valV, k0, k1, k2, k3, k4, k5]) rfl ⟨rfl, by rw [G.out]; exact HBK.out⟩
  have e1 : ((a : Int) == 1) = false := beq_eq_false_iff_ne.2 (by omega)
  by_cases h2 : a = 2
  · have e2 : ((a : Int) == 2) = true := beq_iff_eq.2 (by omega)
    obtain ⟨pb, hpb⟩ : ∃ pb, decide (b = 1) = pb := ⟨_, rfl⟩
    have epb : ((b : Int) == 1) = pb := by rw [← hpb]; by_cases h : b = 1 <;> simp [h] <;> omega
    have hs : Se.set v (a, b) = ⟨v.table, v.streams, v.window, v.frame, v.list, pb⟩ := by rw [h2]; rw [← hpb]; rfl
    rw [hU.out] at hs
    have HX2 : Hid (BoxV (V.setCell ⟨g, 5, none⟩ (.bool pb)) g u) := Lib.hid (HX.out.put1 5 _ (by rw [hs]; rfl))
    have HZ2 : Hid ((V.setCell ⟨g, 5, none⟩ (.bool pb)).heap[g + 2]? = some (.cells #[.int .u32 0, .int .u32 0, .int .u32 0, .int .u32 0, .int .u32 0, .bool false] 26 (0, 0))) := Lib.hid ((Below.heap_setCell V ⟨g, 5, none⟩ _ (g + 2) (by show g + 2 ≠ g; omega)).trans HZ.out)
    have HB2 : Hid (Below g w (V.setCell ⟨g, 5, none⟩ (.bool pb))) := Lib.hid (HB.out.setCell (p := ⟨g, 5, none⟩) (Nat.le_refl _) _)
    have zf := HX.out.frz 5
    clear h2 hs hpb ha hU
    go_upto_region 14 with fail
    obtain ⟨V2, hV2⟩ : ∃ V2, (V.setCell ⟨g, 5, none⟩ (.bool pb)) = V2 := ⟨_, rfl⟩
    rw [hV2] at HX2 HZ2 HB2 ⊢
    clear hV2 HX HZ HB r0 r1 r2 r3 r4 r5 c0 c1 c2 c3 c4 c5 y0 y1 zf
    have hZ := HZ2.out
    have r0 : V2.cell? ⟨g + 2, 0, none⟩ = some (.int .u32 0) := cell_of_row _ _ 0 _ _ _ hZ
    have r1 : V2.cell? ⟨g + 2, 1, none⟩ = some (.int .u32 0) := cell_of_row _ _ 1 _ _ _ hZ
    have r2 : V2.cell? ⟨g + 2, 2, none⟩ = some (.int .u32 0) := cell_of_row _ _ 2 _ _ _ hZ
    have r3 : V2.cell? ⟨g + 2, 3, none⟩ = some (.int .u32 0) := cell_of_row _ _ 3 _ _ _ hZ
    have r4 : V2.cell? ⟨g + 2, 4, none⟩ = some (.int .u32 0) := cell_of_row _ _ 4 _ _ _ hZ
    have r5 : V2.cell? ⟨g + 2, 5, none⟩ = some (.bool false) := cell_of_row _ _ 5 _ _ _ hZ
    have hfz : ∀ i, V2.frozen? ⟨g + 2, i, none⟩ = false := fun i => by simp [World.frozen?, hZ]
    have z0 := hfz 0
    have z1 := hfz 1
    have z2 := hfz 2
    have z3 := hfz 3
    have z4 := hfz 4
    have z5 := hfz 5
    obtain ⟨c0, c1, c2, c3, c4, c5⟩ := HX2.out.cells
    have HK := Lib.hid (lay6 u hZ).cells
    have HBK := Lib.hid (putV_below (u := u) (X := g + 2) HB2.out (by omega))
    unfold putV at HK HBK
    clear hZ hfz
    go_wp2_with fail
    obtain ⟨k0, k1, k2, k3, k4, k5⟩ := HK.out
    refine bodyPost_ret (v := valV u) (by simp [results, Try.results19, go_sem, valV, k0, k1, k2, k3, k4, k5]) rfl ⟨rfl, by rw [G.out]; exact HBK.out⟩
  have e2 : ((a : Int) == 2) = false := beq_eq_false_iff_ne.2 (by omega)
  by_cases h3 : a = 3
  · have e3 : ((a : Int) == 3) = true := beq_iff_eq.2 (by omega)
    have hs : Se.set v (a, b) = ⟨v.table, b, v.window, v.frame, v.list, v.push⟩ := by rw [h3]; rfl
    rw [hU.out] at hs
    have HX2 : Hid (BoxV (V.setCell ⟨g, 1, none⟩ (.int .u32 (b : Int))) g u) := Lib.hid (HX.out.put1 1 _ (by rw [hs]; rfl))
    have HZ2 : Hid ((V.setCell ⟨g, 1, none⟩ (.int .u32 (b : Int))).heap[g + 2]? = some (.cells #[.int .u32 0, .int .u32 0, .int .u32 0, .int .u32 0, .int .u32 0, .bool false] 26 (0, 0))) := Lib.hid ((Below.heap_setCell V ⟨g, 1, none⟩ _ (g + 2) (by show g + 2 ≠ g; omega)).trans HZ.out)
    have HB2 : Hid (Below g w (V.setCell ⟨g, 1, none⟩ (.int .u32 (b : Int)))) := Lib.hid (HB.out.setCell (p := ⟨g, 1, none⟩) (Nat.le_refl _) _)
    have zf := HX.out.frz 1
    clear h3 hs ha hU
    go_upto_region 14 with fail
    obtain ⟨V2, hV2⟩ : ∃ V2, (V.setCell ⟨g, 1, none⟩ (.int .u32 (b : Int))) = V2 := ⟨_, rfl⟩
    rw [hV2] at HX2 HZ2 HB2 ⊢
    clear hV2 HX HZ HB r0 r1 r2 r3 r4 r5 c0 c1 c2 c3 c4 c5 y0 y1 zf
    have hZ := HZ2.out
    have r0 : V2.cell? ⟨g + 2, 0, none⟩ = some (.int .u32 0) := cell_of_row _ _ 0 _ _ _ hZ
    have r1 : V2.cell? ⟨g + 2, 1, none⟩ = some (.int .u32 0) := cell_of_row _ _ 1 _ _ _ hZ
    have r2 : V2.cell? ⟨g + 2, 2, none⟩ = some (.int .u32 0) := cell_of_row _ _ 2 _ _ _ hZ
    have r3 : V2.cell? ⟨g + 2, 3, none⟩ = some (.int .u32 0) := cell_of_row _ _ 3 _ _ _ hZ
    have r4 : V2.cell? ⟨g + 2, 4, none⟩ = some (.int .u32 0) := cell_of_row _ _ 4 _ _ _ hZ
    have r5 : V2.cell? ⟨g + 2, 5, none⟩ = some (.bool false) := cell_of_row _ _ 5 _ _ _ hZ
    have hfz : ∀ i, V2.frozen? ⟨g + 2, i, none⟩ = false := fun i => by simp [World.frozen?, hZ]
    have z0 := hfz 0
    have z1 := hfz 1
    have z2 := hfz 2
    have z3 := hfz 3
    have z4 := hfz 4
    have z5 := hfz 5
    obtain ⟨c0, c1, c2, c3, c4, c5⟩ := HX2.out.cells
    have HK := Lib.hid (lay6 u hZ).cells
    have HBK := Lib.hid (putV_below (u := u) (X := g + 2) HB2.out (by omega))
    unfold putV at HK HBK
    clear hZ hfz
    go_wp2_with fail
    obtain ⟨k0, k1, k2, k3, k4, k5⟩ := HK.out
    refine bodyPost_ret (v := valV u) (by simp [results, Try.results19, go_sem, valV, k0, k1, k2, k3, k4, k5]) rfl ⟨rfl, by rw [G.out]; exact HBK.out⟩
  have e3 : ((a : Int) == 3) = false := beq_eq_false_iff_ne.2 (by omega)
  by_cases h4 : a = 4
  · have e4 : ((a : Int) == 4) = true := beq_iff_eq.2 (by omega)
    have hs : Se.set v (a, b) = ⟨v.table, v.streams, b, v.frame, v.list, v.push⟩ := by rw [h4]; rfl
    rw [hU.out] at hs
    have HX2 : Hid (BoxV (V.setCell ⟨g, 2, none⟩ (.int .u32 (b : Int))) g u) := Lib.hid (HX.out.put1 2 _ (by rw [hs]; rfl))
    have HZ2 : Hid ((V.setCell ⟨g, 2, none⟩ (.int .u32 (b : Int))).heap[g + 2]? = some (.cells #[.int .u32 0, .int .u32 0, .int .u32 0, .int .u32 0, .int .u32 0, .bool false] 26 (0, 0))) := Lib.hid ((Below.heap_setCell V ⟨g, 2, none⟩ _ (g + 2) (by show g + 2 ≠ g; omega)).trans HZ.out)
    have HB2 : Hid (Below g w (V.setCell ⟨g, 2, none⟩ (.int .u32 (b : Int)))) := Lib.hid (HB.out.setCell (p := ⟨g, 2, none⟩) (Nat.le_refl _) _)
    have zf := HX.out.frz 2
    clear h4 hs ha hU
    go_upto_region 14 with fail
    obtain ⟨V2, hV2⟩ : ∃ V2, (V.setCell ⟨g, 2, none⟩ (.int .u32 (b : Int))) = V2 := ⟨_, rfl⟩
    rw [hV2] at HX2 HZ2 HB2 ⊢
    clear hV2 HX HZ HB r0 r1 r2 r3 r4 r5 c0 c1 c2 c3 c4 c5 y0 y1 zf
    have hZ := HZ2.out
    have r0 : V2.cell? ⟨g + 2, 0, none⟩ = some (.int .u32 0) := cell_of_row _ _ 0 _ _ _ hZ
    have r1 : V2.cell? ⟨g + 2, 1, none⟩ = some (.int .u32 0) := cell_of_row _ _ 1 _ _ _ hZ
    have r2 : V2.cell? ⟨g + 2, 2, none⟩ = some (.int .u32 0) := cell_of_row _ _ 2 _ _ _ hZ
    have r3 : V2.cell? ⟨g + 2, 3, none⟩ = some (.int .u32 0) := cell_of_row _ _ 3 _ _ _ hZ
    have r4 : V2.cell? ⟨g + 2, 4, none⟩ = some (.int .u32 0) := cell_of_row _ _ 4 _ _ _ hZ
    have r5 : V2.cell? ⟨g + 2, 5, none⟩ = some (.bool false) := cell_of_row _ _ 5 _ _ _ hZ
    have hfz : ∀ i, V2.frozen? ⟨g + 2, i, none⟩ = false := fun i => by simp [World.frozen?, hZ]
    have z0 := hfz 0
    have z1 := hfz 1
    have z2 := hfz 2
    have z3 := hfz 3
    have z4 := hfz 4
    have z5 := hfz 5
    obtain ⟨c0, c1, c2, c3, c4, c5⟩ := HX2.out.cells
    have HK := Lib.hid (lay6 u hZ).cells
    have HBK := Lib.hid (putV_below (u := u) (X := g + 2) HB2.out (by omega))
    unfold putV at HK HBK
    clear hZ hfz
    go_wp2_with fail
    obtain ⟨k0, k1, k2, k3, k4, k5⟩ := HK.out
    refine bodyPost_ret (v := valV u) (by simp [results, Try.results19, go_sem, valV, k0, k1, k2, k3, k4, k5]) rfl ⟨rfl, by rw [G.out]; exact HBK.out⟩
  have e4 : ((a : Int) == 4) = false := beq_eq_false_iff_ne.2 (by omega)
  by_cases h5 : a = 5
  · have e5 : ((a : Int) == 5) = true := beq_iff_eq.2 (by omega)
    have hs : Se.set v (a, b) = ⟨v.table, v.streams, v.window, b, v.list, v.push⟩ := by rw [h5]; rfl
    rw [hU.out] at hs
    have HX2 : Hid (BoxV (V.setCell ⟨g, 3, none⟩ (.int .u32 (b : Int))) g u) := Lib.hid (HX.out.put1 3 _ (by rw [hs]; rfl))
    have HZ2 : Hid ((V.setCell ⟨g, 3, none⟩ (.int .u32 (b : Int))).heap[g + 2]? = some (.cells #[.int .u32 0, .int .u32 0, .int .u32 0, .int .u32 0, .int .u32 0, .bool false] 26 (0, 0))) := Lib.hid ((Below.heap_setCell V ⟨g, 3, none⟩ _ (g + 2) (by show g + 2 ≠ g; omega)).trans HZ.out)
    have HB2 : Hid (Below g w (V.setCell ⟨g, 3, none⟩ (.int .u32 (b : Int)))) := Lib.hid (HB.out.setCell (p := ⟨g, 3, none⟩) (Nat.le_refl _) _)
    have zf := HX.out.frz 3
    clear h5 hs ha hU
    go_upto_region 14 with fail
    obtain ⟨V2, hV2⟩ : ∃ V2, (V.setCell ⟨g, 3, none⟩ (.int .u32 (b : Int))) = V2 := ⟨_, rfl⟩
    rw [hV2] at HX2 HZ2 HB2 ⊢
    clear hV2 HX HZ HB r0 r1 r2 r3 r4 r5 c0 c1 c2 c3 c4 c5 y0 y1 zf
    have hZ := HZ2.out
    have r0 : V2.cell? ⟨g + 2, 0, none⟩ = some (.int .u32 0) := cell_of_row _ _ 0 _ _ _ hZ
    have r1 : V2.cell? ⟨g + 2, 1, none⟩ = some (.int .u32 0) := cell_of_row _ _ 1 _ _ _ hZ
    have r2 : V2.cell? ⟨g + 2, 2, none⟩ = some (.int .u32 0) := cell_of_row _ _ 2 _ _ _ hZ
    have r3 : V2.cell? ⟨g + 2, 3, none⟩ = some (.int .u32 0) := cell_of_row _ _ 3 _ _ _ hZ
    have r4 : V2.cell? ⟨g + 2, 4, none⟩ = some (.int .u32 0) := cell_of_row _ _ 4 _ _ _ hZ
    have r5 : V2.cell? ⟨g + 2, 5, none⟩ = some (.bool false) := cell_of_row _ _ 5 _ _ _ hZ
    have hfz : ∀ i, V2.frozen? ⟨g + 2, i, none⟩ = false := fun i => by simp [World.frozen?, hZ]
    have z0 := hfz 0
    have z1 := hfz 1
    have z2 := hfz 2
    have z3 := hfz 3
    have z4 := hfz 4
    have z5 := hfz 5
    obtain ⟨c0, c1, c2, c3, c4, c5⟩ := HX2.out.cells
    have HK := Lib.hid (lay6 u hZ).cells
    have HBK := Lib.hid (putV_below (u := u) (X := g + 2) HB2.out (by omega))
    unfold putV at HK HBK
    clear hZ hfz
    go_wp2_with fail
    obtain ⟨k0, k1, k2, k3, k4, k5⟩ := HK.out
    refine bodyPost_ret (v := valV u) (by simp [results, Try.results19, go_sem, valV, k0, k1, k2, k3, k4, k5]) rfl ⟨rfl, by rw [G.out]; exact HBK.out⟩
  have e5 : ((a : Int) == 5) = false := beq_eq_false_iff_ne.2 (by omega)
  by_cases h6 : a = 6
  · have e6 : ((a : Int) == 6) = true := beq_iff_eq.2 (by omega)
    have hs : Se.set v (a, b) = ⟨v.table, v.streams, v.window, v.frame, b, v.push⟩ := by rw [h6]; rfl
    rw [hU.out] at hs
    have HX2 : Hid (BoxV (V.setCell ⟨g, 4, none⟩ (.int .u32 (b : Int))) g u) := Lib.hid (HX.out.put1 4 _ (by rw [hs]; rfl))
    have HZ2 : Hid ((V.setCell ⟨g, 4, none⟩ (.int .u32 (b : Int))).heap[g + 2]? = some (.cells #[.int .u32 0, .int .u32 0, .int .u32 0, .int .u32 0, .int .u32 0, .bool false] 26 (0, 0))) := Lib.hid ((Below.heap_setCell V ⟨g, 4, none⟩ _ (g + 2) (by show g + 2 ≠ g; omega)).trans HZ.out)
    have HB2 : Hid (Below g w (V.setCell ⟨g, 4, none⟩ (.int .u32 (b : Int)))) := Lib.hid (HB.out.setCell (p := ⟨g, 4, none⟩) (Nat.le_refl _) _)
    have zf := HX.out.frz 4
    clear h6 hs ha hU
    go_upto_region 14 with fail
    obtain ⟨V2, hV2⟩ : ∃ V2, (V.setCell ⟨g, 4, none⟩ (.int .u32 (b : Int))) = V2 := ⟨_, rfl⟩
    rw [hV2] at HX2 HZ2 HB2 ⊢
    clear hV2 HX HZ HB r0 r1 r2 r3 r4 r5 c0 c1 c2 c3 c4 c5 y0 y1 zf
    have hZ := HZ2.out
    have r0 : V2.cell? ⟨g + 2, 0, none⟩ = some (.int .u32 0) := cell_of_row _ _ 0 _ _ _ hZ
    have r1 : V2.cell? ⟨g + 2, 1, none⟩ = some (.int .u32 0) := cell_of_row _ _ 1 _ _ _ hZ
    have r2 : V2.cell? ⟨g + 2, 2, none⟩ = some (.int .u32 0) := cell_of_row _ _ 2 _ _ _ hZ
    have r3 : V2.cell? ⟨g + 2, 3, none⟩ = some (.int .u32 0) := cell_of_row _ _ 3 _ _ _ hZ
    have r4 : V2.cell? ⟨g + 2, 4, none⟩ = some (.int .u32 0) := cell_of_row _ _ 4 _ _ _ hZ
    have r5 : V2.cell? ⟨g + 2, 5, none⟩ = some (.bool false) := cell_of_row _ _ 5 _ _ _ hZ
    have hfz : ∀ i, V2.frozen? ⟨g + 2, i, none⟩ = false := fun i => by simp [World.frozen?, hZ]
    have z0 := hfz 0
    have z1 := hfz 1
    have z2 := hfz 2
    have z3 := hfz 3
    have z4 := hfz 4
    have z5 := hfz 5
    obtain ⟨c0, c1, c2, c3, c4, c5⟩ := HX2.out.cells
    have HK := Lib.hid (lay6 u hZ).cells
    have HBK := Lib.hid (putV_below (u := u) (X := g + 2) HB2.out (by omega))
    unfold putV at HK HBK
    clear hZ hfz
    go_wp2_with fail
    obtain ⟨k0, k1, k2, k3, k4, k5⟩ := HK.out
    refine bodyPost_ret (v := valV u) (by simp [results, Try.results19, go_sem, valV, k0, k1, k2, k3, k4, k5]) rfl ⟨rfl, by rw [G.out]; exact HBK.out⟩
  have e6 : ((a : Int) == 6) = false := beq_eq_false_iff_ne.2 (by omega)
  have hs : Se.set v (a, b) = v := by unfold Se.set; rw [if_neg h1, if_neg h2, if_neg h3, if_neg h4, if_neg h5, if_neg h6]
  rw [hU.out] at hs
  subst hs
  clear hU h1 h2 h3 h4 h5 h6 ha
  clear r0 r1 r2 r3 r4 r5 c0 c1 c2 c3 c4 c5
  go_upto_region 14 with fail
  clear y0 y1
  have hZ := HZ.out
  have r0 : V.cell? ⟨g + 2, 0, none⟩ = some (.int .u32 0) := cell_of_row _ _ 0 _ _ _ hZ
  have r1 : V.cell? ⟨g + 2, 1, none⟩ = some (.int .u32 0) := cell_of_row _ _ 1 _ _ _ hZ
  have r2 : V.cell? ⟨g + 2, 2, none⟩ = some (.int .u32 0) := cell_of_row _ _ 2 _ _ _ hZ
  have r3 : V.cell? ⟨g + 2, 3, none⟩ = some (.int .u32 0) := cell_of_row _ _ 3 _ _ _ hZ
  have r4 : V.cell? ⟨g + 2, 4, none⟩ = some (.int .u32 0) := cell_of_row _ _ 4 _ _ _ hZ
  have r5 : V.cell? ⟨g + 2, 5, none⟩ = some (.bool false) := cell_of_row _ _ 5 _ _ _ hZ
  have hfz : ∀ i, V.frozen? ⟨g + 2, i, none⟩ = false := fun i => by simp [World.frozen?, hZ]
  have z0 := hfz 0
  have z1 := hfz 1
  have z2 := hfz 2
  have z3 := hfz 3
  have z4 := hfz 4
  have z5 := hfz 5
  obtain ⟨c0, c1, c2, c3, c4, c5⟩ := HX.out.cells
  have HK := Lib.hid (lay6 u hZ).cells
  have HBK := Lib.hid (putV_below (u := u) (X := g + 2) HB.out (by omega))
  unfold putV at HK HBK
  clear hZ hfz
  go_wp2_with fail
  obtain ⟨k0, k1, k2, k3, k4, k5⟩ := HK.out
  refine bodyPost_ret (v := valV u) (by simp [results, Try.results19, go_sem, valV, k0, k1, k2, k3, k4, k5]) rfl ⟨rfl, by rw [G.out]; exact HBK.out⟩

set_option maxHeartbeats 8000000 in
set_option maxRecDepth 100000 in
theorem cdef_is (w : World) : Calls Try.prog 10 #[] w fun e w' => e = .returned (valV defV) ∧ Below w.heap.size w w' := by
  have HB := Lib.hid (fun o : Obj => (Below.refl _ w).alloc (Nat.le_refl _) o)
  go_enter Try.func10, Try.ntmps10
  go_wp2_with fail
  refine bodyPost_ret (v := valV defV) (by simp [results, Try.results10, go_sem, valV, defV]) rfl ⟨rfl, ?_⟩
  exact HB.out _
end Go.Proofs.Yteddepmiejlemaa
