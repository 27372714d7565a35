/- The document's Defaults and Apply of layer 16. For up to 100000 settings. -/
import Derived.Test.YteddepmiejlemaaProg
import Derived.Test.YteddepmiejlemaaFrFrame
import Derived.Test.YteddepmiejlemaaSeMath
import Derived.Test.YteddepmiejlemaaSeWrong
import Derived.WalkKit
import Derived.Lib.Hide
import Derived.Laws.Rows
import Derived.Outline
import Derived.IntWalk
import Derived.WalkSpells
import Derived.WalkLawsBesides
import Derived.LoopTactic
import Derived.Deep.CutRange
import Derived.Deep.CutBlock
namespace Go.Proofs.Yteddepmiejlemaa
open Go Go.RowKit Se Fr

namespace Se
def pushN (v : Vals) : Nat := if v.push = true then 1 else 0
/-- The document's values as cells, and as a value. -/
def rCs (v : Vals) : Array Value := #[.int .u32 0, .int .u32 (v.table : Int), .int .u32 (pushN v : Int), .int .u32 (v.streams : Int), .int .u32 (v.window : Int), .int .u32 (v.frame : Int), .int .u32 (v.list : Int)]
def refV (v : Vals) : Value := .agg (rCs v)
def BoxR (w : World) (X : Nat) (v : Vals) : Prop := w.heap[X]? = some (.cells (rCs v) 32 (0, 0))
section
variable {w w' : World} {X : Nat} {v : Vals}
theorem BoxR.lt (h : BoxR w X v) : X < w.heap.size := by
  rcases Nat.lt_or_ge X w.heap.size with h1 | h1
  · exact h1
  · unfold BoxR at h; rw [Array.getElem?_eq_none h1] at h; cases h
theorem BoxR.below (h : BoxR w X v) (hB : Below w.heap.size w w') : BoxR w' X v := (hB.block X h.lt).trans h
theorem BoxR.cells (h : BoxR w X v) : w.cell? ⟨X, 0, none⟩ = some (.int .u32 0) ∧ w.cell? ⟨X, 1, none⟩ = some (.int .u32 (v.table : Int)) ∧ w.cell? ⟨X, 2, none⟩ = some (.int .u32 (pushN v : Int)) ∧ w.cell? ⟨X, 3, none⟩ = some (.int .u32 (v.streams : Int)) ∧ w.cell? ⟨X, 4, none⟩ = some (.int .u32 (v.window : Int)) ∧ w.cell? ⟨X, 5, none⟩ = some (.int .u32 (v.frame : Int)) ∧ w.cell? ⟨X, 6, none⟩ = some (.int .u32 (v.list : Int)) :=
  ⟨cell_of_row _ _ 0 _ _ _ h, cell_of_row _ _ 1 _ _ _ h, cell_of_row _ _ 2 _ _ _ h, cell_of_row _ _ 3 _ _ _ h, cell_of_row _ _ 4 _ _ _ h, cell_of_row _ _ 5 _ _ _ h, cell_of_row _ _ 6 _ _ _ h⟩
theorem BoxR.frz (h : BoxR w X v) (i : Nat) : w.frozen? ⟨X, i, none⟩ = false := by
  unfold BoxR at h
  simp [World.frozen?, h]
theorem BoxR.some (h : BoxR w X v) {i : Nat} (hi : i < 7) : ∃ u, w.cell? ⟨X, i, none⟩ = some u := by
  obtain ⟨c0, c1, c2, c3, c4, c5, c6⟩ := h.cells
  rcases (show i = 0 ∨ i = 1 ∨ i = 2 ∨ i = 3 ∨ i = 4 ∨ i = 5 ∨ i = 6 by omega) with rfl | rfl | rfl | rfl | rfl | rfl | rfl
  · exact ⟨_, c0⟩
  · exact ⟨_, c1⟩
  · exact ⟨_, c2⟩
  · exact ⟨_, c3⟩
  · exact ⟨_, c4⟩
  · exact ⟨_, c5⟩
  · exact ⟨_, c6⟩
/-- One setting laid. -/
theorem BoxR.put (h : BoxR w X v) {a b : Nat} (ha : 1 ≤ a) (ha6 : a ≤ 6) (hb : a = 2 → b ≤ 1) : BoxR (w.setCell ⟨X, a, none⟩ (.int .u32 (b : Int))) X (set v (a, b)) := by
  unfold BoxR
  rw [heap_setCell_same _ _ _ _ _ _ h]
  rcases (show a = 1 ∨ a = 2 ∨ a = 3 ∨ a = 4 ∨ a = 5 ∨ a = 6 by omega) with rfl | rfl | rfl | rfl | rfl | rfl
  · rfl
  · have : b = 0 ∨ b = 1 := by have := hb rfl; omega
    rcases this with rfl | rfl <;> rfl
  · rfl
  · rfl
  · rfl
  · rfl
end
theorem code_at {q : Bool} : ∀ {L : List (Nat × Nat)} {j : Nat}, codeL q L = 0 → j < L.length → wrongS q (setAt L j) = 0
  | [], _, _, h => absurd h (Nat.not_lt_zero _)
  | x :: L, 0, h, _ => by
    rw [codeL] at h
    by_cases hx : wrongS q x ≠ 0
    · rw [if_pos hx] at h; exact absurd h hx
    · exact Decidable.not_not.1 hx
  | x :: L, j + 1, h, hj => by
    rw [codeL] at h
    by_cases hx : wrongS q x ≠ 0
    · rw [if_pos hx] at h; exact absurd h hx
    · rw [if_neg hx] at h
      exact code_at (L := L) (j := j) h (by rw [List.length_cons] at hj; omega)
theorem fold_step {L : List (Nat × Nat)} {j : Nat} (v : Vals) (hj : j < L.length) : (L.take (j + 1)).foldl set v = set ((L.take j).foldl set v) (setAt L j) := by
  rw [List.take_succ_eq_append_getElem hj, List.foldl_append]
  have : setAt L j = L[j] := by
    unfold setAt
    rw [List.getD_eq_getElem?_getD, List.getElem?_eq_getElem hj]
    rfl
  rw [this]
  rfl
theorem push_one {q : Bool} {a b : Nat} (h : wrongS q (a, b) = 0) : a = 2 → b ≤ 1 := fun e => by
  unfold wrongS at h
  by_cases h1 : 1 < b
  · rw [if_pos ⟨e, .inl h1⟩] at h; cases h
  · omega
/-- The seven cells, laid one by one. -/
theorem lay7 {w : World} {R : Nat} (v : Vals) (h : w.heap[R]? = some (.cells #[.int .u32 0, .int .u32 0, .int .u32 0, .int .u32 0, .int .u32 0, .int .u32 0, .int .u32 0] 32 (0, 0))) : BoxR ((((((((w).setCell ⟨R, 0, none⟩ (.int .u32 0)).setCell ⟨R, 1, none⟩ (.int .u32 (v.table : Int))).setCell ⟨R, 2, none⟩ (.int .u32 (pushN v : Int))).setCell ⟨R, 3, none⟩ (.int .u32 (v.streams : Int))).setCell ⟨R, 4, none⟩ (.int .u32 (v.window : Int))).setCell ⟨R, 5, none⟩ (.int .u32 (v.frame : Int))).setCell ⟨R, 6, none⟩ (.int .u32 (v.list : Int))) R v := by
  unfold BoxR rCs
  simp [World.setCell, Array.getElem?_modify, h]
theorem lay7_below {w w0 : World} {R g : Nat} (v : Vals) (h : Below g w0 w) (hg : g ≤ R) : Below g w0 ((((((((w).setCell ⟨R, 0, none⟩ (.int .u32 0)).setCell ⟨R, 1, none⟩ (.int .u32 (v.table : Int))).setCell ⟨R, 2, none⟩ (.int .u32 (pushN v : Int))).setCell ⟨R, 3, none⟩ (.int .u32 (v.streams : Int))).setCell ⟨R, 4, none⟩ (.int .u32 (v.window : Int))).setCell ⟨R, 5, none⟩ (.int .u32 (v.frame : Int))).setCell ⟨R, 6, none⟩ (.int .u32 (v.list : Int))) :=
  ((((((h.setCell (p := ⟨R, 0, none⟩) hg _).setCell (p := ⟨R, 1, none⟩) hg _).setCell (p := ⟨R, 2, none⟩) hg _).setCell (p := ⟨R, 3, none⟩) hg _).setCell (p := ⟨R, 4, none⟩) hg _).setCell (p := ⟨R, 5, none⟩) hg _).setCell (p := ⟨R, 6, none⟩) hg _
end Se

set_option maxHeartbeats 8000000 in
set_option maxRecDepth 100000 in
theorem sdef_is (w : World) : Calls Try.prog 12 #[] w fun e w' => e = .returned (refV defV) ∧ Below w.heap.size w w' := by
  have HB := Lib.hid (fun o : Obj => (Below.refl _ w).alloc (Nat.le_refl _) o)
  go_enter Try.func12, Try.ntmps12
  go_wp2_with fail
  refine bodyPost_ret (v := refV defV) (by simp [results, Try.results12, go_sem, refV, rCs, defV, pushN]) rfl ⟨rfl, ?_⟩
  exact HB.out _

set_option maxHeartbeats 8000000 in
set_option maxRecDepth 100000 in
theorem sapply_is (v u : Vals) (q : Bool) (a : Option Addr) (n cp c : Nat) (L : List (Nat × Nat)) (w : World) (hR : Hid (RdSt w w.heap.size a L)) (hL : Hid (L.length = n)) (hn : n ≤ 100000) (hA : Hid (applyS v q L = (u, c))) :
    Calls Try.prog 11 #[refV v, .bool q, .slice a n cp] w fun e w' => e = .returned (.tuple #[refV u, .int .i64 (c : Int)]) ∧ Below w.heap.size w w' := by
  have hX := heap_alloc_new w (.cells (rCs v) 32)
  have hBX := (Below.refl _ w).alloc (Nat.le_refl _) (.cells (rCs v) 32)
  show Calls Try.prog 11 #[.agg (rCs v), .bool q, .slice a n cp] w _
  go_enter Try.func11, Try.ntmps11
  go_upto_region 1 with fail
  obtain ⟨W, hW⟩ : ∃ W, w.alloc (.cells (rCs v) 32) = W := ⟨_, rfl⟩
  have hWs : W.heap.size = w.heap.size + 1 := by rw [← hW]; simp
  rw [hW] at hX hBX ⊢
  clear hW
  have hZ := heap_alloc_new W (.cells #[.int .u32 0, .int .u32 0, .int .u32 0, .int .u32 0, .int .u32 0, .int .u32 0, .int .u32 0] 32)
  have hBZ := (Below.refl _ W).alloc (Nat.le_refl _) (.cells #[.int .u32 0, .int .u32 0, .int .u32 0, .int .u32 0, .int .u32 0, .int .u32 0, .int .u32 0] 32)
  obtain ⟨V, hV⟩ : ∃ V, W.alloc (.cells #[.int .u32 0, .int .u32 0, .int .u32 0, .int .u32 0, .int .u32 0, .int .u32 0, .int .u32 0] 32) = V := ⟨_, rfl⟩
  rw [hV] at hZ hBZ ⊢
  clear hV
  obtain ⟨g, hg⟩ : ∃ g, w.heap.size = g := ⟨_, rfl⟩
  have G := Lib.hid hg
  have HBV : Hid (Below g w V) := Lib.hid (by rw [← hg]; exact hBX.trans (hBZ.mono (by omega)))
  have HRg : Hid (RdSt w g a L) := Lib.hid (by rw [← hg]; exact hR.out)
  rw [hWs] at hZ
  rw [hg] at hX hZ hWs ⊢
  have HXV : Hid (BoxR V g v) := Lib.hid ((hBZ.block g (by omega)).trans hX)
  have HZV : Hid (V.heap[g + 1]? = some (.cells #[.int .u32 0, .int .u32 0, .int .u32 0, .int .u32 0, .int .u32 0, .int .u32 0, .int .u32 0] 32 (0, 0))) := Lib.hid hZ
  clear hX hBX hZ hBZ hg hR hWs
  go_wp2_with fail
  go_loopw [8, 9] (fun i _ wr => ∃ k : Nat, k ≤ n ∧ i = .int .i64 (k : Int) ∧ Hid (codeL q L = codeL q (L.drop k)) ∧ Hid (BoxR wr g v) ∧ Hid (wr.heap[g + 1]? = some (.cells #[.int .u32 0, .int .u32 0, .int .u32 0, .int .u32 0, .int .u32 0, .int .u32 0, .int .u32 0] 32 (0, 0))) ∧ Hid (Below g w wr)) (fun i _ _ => n - (intOf i).toNat)
  case atStart => exact ⟨0, Nat.zero_le _, rfl, Lib.hid rfl, HXV, HZV, HBV⟩
  case round =>
    obtain ⟨k, hk, rfl, hC, hXr, hZr, hBw⟩ := hrel
    have hgw : Hid (g + 1 < wr.heap.size) := Lib.hid (by
      rcases Nat.lt_or_ge (g + 1) wr.heap.size with h | h
      · exact h
      · have := hZr.out; rw [Array.getElem?_eq_none h] at this; cases this)
    by_cases hlt : k < n
    · have hki : (k : Int) < (n : Int) := by omega
      have hkl : k < L.length := by rw [hL.out]; exact hlt
      obtain ⟨b0, off, rfl, hb0, c0, c1, hx1, hx2⟩ := HRg.out k hkl
      have d0 : wr.cell? ⟨b0, off + k * 2, none⟩ = some (.int .u16 ((setAt L k).1 : Int)) := (hBw.out.cell (p := ⟨b0, off + k * 2, none⟩) hb0).trans c0
      have d1 : wr.cell? ⟨b0, off + k * 2 + 1, none⟩ = some (.int .u32 ((setAt L k).2 : Int)) := (hBw.out.cell (p := ⟨b0, off + k * 2 + 1, none⟩) hb0).trans c1
      obtain ⟨⟨x, y⟩, hxy⟩ : ∃ z, setAt L k = z := ⟨_, rfl⟩
      rw [hxy] at d0 d1 hx1 hx2
      obtain ⟨d, hd⟩ : ∃ d, wrongS q (x, y) = d := ⟨_, rfl⟩
      have HW := Lib.hid (fun W : World => swrong_is q x y d W hx1 hx2 (Lib.hid hd))
      have hdrop : L.drop k = (x, y) :: L.drop (k + 1) := by
        rw [List.drop_eq_getElem_cons hkl, ← hxy]
        congr 1
        unfold setAt
        rw [List.getD_eq_getElem?_getD, List.getElem?_eq_getElem hkl]
        rfl
      have hc2 := hC.out
      rw [hdrop, codeL, hd] at hc2
      have hdl := wrongS_le q (x, y)
      rw [hd] at hdl
      have HC2 := Lib.hid hc2
      clear c0 c1 hxy hd hdrop hc2 hkl
      go_wp2_with fail
      refine (HW.out _).mono ?_
      rintro e w2 ⟨rfl, hB2⟩
      have HX2 := Lib.hid (hXr.out.below hB2)
      have HZ2 := Lib.hid ((hB2.block (g + 1) hgw.out).trans hZr.out)
      have HB2 := Lib.hid (hBw.out.trans (hB2.mono (by have := hgw.out; omega)))
      clear hB2 d0 d1
      by_cases hd0 : d = 0
      · have hdz : ((d : Int) != 0) = false := bne_eq_false_iff_eq.2 (by omega)
        have HC3 : Hid (codeL q L = codeL q (L.drop (k + 1))) := Lib.hid (by rw [HC2.out, if_neg (by simp [hd0])])
        clear hd0
        go_wp2_with fail
        go_roundw
        case rel => exact ⟨k + 1, by omega, by go_num, HC3, HX2, HZ2, HB2⟩
        case measure => simp [intOf]; omega
      · have hdz : ((d : Int) != 0) = true := bne_iff_ne.2 (by omega)
        have hca := hA.out
        unfold applyS at hca
        rw [HC2.out, if_pos hd0, if_pos hd0] at hca
        injection hca with e1 e2
        subst e1 e2
        have HBX9 := HB2
        obtain ⟨p0, p1, p2, p3, p4, p5, p6⟩ := HX2.out.cells
        have r0 : w2.cell? ⟨g + 1, 0, none⟩ = some (.int .u32 0) := cell_of_row _ _ 0 _ _ _ HZ2.out
        have r1 : w2.cell? ⟨g + 1, 1, none⟩ = some (.int .u32 0) := cell_of_row _ _ 1 _ _ _ HZ2.out
        have r2 : w2.cell? ⟨g + 1, 2, none⟩ = some (.int .u32 0) := cell_of_row _ _ 2 _ _ _ HZ2.out
        have r3 : w2.cell? ⟨g + 1, 3, none⟩ = some (.int .u32 0) := cell_of_row _ _ 3 _ _ _ HZ2.out
        have r4 : w2.cell? ⟨g + 1, 4, none⟩ = some (.int .u32 0) := cell_of_row _ _ 4 _ _ _ HZ2.out
        have r5 : w2.cell? ⟨g + 1, 5, none⟩ = some (.int .u32 0) := cell_of_row _ _ 5 _ _ _ HZ2.out
        have r6 : w2.cell? ⟨g + 1, 6, none⟩ = some (.int .u32 0) := cell_of_row _ _ 6 _ _ _ HZ2.out
        have hfz : ∀ i, w2.frozen? ⟨g + 1, i, none⟩ = false := fun i => by simp [World.frozen?, HZ2.out]
        have z0 := hfz 0
        have z1 := hfz 1
        have z2 := hfz 2
        have z3 := hfz 3
        have z4 := hfz 4
        have z5 := hfz 5
        have z6 := hfz 6
        have HK := Lib.hid (lay7 v HZ2.out).cells
        have HBK := Lib.hid (lay7_below (R := g + 1) v HBX9.out (by omega))
        clear hfz
        clear hd0
        go_wp2_with fail
        obtain ⟨k0, k1, k2, k3, k4, k5, k6⟩ := HK.out
        refine bodyPost_ret (v := .tuple #[.agg (rCs v), .int .i64 (d : Int)]) (by simp [results, Try.results11, go_sem, rCs, k0, k1, k2, k3, k4, k5, k6]) rfl ⟨rfl, by rw [G.out]; exact HBK.out⟩
    · have hkn : k = n := by omega
      have hc0 : codeL q L = 0 := by rw [hC.out, List.drop_of_length_le (by rw [hL.out]; omega)]; rfl
      have hca := hA.out
      unfold applyS at hca
      rw [if_neg (by simp [hc0])] at hca
      injection hca with e1 e2
      subst e2
      have HU := Lib.hid e1
      have HC0 := Lib.hid hc0
      have hnk : ¬ ((k : Int) < (n : Int)) := by omega
      clear e1 hc0
      go_wp2_with fail
      go_loopw [10] (fun i wr2 => ∃ j : Nat, j ≤ n ∧ i = .int .i64 (j : Int) ∧ Hid (BoxR wr2 g ((L.take j).foldl set v)) ∧ Hid (wr2.heap[g + 1]? = some (.cells #[.int .u32 0, .int .u32 0, .int .u32 0, .int .u32 0, .int .u32 0, .int .u32 0, .int .u32 0] 32 (0, 0))) ∧ Hid (Below g w wr2)) (fun i _ => n - (intOf i).toNat)
      case atStart => exact ⟨0, Nat.zero_le _, rfl, hXr, hZr, hBw⟩
      case round =>
        obtain ⟨j, hj, rfl, hXj, hZj, hBj⟩ := hrel
        by_cases hlt2 : j < n
        · have hji : (j : Int) < (n : Int) := by omega
          have hjl : j < L.length := by rw [hL.out]; exact hlt2
          obtain ⟨b0, off, rfl, hb0, c0, c1, hx1, hx2⟩ := HRg.out j hjl
          have d0 : wr.cell? ⟨b0, off + j * 2, none⟩ = some (.int .u16 ((setAt L j).1 : Int)) := (hBj.out.cell (p := ⟨b0, off + j * 2, none⟩) hb0).trans c0
          have d1 : wr.cell? ⟨b0, off + j * 2 + 1, none⟩ = some (.int .u32 ((setAt L j).2 : Int)) := (hBj.out.cell (p := ⟨b0, off + j * 2 + 1, none⟩) hb0).trans c1
          have hco := code_at HC0.out hjl
          have hst := fold_step v hjl
          obtain ⟨⟨x, y⟩, hxy⟩ : ∃ z, setAt L j = z := ⟨_, rfl⟩
          rw [hxy] at d0 d1 hx1 hx2 hco hst
          obtain ⟨V1, hV1⟩ : ∃ V1, (L.take j).foldl set v = V1 := ⟨_, rfl⟩
          have hXj1 := hXj.out
          rw [hV1] at hst hXj1
          have HX1 := Lib.hid hXj1
          have HST := Lib.hid hst
          have HCO := Lib.hid hco
          clear c0 c1 hxy hjl hst hV1 hXj1 hXj hco
          by_cases h16 : 1 ≤ x ∧ x ≤ 6
          · have g1 : (1 : Int) ≤ (x : Int) := by omega
            have g6 : (x : Int) ≤ 6 := by omega
            have g0 : (0 : Int) ≤ (x : Int) := by omega
            have g7 : (x : Int) < 7 := by omega
            obtain ⟨old, ho⟩ := HX1.out.some (i := x) (by omega)
            have hfx := HX1.out.frz x
            have HXN : Hid (BoxR (wr.setCell ⟨g, x, none⟩ (.int .u32 (y : Int))) g ((L.take (j + 1)).foldl set v)) := Lib.hid (by rw [HST.out]; exact HX1.out.put h16.1 h16.2 (push_one HCO.out))
            have HZN : Hid ((wr.setCell ⟨g, x, none⟩ (.int .u32 (y : Int))).heap[g + 1]? = some (.cells #[.int .u32 0, .int .u32 0, .int .u32 0, .int .u32 0, .int .u32 0, .int .u32 0, .int .u32 0] 32 (0, 0))) := Lib.hid ((Below.heap_setCell wr ⟨g, x, none⟩ _ (g + 1) (by show g + 1 ≠ g; omega)).trans hZj.out)
            have HBN : Hid (Below g w (wr.setCell ⟨g, x, none⟩ (.int .u32 (y : Int)))) := Lib.hid (hBj.out.setCell (p := ⟨g, x, none⟩) (Nat.le_refl _) _)
            clear h16 HX1 HCO HST
            go_upto_region 11 with fail
            go_region
            all_goals
              go_wp2_with fail
              go_roundw
              case rel => exact ⟨j + 1, by omega, by go_num, HXN, HZN, Lib.hid HBN.out.drew⟩
              case measure => simp [intOf]; omega
          · have hoth : x = 0 ∨ 6 < x := by omega
            have HXN : Hid (BoxR wr g ((L.take (j + 1)).foldl set v)) := Lib.hid (by rw [HST.out, other_set hoth]; exact HX1.out)
            rcases hoth with h0 | h6
            · have g1 : ¬ (1 : Int) ≤ (x : Int) := by omega
              have g1d : decide ((1 : Int) ≤ (x : Int)) = false := decide_eq_false g1
              clear h16 h0
              go_wp2_with fail
              go_roundw
              case rel => exact ⟨j + 1, by omega, by go_num, HXN, hZj, hBj⟩
              case measure => simp [intOf]; omega
            · have g1 : (1 : Int) ≤ (x : Int) := by omega
              have g6 : ¬ (x : Int) ≤ 6 := by omega
              have g6d : decide ((x : Int) ≤ 6) = false := decide_eq_false g6
              clear h16 h6
              go_wp2_with fail
              go_roundw
              case rel => exact ⟨j + 1, by omega, by go_num, HXN, hZj, hBj⟩
              case measure => simp [intOf]; omega
        · have hnj : ¬ ((j : Int) < (n : Int)) := by omega
          have hfin := hXj.out
          rw [show L.take j = L from by rw [show j = L.length by rw [hL.out]; omega]; exact List.take_length, HU.out] at hfin
          have HXE := Lib.hid hfin
          have HBX9 := hBj
          clear hfin hXj
          obtain ⟨p0, p1, p2, p3, p4, p5, p6⟩ := HXE.out.cells
          have r0 : wr.cell? ⟨g + 1, 0, none⟩ = some (.int .u32 0) := cell_of_row _ _ 0 _ _ _ hZj.out
          have r1 : wr.cell? ⟨g + 1, 1, none⟩ = some (.int .u32 0) := cell_of_row _ _ 1 _ _ _ hZj.out
          have r2 : wr.cell? ⟨g + 1, 2, none⟩ = some (.int .u32 0) := cell_of_row _ _ 2 _ _ _ hZj.out
          have r3 : wr.cell? ⟨g + 1, 3, none⟩ = some (.int .u32 0) := cell_of_row _ _ 3 _ _ _ hZj.out
          have r4 : wr.cell? ⟨g + 1, 4, none⟩ = some (.int .u32 0) := cell_of_row _ _ 4 _ _ _ hZj.out
          have r5 : wr.cell? ⟨g + 1, 5, none⟩ = some (.int .u32 0) := cell_of_row _ _ 5 _ _ _ hZj.out
          have r6 : wr.cell? ⟨g + 1, 6, none⟩ = some (.int .u32 0) := cell_of_row _ _ 6 _ _ _ hZj.out
          have hfz : ∀ i, wr.frozen? ⟨g + 1, i, none⟩ = false := fun i => by simp [World.frozen?, hZj.out]
          have z0 := hfz 0
          have z1 := hfz 1
          have z2 := hfz 2
          have z3 := hfz 3
          have z4 := hfz 4
          have z5 := hfz 5
          have z6 := hfz 6
          have HK := Lib.hid (lay7 u hZj.out).cells
          have HBK := Lib.hid (lay7_below (R := g + 1) u HBX9.out (by omega))
          clear hfz
          go_wp2_with fail
          obtain ⟨k0, k1, k2, k3, k4, k5, k6⟩ := HK.out
          refine bodyPost_ret (v := .tuple #[.agg (rCs u), .int .i64 0]) (by simp [results, Try.results11, go_sem, rCs, k0, k1, k2, k3, k4, k5, k6]) rfl ⟨rfl, by rw [G.out]; exact HBK.out⟩
end Go.Proofs.Yteddepmiejlemaa
