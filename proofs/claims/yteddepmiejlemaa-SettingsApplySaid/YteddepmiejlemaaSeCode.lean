/- The code's Apply of layer 16. For up to 100000 settings. -/
import Derived.Test.YteddepmiejlemaaProg
import Derived.Test.YteddepmiejlemaaFrFrame
import Derived.Test.YteddepmiejlemaaSeMath
import Derived.Test.YteddepmiejlemaaSeWrong
import Derived.Test.YteddepmiejlemaaSeRef
import Derived.Test.YteddepmiejlemaaSeSame
import Derived.Test.YteddepmiejlemaaSeVal
import Derived.Test.YteddepmiejlemaaSeCoLow
import Derived.Test.YteddepmiejlemaaSeCoPar
import Derived.WalkKit
import Derived.Lib.Hide
import Derived.Laws.Rows
import Derived.Outline
import Derived.IntWalk
import Derived.WalkSpells
import Derived.WalkLawsBesides
import Derived.LoopTactic
import Derived.Deep.CutRange
import Derived.Deep.CutBlock
namespace Go.Proofs.Yteddepmiejlemaa
open Go Go.RowKit Se Fr
set_option linter.unusedVariables false

set_option maxHeartbeats 8000000 in
set_option maxRecDepth 100000 in
theorem capply_is (v u : Vals) (q : Bool) (a : Option Addr) (n cp c : Nat) (L : List (Nat × Nat)) (w : World) (hR : Hid (RdSt w w.heap.size a L)) (hL : Hid (L.length = n)) (hn : n ≤ 100000) (hA : Hid (applyS v q L = (u, c))) :
    Calls Try.prog 9 #[valV v, .bool q, .slice a n cp] w fun e w' => e = .returned (.tuple #[valV u, .int .u32 (c : Int)]) ∧ Below w.heap.size w w' := by
  obtain ⟨g, hg⟩ : ∃ g, w.heap.size = g := ⟨_, rfl⟩
  obtain ⟨W1, hW1⟩ : ∃ W, w.alloc (.cells #[.int .u32 (v.table : Int), .int .u32 (v.streams : Int), .int .u32 (v.window : Int), .int .u32 (v.frame : Int), .int .u32 (v.list : Int), .bool v.push] 26) = W := ⟨_, rfl⟩
  obtain ⟨W2, hW2⟩ : ∃ W, W1.alloc (.cells #[.int .u32 0, .int .u32 0, .int .u32 0, .int .u32 0, .int .u32 0, .bool false] 26) = W := ⟨_, rfl⟩
  obtain ⟨V, hV⟩ : ∃ W, W2.alloc (.cells #[.int .u32 (v.table : Int), .int .u32 (v.streams : Int), .int .u32 (v.window : Int), .int .u32 (v.frame : Int), .int .u32 (v.list : Int), .bool v.push] 26) = W := ⟨_, rfl⟩
  have s1 : W1.heap.size = g + 1 := by rw [← hW1, ← hg]; simp
  have s2 : W2.heap.size = g + 2 := by rw [← hW2]; simp [s1]
  have b1 : Below g w W1 := by rw [← hW1, ← hg]; exact (Below.refl _ w).alloc (Nat.le_refl _) _
  have b2 : Below (g + 1) W1 W2 := by rw [← hW2, ← s1]; exact (Below.refl _ W1).alloc (Nat.le_refl _) _
  have b3 : Below (g + 2) W2 V := by rw [← hV, ← s2]; exact (Below.refl _ W2).alloc (Nat.le_refl _) _
  have x1 : BoxV W1 g v := by rw [← hW1, ← hg]; exact heap_alloc_new w _
  have x2 : W2.heap[g + 1]? = some (.cells #[.int .u32 0, .int .u32 0, .int .u32 0, .int .u32 0, .int .u32 0, .bool false] 26 (0, 0)) := by rw [← hW2, ← s1]; exact heap_alloc_new W1 _
  have x3 : BoxV V (g + 2) v := by rw [← hV, ← s2]; exact heap_alloc_new W2 _
  have x4 : BoxV W2 g v := (b2.block g (by omega)).trans x1
  have HXV : Hid (BoxV V g v) := Lib.hid ((b3.block g (by omega)).trans x4)
  have HZV : Hid (V.heap[g + 1]? = some (.cells #[.int .u32 0, .int .u32 0, .int .u32 0, .int .u32 0, .int .u32 0, .bool false] 26 (0, 0))) := Lib.hid ((b3.block (g + 1) (by omega)).trans x2)
  have HNV := Lib.hid x3
  have HBV : Hid (Below g w V) := Lib.hid (b1.trans ((b2.mono (by omega)).trans (b3.mono (by omega))))
  have HRg : Hid (RdSt w g a L) := Lib.hid (by rw [← hg]; exact hR.out)
  obtain ⟨p0, p1, p2, p3, p4, p5⟩ := x4.cells
  clear x1 x2 x3 x4 b1 b2 b3 hR
  have HW1 := Lib.hid hW1
  have HW2 := Lib.hid hW2
  have HV := Lib.hid hV
  have S1 := Lib.hid s1
  have S2 := Lib.hid s2
  have G := Lib.hid hg
  clear hW1 hW2 hV s1 s2 hg
  show Calls Try.prog 9 #[.agg #[.int .u32 (v.table : Int), .int .u32 (v.streams : Int), .int .u32 (v.window : Int), .int .u32 (v.frame : Int), .int .u32 (v.list : Int), .bool v.push], .bool q, .slice a n cp] w _
  go_enter Try.func9, Try.ntmps9
  go_upto_region 1 with fail
  rw [HW1.out, HW2.out]
  try rw [G.out]
  try rw [S1.out]
  go_upto_region 2 with fail
  rw [HV.out]
  try rw [S2.out]
  clear p0 p1 p2 p3 p4 p5
  go_wp2_with fail
  go_loopw [15] (fun i wr => ∃ k : Nat, k ≤ n ∧ i = .int .i64 (k : Int) ∧ Hid (codeL q L = codeL q (L.drop k)) ∧ Hid (BoxV wr g v) ∧ Hid (wr.heap[g + 1]? = some (.cells #[.int .u32 0, .int .u32 0, .int .u32 0, .int .u32 0, .int .u32 0, .bool false] 26 (0, 0))) ∧ Hid (BoxV wr (g + 2) ((L.take k).foldl Se.set v)) ∧ Hid (Below g w wr)) (fun i _ => n - (intOf i).toNat)
  case atStart => exact ⟨0, Nat.zero_le _, rfl, Lib.hid rfl, HXV, HZV, HNV, HBV⟩
  case round =>
    obtain ⟨k, hk, rfl, hC, hXr, hZr, hNr, hBw⟩ := hrel
    have hgw : Hid (g + 2 < wr.heap.size) := Lib.hid hNr.out.lt
    by_cases hlt : k < n
    · have hki : (k : Int) < (n : Int) := by omega
      have hkl : k < L.length := by rw [hL.out]; exact hlt
      obtain ⟨b0, off, rfl, hb0, c0, c1, hx1, hx2⟩ := HRg.out k hkl
      have d0 : wr.cell? ⟨b0, off + k * 2, none⟩ = some (.int .u16 ((setAt L k).1 : Int)) := (hBw.out.cell (p := ⟨b0, off + k * 2, none⟩) hb0).trans c0
      have d1 : wr.cell? ⟨b0, off + k * 2 + 1, none⟩ = some (.int .u32 ((setAt L k).2 : Int)) := (hBw.out.cell (p := ⟨b0, off + k * 2 + 1, none⟩) hb0).trans c1
      have hst := fold_step v hkl
      obtain ⟨⟨x, y⟩, hxy⟩ : ∃ z, setAt L k = z := ⟨_, rfl⟩
      rw [hxy] at d0 d1 hx1 hx2 hst
      obtain ⟨V1, hV1⟩ : ∃ V1, (L.take k).foldl Se.set v = V1 := ⟨_, rfl⟩
      have hN1 := hNr.out
      rw [hV1] at hst hN1
      obtain ⟨U1, hU1⟩ : ∃ U1, Se.set V1 (x, y) = U1 := ⟨_, rfl⟩
      rw [hU1] at hst
      obtain ⟨d, hd⟩ : ∃ d, wrongS q (x, y) = d := ⟨_, rfl⟩
      have HWR := Lib.hid (fun W : World => cwrong_is q x y d W hx1 hx2 (Lib.hid hd))
      have HWI := Lib.hid (fun W : World => cwith_is V1 U1 x y W hx1 hx2 (Lib.hid hU1))
      have hdrop : L.drop k = (x, y) :: L.drop (k + 1) := by
        rw [List.drop_eq_getElem_cons hkl, ← hxy]
        congr 1
        unfold setAt
        rw [List.getD_eq_getElem?_getD, List.getElem?_eq_getElem hkl]
        rfl
      have hc2 := hC.out
      rw [hdrop, codeL, hd] at hc2
      have hdl := wrongS_le q (x, y)
      rw [hd] at hdl
      have HC2 := Lib.hid hc2
      have HST := Lib.hid hst
      have HN1 := Lib.hid hN1
      obtain ⟨w2, hw2⟩ : ∃ W, wr.alloc (.cells #[.int .u16 (x : Int), .int .u32 (y : Int)] 48) = W := ⟨_, rfl⟩
      obtain ⟨D, hD⟩ : ∃ D, wr.heap.size = D := ⟨_, rfl⟩
      have n2 : Below D wr w2 := by rw [← hw2, ← hD]; exact (Below.refl _ _).alloc (Nat.le_refl _) _
      have HY : Hid (w2.heap[D]? = some (.cells #[.int .u16 (x : Int), .int .u32 (y : Int)] 48 (0, 0))) := Lib.hid (by rw [← hw2, ← hD]; exact heap_alloc_new wr _)
      have hDg : g + 2 < D := by rw [← hD]; exact hgw.out
      have HX2 : Hid (BoxV w2 g v) := Lib.hid ((n2.block g (by omega)).trans hXr.out)
      have HZ2 := Lib.hid ((n2.block (g + 1) (by omega)).trans hZr.out)
      have HN2 : Hid (BoxV w2 (g + 2) V1) := Lib.hid ((n2.block (g + 2) (by omega)).trans hN1)
      have HB2 : Hid (Below g w w2) := Lib.hid (hBw.out.trans (n2.mono (by omega)))
      have HD2 : Hid (w2.heap.size = D + 1) := Lib.hid (by rw [← hw2, ← hD]; simp)
      have HW2' := Lib.hid hw2
      have HDD := Lib.hid hD
      clear c0 c1 hxy hd hdrop hc2 hkl hst hV1 hN1 hU1 hw2 hD n2 hx1 hx2
      go_upto_region 5 with fail
      rw [HW2'.out]
      try rw [HDD.out]
      have y0 := cell_of_row _ _ 0 _ _ _ HY.out
      have y1 := cell_of_row _ _ 1 _ _ _ HY.out
      clear d0 d1
      go_wp2_with fail
      refine (HWR.out _).mono ?_
      rintro e w3 ⟨rfl, hB3⟩
      rw [HD2.out] at hB3
      have HX3 : Hid (BoxV w3 g v) := Lib.hid ((hB3.block g (by omega)).trans HX2.out)
      have HZ3 := Lib.hid ((hB3.block (g + 1) (by omega)).trans HZ2.out)
      have HN3 : Hid (BoxV w3 (g + 2) V1) := Lib.hid ((hB3.block (g + 2) (by omega)).trans HN2.out)
      have HB3 : Hid (Below g w w3) := Lib.hid (HB2.out.trans (hB3.mono (by omega)))
      have HY3 := Lib.hid ((hB3.block D (by omega)).trans HY.out)
      have HS3 : Hid (D + 1 ≤ w3.heap.size) := Lib.hid (by have := hB3.size; rw [HD2.out] at this; exact this)
      clear hB3 y0 y1
      by_cases hd0 : d = 0
      · have hdz : ((d : Int) != 0) = false := bne_eq_false_iff_eq.2 (by omega)
        have HC3 : Hid (codeL q L = codeL q (L.drop (k + 1))) := Lib.hid (by rw [HC2.out, if_neg (by simp [hd0])])
        have y0 := cell_of_row _ _ 0 _ _ _ HY3.out
        have y1 := cell_of_row _ _ 1 _ _ _ HY3.out
        obtain ⟨p0, p1, p2, p3, p4, p5⟩ := HN3.out.cells
        clear hd0 hdl
        go_wp2_with fail
        refine (HWI.out _).mono ?_
        rintro e w4 ⟨rfl, hB4⟩
        have HX4 := HX3.out.below hB4
        have HZ4 := (hB4.block (g + 1) (by have := HS3.out; omega)).trans HZ3.out
        have HN4 := HN3.out.below hB4
        have HB4 := HB3.out.trans (hB4.mono (by have := HS3.out; omega))
        have HXN : Hid (BoxV (putV w4 (g + 2) U1) g v) := Lib.hid ((putV_other (by omega)).trans HX4)
        have HZN : Hid ((putV w4 (g + 2) U1).heap[g + 1]? = _) := Lib.hid ((putV_other (by omega)).trans HZ4)
        have HNN : Hid (BoxV (putV w4 (g + 2) U1) (g + 2) ((L.take (k + 1)).foldl Se.set v)) := Lib.hid (by rw [HST.out]; exact HN4.put U1)
        have HBN : Hid (Below g w (putV w4 (g + 2) U1)) := Lib.hid (putV_below HB4 (by omega))
        have z0 := HN4.frz 0
        have z1 := HN4.frz 1
        have z2 := HN4.frz 2
        have z3 := HN4.frz 3
        have z4 := HN4.frz 4
        have z5 := HN4.frz 5
        clear p0 p1 p2 p3 p4 p5 y0 y1 hB4 HX4 HZ4 HB4
        obtain ⟨p0, p1, p2, p3, p4, p5⟩ := HN4.cells
        clear HN4
        unfold putV at HXN HZN HNN HBN
        unfold valV
        go_wp2_with fail
        go_roundw
        case rel => exact ⟨k + 1, by omega, by go_num, HC3, HXN, HZN, HNN, HBN⟩
        case measure => simp [intOf]; omega
      · have hdz : ((d : Int) != 0) = true := bne_iff_ne.2 (by omega)
        have hca := hA.out
        unfold applyS at hca
        rw [HC2.out, if_pos hd0, if_pos hd0] at hca
        injection hca with e1 e2
        subst e1 e2
        obtain ⟨p0, p1, p2, p3, p4, p5⟩ := HX3.out.cells
        have hZ := HZ3.out
        have r0 : w3.cell? ⟨g + 1, 0, none⟩ = some (.int .u32 0) := cell_of_row _ _ 0 _ _ _ hZ
        have r1 : w3.cell? ⟨g + 1, 1, none⟩ = some (.int .u32 0) := cell_of_row _ _ 1 _ _ _ hZ
        have r2 : w3.cell? ⟨g + 1, 2, none⟩ = some (.int .u32 0) := cell_of_row _ _ 2 _ _ _ hZ
        have r3 : w3.cell? ⟨g + 1, 3, none⟩ = some (.int .u32 0) := cell_of_row _ _ 3 _ _ _ hZ
        have r4 : w3.cell? ⟨g + 1, 4, none⟩ = some (.int .u32 0) := cell_of_row _ _ 4 _ _ _ hZ
        have r5 : w3.cell? ⟨g + 1, 5, none⟩ = some (.bool false) := cell_of_row _ _ 5 _ _ _ hZ
        have hfz : ∀ i, w3.frozen? ⟨g + 1, i, none⟩ = false := fun i => by simp [World.frozen?, hZ]
        have z0 := hfz 0
        have z1 := hfz 1
        have z2 := hfz 2
        have z3 := hfz 3
        have z4 := hfz 4
        have z5 := hfz 5
        have HK := Lib.hid (lay6 v hZ).cells
        have HBK := Lib.hid (putV_below (u := v) (X := g + 1) HB3.out (by omega))
        unfold putV at HK HBK
        clear hfz hZ hd0
        go_wp2_with fail
        obtain ⟨k0, k1, k2, k3, k4, k5⟩ := HK.out
        refine bodyPost_ret (v := .tuple #[valV v, .int .u32 (d : Int)]) (by simp [results, Try.results9, go_sem, valV, k0, k1, k2, k3, k4, k5]) rfl ⟨rfl, by rw [G.out]; exact HBK.out⟩
    · have hkn : k = n := by omega
      have hc0 : codeL q L = 0 := by rw [hC.out, List.drop_of_length_le (by rw [hL.out]; omega)]; rfl
      have hca := hA.out
      unfold applyS at hca
      rw [if_neg (by simp [hc0])] at hca
      injection hca with e1 e2
      subst e2
      have hfin := hNr.out
      rw [show L.take k = L from by rw [show k = L.length by rw [hL.out]; omega]; exact List.take_length, e1] at hfin
      have HXE := Lib.hid hfin
      have hnk : ¬ ((k : Int) < (n : Int)) := by omega
      clear e1 hc0 hfin hNr
      obtain ⟨p0, p1, p2, p3, p4, p5⟩ := HXE.out.cells
      have hZ := hZr.out
      have r0 : wr.cell? ⟨g + 1, 0, none⟩ = some (.int .u32 0) := cell_of_row _ _ 0 _ _ _ hZ
      have r1 : wr.cell? ⟨g + 1, 1, none⟩ = some (.int .u32 0) := cell_of_row _ _ 1 _ _ _ hZ
      have r2 : wr.cell? ⟨g + 1, 2, none⟩ = some (.int .u32 0) := cell_of_row _ _ 2 _ _ _ hZ
      have r3 : wr.cell? ⟨g + 1, 3, none⟩ = some (.int .u32 0) := cell_of_row _ _ 3 _ _ _ hZ
      have r4 : wr.cell? ⟨g + 1, 4, none⟩ = some (.int .u32 0) := cell_of_row _ _ 4 _ _ _ hZ
      have r5 : wr.cell? ⟨g + 1, 5, none⟩ = some (.bool false) := cell_of_row _ _ 5 _ _ _ hZ
      have hfz : ∀ i, wr.frozen? ⟨g + 1, i, none⟩ = false := fun i => by simp [World.frozen?, hZ]
      have z0 := hfz 0
      have z1 := hfz 1
      have z2 := hfz 2
      have z3 := hfz 3
      have z4 := hfz 4
      have z5 := hfz 5
      have HK := Lib.hid (lay6 u hZ).cells
      have HBK := Lib.hid (putV_below (u := u) (X := g + 1) hBw.out (by omega))
      unfold putV at HK HBK
      clear hfz hZ
      go_wp2_with fail
      obtain ⟨k0, k1, k2, k3, k4, k5⟩ := HK.out
      refine bodyPost_ret (v := .tuple #[valV u, .int .u32 0]) (by simp [results, Try.results9, go_sem, valV, k0, k1, k2, k3, k4, k5]) rfl ⟨rfl, by rw [G.out]; exact HBK.out⟩
end Go.Proofs.Yteddepmiejlemaa
