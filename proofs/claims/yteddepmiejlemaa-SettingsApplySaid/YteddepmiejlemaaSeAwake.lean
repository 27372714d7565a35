/- The law's awake of layer 16. No condition. -/
import Derived.Test.YteddepmiejlemaaProg
import Derived.Test.YteddepmiejlemaaBytes
import Derived.Test.YteddepmiejlemaaFrFrame
import Derived.Test.YteddepmiejlemaaFrSets
import Derived.Test.YteddepmiejlemaaSeMath
import Derived.Test.YteddepmiejlemaaSePar
import Derived.Test.YteddepmiejlemaaSeSame
import Derived.Test.YteddepmiejlemaaSeEq
import Derived.Test.YteddepmiejlemaaSeVal
import Derived.Test.YteddepmiejlemaaSeCode
import Derived.WalkKit
import Derived.Lib.Hide
import Derived.Laws.Rows
import Derived.Outline
import Derived.IntWalk
import Derived.WalkSpells
import Derived.WalkLawsBesides
namespace Go.Proofs.Yteddepmiejlemaa
open Go Go.RowKit Bytes Fr Se

namespace Se
/-- A literal row of settings reads as them. -/
theorem rd_lit (W : World) (L : List (Nat × Nat)) (hb : ∀ x ∈ L, x.1 < 65536 ∧ x.2 < 4294967296) : RdSt (W.alloc (.cells (setCs L).toArray 48)) (W.alloc (.cells (setCs L).toArray 48)).heap.size (some ⟨W.heap.size, 0, none⟩) L := fun k hk => by
  have hc := heap_alloc_new W (.cells (setCs L).toArray 48)
  have hat := setCs_at hk
  have hm : setAt L k ∈ L := by
    unfold setAt
    rw [List.getD_eq_getElem?_getD, List.getElem?_eq_getElem hk]
    exact List.getElem_mem hk
  refine ⟨W.heap.size, 0, rfl, by simp, ?_, ?_, hb _ hm⟩
  · rw [Nat.zero_add, cell_of_row _ _ (k * 2) _ _ _ hc, List.getElem?_toArray]; exact hat.1
  · rw [Nat.zero_add, cell_of_row _ _ (k * 2 + 1) _ _ _ hc, List.getElem?_toArray]; exact hat.2
end Se
set_option maxHeartbeats 8000000 in
set_option maxRecDepth 100000 in
theorem sawake_is (w : World) : Calls Try.prog 8 #[] w fun e w' => e = .returned (.bool true) ∧ Below w.heap.size w w' := by
  have hv : applyS defV false [(4, 100), (4, 200)] = (⟨4096, 4294967295, 200, 16384, 4294967295, true⟩, 0) := rfl
  have hu : applyS ⟨4096, 4294967295, 200, 16384, 4294967295, true⟩ false [(5, 100)] = (⟨4096, 4294967295, 200, 16384, 4294967295, true⟩, 1) := rfl
  obtain ⟨v, hvv⟩ : ∃ v : Vals, (⟨4096, 4294967295, 200, 16384, 4294967295, true⟩ : Vals) = v := ⟨_, rfl⟩
  have hw : Hid (v.window = 200) := Lib.hid (by rw [← hvv])
  have hpu : Hid (v.push = true) := Lib.hid (by rw [← hvv])
  rw [hvv] at hv hu
  clear hvv
  obtain ⟨p, hp⟩ : ∃ p : ByteArray, (⟨#[0, 1, 0, 0, 0, 5, 0]⟩ : ByteArray) = p := ⟨_, rfl⟩
  have hs : sets p.data.toList = [(1, 5)] := by rw [← hp]; rfl
  have HV : Hid (∀ W : World, RdSt W W.heap.size (some ⟨W.heap.size - 1, 0, none⟩) [(4, 100), (4, 200)] → Calls Try.prog 9 #[valV defV, .bool false, .slice (some ⟨W.heap.size - 1, 0, none⟩) 2 2] W fun e w' => e = .returned (.tuple #[valV v, .int .u32 0]) ∧ Below W.heap.size W w') := Lib.hid (fun W h => capply_is defV v false (some ⟨W.heap.size - 1, 0, none⟩) 2 2 0 _ W (Lib.hid h) (Lib.hid rfl) (by decide) (Lib.hid hv))
  have HU : Hid (∀ W : World, RdSt W W.heap.size (some ⟨W.heap.size - 1, 0, none⟩) [(5, 100)] → Calls Try.prog 9 #[valV v, .bool false, .slice (some ⟨W.heap.size - 1, 0, none⟩) 1 1] W fun e w' => e = .returned (.tuple #[valV v, .int .u32 1]) ∧ Below W.heap.size W w') := Lib.hid (fun W h => capply_is v v false (some ⟨W.heap.size - 1, 0, none⟩) 1 1 1 _ W (Lib.hid h) (Lib.hid rfl) (by decide) (Lib.hid hu))
  have HS := Lib.hid (fun W : World => cpar_is p [(1, 5)] W (by rw [← hp]; decide) (Lib.hid hs))
  clear hv hu hs
  go_enter Try.func8, Try.ntmps8
  go_wp2_with fail
  refine (cdef_is _).mono ?_
  rintro e w1 ⟨rfl, hB1⟩
  have HB1 := Lib.hid hB1
  clear hB1
  go_wp2_with fail
  have h2 := HV.out (w1.alloc (.cells (setCs [(4, 100), (4, 200)]).toArray 48)) (by have h := rd_lit w1 [(4, 100), (4, 200)] (by decide); simpa using h)
  have hB2 := (Below.refl _ w1).alloc (Nat.le_refl _) (.cells (setCs [(4, 100), (4, 200)]).toArray 48)
  have e0 : (w1.alloc (.cells (setCs [(4, 100), (4, 200)]).toArray 48)).heap.size - 1 = w1.heap.size := by simp
  rw [e0] at h2
  have HB2 := Lib.hid (HB1.out.trans (hB2.mono HB1.out.size))
  refine h2.mono ?_
  clear h2 hB2 e0
  rintro e w2 ⟨rfl, hB2⟩
  have HB3 := Lib.hid (HB2.out.trans (hB2.mono HB2.out.size))
  clear hB2 HB1 HB2
  unfold valV
  go_upto_region 2 with fail
  obtain ⟨hX, hBX, hsz⟩ := boxV_new w2 v
  obtain ⟨w3, hw3⟩ : ∃ w3, w2.alloc (.cells #[.int .u32 (v.table : Int), .int .u32 (v.streams : Int), .int .u32 (v.window : Int), .int .u32 (v.frame : Int), .int .u32 (v.list : Int), .bool v.push] 26) = w3 := ⟨_, rfl⟩
  rw [hw3] at hX hBX hsz ⊢
  obtain ⟨X, hXX⟩ : ∃ X, w2.heap.size = X := ⟨_, rfl⟩
  have HB4 := Lib.hid (HB3.out.trans (hBX.mono HB3.out.size))
  rw [hXX] at hX hsz ⊢
  have HX3 := Lib.hid hX
  clear hw3 hXX hX hBX hsz HB3
  obtain ⟨x0, x1, x2, x3, x4, x5⟩ := HX3.out.cells
  go_wp2_with fail
  have h2 := HU.out (w3.alloc (.cells (setCs [(5, 100)]).toArray 48)) (by have h := rd_lit w3 [(5, 100)] (by decide); simpa using h)
  have hB2 := (Below.refl _ w3).alloc (Nat.le_refl _) (.cells (setCs [(5, 100)]).toArray 48)
  have e0 : (w3.alloc (.cells (setCs [(5, 100)]).toArray 48)).heap.size - 1 = w3.heap.size := by simp
  rw [e0] at h2
  have HX4 := Lib.hid (HX3.out.below hB2)
  have HB5 := Lib.hid (HB4.out.trans (hB2.mono HB4.out.size))
  refine h2.mono ?_
  clear h2 hB2 e0 HX3 HB4 x0 x1 x2 x3 x4 x5
  rintro e w5 ⟨rfl, hB2⟩
  have HX5 := Lib.hid (HX4.out.below hB2)
  have HB6 := Lib.hid (HB5.out.trans (hB2.mono HB5.out.size))
  clear hB2 HX4 HB5
  unfold valV
  go_upto_region 3 with fail
  obtain ⟨hX, hBX, hsz⟩ := boxV_new w5 v
  obtain ⟨w6, hw6⟩ : ∃ w6, w5.alloc (.cells #[.int .u32 (v.table : Int), .int .u32 (v.streams : Int), .int .u32 (v.window : Int), .int .u32 (v.frame : Int), .int .u32 (v.list : Int), .bool v.push] 26) = w6 := ⟨_, rfl⟩
  rw [hw6] at hX hBX hsz ⊢
  obtain ⟨Y, hYY⟩ : ∃ Y, w5.heap.size = Y := ⟨_, rfl⟩
  have HX6 := Lib.hid (HX5.out.below hBX)
  have HB7 := Lib.hid (HB6.out.trans (hBX.mono HB6.out.size))
  rw [hYY] at hX hsz ⊢
  have HY6 := Lib.hid hX
  clear hw6 hYY hX hBX hsz HB6 HX5
  obtain ⟨x0, x1, x2, x3, x4, x5⟩ := HX6.out.cells
  obtain ⟨y0, y1, y2, y3, y4, y5⟩ := HY6.out.cells
  have hwi : ((v.window : Int) == 200) = true := by rw [hw.out]; rfl
  have HSAME : Hid (∀ W : World, (binOp .eql 26 (.agg #[.int .u32 (v.table : Int), .int .u32 (v.streams : Int), .int .u32 (v.window : Int), .int .u32 (v.frame : Int), .int .u32 (v.list : Int), .bool v.push]) (.agg #[.int .u32 (v.table : Int), .int .u32 (v.streams : Int), .int .u32 (v.window : Int), .int .u32 (v.frame : Int), .int .u32 (v.list : Int), .bool v.push])).run Try.prog W = .ok (.bool true) W) := Lib.hid (fun W => val_same v W)
  rw [hpu.out] at x5 y5 HSAME
  go_wp2_with fail
  refine (HS.out _).mono ?_
  rintro e w7 ⟨A, n, cp, rfl, _, hn, hB8⟩
  obtain rfl : n = 1 := hn.out.symm
  have HB8 := Lib.hid (HB7.out.trans (hB8.mono HB7.out.size))
  go_wp2_with fail
  go_ret
  exact ⟨rfl, HB8.out⟩
end Go.Proofs.Yteddepmiejlemaa
