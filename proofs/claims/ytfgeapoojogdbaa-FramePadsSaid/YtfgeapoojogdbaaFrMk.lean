/- The code's Reset, Goaway and Window of layer 14. No condition. -/
import Derived.Test.YtfgeapoojogdbaaProg
import Derived.Test.YtfgeapoojogdbaaBytes
import Derived.Test.YtfgeapoojogdbaaNumBe
import Derived.Test.YtfgeapoojogdbaaFrMath
import Derived.Test.YtfgeapoojogdbaaFrRef
import Derived.Test.YtfgeapoojogdbaaFrRefS
import Derived.Test.YtfgeapoojogdbaaFrLow
import Derived.Test.YtfgeapoojogdbaaFrMake
import Derived.Test.YtfgeapoojogdbaaFrWords
import Derived.WalkKit
import Derived.Lib.Hide
import Derived.Laws.Rows
import Derived.Outline
import Derived.IntWalk
import Derived.WalkSpells
import Derived.WalkLawsBesides
namespace Go.Proofs.Ytfgeapoojogdbaa
open Go Go.RowKit Bytes Fr
set_option linter.unusedSimpArgs false

set_option maxHeartbeats 8000000 in
set_option maxRecDepth 100000 in
theorem creset_is (a b : Nat) (w : World) (ha : a ≤ 4294967295) (hb : b ≤ 4294967295) :
    Calls Try.prog 19 #[.int .u32 (a : Int), .int .u32 (b : Int)] w fun e w' => e = .returned (frV (resetF a b)) ∧ Below w.heap.size w w' := by
  obtain ⟨c, hc⟩ : ∃ c, a % 2147483648 = c := ⟨_, rfl⟩
  obtain ⟨d, hd⟩ : ∃ d, b % 2147483648 = d := ⟨_, rfl⟩
  have hcb : c < 2147483648 := by omega
  have hdb : d < 2147483648 := by omega
  have ea := and31 a c (by omega) hc
  have eb := and31 b d (by omega) hd
  obtain ⟨r, hr⟩ : ∃ r, mk (wordsB [b]) = r := ⟨_, rfl⟩
  have hres : frV (resetF a b) = .agg #[.int .u8 3, .int .u8 0, .int .u32 (c : Int), .string r] := by
    unfold frV resetF
    rw [← hr]
    simp only [wordsB_one, hc, hd]
    rfl
  have HRES := Lib.hid hres
  have HR := Lib.hid hr
  clear hres hr hc hd
  have hZ := heap_alloc_new w (.cells #[.int .u8 0, .int .u8 0, .int .u32 0, .string ⟨#[]⟩] 24)
  have hBZ := (Below.refl _ w).alloc (Nat.le_refl _) (.cells #[.int .u8 0, .int .u8 0, .int .u32 0, .string ⟨#[]⟩] 24)
  go_enter Try.func19, Try.ntmps19
  go_upto_region 1 with fail
  obtain ⟨W, hW⟩ : ∃ W, w.alloc (.cells #[.int .u8 0, .int .u8 0, .int .u32 0, .string ⟨#[]⟩] 24) = W := ⟨_, rfl⟩
  rw [hW] at hZ hBZ ⊢
  clear hW
  have hWs : w.heap.size < W.heap.size := by
    rcases Nat.lt_or_ge w.heap.size W.heap.size with h | h
    · exact h
    · rw [Array.getElem?_eq_none h] at hZ; cases hZ
  have hA := heap_alloc_new W (.cells #[.int .u32 (b : Int)] 22)
  have hBA := (Below.refl _ W).alloc (Nat.le_refl _) (.cells #[.int .u32 (b : Int)] 22)
  have hAs : W.heap.size < (W.alloc (.cells #[.int .u32 (b : Int)] 22)).heap.size := by simp
  have hw := cwords_is W.heap.size 1 1 [b] r (W.alloc (.cells #[.int .u32 (b : Int)] 22)) (Lib.hid rfl) (by decide) (by decide) (fun j => by match j with | 0 => (show _ < _; simp; try omega) | 1 => (show _ < _; simp; try omega) | (k + 2) => (show _ < _; simp)) hAs HR (Lib.hid (fun j hj => by rw [Lib.cell_of_heap hA]; match j, hj with | 0, _ => rfl | 1, _ => (first | rfl | omega) | (k + 2), hk => (exfalso; omega)))
  have HW := Lib.hid hw
  have HBA := Lib.hid (hBZ.trans (hBA.mono (Nat.le_of_lt hWs)))
  have HZ : Hid ((W.alloc (.cells #[.int .u32 (b : Int)] 22)).heap[w.heap.size]? = some (.cells #[.int .u8 0, .int .u8 0, .int .u32 0, .string ⟨#[]⟩] 24 (0, 0))) := Lib.hid ((hBA.block _ hWs).trans hZ)
  clear hw hA hBA hZ hBZ hAs HR
  go_wp2_with fail
  refine HW.out.mono ?_
  rintro e w2 ⟨rfl, hB2⟩
  have hsz : w.heap.size < (W.alloc (.cells #[.int .u32 (b : Int)] 22)).heap.size := by simp; omega
  have hZ2 := (hB2.block w.heap.size hsz).trans HZ.out
  have HB2 := Lib.hid (HBA.out.trans (hB2.mono HBA.out.size))
  have c0 : w2.cell? ⟨w.heap.size, 0, none⟩ = some (.int .u8 0) := cell_of_row _ _ 0 _ _ _ hZ2
  have c1 : w2.cell? ⟨w.heap.size, 1, none⟩ = some (.int .u8 0) := cell_of_row _ _ 1 _ _ _ hZ2
  have c2 : w2.cell? ⟨w.heap.size, 2, none⟩ = some (.int .u32 0) := cell_of_row _ _ 2 _ _ _ hZ2
  have c3 : w2.cell? ⟨w.heap.size, 3, none⟩ = some (.string ⟨#[]⟩) := cell_of_row _ _ 3 _ _ _ hZ2
  have hfz : ∀ i, w2.frozen? ⟨w.heap.size, i, none⟩ = false := fun i => by simp [World.frozen?, hZ2]
  have f0 := hfz 0
  have f1 := hfz 1
  have f2 := hfz 2
  have f3 := hfz 3
  have hset : ∀ v0 v1 v2 v3 : Value, ((((w2.setCell ⟨w.heap.size, 0, none⟩ v0).setCell ⟨w.heap.size, 1, none⟩ v1).setCell ⟨w.heap.size, 2, none⟩ v2).setCell ⟨w.heap.size, 3, none⟩ v3).heap[w.heap.size]? = some (.cells #[v0, v1, v2, v3] 24 (0, 0)) := fun v0 v1 v2 v3 => by
    simp [World.setCell, Array.getElem?_modify, hZ2]
  have hone := hset (.int .u8 3) (.int .u8 0) (.int .u32 (c : Int)) (.string r)
  have HK := Lib.hid (And.intro (cell_of_row _ _ 0 _ _ _ hone) (And.intro (cell_of_row _ _ 1 _ _ _ hone) (And.intro (cell_of_row _ _ 2 _ _ _ hone) (cell_of_row _ _ 3 _ _ _ hone))))
  have HZZ : Hid (Below w.heap.size w ((((w2.setCell ⟨w.heap.size, 0, none⟩ (.int .u8 3)).setCell ⟨w.heap.size, 1, none⟩ (.int .u8 0)).setCell ⟨w.heap.size, 2, none⟩ (.int .u32 (c : Int))).setCell ⟨w.heap.size, 3, none⟩ (.string r))) := Lib.hid ((((HB2.out.setCell (p := ⟨w.heap.size, 0, none⟩) (Nat.le_refl _) _).setCell (p := ⟨w.heap.size, 1, none⟩) (Nat.le_refl _) _).setCell (p := ⟨w.heap.size, 2, none⟩) (Nat.le_refl _) _).setCell (p := ⟨w.heap.size, 3, none⟩) (Nat.le_refl _) _)
  clear hB2 hZ2 hfz hset hone hsz HW HZ
  go_wp2_with fail
  obtain ⟨k0, k1, k2, k3⟩ := HK.out
  refine bodyPost_ret (v := .agg #[.int .u8 3, .int .u8 0, .int .u32 (c : Int), .string r]) (by simp [results, Try.results19, go_sem, k0, k1, k2, k3]) rfl ⟨by rw [HRES.out], HZZ.out⟩

set_option maxHeartbeats 8000000 in
set_option maxRecDepth 100000 in
theorem cgoaway_is (a b : Nat) (w : World) (ha : a ≤ 4294967295) (hb : b ≤ 4294967295) :
    Calls Try.prog 20 #[.int .u32 (a : Int), .int .u32 (b : Int)] w fun e w' => e = .returned (frV (goF a b)) ∧ Below w.heap.size w w' := by
  obtain ⟨c, hc⟩ : ∃ c, a % 2147483648 = c := ⟨_, rfl⟩
  obtain ⟨d, hd⟩ : ∃ d, b % 2147483648 = d := ⟨_, rfl⟩
  have hcb : c < 2147483648 := by omega
  have hdb : d < 2147483648 := by omega
  have ea := and31 a c (by omega) hc
  have eb := and31 b d (by omega) hd
  obtain ⟨r, hr⟩ : ∃ r, mk (wordsB [c, b]) = r := ⟨_, rfl⟩
  have hres : frV (goF a b) = .agg #[.int .u8 7, .int .u8 0, .int .u32 (0 : Int), .string r] := by
    unfold frV goF
    rw [← hr]
    simp only [wordsB_two, hc, hd]
    rfl
  have HRES := Lib.hid hres
  have HR := Lib.hid hr
  clear hres hr hc hd
  have hZ := heap_alloc_new w (.cells #[.int .u8 0, .int .u8 0, .int .u32 0, .string ⟨#[]⟩] 24)
  have hBZ := (Below.refl _ w).alloc (Nat.le_refl _) (.cells #[.int .u8 0, .int .u8 0, .int .u32 0, .string ⟨#[]⟩] 24)
  go_enter Try.func20, Try.ntmps20
  go_upto_region 1 with fail
  obtain ⟨W, hW⟩ : ∃ W, w.alloc (.cells #[.int .u8 0, .int .u8 0, .int .u32 0, .string ⟨#[]⟩] 24) = W := ⟨_, rfl⟩
  rw [hW] at hZ hBZ ⊢
  clear hW
  have hWs : w.heap.size < W.heap.size := by
    rcases Nat.lt_or_ge w.heap.size W.heap.size with h | h
    · exact h
    · rw [Array.getElem?_eq_none h] at hZ; cases hZ
  have hA := heap_alloc_new W (.cells #[.int .u32 (c : Int), .int .u32 (b : Int)] 22)
  have hBA := (Below.refl _ W).alloc (Nat.le_refl _) (.cells #[.int .u32 (c : Int), .int .u32 (b : Int)] 22)
  have hAs : W.heap.size < (W.alloc (.cells #[.int .u32 (c : Int), .int .u32 (b : Int)] 22)).heap.size := by simp
  have hw := cwords_is W.heap.size 2 2 [c, b] r (W.alloc (.cells #[.int .u32 (c : Int), .int .u32 (b : Int)] 22)) (Lib.hid rfl) (by decide) (by decide) (fun j => by match j with | 0 => (show _ < _; simp; try omega) | 1 => (show _ < _; simp; try omega) | (k + 2) => (show _ < _; simp)) hAs HR (Lib.hid (fun j hj => by rw [Lib.cell_of_heap hA]; match j, hj with | 0, _ => rfl | 1, _ => (first | rfl | omega) | (k + 2), hk => (exfalso; omega)))
  have HW := Lib.hid hw
  have HBA := Lib.hid (hBZ.trans (hBA.mono (Nat.le_of_lt hWs)))
  have HZ : Hid ((W.alloc (.cells #[.int .u32 (c : Int), .int .u32 (b : Int)] 22)).heap[w.heap.size]? = some (.cells #[.int .u8 0, .int .u8 0, .int .u32 0, .string ⟨#[]⟩] 24 (0, 0))) := Lib.hid ((hBA.block _ hWs).trans hZ)
  clear hw hA hBA hZ hBZ hAs HR
  go_wp2_with fail
  refine HW.out.mono ?_
  rintro e w2 ⟨rfl, hB2⟩
  have hsz : w.heap.size < (W.alloc (.cells #[.int .u32 (c : Int), .int .u32 (b : Int)] 22)).heap.size := by simp; omega
  have hZ2 := (hB2.block w.heap.size hsz).trans HZ.out
  have HB2 := Lib.hid (HBA.out.trans (hB2.mono HBA.out.size))
  have c0 : w2.cell? ⟨w.heap.size, 0, none⟩ = some (.int .u8 0) := cell_of_row _ _ 0 _ _ _ hZ2
  have c1 : w2.cell? ⟨w.heap.size, 1, none⟩ = some (.int .u8 0) := cell_of_row _ _ 1 _ _ _ hZ2
  have c2 : w2.cell? ⟨w.heap.size, 2, none⟩ = some (.int .u32 0) := cell_of_row _ _ 2 _ _ _ hZ2
  have c3 : w2.cell? ⟨w.heap.size, 3, none⟩ = some (.string ⟨#[]⟩) := cell_of_row _ _ 3 _ _ _ hZ2
  have hfz : ∀ i, w2.frozen? ⟨w.heap.size, i, none⟩ = false := fun i => by simp [World.frozen?, hZ2]
  have f0 := hfz 0
  have f1 := hfz 1
  have f2 := hfz 2
  have f3 := hfz 3
  have hset : ∀ v0 v1 v2 v3 : Value, ((((w2.setCell ⟨w.heap.size, 0, none⟩ v0).setCell ⟨w.heap.size, 1, none⟩ v1).setCell ⟨w.heap.size, 2, none⟩ v2).setCell ⟨w.heap.size, 3, none⟩ v3).heap[w.heap.size]? = some (.cells #[v0, v1, v2, v3] 24 (0, 0)) := fun v0 v1 v2 v3 => by
    simp [World.setCell, Array.getElem?_modify, hZ2]
  have hone := hset (.int .u8 7) (.int .u8 0) (.int .u32 (0 : Int)) (.string r)
  have HK := Lib.hid (And.intro (cell_of_row _ _ 0 _ _ _ hone) (And.intro (cell_of_row _ _ 1 _ _ _ hone) (And.intro (cell_of_row _ _ 2 _ _ _ hone) (cell_of_row _ _ 3 _ _ _ hone))))
  have HZZ : Hid (Below w.heap.size w ((((w2.setCell ⟨w.heap.size, 0, none⟩ (.int .u8 7)).setCell ⟨w.heap.size, 1, none⟩ (.int .u8 0)).setCell ⟨w.heap.size, 2, none⟩ (.int .u32 (0 : Int))).setCell ⟨w.heap.size, 3, none⟩ (.string r))) := Lib.hid ((((HB2.out.setCell (p := ⟨w.heap.size, 0, none⟩) (Nat.le_refl _) _).setCell (p := ⟨w.heap.size, 1, none⟩) (Nat.le_refl _) _).setCell (p := ⟨w.heap.size, 2, none⟩) (Nat.le_refl _) _).setCell (p := ⟨w.heap.size, 3, none⟩) (Nat.le_refl _) _)
  clear hB2 hZ2 hfz hset hone hsz HW HZ
  go_wp2_with fail
  obtain ⟨k0, k1, k2, k3⟩ := HK.out
  refine bodyPost_ret (v := .agg #[.int .u8 7, .int .u8 0, .int .u32 (0 : Int), .string r]) (by simp [results, Try.results20, go_sem, k0, k1, k2, k3]) rfl ⟨by rw [HRES.out], HZZ.out⟩

set_option maxHeartbeats 8000000 in
set_option maxRecDepth 100000 in
theorem cwindow_is (a b : Nat) (w : World) (ha : a ≤ 4294967295) (hb : b ≤ 4294967295) :
    Calls Try.prog 21 #[.int .u32 (a : Int), .int .u32 (b : Int)] w fun e w' => e = .returned (frV (winF a b)) ∧ Below w.heap.size w w' := by
  obtain ⟨c, hc⟩ : ∃ c, a % 2147483648 = c := ⟨_, rfl⟩
  obtain ⟨d, hd⟩ : ∃ d, b % 2147483648 = d := ⟨_, rfl⟩
  have hcb : c < 2147483648 := by omega
  have hdb : d < 2147483648 := by omega
  have ea := and31 a c (by omega) hc
  have eb := and31 b d (by omega) hd
  obtain ⟨r, hr⟩ : ∃ r, mk (wordsB [d]) = r := ⟨_, rfl⟩
  have hres : frV (winF a b) = .agg #[.int .u8 8, .int .u8 0, .int .u32 (c : Int), .string r] := by
    unfold frV winF
    rw [← hr]
    simp only [wordsB_one, hc, hd]
    rfl
  have HRES := Lib.hid hres
  have HR := Lib.hid hr
  clear hres hr hc hd
  have hZ := heap_alloc_new w (.cells #[.int .u8 0, .int .u8 0, .int .u32 0, .string ⟨#[]⟩] 24)
  have hBZ := (Below.refl _ w).alloc (Nat.le_refl _) (.cells #[.int .u8 0, .int .u8 0, .int .u32 0, .string ⟨#[]⟩] 24)
  go_enter Try.func21, Try.ntmps21
  go_upto_region 1 with fail
  obtain ⟨W, hW⟩ : ∃ W, w.alloc (.cells #[.int .u8 0, .int .u8 0, .int .u32 0, .string ⟨#[]⟩] 24) = W := ⟨_, rfl⟩
  rw [hW] at hZ hBZ ⊢
  clear hW
  have hWs : w.heap.size < W.heap.size := by
    rcases Nat.lt_or_ge w.heap.size W.heap.size with h | h
    · exact h
    · rw [Array.getElem?_eq_none h] at hZ; cases hZ
  have hA := heap_alloc_new W (.cells #[.int .u32 (d : Int)] 22)
  have hBA := (Below.refl _ W).alloc (Nat.le_refl _) (.cells #[.int .u32 (d : Int)] 22)
  have hAs : W.heap.size < (W.alloc (.cells #[.int .u32 (d : Int)] 22)).heap.size := by simp
  have hw := cwords_is W.heap.size 1 1 [d] r (W.alloc (.cells #[.int .u32 (d : Int)] 22)) (Lib.hid rfl) (by decide) (by decide) (fun j => by match j with | 0 => (show _ < _; simp; try omega) | 1 => (show _ < _; simp; try omega) | (k + 2) => (show _ < _; simp)) hAs HR (Lib.hid (fun j hj => by rw [Lib.cell_of_heap hA]; match j, hj with | 0, _ => rfl | 1, _ => (first | rfl | omega) | (k + 2), hk => (exfalso; omega)))
  have HW := Lib.hid hw
  have HBA := Lib.hid (hBZ.trans (hBA.mono (Nat.le_of_lt hWs)))
  have HZ : Hid ((W.alloc (.cells #[.int .u32 (d : Int)] 22)).heap[w.heap.size]? = some (.cells #[.int .u8 0, .int .u8 0, .int .u32 0, .string ⟨#[]⟩] 24 (0, 0))) := Lib.hid ((hBA.block _ hWs).trans hZ)
  clear hw hA hBA hZ hBZ hAs HR
  go_wp2_with fail
  refine HW.out.mono ?_
  rintro e w2 ⟨rfl, hB2⟩
  have hsz : w.heap.size < (W.alloc (.cells #[.int .u32 (d : Int)] 22)).heap.size := by simp; omega
  have hZ2 := (hB2.block w.heap.size hsz).trans HZ.out
  have HB2 := Lib.hid (HBA.out.trans (hB2.mono HBA.out.size))
  have c0 : w2.cell? ⟨w.heap.size, 0, none⟩ = some (.int .u8 0) := cell_of_row _ _ 0 _ _ _ hZ2
  have c1 : w2.cell? ⟨w.heap.size, 1, none⟩ = some (.int .u8 0) := cell_of_row _ _ 1 _ _ _ hZ2
  have c2 : w2.cell? ⟨w.heap.size, 2, none⟩ = some (.int .u32 0) := cell_of_row _ _ 2 _ _ _ hZ2
  have c3 : w2.cell? ⟨w.heap.size, 3, none⟩ = some (.string ⟨#[]⟩) := cell_of_row _ _ 3 _ _ _ hZ2
  have hfz : ∀ i, w2.frozen? ⟨w.heap.size, i, none⟩ = false := fun i => by simp [World.frozen?, hZ2]
  have f0 := hfz 0
  have f1 := hfz 1
  have f2 := hfz 2
  have f3 := hfz 3
  have hset : ∀ v0 v1 v2 v3 : Value, ((((w2.setCell ⟨w.heap.size, 0, none⟩ v0).setCell ⟨w.heap.size, 1, none⟩ v1).setCell ⟨w.heap.size, 2, none⟩ v2).setCell ⟨w.heap.size, 3, none⟩ v3).heap[w.heap.size]? = some (.cells #[v0, v1, v2, v3] 24 (0, 0)) := fun v0 v1 v2 v3 => by
    simp [World.setCell, Array.getElem?_modify, hZ2]
  have hone := hset (.int .u8 8) (.int .u8 0) (.int .u32 (c : Int)) (.string r)
  have HK := Lib.hid (And.intro (cell_of_row _ _ 0 _ _ _ hone) (And.intro (cell_of_row _ _ 1 _ _ _ hone) (And.intro (cell_of_row _ _ 2 _ _ _ hone) (cell_of_row _ _ 3 _ _ _ hone))))
  have HZZ : Hid (Below w.heap.size w ((((w2.setCell ⟨w.heap.size, 0, none⟩ (.int .u8 8)).setCell ⟨w.heap.size, 1, none⟩ (.int .u8 0)).setCell ⟨w.heap.size, 2, none⟩ (.int .u32 (c : Int))).setCell ⟨w.heap.size, 3, none⟩ (.string r))) := Lib.hid ((((HB2.out.setCell (p := ⟨w.heap.size, 0, none⟩) (Nat.le_refl _) _).setCell (p := ⟨w.heap.size, 1, none⟩) (Nat.le_refl _) _).setCell (p := ⟨w.heap.size, 2, none⟩) (Nat.le_refl _) _).setCell (p := ⟨w.heap.size, 3, none⟩) (Nat.le_refl _) _)
  clear hB2 hZ2 hfz hset hone hsz HW HZ
  go_wp2_with fail
  obtain ⟨k0, k1, k2, k3⟩ := HK.out
  refine bodyPost_ret (v := .agg #[.int .u8 8, .int .u8 0, .int .u32 (c : Int), .string r]) (by simp [results, Try.results21, go_sem, k0, k1, k2, k3]) rfl ⟨by rw [HRES.out], HZZ.out⟩

end Go.Proofs.Ytfgeapoojogdbaa
