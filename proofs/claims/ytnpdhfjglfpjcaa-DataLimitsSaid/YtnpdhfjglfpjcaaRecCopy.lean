/- The contract of rdata's Copy. For records of at most 10^5 texts of at most 10^5 bytes. -/
import Derived.Test.YtnpdhfjglfpjcaaProg
import Derived.Test.YtnpdhfjglfpjcaaRecAt
import Derived.Test.YtnpdhfjglfpjcaaRecCopied
import Derived.WalkKit
import Derived.Lib.Hide
import Derived.Outline
import Derived.IntWalk
import Derived.WalkSpells
import Derived.WalkLawsBesides
import Derived.Deep.Heap
namespace Go.Proofs.Ytnpdhfjglfpjcaa
open Go.RowKit Bytes Strs Nums NameMath RecMath

theorem set_block {w : World} {g i : Nat} {cs ds : Array Value} {t : TypeId} {fz : Nat × Nat} {v : Value} (h : w.heap[g]? = some (.cells cs t fz)) (hd : cs.setIfInBounds i v = ds) : (w.setCell ⟨g, i, none⟩ v).heap[g]? = some (.cells ds t fz) := by
  subst hd
  simp [World.setCell, Array.getElem?_modify, h]
theorem other_block {w : World} {g j i : Nat} {v : Value} {o : Option Obj} (h : w.heap[g]? = o) (hne : g ≠ j) : (w.setCell ⟨j, i, none⟩ v).heap[g]? = o := by
  rw [Go.Deep.blk_setCell_other _ _ _ _ hne]; exact h
theorem own_set {w : World} {base n : Nat} {e : TypeId} {v u : Value} {xs : List Value} {p : Addr} (h : w.ownsRow base e 1 v n xs) (hp : p.block < base) : (w.setCell p u).ownsRow base e 1 v n xs := by
  refine h.kept (row := some p.block) ⟨rfl, rfl, rfl, by simp [World.setCell], fun k _ hne => ?_⟩ ?_
  · exact Go.Deep.blk_setCell_other _ _ _ _ (fun e => hne (by rw [e]))
  · refine Or.inr (fun e => ?_)
    have := (h.lt p.block e).1
    omega
theorem own_low {w : World} {base b n : Nat} {e : TypeId} {v : Value} {xs : List Value} (h : w.ownsRow base e 1 v n xs) (hb : b ≤ base) : w.ownsRow b e 1 v n xs := by
  refine ⟨h.1, ?_⟩
  rcases h.2 with h0 | ⟨g, cap, cur, hv, hg, r⟩
  · exact Or.inl h0
  · exact Or.inr ⟨g, cap, cur, hv, by omega, r⟩
/-- A record came back in memory of the call's own. -/
def RecRes (w : World) (R : Rec) (x : ByteArray) (k l t n1 n2 n3 : Nat) (e : Ending) (w' : World) : Prop :=
  ∃ B1 d1 B2 d2 B3 d3, e = .returned (.agg #[.string x, .int .u16 k, .int .u16 l, .int .u32 t, .slice B1 n1 d1, .slice B2 n2 d2, .slice B3 n3 d3]) ∧ w'.ownsRow w.heap.size 9 1 (.slice B1 n1 d1) n1 (strCs R.names) ∧ w'.ownsRow w.heap.size 23 1 (.slice B2 n2 d2) n2 (numCs R.nums) ∧ w'.ownsRow w.heap.size 9 1 (.slice B3 n3 d3) n3 (strCs R.texts) ∧ Below w.heap.size w w'

set_option maxHeartbeats 4000000 in
set_option maxRecDepth 100000 in
theorem copy_is (R : Rec) (x : ByteArray) (k l t : Nat) (A1 : Option Addr) (n1 c1 : Nat) (A2 : Option Addr) (n2 c2 : Nat) (A3 : Option Addr) (n3 c3 : Nat) (w : World) (hR : Hid (RecAt w w.heap.size R x k l t A1 n1 A2 n2 A3 n3)) (hS : Hid (Small R)) (hf1 : A1 = none → c1 = 0) (hf2 : A2 = none → c2 = 0) (hf3 : A3 = none → c3 = 0) :
    Calls Try.prog 16 #[.agg #[.string x, .int .u16 k, .int .u16 l, .int .u32 t, .slice A1 n1 c1, .slice A2 n2 c2, .slice A3 n3 c3]] w (RecRes w R x k l t n1 n2 n3) := by
  have hx := hR.out.size hS.out
  have hx6 : x.size ≤ 1000000 := by omega
  have hm1 := hR.out.m1 hS.out
  have hm2 := hR.out.m2 hS.out
  have hm3 := hR.out.m3 hS.out
  have HS1 : Hid (∀ j, j < R.names.length → (R.names.getD j []).length ≤ 1000000) := fun j hj => Nat.le_trans (hS.out.s1 j hj) (by decide)
  have HS3 : Hid (∀ j, j < R.texts.length → (R.texts.getD j []).length ≤ 1000000) := fun j hj => Nat.le_trans (hS.out.s3 j hj) (by decide)
  have HF1 := Lib.hid hf1
  have HF2 := Lib.hid hf2
  have HF3 := Lib.hid hf3
  clear hf1 hf2 hf3
  go_enter Try.func16, Try.ntmps16
  go_wp2_with fail
  have hG0 : ((w.alloc (.cells #[.string x, .int .u16 k, .int .u16 l, .int .u32 t, .slice A1 n1 c1, .slice A2 n2 c2, .slice A3 n3 c3] 27)).alloc (.cells #[.string ⟨#[]⟩, .int .u16 0, .int .u16 0, .int .u32 0, .slice none 0 0, .slice none 0 0, .slice none 0 0] 27)).heap[w.heap.size]? = some (.cells #[.string x, .int .u16 k, .int .u16 l, .int .u32 t, .slice A1 n1 c1, .slice A2 n2 c2, .slice A3 n3 c3] 27 (0, 0)) := (heap_alloc_old (w.alloc (.cells #[.string x, .int .u16 k, .int .u16 l, .int .u32 t, .slice A1 n1 c1, .slice A2 n2 c2, .slice A3 n3 c3] 27)) (.cells #[.string ⟨#[]⟩, .int .u16 0, .int .u16 0, .int .u32 0, .slice none 0 0, .slice none 0 0, .slice none 0 0] 27) (by simp)).trans (heap_alloc_new w _)
  have hH0 : ((w.alloc (.cells #[.string x, .int .u16 k, .int .u16 l, .int .u32 t, .slice A1 n1 c1, .slice A2 n2 c2, .slice A3 n3 c3] 27)).alloc (.cells #[.string ⟨#[]⟩, .int .u16 0, .int .u16 0, .int .u32 0, .slice none 0 0, .slice none 0 0, .slice none 0 0] 27)).heap[w.heap.size + 1]? = some (.cells #[.string ⟨#[]⟩, .int .u16 0, .int .u16 0, .int .u32 0, .slice none 0 0, .slice none 0 0, .slice none 0 0] 27 (0, 0)) := by
    have := heap_alloc_new (w.alloc (.cells #[.string x, .int .u16 k, .int .u16 l, .int .u32 t, .slice A1 n1 c1, .slice A2 n2 c2, .slice A3 n3 c3] 27)) (.cells #[.string ⟨#[]⟩, .int .u16 0, .int .u16 0, .int .u32 0, .slice none 0 0, .slice none 0 0, .slice none 0 0] 27)
    simpa using this
  have hB0 : Below w.heap.size w ((w.alloc (.cells #[.string x, .int .u16 k, .int .u16 l, .int .u32 t, .slice A1 n1 c1, .slice A2 n2 c2, .slice A3 n3 c3] 27)).alloc (.cells #[.string ⟨#[]⟩, .int .u16 0, .int .u16 0, .int .u32 0, .slice none 0 0, .slice none 0 0, .slice none 0 0] 27)) := ((Below.refl _ _).alloc (Nat.le_refl _) _).alloc (by simp) _
  have hs0 : w.heap.size + 2 ≤ ((w.alloc (.cells #[.string x, .int .u16 k, .int .u16 l, .int .u32 t, .slice A1 n1 c1, .slice A2 n2 c2, .slice A3 n3 c3] 27)).alloc (.cells #[.string ⟨#[]⟩, .int .u16 0, .int .u16 0, .int .u32 0, .slice none 0 0, .slice none 0 0, .slice none 0 0] 27)).heap.size := by simp
  have HR0 := Lib.hid (hR.out.on hB0 hB0.size)
  have HRg := Lib.hid hR.out
  generalize ((w.alloc (.cells #[.string x, .int .u16 k, .int .u16 l, .int .u32 t, .slice A1 n1 c1, .slice A2 n2 c2, .slice A3 n3 c3] 27)).alloc (.cells #[.string ⟨#[]⟩, .int .u16 0, .int .u16 0, .int .u32 0, .slice none 0 0, .slice none 0 0, .slice none 0 0] 27)) = w0 at *
  have HA := Lib.hid hG0
  have HH := Lib.hid hH0
  have HB := Lib.hid hB0
  clear hG0 hH0 hB0 hR
  generalize hgw : w.heap.size = g at *
  have HGW := Lib.hid hgw
  clear hgw
  refine (clone_any x _ hx6).mono ?_
  rintro e w1 ⟨rfl, hB1⟩
  have hs1 : g + 2 ≤ w1.heap.size := by have := hB1.size; omega
  have hs1b := hB1.size
  have hG1 : w1.heap[g]? = some (.cells #[.string x, .int .u16 k, .int .u16 l, .int .u32 t, .slice A1 n1 c1, .slice A2 n2 c2, .slice A3 n3 c3] 27 (0, 0)) := (hB1.block g (by omega)).trans HA.out
  have hH1 : w1.heap[g + 1]? = some (.cells #[.string ⟨#[]⟩, .int .u16 0, .int .u16 0, .int .u32 0, .slice none 0 0, .slice none 0 0, .slice none 0 0] 27 (0, 0)) := (hB1.block (g + 1) (by omega)).trans HH.out
  have HBw1 : Hid (Below g w w1) := HB.out.trans (hB1.mono (by omega))
  have HR1 := Lib.hid (HR0.out.on (hB1.mono (Nat.le_refl _)) hs1b)
  clear HA HH HB hB1 HR0
  have p0 : w1.cell? ⟨g, 0, none⟩ = some (.string x) := by rw [Lib.cell_of_heap hG1]; rfl
  have p4 : w1.cell? ⟨g, 4, none⟩ = some (.slice A1 n1 c1) := by rw [Lib.cell_of_heap hG1]; rfl
  have pz0 : w1.frozen? ⟨g, 0, none⟩ = false := Lib.frozen_of_heap hG1 0
  have HSAME := Lib.hid (setCell_same p0)
  have HG1 := Lib.hid hG1
  have HH1 := Lib.hid hH1
  clear hG1 hH1
  go_wp2_with fail
  rw [HSAME.out]
  clear p0 p4 pz0 HSAME
  ((with_reducible refine (copied_is A1 c1 n1 R.names w1 HR1.out.rd1 (Lib.hid HR1.out.len1) hm1 HF1.out HS1).mono ?_))
  rintro e y2 ⟨v, rfl, hO2, hBy2⟩
  obtain ⟨B1, d1, rfl, _, _, _⟩ := own_rds hO2 HR1.out.len1.symm
  have hsy2 := hBy2.size
  have hs1' := hs1
  have hg2 : g + 2 ≤ w1.heap.size := by omega
  have hGy2 : y2.heap[g]? = some (.cells #[.string x, .int .u16 k, .int .u16 l, .int .u32 t, .slice A1 n1 c1, .slice A2 n2 c2, .slice A3 n3 c3] 27 (0, 0)) := (hBy2.block g (by omega)).trans HG1.out
  have hHy2 : y2.heap[g + 1]? = some (.cells #[.string ⟨#[]⟩, .int .u16 0, .int .u16 0, .int .u32 0, .slice none 0 0, .slice none 0 0, .slice none 0 0] 27 (0, 0)) := (hBy2.block (g + 1) (by omega)).trans HH1.out
  have p4 : y2.cell? ⟨g, 4, none⟩ = some (.slice A1 n1 c1) := by rw [Lib.cell_of_heap hGy2]; rfl
  have p5 : y2.cell? ⟨g, 5, none⟩ = some (.slice A2 n2 c2) := by rw [Lib.cell_of_heap hGy2]; rfl
  have pz4 : y2.frozen? ⟨g, 4, none⟩ = false := Lib.frozen_of_heap hGy2 4
  have hG2 : (y2.setCell ⟨g, 4, none⟩ (.slice B1 n1 d1)).heap[g]? = some (.cells #[.string x, .int .u16 k, .int .u16 l, .int .u32 t, .slice B1 n1 d1, .slice A2 n2 c2, .slice A3 n3 c3] 27 (0, 0)) := set_block hGy2 (by rfl)
  have hH2 : (y2.setCell ⟨g, 4, none⟩ (.slice B1 n1 d1)).heap[g + 1]? = some (.cells #[.string ⟨#[]⟩, .int .u16 0, .int .u16 0, .int .u32 0, .slice none 0 0, .slice none 0 0, .slice none 0 0] 27 (0, 0)) := other_block hHy2 (by omega)
  have hs2 : g + 2 ≤ (y2.setCell ⟨g, 4, none⟩ (.slice B1 n1 d1)).heap.size := by rw [Go.Deep.nblk_setCell]; omega
  have hBw2 : Below g w (y2.setCell ⟨g, 4, none⟩ (.slice B1 n1 d1)) := (HBw1.out.trans (hBy2.mono (by omega))).setCell (p := ⟨g, 4, none⟩) (Nat.le_refl g) _
  have hOv2 : (y2.setCell ⟨g, 4, none⟩ (.slice B1 n1 d1)).ownsRow (g + 2) 9 1 (.slice B1 n1 d1) n1 (strCs R.names) := own_set (own_low hO2 hg2) (Nat.lt_succ_of_lt (Nat.lt_succ_self g))
  have hR2 : RecAt (y2.setCell ⟨g, 4, none⟩ (.slice B1 n1 d1)) (y2.setCell ⟨g, 4, none⟩ (.slice B1 n1 d1)).heap.size R x k l t A1 n1 A2 n2 A3 n3 := HRg.out.on hBw2 (by rw [Go.Deep.nblk_setCell]; omega)
  have HG2 := Lib.hid hG2
  have HH2 := Lib.hid hH2
  have HBw2 := Lib.hid hBw2
  have HR2 := Lib.hid hR2
  have HOv1 := Lib.hid hOv2
  clear hG2 hH2 hBw2 hR2 hOv2 hGy2 hHy2 hO2 hBy2 hg2  HG1 HH1 HBw1 HR1 hs1'
  go_wp2_with fail
  clear p4 p5 pz4 hsy2
  generalize y2.setCell ⟨g, 4, none⟩ (.slice B1 n1 d1) = w2 at *
  ((with_reducible refine (cloneN_is A2 c2 n2 R.nums w2 HR2.out.rd2 (Lib.hid HR2.out.len2) hm2 HF2.out).mono ?_))
  rintro e y3 ⟨v, rfl, hO3, hBy3⟩
  obtain ⟨B2, d2, rfl, _, _, _⟩ := own_rdn hO3 HR2.out.len2.symm
  have hsy3 := hBy3.size
  have hs2' := hs2
  have hg2 : g + 2 ≤ w2.heap.size := by omega
  have hGy3 : y3.heap[g]? = some (.cells #[.string x, .int .u16 k, .int .u16 l, .int .u32 t, .slice B1 n1 d1, .slice A2 n2 c2, .slice A3 n3 c3] 27 (0, 0)) := (hBy3.block g (by omega)).trans HG2.out
  have hHy3 : y3.heap[g + 1]? = some (.cells #[.string ⟨#[]⟩, .int .u16 0, .int .u16 0, .int .u32 0, .slice none 0 0, .slice none 0 0, .slice none 0 0] 27 (0, 0)) := (hBy3.block (g + 1) (by omega)).trans HH2.out
  have hqv1 := own_below HOv1.out hBy3
  have p5 : y3.cell? ⟨g, 5, none⟩ = some (.slice A2 n2 c2) := by rw [Lib.cell_of_heap hGy3]; rfl
  have p6 : y3.cell? ⟨g, 6, none⟩ = some (.slice A3 n3 c3) := by rw [Lib.cell_of_heap hGy3]; rfl
  have pz5 : y3.frozen? ⟨g, 5, none⟩ = false := Lib.frozen_of_heap hGy3 5
  have hG3 : (y3.setCell ⟨g, 5, none⟩ (.slice B2 n2 d2)).heap[g]? = some (.cells #[.string x, .int .u16 k, .int .u16 l, .int .u32 t, .slice B1 n1 d1, .slice B2 n2 d2, .slice A3 n3 c3] 27 (0, 0)) := set_block hGy3 (by rfl)
  have hH3 : (y3.setCell ⟨g, 5, none⟩ (.slice B2 n2 d2)).heap[g + 1]? = some (.cells #[.string ⟨#[]⟩, .int .u16 0, .int .u16 0, .int .u32 0, .slice none 0 0, .slice none 0 0, .slice none 0 0] 27 (0, 0)) := other_block hHy3 (by omega)
  have hs3 : g + 2 ≤ (y3.setCell ⟨g, 5, none⟩ (.slice B2 n2 d2)).heap.size := by rw [Go.Deep.nblk_setCell]; omega
  have hBw3 : Below g w (y3.setCell ⟨g, 5, none⟩ (.slice B2 n2 d2)) := (HBw2.out.trans (hBy3.mono (by omega))).setCell (p := ⟨g, 5, none⟩) (Nat.le_refl g) _
  have hOv3 : (y3.setCell ⟨g, 5, none⟩ (.slice B2 n2 d2)).ownsRow (g + 2) 23 1 (.slice B2 n2 d2) n2 (numCs R.nums) := own_set (own_low hO3 hg2) (Nat.lt_succ_of_lt (Nat.lt_succ_self g))
  have hqv1' : (y3.setCell ⟨g, 5, none⟩ (.slice B2 n2 d2)).ownsRow (g + 2) 9 1 (.slice B1 n1 d1) n1 (strCs R.names) := own_set hqv1 (Nat.lt_succ_of_lt (Nat.lt_succ_self g))
  have hR3 : RecAt (y3.setCell ⟨g, 5, none⟩ (.slice B2 n2 d2)) (y3.setCell ⟨g, 5, none⟩ (.slice B2 n2 d2)).heap.size R x k l t A1 n1 A2 n2 A3 n3 := HRg.out.on hBw3 (by rw [Go.Deep.nblk_setCell]; omega)
  have HG3 := Lib.hid hG3
  have HH3 := Lib.hid hH3
  have HBw3 := Lib.hid hBw3
  have HR3 := Lib.hid hR3
  have HOv2 := Lib.hid hOv3
  have HOv1 := Lib.hid hqv1'
  clear hG3 hH3 hBw3 hR3 hOv3 hGy3 hHy3 hO3 hBy3 hg2 hqv1 hqv1' HG2 HH2 HBw2 HR2 hs2'
  go_wp2_with fail
  clear p5 p6 pz5 hsy3
  generalize y3.setCell ⟨g, 5, none⟩ (.slice B2 n2 d2) = w3 at *
  ((with_reducible refine (copied_is A3 c3 n3 R.texts w3 HR3.out.rd3 (Lib.hid HR3.out.len3) hm3 HF3.out HS3).mono ?_))
  rintro e y4 ⟨v, rfl, hO4, hBy4⟩
  obtain ⟨B3, d3, rfl, _, _, _⟩ := own_rds hO4 HR3.out.len3.symm
  have hsy4 := hBy4.size
  have hs3' := hs3
  have hg2 : g + 2 ≤ w3.heap.size := by omega
  have hGy4 : y4.heap[g]? = some (.cells #[.string x, .int .u16 k, .int .u16 l, .int .u32 t, .slice B1 n1 d1, .slice B2 n2 d2, .slice A3 n3 c3] 27 (0, 0)) := (hBy4.block g (by omega)).trans HG3.out
  have hHy4 : y4.heap[g + 1]? = some (.cells #[.string ⟨#[]⟩, .int .u16 0, .int .u16 0, .int .u32 0, .slice none 0 0, .slice none 0 0, .slice none 0 0] 27 (0, 0)) := (hBy4.block (g + 1) (by omega)).trans HH3.out
  have hqv1 := own_below HOv1.out hBy4
  have hqv2 := own_below HOv2.out hBy4
  have p0 : y4.cell? ⟨g, 0, none⟩ = some (.string x) := by rw [Lib.cell_of_heap hGy4]; rfl
  have p1 : y4.cell? ⟨g, 1, none⟩ = some (.int .u16 k) := by rw [Lib.cell_of_heap hGy4]; rfl
  have p2 : y4.cell? ⟨g, 2, none⟩ = some (.int .u16 l) := by rw [Lib.cell_of_heap hGy4]; rfl
  have p3 : y4.cell? ⟨g, 3, none⟩ = some (.int .u32 t) := by rw [Lib.cell_of_heap hGy4]; rfl
  have p4 : y4.cell? ⟨g, 4, none⟩ = some (.slice B1 n1 d1) := by rw [Lib.cell_of_heap hGy4]; rfl
  have p5 : y4.cell? ⟨g, 5, none⟩ = some (.slice B2 n2 d2) := by rw [Lib.cell_of_heap hGy4]; rfl
  have p6 : y4.cell? ⟨g, 6, none⟩ = some (.slice A3 n3 c3) := by rw [Lib.cell_of_heap hGy4]; rfl
  have pz6 : y4.frozen? ⟨g, 6, none⟩ = false := Lib.frozen_of_heap hGy4 6
  have r0 : y4.cell? ⟨g + 1, 0, none⟩ = some (.string ⟨#[]⟩) := by rw [Lib.cell_of_heap hHy4]; rfl
  have r1 : y4.cell? ⟨g + 1, 1, none⟩ = some (.int .u16 0) := by rw [Lib.cell_of_heap hHy4]; rfl
  have r2 : y4.cell? ⟨g + 1, 2, none⟩ = some (.int .u16 0) := by rw [Lib.cell_of_heap hHy4]; rfl
  have r3 : y4.cell? ⟨g + 1, 3, none⟩ = some (.int .u32 0) := by rw [Lib.cell_of_heap hHy4]; rfl
  have r4 : y4.cell? ⟨g + 1, 4, none⟩ = some (.slice none 0 0) := by rw [Lib.cell_of_heap hHy4]; rfl
  have r5 : y4.cell? ⟨g + 1, 5, none⟩ = some (.slice none 0 0) := by rw [Lib.cell_of_heap hHy4]; rfl
  have r6 : y4.cell? ⟨g + 1, 6, none⟩ = some (.slice none 0 0) := by rw [Lib.cell_of_heap hHy4]; rfl
  have rz0 : y4.frozen? ⟨g + 1, 0, none⟩ = false := Lib.frozen_of_heap hHy4 0
  have rz1 : y4.frozen? ⟨g + 1, 1, none⟩ = false := Lib.frozen_of_heap hHy4 1
  have rz2 : y4.frozen? ⟨g + 1, 2, none⟩ = false := Lib.frozen_of_heap hHy4 2
  have rz3 : y4.frozen? ⟨g + 1, 3, none⟩ = false := Lib.frozen_of_heap hHy4 3
  have rz4 : y4.frozen? ⟨g + 1, 4, none⟩ = false := Lib.frozen_of_heap hHy4 4
  have rz5 : y4.frozen? ⟨g + 1, 5, none⟩ = false := Lib.frozen_of_heap hHy4 5
  have rz6 : y4.frozen? ⟨g + 1, 6, none⟩ = false := Lib.frozen_of_heap hHy4 6
  have hG4 : (y4.setCell ⟨g, 6, none⟩ (.slice B3 n3 d3)).heap[g]? = some (.cells #[.string x, .int .u16 k, .int .u16 l, .int .u32 t, .slice B1 n1 d1, .slice B2 n2 d2, .slice B3 n3 d3] 27 (0, 0)) := set_block hGy4 (by rfl)
  have hH4 : (y4.setCell ⟨g, 6, none⟩ (.slice B3 n3 d3)).heap[g + 1]? = some (.cells #[.string ⟨#[]⟩, .int .u16 0, .int .u16 0, .int .u32 0, .slice none 0 0, .slice none 0 0, .slice none 0 0] 27 (0, 0)) := other_block hHy4 (by omega)
  have hs4 : g + 2 ≤ (y4.setCell ⟨g, 6, none⟩ (.slice B3 n3 d3)).heap.size := by rw [Go.Deep.nblk_setCell]; omega
  have hBw4 : Below g w (y4.setCell ⟨g, 6, none⟩ (.slice B3 n3 d3)) := (HBw3.out.trans (hBy4.mono (by omega))).setCell (p := ⟨g, 6, none⟩) (Nat.le_refl g) _
  have hOv4 : (y4.setCell ⟨g, 6, none⟩ (.slice B3 n3 d3)).ownsRow (g + 2) 9 1 (.slice B3 n3 d3) n3 (strCs R.texts) := own_set (own_low hO4 hg2) (Nat.lt_succ_of_lt (Nat.lt_succ_self g))
  have hqv1' : (y4.setCell ⟨g, 6, none⟩ (.slice B3 n3 d3)).ownsRow (g + 2) 9 1 (.slice B1 n1 d1) n1 (strCs R.names) := own_set hqv1 (Nat.lt_succ_of_lt (Nat.lt_succ_self g))
  have hqv2' : (y4.setCell ⟨g, 6, none⟩ (.slice B3 n3 d3)).ownsRow (g + 2) 23 1 (.slice B2 n2 d2) n2 (numCs R.nums) := own_set hqv2 (Nat.lt_succ_of_lt (Nat.lt_succ_self g))
  have hR4 : RecAt (y4.setCell ⟨g, 6, none⟩ (.slice B3 n3 d3)) (y4.setCell ⟨g, 6, none⟩ (.slice B3 n3 d3)).heap.size R x k l t A1 n1 A2 n2 A3 n3 := HRg.out.on hBw4 (by rw [Go.Deep.nblk_setCell]; omega)
  have HG4 := Lib.hid hG4
  have HH4 := Lib.hid hH4
  have HBw4 := Lib.hid hBw4
  have HR4 := Lib.hid hR4
  have HOv3 := Lib.hid hOv4
  have HOv1 := Lib.hid hqv1'
  have HOv2 := Lib.hid hqv2'
  have HBw4 := Lib.hid hBw4
  have HO1 := Lib.hid hqv1'
  have HO2 := Lib.hid hqv2'
  have HO3 := Lib.hid hOv4
  have HH4 := Lib.hid hH4
  clear hBw4 hqv1' hqv2' hOv4 hG4 hH4 hR4 hGy4 hHy4 hO4 hBy4 hqv1 hqv2 HG3 HH3 HBw3 HR3 hs3'
  go_wp2_with fail
  have hF : ((((((((y4.setCell ⟨g, 6, none⟩ (.slice B3 n3 d3)).setCell ⟨g + 1, 0, none⟩ (.string x)).setCell ⟨g + 1, 1, none⟩ (.int .u16 k)).setCell ⟨g + 1, 2, none⟩ (.int .u16 l)).setCell ⟨g + 1, 3, none⟩ (.int .u32 t)).setCell ⟨g + 1, 4, none⟩ (.slice B1 n1 d1)).setCell ⟨g + 1, 5, none⟩ (.slice B2 n2 d2)).setCell ⟨g + 1, 6, none⟩ (.slice B3 n3 d3)).heap[g + 1]? = some (.cells #[.string x, .int .u16 k, .int .u16 l, .int .u32 t, .slice B1 n1 d1, .slice B2 n2 d2, .slice B3 n3 d3] 27 (0, 0)) := (set_block (i := 6) (v := .slice B3 n3 d3) (set_block (i := 5) (v := .slice B2 n2 d2) (set_block (i := 4) (v := .slice B1 n1 d1) (set_block (i := 3) (v := .int .u32 t) (set_block (i := 2) (v := .int .u16 l) (set_block (i := 1) (v := .int .u16 k) (set_block (i := 0) (v := .string x) HH4.out rfl) rfl) rfl) rfl) rfl) rfl) rfl)
  have hU1 : ((((((((y4.setCell ⟨g, 6, none⟩ (.slice B3 n3 d3)).setCell ⟨g + 1, 0, none⟩ (.string x)).setCell ⟨g + 1, 1, none⟩ (.int .u16 k)).setCell ⟨g + 1, 2, none⟩ (.int .u16 l)).setCell ⟨g + 1, 3, none⟩ (.int .u32 t)).setCell ⟨g + 1, 4, none⟩ (.slice B1 n1 d1)).setCell ⟨g + 1, 5, none⟩ (.slice B2 n2 d2)).setCell ⟨g + 1, 6, none⟩ (.slice B3 n3 d3)).ownsRow (g + 2) 9 1 (.slice B1 n1 d1) n1 (strCs R.names) := (own_set (p := ⟨g + 1, 6, none⟩) (u := .slice B3 n3 d3) (own_set (p := ⟨g + 1, 5, none⟩) (u := .slice B2 n2 d2) (own_set (p := ⟨g + 1, 4, none⟩) (u := .slice B1 n1 d1) (own_set (p := ⟨g + 1, 3, none⟩) (u := .int .u32 t) (own_set (p := ⟨g + 1, 2, none⟩) (u := .int .u16 l) (own_set (p := ⟨g + 1, 1, none⟩) (u := .int .u16 k) (own_set (p := ⟨g + 1, 0, none⟩) (u := .string x) HO1.out (Nat.lt_succ_self (g + 1))) (Nat.lt_succ_self (g + 1))) (Nat.lt_succ_self (g + 1))) (Nat.lt_succ_self (g + 1))) (Nat.lt_succ_self (g + 1))) (Nat.lt_succ_self (g + 1))) (Nat.lt_succ_self (g + 1)))
  have hU2 : ((((((((y4.setCell ⟨g, 6, none⟩ (.slice B3 n3 d3)).setCell ⟨g + 1, 0, none⟩ (.string x)).setCell ⟨g + 1, 1, none⟩ (.int .u16 k)).setCell ⟨g + 1, 2, none⟩ (.int .u16 l)).setCell ⟨g + 1, 3, none⟩ (.int .u32 t)).setCell ⟨g + 1, 4, none⟩ (.slice B1 n1 d1)).setCell ⟨g + 1, 5, none⟩ (.slice B2 n2 d2)).setCell ⟨g + 1, 6, none⟩ (.slice B3 n3 d3)).ownsRow (g + 2) 23 1 (.slice B2 n2 d2) n2 (numCs R.nums) := (own_set (p := ⟨g + 1, 6, none⟩) (u := .slice B3 n3 d3) (own_set (p := ⟨g + 1, 5, none⟩) (u := .slice B2 n2 d2) (own_set (p := ⟨g + 1, 4, none⟩) (u := .slice B1 n1 d1) (own_set (p := ⟨g + 1, 3, none⟩) (u := .int .u32 t) (own_set (p := ⟨g + 1, 2, none⟩) (u := .int .u16 l) (own_set (p := ⟨g + 1, 1, none⟩) (u := .int .u16 k) (own_set (p := ⟨g + 1, 0, none⟩) (u := .string x) HO2.out (Nat.lt_succ_self (g + 1))) (Nat.lt_succ_self (g + 1))) (Nat.lt_succ_self (g + 1))) (Nat.lt_succ_self (g + 1))) (Nat.lt_succ_self (g + 1))) (Nat.lt_succ_self (g + 1))) (Nat.lt_succ_self (g + 1)))
  have hU3 : ((((((((y4.setCell ⟨g, 6, none⟩ (.slice B3 n3 d3)).setCell ⟨g + 1, 0, none⟩ (.string x)).setCell ⟨g + 1, 1, none⟩ (.int .u16 k)).setCell ⟨g + 1, 2, none⟩ (.int .u16 l)).setCell ⟨g + 1, 3, none⟩ (.int .u32 t)).setCell ⟨g + 1, 4, none⟩ (.slice B1 n1 d1)).setCell ⟨g + 1, 5, none⟩ (.slice B2 n2 d2)).setCell ⟨g + 1, 6, none⟩ (.slice B3 n3 d3)).ownsRow (g + 2) 9 1 (.slice B3 n3 d3) n3 (strCs R.texts) := (own_set (p := ⟨g + 1, 6, none⟩) (u := .slice B3 n3 d3) (own_set (p := ⟨g + 1, 5, none⟩) (u := .slice B2 n2 d2) (own_set (p := ⟨g + 1, 4, none⟩) (u := .slice B1 n1 d1) (own_set (p := ⟨g + 1, 3, none⟩) (u := .int .u32 t) (own_set (p := ⟨g + 1, 2, none⟩) (u := .int .u16 l) (own_set (p := ⟨g + 1, 1, none⟩) (u := .int .u16 k) (own_set (p := ⟨g + 1, 0, none⟩) (u := .string x) HO3.out (Nat.lt_succ_self (g + 1))) (Nat.lt_succ_self (g + 1))) (Nat.lt_succ_self (g + 1))) (Nat.lt_succ_self (g + 1))) (Nat.lt_succ_self (g + 1))) (Nat.lt_succ_self (g + 1))) (Nat.lt_succ_self (g + 1)))
  have hBL : Below g w ((((((((y4.setCell ⟨g, 6, none⟩ (.slice B3 n3 d3)).setCell ⟨g + 1, 0, none⟩ (.string x)).setCell ⟨g + 1, 1, none⟩ (.int .u16 k)).setCell ⟨g + 1, 2, none⟩ (.int .u16 l)).setCell ⟨g + 1, 3, none⟩ (.int .u32 t)).setCell ⟨g + 1, 4, none⟩ (.slice B1 n1 d1)).setCell ⟨g + 1, 5, none⟩ (.slice B2 n2 d2)).setCell ⟨g + 1, 6, none⟩ (.slice B3 n3 d3)) := (((((((HBw4.out.setCell (p := ⟨g + 1, 0, none⟩) (Nat.le_succ g) (.string x)).setCell (p := ⟨g + 1, 1, none⟩) (Nat.le_succ g) (.int .u16 k)).setCell (p := ⟨g + 1, 2, none⟩) (Nat.le_succ g) (.int .u16 l)).setCell (p := ⟨g + 1, 3, none⟩) (Nat.le_succ g) (.int .u32 t)).setCell (p := ⟨g + 1, 4, none⟩) (Nat.le_succ g) (.slice B1 n1 d1)).setCell (p := ⟨g + 1, 5, none⟩) (Nat.le_succ g) (.slice B2 n2 d2)).setCell (p := ⟨g + 1, 6, none⟩) (Nat.le_succ g) (.slice B3 n3 d3))
  generalize ((((((((y4.setCell ⟨g, 6, none⟩ (.slice B3 n3 d3)).setCell ⟨g + 1, 0, none⟩ (.string x)).setCell ⟨g + 1, 1, none⟩ (.int .u16 k)).setCell ⟨g + 1, 2, none⟩ (.int .u16 l)).setCell ⟨g + 1, 3, none⟩ (.int .u32 t)).setCell ⟨g + 1, 4, none⟩ (.slice B1 n1 d1)).setCell ⟨g + 1, 5, none⟩ (.slice B2 n2 d2)).setCell ⟨g + 1, 6, none⟩ (.slice B3 n3 d3)) = w8 at *
  have f0 : w8.cell? ⟨(g + 1), 0, none⟩ = some (.string x) := by rw [Lib.cell_of_heap hF]; rfl
  have f1 : w8.cell? ⟨(g + 1), 1, none⟩ = some (.int .u16 k) := by rw [Lib.cell_of_heap hF]; rfl
  have f2 : w8.cell? ⟨(g + 1), 2, none⟩ = some (.int .u16 l) := by rw [Lib.cell_of_heap hF]; rfl
  have f3 : w8.cell? ⟨(g + 1), 3, none⟩ = some (.int .u32 t) := by rw [Lib.cell_of_heap hF]; rfl
  have f4 : w8.cell? ⟨(g + 1), 4, none⟩ = some (.slice B1 n1 d1) := by rw [Lib.cell_of_heap hF]; rfl
  have f5 : w8.cell? ⟨(g + 1), 5, none⟩ = some (.slice B2 n2 d2) := by rw [Lib.cell_of_heap hF]; rfl
  have f6 : w8.cell? ⟨(g + 1), 6, none⟩ = some (.slice B3 n3 d3) := by rw [Lib.cell_of_heap hF]; rfl
  exact bodyPost_ret (v := .agg #[.string x, .int .u16 k, .int .u16 l, .int .u32 t, .slice B1 n1 d1, .slice B2 n2 d2, .slice B3 n3 d3]) (by simp [results, Try.results16, go_sem, f0, f1, f2, f3, f4, f5, f6]) rfl ⟨_, _, _, _, _, _, rfl, by rw [HGW.out]; exact own_low hU1 (by omega), by rw [HGW.out]; exact own_low hU2 (by omega), by rw [HGW.out]; exact own_low hU3 (by omega), by rw [HGW.out]; exact hBL⟩
end Go.Proofs.Ytnpdhfjglfpjcaa
