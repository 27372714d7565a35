/- The document's put of layer 17. For up to 999 streams. -/
import Derived.Test.YtieicfobhgfonaaProg
import Derived.Test.YtieicfobhgfonaaWiMath
import Derived.Test.YtieicfobhgfonaaWiRef
import Derived.Test.YtieicfobhgfonaaWiDrop
import Derived.WalkKit
import Derived.Lib.Hide
import Derived.OwnWalk
import Derived.Below
import Derived.Laws.Rows
import Derived.Outline
import Derived.IntWalk
import Derived.WalkSpells
import Derived.WalkLawsBesides
import Derived.Deep.CutRange
namespace Go.Proofs.Ytieicfobhgfonaa
open Go Go.RowKit Wi

namespace Wi
/-- A book of the document's in a box. -/
def BoxK (w : World) (X : Nat) (cn fi : Int) (v : Value) : Prop := w.heap[X]? = some (.cells #[.int .i64 cn, .int .i64 fi, v] 28 (0, 0))
def putK (w : World) (X : Nat) (cn fi : Int) (v : Value) : World := (((w.setCell ⟨X, 0, none⟩ (.int .i64 cn)).setCell ⟨X, 1, none⟩ (.int .i64 fi)).setCell ⟨X, 2, none⟩ v)
section
variable {w w' : World} {X : Nat} {cn fi cn' fi' : Int} {v v' : Value}
theorem BoxK.lt (h : BoxK w X cn fi v) : X < w.heap.size := by
  rcases Nat.lt_or_ge X w.heap.size with h1 | h1
  · exact h1
  · unfold BoxK at h; rw [Array.getElem?_eq_none h1] at h; cases h
theorem BoxK.below (h : BoxK w X cn fi v) (hB : Below w.heap.size w w') : BoxK w' X cn fi v := (hB.block X h.lt).trans h
theorem BoxK.cells (h : BoxK w X cn fi v) : w.cell? ⟨X, 0, none⟩ = some (.int .i64 cn) ∧ w.cell? ⟨X, 1, none⟩ = some (.int .i64 fi) ∧ w.cell? ⟨X, 2, none⟩ = some v :=
  ⟨cell_of_row _ _ 0 _ _ _ h, cell_of_row _ _ 1 _ _ _ h, cell_of_row _ _ 2 _ _ _ h⟩
theorem BoxK.frz (h : BoxK w X cn fi v) (i : Nat) : w.frozen? ⟨X, i, none⟩ = false := by unfold BoxK at h; simp [World.frozen?, h]
theorem BoxK.put (h : BoxK w X cn fi v) (cn' fi' : Int) (v' : Value) : BoxK (putK w X cn' fi' v') X cn' fi' v' := by
  unfold BoxK at h
  unfold BoxK putK
  simp [World.setCell, Array.getElem?_modify, h]
theorem BoxK.put2 (h : BoxK w X cn fi v) (v' : Value) : BoxK (w.setCell ⟨X, 2, none⟩ v') X cn fi v' := by
  unfold BoxK at h
  unfold BoxK
  simp [World.setCell, Array.getElem?_modify, h]
theorem putK_other {k : Nat} (hk : k ≠ X) : (putK w X cn fi v).heap[k]? = w.heap[k]? := by
  unfold putK
  rw [Below.heap_setCell _ ⟨X, 2, none⟩ _ k hk, Below.heap_setCell _ ⟨X, 1, none⟩ _ k hk, Below.heap_setCell _ ⟨X, 0, none⟩ _ k hk]
theorem putK_size : (putK w X cn fi v).heap.size = w.heap.size := by unfold putK; simp
theorem putK_below {w0 : World} {g : Nat} (h : Below g w0 w) (hg : g ≤ X) : Below g w0 (putK w X cn fi v) :=
  ((h.setCell (p := ⟨X, 0, none⟩) hg _).setCell (p := ⟨X, 1, none⟩) hg _).setCell (p := ⟨X, 2, none⟩) hg _
end
/-- The two boxes that a function of books makes. -/
theorem two_boxes (w : World) (cn fi : Int) (v : Value) : BoxK ((w.alloc (.cells #[.int .i64 cn, .int .i64 fi, v] 28)).alloc (.cells #[.int .i64 0, .int .i64 0, .slice none 0 0] 28)) w.heap.size cn fi v ∧ BoxK ((w.alloc (.cells #[.int .i64 cn, .int .i64 fi, v] 28)).alloc (.cells #[.int .i64 0, .int .i64 0, .slice none 0 0] 28)) (w.heap.size + 1) 0 0 (.slice none 0 0) ∧ Below w.heap.size w ((w.alloc (.cells #[.int .i64 cn, .int .i64 fi, v] 28)).alloc (.cells #[.int .i64 0, .int .i64 0, .slice none 0 0] 28)) ∧ ((w.alloc (.cells #[.int .i64 cn, .int .i64 fi, v] 28)).alloc (.cells #[.int .i64 0, .int .i64 0, .slice none 0 0] 28)).heap.size = w.heap.size + 2 := by
  refine ⟨(heap_alloc_old _ _ (by simp)).trans (heap_alloc_new w _), ?_, ((Below.refl _ w).alloc (Nat.le_refl _) _).alloc (by simp) _, by simp⟩
  have h := heap_alloc_new (w.alloc (.cells #[.int .i64 cn, .int .i64 fi, v] 28)) (.cells #[.int .i64 0, .int .i64 0, .slice none 0 0] 28)
  rw [World.size_alloc] at h
  exact h
end Wi
set_option maxHeartbeats 8000000 in
set_option maxRecDepth 100000 in
theorem xput_is (B : Bk) (A : Option Addr) (n c id : Nat) (wv : Int) (w : World) (hn : Hid (B.rows.length = n)) (hnb : n ≤ 999) (hA : Hid (RdW w w.heap.size A B.rows)) :
    Calls Try.prog 26 #[bkV B A n c, .int .u32 (id : Int), .int .i64 wv] w fun e w' => ∃ (A2 : Option Addr) (m c2 : Nat), e = .returned (bkV (putB B id wv) A2 m c2) ∧ Hid (w'.ownsRow w.heap.size 60 2 (.slice A2 m c2) m (rwCs (putB B id wv).rows)) ∧ Hid ((putB B id wv).rows.length = m) ∧ Below w.heap.size w w' := by
  have HDC := Lib.hid (fun (W : World) (h : Below w.heap.size w W) => xdrop_is B A n c id W hn (by omega) (Lib.hid (hA.out.on h h.size)))
  have hlen := without_le B.rows id
  rw [hn.out] at hlen
  obtain ⟨cn, fi, L⟩ := B
  have hlen : (without L id).length ≤ n := hlen
  obtain ⟨hX, hY, hB2, hs2⟩ := two_boxes w cn fi (.slice A n c)
  obtain ⟨W2, hW2⟩ : ∃ W2, (w.alloc (.cells #[.int .i64 cn, .int .i64 fi, .slice A n c] 28)).alloc (.cells #[.int .i64 0, .int .i64 0, .slice none 0 0] 28) = W2 := ⟨_, rfl⟩
  rw [hW2] at hX hY hB2 hs2
  obtain ⟨g, hg⟩ : ∃ g, w.heap.size = g := ⟨_, rfl⟩
  have HDC2 := Lib.hid (HDC.out W2 hB2)
  rw [hg] at hX hY hB2 hs2
  have HX := Lib.hid hX
  have HY := Lib.hid hY
  have HB2 := Lib.hid hB2
  have HS2 := Lib.hid hs2
  have HW2 := Lib.hid hW2
  rw [hg]
  clear hX hY hB2 hs2 hW2 hA HDC
  unfold bkV
  go_enter Try.func26, Try.ntmps26
  go_upto_region 1 with fail
  rw [HW2.out]
  clear hg
  obtain ⟨x0, x1, x2⟩ := HX.out.cells
  go_wp2_with fail
  refine HDC2.out.mono ?_
  rintro e w3 ⟨A2, m, c2, rfl, hO, hm, hB3⟩
  have HX3 := Lib.hid (HX.out.below hB3)
  have HY3 := Lib.hid (HY.out.below hB3)
  have hO : Hid (w3.ownsRow (g + 2) 60 2 (.slice A2 m c2) m (rwCs (without L id))) := Lib.hid (by have h := hO.out; rw [HS2.out] at h; exact h)
  have hm : Hid ((without L id).length = m) := hm
  have hs3 : g + 2 ≤ w3.heap.size := by have := hB3.size; have := HS2.out; omega
  have HB3 := Lib.hid (HB2.out.trans (hB3.mono (by have := HS2.out; omega)))
  clear hB3 HX HY HB2 HDC2 x0 x1 x2
  obtain ⟨x0, x1, x2⟩ := HX3.out.cells
  have z0 := HX3.out.frz 0
  have z1 := HX3.out.frz 1
  have z2 := HX3.out.frz 2
  obtain ⟨w4, hw4⟩ : ∃ w4, putK w3 g cn fi (.slice A2 m c2) = w4 := ⟨_, rfl⟩
  have hX4 := HX3.out.put cn fi (.slice A2 m c2)
  have hY4 : BoxK (putK w3 g cn fi (.slice A2 m c2)) (g + 1) 0 0 (.slice none 0 0) := (putK_other (by omega)).trans HY3.out
  have hB4 := putK_below (cn := cn) (fi := fi) (v := .slice A2 m c2) (X := g) HB3.out (Nat.le_refl _)
  have hO4 := own_sets_low (w' := putK w3 g cn fi (.slice A2 m c2)) hO.out (Nat.le_refl _) (fun j hj => putK_other (by omega))
  have hs4 : g + 2 ≤ (putK w3 g cn fi (.slice A2 m c2)).heap.size := by rw [putK_size]; exact hs3
  rw [hw4] at hX4 hY4 hB4 hO4 hs4
  unfold putK at hw4
  unfold bkV dropB
  go_upto_region 2 with fail
  have HX4 := Lib.hid hX4
  have HY4 := Lib.hid hY4
  have HB4 := Lib.hid hB4
  have HO4 := Lib.hid hO4
  clear hw4 hX4 hY4 hB4 hO4 HX3 HY3 HB3 hO x0 x1 x2 z0 z1 z2
  obtain ⟨x0, x1, x2⟩ := HX4.out.cells
  obtain ⟨i0, hi, hz0, hz1, hz2⟩ := info_parts infoW
  have HI := Lib.hid hi
  have HZ0 := Lib.hid hz0
  have HZ1 := Lib.hid hz1
  have HZ2 := Lib.hid hz2
  have hmb : m ≤ 999 := by have := hm.out; omega
  clear hi hz0 hz1 hz2
  go_wp2_with (at_builtin; refine wpList_append_own _ rfl _ _ 26 rfl (g + 2) 60 i0 (.agg #[.int .u32 0, .int .i64 0]) 2 16 Try.underlying26 HI.out HZ0.out HZ1.out HZ2.out rfl (by decide) _ _ _ rfl (HO4.out.alloc _) ⟨w4.heap.size, 0, none⟩ 1 1 (rwCs [(id, wv)]) rfl rfl ?c1 ?c2 ?c3 ?c4 ?c5 ?_)
  case c1 =>
    intro j u hj
    first
      | exact hj
      | (rw [zaddW, cell_of_row _ _ j _ _ _ (heap_alloc_new w4 _), ← Array.getElem?_toList]; exact hj)
  case c2 => exact rwCs_one
  case c3 => unfold maxLen; omega
  case c4 => omega
  case c5 => simp; omega
  intro v' w5 hown hgrow _
  rw [← rwCs_cat] at hown
  have hBK : Below (g + 2) w4 w5 := ((Below.refl _ w4).alloc hs4 _).grown hgrow (by simp; omega) (fun j hj => (HO4.out.lt j hj).1)
  have HX5 : Hid (BoxK w5 g cn fi (.slice A2 m c2)) := Lib.hid ((hBK.block g (by omega)).trans HX4.out)
  have HY5 : Hid (BoxK w5 (g + 1) 0 0 (.slice none 0 0)) := Lib.hid ((hBK.block (g + 1) (by omega)).trans HY4.out)
  have HB5 := Lib.hid (HB4.out.trans (hBK.mono (Nat.le_add_right g 2)))
  have hlm : (without L id ++ [(id, wv)]).length = m + 1 := by rw [List.length_append, hm.out]; rfl
  obtain ⟨A5, c5, rfl, _⟩ := own_rdw hown hlm
  have HO5 := Lib.hid hown
  have HLM := Lib.hid hlm
  clear hown hgrow hBK HX4 HY4 HB4 HO4 x0 x1 x2 hlm
  obtain ⟨x0, x1, x2⟩ := HX5.out.cells
  have z2 := HX5.out.frz 2
  obtain ⟨e0, e1, e2⟩ := HY5.out.cells
  have q0 := HY5.out.frz 0
  have q1 := HY5.out.frz 1
  have q2 := HY5.out.frz 2
  obtain ⟨F, hF⟩ : ∃ F, putK (w5.setCell ⟨g, 2, none⟩ (.slice A5 (m + 1) c5)) (g + 1) cn fi (.slice A5 (m + 1) c5) = F := ⟨_, rfl⟩
  have hY6 : BoxK (w5.setCell ⟨g, 2, none⟩ (.slice A5 (m + 1) c5)) (g + 1) 0 0 (.slice none 0 0) := (Below.heap_setCell w5 ⟨g, 2, none⟩ _ (g + 1) (by show g + 1 ≠ g; omega)).trans HY5.out
  have hYF := hY6.put cn fi (.slice A5 (m + 1) c5)
  have hBF := putK_below (cn := cn) (fi := fi) (v := .slice A5 (m + 1) c5) (X := g + 1) (HB5.out.setCell (p := ⟨g, 2, none⟩) (Nat.le_refl _) (.slice A5 (m + 1) c5)) (Nat.le_succ _)
  have hOF := own_sets_low (g' := g) (w' := putK (w5.setCell ⟨g, 2, none⟩ (.slice A5 (m + 1) c5)) (g + 1) cn fi (.slice A5 (m + 1) c5)) HO5.out (by omega) (fun j hj => (putK_other (by omega)).trans (Below.heap_setCell w5 ⟨g, 2, none⟩ _ j (by show j ≠ g; omega)))
  rw [hF] at hYF hBF hOF
  unfold putK at hF
  have HK := Lib.hid hYF.cells
  have HBF := Lib.hid hBF
  have HOF := Lib.hid hOF
  have HF := Lib.hid hF
  clear hY6 hYF hBF hOF hF HO5 HB5 HX5 HY5
  go_wp2_with fail
  obtain ⟨k0, k1, k2⟩ := HK.out
  rw [HF.out]
  refine bodyPost_ret (v := .agg #[.int .i64 cn, .int .i64 fi, .slice A5 (m + 1) c5]) (by simp [results, Try.results26, go_sem, k0, k1, k2]) rfl ⟨A5, m + 1, c5, rfl, HOF, HLM, HBF.out⟩
end Go.Proofs.Ytieicfobhgfonaa
