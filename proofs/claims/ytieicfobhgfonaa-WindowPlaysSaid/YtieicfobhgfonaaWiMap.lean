/- A book's map of layer 17: looked up, laid, deleted; a book's numbers stored; a call's frame. No condition. -/
import Derived.Test.YtieicfobhgfonaaProg
import Derived.Test.YtieicfobhgfonaaMpFun
import Derived.Test.YtieicfobhgfonaaWiMath
import Derived.Test.YtieicfobhgfonaaWiAt
import Derived.WalkKit
import Derived.Lib.Hide
import Derived.Laws.Rows
import Derived.Below
namespace Go.Proofs.Ytieicfobhgfonaa.Wi
open Go Go.RowKit Go.MapKept Mp

theorem liftR_at (l : List (Nat × Int)) (k : Nat) : liftR l (.int .u32 (k : Int)) = (ofR l k).map (Value.int .i64) := by
  show (if 0 ≤ (k : Int) then (ofR l (k : Int).toNat).map (Value.int .i64) else none) = _
  rw [if_pos (by omega), Int.toNat_natCast]
theorem liftR_other {l m : List (Nat × Int)} {k : Nat} (h : ∀ j, j ≠ k → ofR m j = ofR l j) (v : Value) (hv : v ≠ .int .u32 (k : Int)) : liftR m v = liftR l v := by
  unfold liftR
  split
  · next n =>
    split
    · next h0 =>
      rw [h n.toNat (fun e => hv (by rw [← e, Int.toNat_of_nonneg h0]))]
    · rfl
  · rfl
theorem liftR_nil : liftR [] = fun _ => none := by
  funext v
  unfold liftR
  split
  · split <;> rfl
  · rfl
theorem zero64 (w : World) : (zeroValue 2).run Try.prog w = .ok (.int .i64 0) w := by kernel_rfl
section
variable {w : World} {bm : Nat} {l : List (Nat × Int)}
theorem look_b (h : MapF w bm (.int .u32) (liftR l)) (id : Nat) (o : Option Int) (ho : ofR l id = o) :
    (Instr.lookup 45 (.map (some bm)) (.int .u32 (id : Int)) true).run Try.prog w = .ok (.tuple #[.int .i64 (o.getD 0), .bool o.isSome]) w := by
  have h1 := h.look (P := Try.prog) (mty := 45) (kt := 32) (et := 2) Try.underlying45 Try.underlying32 (k := .int .u32 (id : Int)) rfl (zero64 w)
  rw [h1, liftR_at, ho]
  cases o <;> rfl
theorem look1_b (h : MapF w bm (.int .u32) (liftR l)) (id : Nat) (v : Int) (ho : ofR l id = some v) :
    (Instr.lookup 45 (.map (some bm)) (.int .u32 (id : Int)) false).run Try.prog w = .ok (.int .i64 v) w := by
  have h1 := h.look1 (P := Try.prog) (mty := 45) (kt := 32) (et := 2) Try.underlying45 Try.underlying32 (k := .int .u32 (id : Int)) rfl (zero64 w)
  rw [h1, liftR_at, ho]
  rfl
theorem put_b (h : MapF w bm (.int .u32) (liftR l)) (id : Nat) (v : Int) (m : List (Nat × Int)) (h1 : ofR m id = some v) (h2 : ∀ j, j ≠ id → ofR m j = ofR l j) :
    ∃ w', (Instr.mapUpdate 45 (.map (some bm)) (.int .u32 (id : Int)) (.int .i64 v)).run Try.prog w = .ok () w' ∧ MapF w' bm (.int .u32) (liftR m) ∧ w.grownBy w' (some bm) := by
  obtain ⟨w', a, b, c⟩ := h.put (P := Try.prog) (mty := 45) (kt := 32) (et := 2) Try.underlying45 Try.underlying32 (k := .int .u32 (id : Int)) rfl (.int .i64 v)
  exact ⟨w', a, b _ (by rw [liftR_at, h1]; rfl) (fun j hj => liftR_other h2 j hj), c⟩
theorem del_b (h : MapF w bm (.int .u32) (liftR l)) (id : Nat) (m : List (Nat × Int)) (h1 : ofR m id = none) (h2 : ∀ j, j ≠ id → ofR m j = ofR l j) :
    ∃ w', (∀ ty, (Builtin.delete_ #[45, 32] ty #[.map (some bm), .int .u32 (id : Int)]).run Try.prog w = .ok (.tuple #[]) w') ∧ MapF w' bm (.int .u32) (liftR m) ∧ w.grownBy w' (some bm) := by
  obtain ⟨w', a, b, c⟩ := h.del (P := Try.prog) (mty := 45) (kt := 32) (et := 2) Try.underlying45 Try.underlying32 (k := .int .u32 (id : Int)) rfl
  exact ⟨w', a, b _ (by rw [liftR_at, h1]; rfl) (fun j hj => liftR_other h2 j hj), c⟩
end
/-- A book's cells. -/
def BoxB (w : World) (b : Nat) (c f : Int) (bm : Nat) : Prop := w.heap[b]? = some (.cells #[.int .i64 c, .int .i64 f, .map (some bm)] 47 (0, 0))
section
variable {w w' : World} {g b bm : Nat} {B : Bk} {c f : Int}
theorem BoxB.cells (h : BoxB w b c f bm) : w.cell? ⟨b, 0, none⟩ = some (.int .i64 c) ∧ w.cell? ⟨b, 1, none⟩ = some (.int .i64 f) ∧ w.cell? ⟨b, 2, none⟩ = some (.map (some bm)) ∧ w.frozen? ⟨b, 0, none⟩ = false ∧ w.frozen? ⟨b, 1, none⟩ = false :=
  ⟨cell_of_row _ _ 0 _ _ _ h, cell_of_row _ _ 1 _ _ _ h, cell_of_row _ _ 2 _ _ _ h, frozen_of_row _ _ 0 _ _ h, frozen_of_row _ _ 1 _ _ h⟩
theorem BoxB.lt (h : BoxB w b c f bm) : b < w.heap.size := by
  rcases Nat.lt_or_ge b w.heap.size with h1 | h1
  · exact h1
  · unfold BoxB at h; rw [Array.getElem?_eq_none h1] at h; cases h
theorem BkAt.box (h : BkAt w g b B) : ∃ bm, g ≤ bm ∧ BoxB w b B.conn B.first bm ∧ MapF w bm (.int .u32) (liftR B.rows) ∧ bm ≠ b := by
  obtain ⟨bm, h1, h2, h3⟩ := h.has
  refine ⟨bm, h1, h2, h3, fun e => ?_⟩
  obtain ⟨es, c, h4, _⟩ := h3
  rw [e, h2] at h4
  injection h4 with h4
  cases h4
theorem mapOf_box (h : BoxB w b c f bm) : mapOf w b = some bm := by unfold mapOf; rw [show w.heap[b]? = _ from h]; rfl
theorem bkK_refl (w : World) : BkK b w w := ⟨rfl, rfl, rfl, Nat.le_refl _, fun _ _ _ _ => rfl, rfl⟩
theorem BkK.trans {w1 w2 w3 : World} (h1 : BkK b w1 w2) (h2 : BkK b w2 w3) : BkK b w1 w3 :=
  ⟨h2.os.trans h1.os, h2.tape.trans h1.tape, h2.output.trans h1.output, Nat.le_trans h1.size h2.size, fun k hk hb hm => (h2.block k (Nat.lt_of_lt_of_le hk h1.size) hb (by rw [h1.same]; exact hm)).trans (h1.block k hk hb hm), h2.same.trans h1.same⟩
/-- What turned lies beyond all that was. -/
theorem bkK_below (hb : BoxB w b c f bm) (hB : Below w.heap.size w w') : BkK b w w' := ⟨hB.os, hB.tape, hB.output, hB.size, fun k hk _ _ => hB.block k hk, by unfold mapOf; rw [hB.block b hb.lt]⟩
/-- The map turned. -/
theorem bk_map (hg : g ≤ b) (hgm : g ≤ bm) (hx : BoxB w b B.conn B.first bm) (hn : bm ≠ b) {m : List (Nat × Int)} (hm : MapF w' bm (.int .u32) (liftR m)) (ht : w.grownBy w' (some bm)) :
    BkAt w' g b { B with rows := m } ∧ BkK b w w' := by
  have hlt := hx.lt
  have e1 : w'.heap[b]? = w.heap[b]? := ht.block b hlt (fun e => by injection e with e; exact hn e.symm)
  refine ⟨⟨hg, bm, hgm, e1.trans hx, hm⟩, ⟨ht.os, ht.tape, ht.output, ht.size, fun k hk h1 h2 => ht.block k hk (fun e => ?_), by unfold mapOf; rw [e1]⟩⟩
  exact h2 (by rw [mapOf_box hx]; exact e.symm)
theorem boxB_conn (h : BoxB w b c f bm) (d : Int) : BoxB (w.setCell ⟨b, 0, none⟩ (.int .i64 d)) b d f bm := by
  have := heap_setCell_same w b 0 _ _ (.int .i64 d) h
  exact this
theorem boxB_first (h : BoxB w b c f bm) (d : Int) : BoxB (w.setCell ⟨b, 1, none⟩ (.int .i64 d)) b c d bm := by
  have := heap_setCell_same w b 1 _ _ (.int .i64 d) h
  exact this
theorem bkK_set (h : BoxB w b c f bm) {i : Nat} {v : Value} (hx : ∃ c' f', BoxB (w.setCell ⟨b, i, none⟩ v) b c' f' bm) : BkK b w (w.setCell ⟨b, i, none⟩ v) := by
  obtain ⟨c', f', hx⟩ := hx
  exact ⟨rfl, rfl, rfl, by simp, fun k _ h1 _ => Below.heap_setCell w ⟨b, i, none⟩ v k h1, by rw [mapOf_box h, mapOf_box hx]⟩
theorem map_set (hm : MapF w bm (.int .u32) (liftR B.rows)) (hn : bm ≠ b) (i : Nat) (v : Value) : MapF (w.setCell ⟨b, i, none⟩ v) bm (.int .u32) (liftR B.rows) :=
  hm.kept (Below.heap_setCell w ⟨b, i, none⟩ v bm hn)
end
end Go.Proofs.Ytieicfobhgfonaa.Wi
