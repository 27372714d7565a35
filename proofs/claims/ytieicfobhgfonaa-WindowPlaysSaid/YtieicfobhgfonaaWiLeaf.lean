/- What a round of WindowPlays leaves: the two places of the new box. No condition. -/
import Derived.Test.YtieicfobhgfonaaProg
import Derived.Test.YtieicfobhgfonaaWiMid
import Derived.WalkKit
import Derived.Lib.Hide
import Derived.Below
import Derived.Laws.Rows
namespace Go.Proofs.Ytieicfobhgfonaa.Wi
open Go Go.RowKit Go.MapKept Mp
section
variable {w V w5 : World} {g b X Y : Nat} {K : Int} {N n c m c' : Nat} {B B' : Bk} {A A' : Option Addr}
theorem BkK.grown (h : BkK b V w5) (hb : BkAt V g b B) (hw : Below g w V) : Below g w w5 := hw.trans (h.below hb)
theorem leafA (hb : BkAt V g b B) (hx : BoxK V X B.conn B.first (.slice A n c)) (hw : Below g w V) (hXb : X ≠ b) (h5 : BkAt w5 g b B') (hR : RdW w5 w5.heap.size A' B'.rows) (hL : B'.rows.length = m) (hO : Ok K N B') (hK : BkK b V w5) :
    LfW w (w5.alloc (.cells #[.int .i64 B'.conn, .int .i64 B'.first, .slice A' m c'] 28)) g b X w5.heap.size K N B B' A A' n c m c' := by
  have hB := (Below.refl w5.heap.size w5).alloc (Nat.le_refl _) (.cells #[.int .i64 B'.conn, .int .i64 B'.first, .slice A' m c'] 28)
  have h1 := hK.grown hb hw
  have hg : g ≤ w5.heap.size := by have := h5.lt; have := h5.gb; omega
  exact ⟨h5.below hB, hR.on hB hB.size, hL, hO, ((hB.block X (Nat.lt_of_lt_of_le hx.lt hK.size)).trans (hK.box hb hx hXb)).trans hx, heap_alloc_new w5 _, h1.trans (hB.mono hg)⟩
theorem leafB (hb : BkAt V g b B) (hx : BoxK V X B.conn B.first (.slice A n c)) (hw : Below g w V) (hXb : X ≠ b) (hYb : Y ≠ b) (hy : BoxK V Y 0 0 (.slice none 0 0)) (hXY : X ≠ Y) (hgY : g ≤ Y) (h5 : BkAt w5 g b B') (hR : RdW w5 w5.heap.size A' B'.rows) (hL : B'.rows.length = m) (hO : Ok K N B') (hK : BkK b V w5) :
    LfW w (((w5.setCell ⟨Y, 0, none⟩ (.int .i64 B'.conn)).setCell ⟨Y, 1, none⟩ (.int .i64 B'.first)).setCell ⟨Y, 2, none⟩ (.slice A' m c')) g b X Y K N B B' A A' n c m c' := by
  have h1 := hK.grown hb hw
  have hy5 : BoxK w5 Y 0 0 (.slice none 0 0) := (hK.box hb hy hYb).trans hy
  have hx5 : BoxK w5 X B.conn B.first (.slice A n c) := (hK.box hb hx hXb).trans hx
  obtain ⟨h4, _⟩ := bk_put (cn := B'.conn) (fi := B'.first) (v := .slice A' m c') h5 hy5
  exact ⟨h4, rdw_put hR hy5, hL, hO, (putK_other hXY).trans hx5, hy5.put _ _ _, putK_below h1 hgY⟩
end
end Go.Proofs.Ytieicfobhgfonaa.Wi
