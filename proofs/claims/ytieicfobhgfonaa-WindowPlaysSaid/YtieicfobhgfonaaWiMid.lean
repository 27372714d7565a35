/- What the laws' play holds between its calls: a book, the document's in a box, the act, the result's box; what an act makes of a book. No condition. -/
import Derived.Test.YtieicfobhgfonaaProg
import Derived.Test.YtieicfobhgfonaaWiMath
import Derived.Test.YtieicfobhgfonaaWiRef
import Derived.Test.YtieicfobhgfonaaWiDrop
import Derived.Test.YtieicfobhgfonaaWiPut
import Derived.Test.YtieicfobhgfonaaWiOpen
import Derived.Test.YtieicfobhgfonaaWiCame
import Derived.Test.YtieicfobhgfonaaWiBox
import Derived.Test.YtieicfobhgfonaaWiSame
import Derived.Test.YtieicfobhgfonaaWiCode
import Derived.WalkKit
import Derived.Lib.Hide
import Derived.Below
import Derived.Laws.Rows
namespace Go.Proofs.Ytieicfobhgfonaa.Wi
open Go Go.RowKit Go.MapKept Mp

/-- A book that may be, of so many streams at most. -/
structure Ok (K : Int) (N : Nat) (B : Bk) : Prop where
  inv : Inv K B
  le : B.rows.length ≤ N
  lo : ∀ x ∈ B.rows, x.1 < 4294967296
theorem without_len (l : List (Nat × Int)) (k : Nat) : (without l k).length ≤ l.length := List.length_filter_le _ _
theorem Ok.more {K L : Int} {N M : Nat} {B : Bk} (h : Ok K N B) (h1 : K ≤ L) (h2 : N ≤ M) : Ok L M B := ⟨h.inv.more h1, by have := h.le; omega, h.lo⟩
theorem Ok.put {K : Int} {N : Nat} {B : Bk} (h : Ok K N B) {B' : Bk} (hI : Inv K B') {k : Nat} {w : Int} (hk : k < 4294967296) (hr : B'.rows = (putB B k w).rows) : Ok K (N + 1) B' := by
  refine ⟨hI, ?_, fun x hx => ?_⟩
  · rw [hr]
    show (without B.rows k ++ [(k, w)]).length ≤ _
    have := without_len B.rows k
    have := h.le
    simp
    omega
  · rw [hr] at hx
    rcases List.mem_append.1 hx with h1 | h1
    · exact h.lo x (without_sub x h1).1
    · simp at h1; rw [h1]; exact hk
theorem Ok.open {K : Int} {N : Nat} {B : Bk} (h : Ok K N B) (hK : 0 ≤ K) {k : Nat} (hk : k < 4294967296) : Ok K (N + 1) (openB B k) := h.put (h.inv.openB hK k) hk rfl
theorem Ok.drop {K : Int} {N : Nat} {B : Bk} (h : Ok K N B) (k : Nat) : Ok K N (dropB B k) := ⟨h.inv.drop k, Nat.le_trans (without_len _ _) h.le, fun x hx => h.lo x (without_sub x hx).1⟩
theorem Ok.grow {K : Int} {N : Nat} {B B' : Bk} (h : Ok K N B) {k n c : Nat} (hk : k < 4294967296) (hr : growB B k n = (B', c)) : Ok K (N + 1) B' := by
  have hI := h.inv.grow k n
  rw [hr] at hI
  have hI : Inv K B' := hI
  unfold growB at hr
  split at hr
  · split at hr
    · injection hr with h1 _; subst h1; exact h.more (by omega) (by omega)
    · injection hr with h1 _; subst h1; exact ⟨hI, by have := h.le; show B.rows.length ≤ _; omega, h.lo⟩
  · split at hr
    · injection hr with h1 _; subst h1; exact h.more (by omega) (by omega)
    · split at hr
      · injection hr with h1 _; subst h1; exact h.more (by omega) (by omega)
      · injection hr with h1 _; subst h1; exact h.put hI hk rfl
theorem Ok.init {K : Int} {N : Nat} {B B' : Bk} (h : Ok K N B) {n c : Nat} (hr : initB B n = (B', c)) : Ok (K + 2147483647) N B' := by
  have hI := h.inv.init n
  rw [hr] at hI
  have hI : Inv (K + 2147483647) B' := hI
  unfold initB at hr
  split at hr
  · injection hr with h1 _; subst h1; exact ⟨hI, h.le, h.lo⟩
  · split at hr
    · injection hr with h1 _; subst h1; exact ⟨hI, h.le, h.lo⟩
    · injection hr with h1 _
      subst h1
      refine ⟨hI, by show (shiftR B.rows _).length ≤ _; unfold shiftR; rw [List.length_map]; exact h.le, fun x hx => ?_⟩
      have hx : x ∈ shiftR B.rows (n - B.first) := hx
      unfold shiftR at hx
      obtain ⟨y, hy, rfl⟩ := List.mem_map.1 hx
      exact h.lo y hy
theorem Ok.take {K : Int} {N : Nat} {B B' : Bk} (h : Ok K N B) (hK : 0 ≤ K) {k : Nat} {v t : Int} (hk : k < 4294967296) (hr : takeB B k v = (B', t)) : Ok K (N + 1) B' := by
  have hI := h.inv.take hK k v
  rw [hr] at hI
  have hI : Inv K B' := hI
  rcases take_cases hr with ⟨_, rfl⟩ | ⟨w, _, _, _, e⟩
  · exact h.more (by omega) (by omega)
  · refine h.put (k := k) (w := w - t) hI hk ?_
    rw [e]

theorem growB_cd {B B' : Bk} {k n c : Nat} (hr : growB B k n = (B', c)) : c ≤ 3 := by
  unfold growB at hr
  split at hr
  · split at hr
    · injection hr with _ h1; omega
    · injection hr with _ h1; omega
  · split at hr
    · injection hr with _ h1; omega
    · split at hr
      · injection hr with _ h1; omega
      · injection hr with _ h1; omega
theorem initB_cd {B B' : Bk} {n c : Nat} (hr : initB B n = (B', c)) : c ≤ 3 := by
  unfold initB at hr
  split at hr
  · injection hr with _ h1; omega
  · split at hr
    · injection hr with _ h1; omega
    · injection hr with _ h1; omega
section
variable {w w' wx w1 w2 : World} {g b E : Nat} {K : Int} {N n c m c2 : Nat} {B B' : Bk} {A A2 : Option Addr} {x : Ac}
theorem rdw_bk (h : RdW w w.heap.size A B'.rows) (hb : BkAt w g b B) (hk : BkK b w w') : RdW w' w'.heap.size A B'.rows := by
  obtain ⟨bm, _, hx, ⟨es, ck, hm, _⟩, _⟩ := hb.box
  have hbl : ∀ r o s, A = some ⟨r, o, s⟩ → w'.heap[r]? = w.heap[r]? ∧ r < w'.heap.size := fun r o s e => by
    obtain ⟨h1, cs, fz, h2⟩ := h.2 r o s e
    refine ⟨hk.block r h1 (fun e => ?_) (fun e => ?_), Nat.lt_of_lt_of_le h1 hk.size⟩
    · rw [e, show w.heap[b]? = _ from hx] at h2
      injection h2 with h2
      injection h2 with _ h2 _
      exact absurd h2 (by decide)
    · rw [mapOf_box hx] at e
      injection e with e
      rw [← e, hm] at h2
      injection h2 with h2
      cases h2
  refine ⟨fun k hk2 => ?_, fun r o s e => ?_⟩
  · obtain ⟨r, o, e, _, c0, c1⟩ := h.1 k hk2
    obtain ⟨h1, h2⟩ := hbl r o none e
    exact ⟨r, o, e, h2, (World.cell?_of_block (a := ⟨r, o + k * 2, none⟩) h1).trans c0, (World.cell?_of_block (a := ⟨r, o + k * 2 + 1, none⟩) h1).trans c1⟩
  · obtain ⟨_, cs, fz, h3⟩ := h.2 r o s e
    exact ⟨(hbl r o s e).2, cs, fz, (hbl r o s e).1.trans h3⟩
/-- A book of the document's laid into a box: the program's book stands, and all but the box. -/
theorem bk_put {X : Nat} {cn fi cn' fi' : Int} {v v' : Value} (h : BkAt w g b B) (hX : BoxK w X cn' fi' v') : BkAt (putK w X cn fi v) g b B ∧ mapOf (putK w X cn fi v) b = mapOf w b := by
  obtain ⟨bm, hgm, hx, hm, hn⟩ := h.box
  have h1 : b ≠ X := fun e => by
    rw [← e] at hX
    unfold BoxK at hX
    rw [show w.heap[b]? = _ from hx] at hX
    injection hX with hX
    injection hX with _ hX _
    exact absurd hX (by decide)
  have h2 : bm ≠ X := fun e => by
    obtain ⟨es, ck, h3, _⟩ := hm
    rw [← e] at hX
    unfold BoxK at hX
    rw [h3] at hX
    injection hX with hX
    cases hX
  have e1 : (putK w X cn fi v).heap[b]? = w.heap[b]? := putK_other h1
  refine ⟨⟨h.gb, bm, hgm, e1.trans hx, hm.kept (putK_other h2)⟩, ?_⟩
  unfold mapOf
  rw [e1]
theorem rdw_put {X : Nat} {cn fi cn' fi' : Int} {v v' : Value} {L : List (Nat × Int)} (h : RdW w w.heap.size A L) (hX : BoxK w X cn' fi' v') : RdW (putK w X cn fi v) (putK w X cn fi v).heap.size A L := by
  have hbl : ∀ r o s, A = some ⟨r, o, s⟩ → (putK w X cn fi v).heap[r]? = w.heap[r]? := fun r o s e => by
    obtain ⟨h1, cs, fz, h2⟩ := h.2 r o s e
    refine putK_other (fun e => ?_)
    unfold BoxK at hX
    rw [← e, h2] at hX
    injection hX with hX
    injection hX with _ hX _
    exact absurd hX (by decide)
  refine ⟨fun k hk2 => ?_, fun r o s e => ?_⟩
  · obtain ⟨r, o, e, h0, c0, c1⟩ := h.1 k hk2
    have h1 := hbl r o none e
    exact ⟨r, o, e, by rw [putK_size]; exact h0, (World.cell?_of_block (a := ⟨r, o + k * 2, none⟩) h1).trans c0, (World.cell?_of_block (a := ⟨r, o + k * 2 + 1, none⟩) h1).trans c1⟩
  · obtain ⟨h0, cs, fz, h3⟩ := h.2 r o s e
    exact ⟨by rw [putK_size]; exact h0, cs, fz, (hbl r o s e).trans h3⟩
/-- Between the calls: the world in which play began is w. -/
structure Mid (wx w : World) (g b E : Nat) (x : Ac) (B' B : Bk) (A : Option Addr) (n c : Nat) : Prop where
  bk : BkAt wx g b B'
  rd : RdW wx wx.heap.size A B.rows
  len : B.rows.length = n
  bx : BoxK wx E B.conn B.first (.slice A n c)
  ac : BoxA wx (E + 1) x
  rs : BoxK wx (E + 2) 0 0 (.slice none 0 0)
  kp : BkK b w wx
  lt : b < E
  sz : w.heap.size = E
theorem Mid.code (h : Mid wx w g b E x B B A n c) (hb : BkAt w1 g b B') (hk : BkK b wx w1) : Mid w1 w g b E x B' B A n c := by
  have hl := h.lt
  refine ⟨hb, rdw_bk h.rd h.bk hk, h.len, ?_, ?_, ?_, h.kp.trans hk, h.lt, h.sz⟩
  · exact (hk.box h.bk h.bx (by omega)).trans h.bx
  · exact (hk.box h.bk h.ac (by omega)).trans h.ac
  · exact (hk.box h.bk h.rs (by omega)).trans h.rs
theorem Mid.doc (h : Mid w1 w g b E x B' B A n c) (hs : Bks w1 w2 B' A2 m) : Mid (putK w2 E B'.conn B'.first (.slice A2 m c2)) w g b E x B' B' A2 m c2 := by
  obtain ⟨h1, h2, h3⟩ := hs
  have hb2 := h.bx.below h3
  obtain ⟨h4, h5⟩ := bk_put (cn := B'.conn) (fi := B'.first) (v := .slice A2 m c2) (h.bk.below h3) hb2
  have hl := h.lt
  have hsz := h.sz
  have hk2 : BkK b w w2 := h.kp.trans ⟨h3.os, h3.tape, h3.output, h3.size, fun k hk _ _ => h3.block k hk, by unfold mapOf; rw [h3.block b h.bk.lt]⟩
  refine ⟨h4, rdw_put h1 hb2, h2, hb2.put _ _ _, (putK_other (by omega)).trans (h.ac.below h3), (putK_other (by omega)).trans (h.rs.below h3), ⟨?_, ?_, ?_, by rw [putK_size]; exact hk2.size, fun k hk hkb hkm => (putK_other (by omega)).trans (hk2.block k hk hkb hkm), h5.trans hk2.same⟩, hl, hsz⟩
  · exact hk2.os
  · exact hk2.tape
  · exact hk2.output
/-- The result laid, behind a call that only looked. -/
theorem Mid.fin {w5 w6 : World} (h : Mid w5 w g b E x B B A n c) (hB : Below w5.heap.size w5 w6) :
    ∃ F, ((w6.setCell ⟨E + 2, 0, none⟩ (.int .i64 B.conn)).setCell ⟨E + 2, 1, none⟩ (.int .i64 B.first)).setCell ⟨E + 2, 2, none⟩ (.slice A n c) = F ∧ (F.cell? ⟨E + 2, 0, none⟩ = some (.int .i64 B.conn) ∧ F.cell? ⟨E + 2, 1, none⟩ = some (.int .i64 B.first) ∧ F.cell? ⟨E + 2, 2, none⟩ = some (.slice A n c)) ∧ BkAt F g b B ∧ RdW F F.heap.size A B.rows ∧ BkK b w F := by
  have hr := h.rs.below hB
  obtain ⟨h4, h5⟩ := bk_put (cn := B.conn) (fi := B.first) (v := .slice A n c) (h.bk.below hB) hr
  have hk2 : BkK b w w6 := h.kp.trans ⟨hB.os, hB.tape, hB.output, hB.size, fun k hk _ _ => hB.block k hk, by unfold mapOf; rw [hB.block b h.bk.lt]⟩
  have hsz := h.sz
  refine ⟨putK w6 (E + 2) B.conn B.first (.slice A n c), rfl, (hr.put _ _ _).cells, h4, rdw_put (h.rd.on hB hB.size) hr, ⟨?_, ?_, ?_, by rw [putK_size]; exact hk2.size, fun k hk hkb hkm => (putK_other (by omega)).trans (hk2.block k hk hkb hkm), h5.trans hk2.same⟩⟩
  · exact hk2.os
  · exact hk2.tape
  · exact hk2.output
end
/-- What a round of WindowPlays leaves. -/
def LfW (w wx : World) (g b X Y : Nat) (K : Int) (N : Nat) (B B' : Bk) (A A' : Option Addr) (n c m c' : Nat) : Prop :=
  BkAt wx g b B' ∧ RdW wx wx.heap.size A' B'.rows ∧ B'.rows.length = m ∧ Ok K N B' ∧ BoxK wx X B.conn B.first (.slice A n c) ∧ BoxK wx Y B'.conn B'.first (.slice A' m c') ∧ Below g w wx
end Go.Proofs.Ytieicfobhgfonaa.Wi
