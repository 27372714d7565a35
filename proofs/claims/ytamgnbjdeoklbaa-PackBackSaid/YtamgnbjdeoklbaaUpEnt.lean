/- The contracts of a header block's reader: an index's entry, a name and a value. For blocks of at most 10^6 bytes. -/
import Derived.Test.YtamgnbjdeoklbaaProg
import Derived.Test.YtamgnbjdeoklbaaBytes
import Derived.Test.YtamgnbjdeoklbaaGrown
import Derived.Test.YtamgnbjdeoklbaaTcAt
import Derived.Test.YtamgnbjdeoklbaaUpMath
import Derived.Test.YtamgnbjdeoklbaaUpFit
import Derived.Test.YtamgnbjdeoklbaaUpRdr
import Derived.Test.YtamgnbjdeoklbaaUpTxt
import Derived.WalkKit
import Derived.Lib.Hide
import Derived.Laws.Rows
import Derived.Outline
import Derived.IntWalk
import Derived.WalkSpells
import Derived.WalkLawsBesides
namespace Go.Proofs.Ytamgnbjdeoklbaa
open Go.RowKit Bytes Tb Up

theorem fldInfo : (Try.prog.info? 45).map (·.size) = some 3 := by kernel_rfl
/-- An entry came, or the reading gave up. -/
def EntEnd (w : World) : Except Nat Ent → Ending → World → Prop
  | .error x, e, w' => e = gave x ∧ Below w.heap.size w w'
  | .ok y, e, w' => e = .returned (.agg #[.string y.1, .string y.2, .bool false]) ∧ Below w.heap.size w w'

set_option maxHeartbeats 2000000 in
set_option maxRecDepth 100000 in
theorem entry_any (r g b : Nat) (s : ByteArray) (p : Nat) (t : Tab) (m : Nat) (R : Except Nat Ent) (w : World) (h : RdAt w r g s p) (hT : TAt w g b t) (h4 : Up.Ok4 t) (hm : m ≤ 4294967295) (hR : Hid (ent t m = R)) :
    Calls Try.prog 59 #[.pointer (some ⟨r, 0, none⟩), .int .u64 (m : Int)] w (EntEnd w R) := by
  have hr := hR.out
  clear hR
  unfold ent at hr
  obtain ⟨a, ha⟩ : ∃ a, atR (fixedT ++ t.2) (m : Int) = a := ⟨_, rfl⟩
  rw [ha] at hr
  obtain ⟨⟨x, y⟩, q⟩ := a
  have B0 : Below w.heap.size w (w.alloc (.cells #[.string ⟨#[]⟩, .string ⟨#[]⟩, .bool false] 45)) := (Below.refl _ w).alloc (Nat.le_refl _) _
  have HB0 := Lib.hid B0
  have K := Lib.hid (heap_alloc_new w (.cells #[.string ⟨#[]⟩, .string ⟨#[]⟩, .bool false] 45))
  have HAT := Lib.hid (at_is g b t (m : Int) x y q _ (Lib.hid (hT.below B0)) (Lib.hid (Ok4.fit h4)) (by omega) (by omega) (Lib.hid ha))
  have c2 := (h.held B0).c2
  have hcv : IntKind.i64.wrap (m : Int) = (m : Int) := by rw [IntKind.wrap_i64]; omega
  have hlt : w.heap.size < (w.alloc (.cells #[.string ⟨#[]⟩, .string ⟨#[]⟩, .bool false] 45)).heap.size := by simp
  have HLT := Lib.hid hlt
  clear B0 h hT ha hlt h4
  cases q with
  | false =>
    have hRe : R = .error 92 := hr.symm
    subst hRe
    clear hr
    go_enter Try.func59, Try.ntmps59
    go_wp2_with fail
    generalize (w.alloc (.cells #[.string ⟨#[]⟩, .string ⟨#[]⟩, .bool false] 45)) = W at *
    refine HAT.out.mono ?_
    rintro e w1 ⟨rfl, hB⟩
    have HB := Lib.hid (HB0.out.trans (hB.mono (Nat.le_of_lt HLT.out)))
    clear hB
    go_wp2_with fail
    exact ⟨rfl, rfl, HB.out⟩
  | true =>
    have hRe : R = .ok (x, y) := hr.symm
    subst hRe
    clear hr
    go_enter Try.func59, Try.ntmps59
    go_wp2_with fail
    generalize (w.alloc (.cells #[.string ⟨#[]⟩, .string ⟨#[]⟩, .bool false] 45)) = W at *
    refine HAT.out.mono ?_
    rintro e w1 ⟨rfl, hB⟩
    have hK1 := (hB.block w.heap.size HLT.out).trans K.out
    obtain ⟨a1, a2, a3, a4, a5, a6⟩ := three_cells hK1
    have HK2 := Lib.hid (set3_2 (y := .bool false) (set3_1 (y := .string y) (set3_0 (y := .string x) hK1)))
    have HB := Lib.hid ((((HB0.out.trans (hB.mono (Nat.le_of_lt HLT.out))).setCell (p := ⟨w.heap.size, 0, none⟩) (Nat.le_refl _) (.string x)).setCell (p := ⟨w.heap.size, 1, none⟩) (Nat.le_refl _) (.string y)).setCell (p := ⟨w.heap.size, 2, none⟩) (Nat.le_refl _) (.bool false))
    clear hB hK1
    go_wp2_with fail
    exact bodyPost_ret (v := .agg #[.string x, .string y, .bool false]) (results_cell_row rfl _ _ w.heap.size 45 #[.string x, .string y, .bool false] (0, 0) _ rfl HK2.out Try.underlying45 rfl fldInfo) rfl ⟨rfl, HB.out⟩

/-- A name and a value came, or the reading gave up. -/
def SpEnd (w : World) (r g b : Nat) (s : ByteArray) (t : Tab) : Except Nat (Ent × Nat) → Ending → World → Prop
  | .error x, e, w' => e = gave x ∧ w.grownBy w' (some r)
  | .ok (y, q), e, w' => e = .returned (.agg #[.string y.1, .string y.2, .bool false]) ∧ RdAt w' r g s q ∧ TAt w' g b t ∧ w.grownBy w' (some r)
/-- What stands while a name and a value are read. -/
structure Sp (w w1 : World) (r g b : Nat) (s : ByteArray) (t : Tab) (q : Nat) (x y z : Value) : Prop where
  rd : RdAt w1 r g s q
  tab : TAt w1 g b t
  grown : w.grownBy w1 (some r)
  ret : w1.heap[w.heap.size]? = some (.cells #[.string ⟨#[]⟩, .string ⟨#[]⟩, .bool false] 45 (0, 0))
  fld : w1.heap[w.heap.size + 1]? = some (.cells #[x, y, z] 45 (0, 0))
  lt : r < w.heap.size ∧ g < w.heap.size ∧ b < w.heap.size
  ne : r ≠ g ∧ r ≠ b
section
variable {w w1 w2 : World} {r g b : Nat} {s : ByteArray} {t : Tab} {p q : Nat} {x y z : Value}
theorem Sp.start (h : RdAt w r g s p) (hT : TAt w g b t) (h1 : r ≠ g) (h2 : r ≠ b) : Sp w ((w.alloc (.cells #[.string ⟨#[]⟩, .string ⟨#[]⟩, .bool false] 45)).alloc (.cells #[.string ⟨#[]⟩, .string ⟨#[]⟩, .bool false] 45)) r g b s t p (.string ⟨#[]⟩) (.string ⟨#[]⟩) (.bool false) := by
  have hB : Below w.heap.size w ((w.alloc (.cells #[.string ⟨#[]⟩, .string ⟨#[]⟩, .bool false] 45)).alloc (.cells #[.string ⟨#[]⟩, .string ⟨#[]⟩, .bool false] 45)) := ((Below.refl _ w).alloc (Nat.le_refl _) _).alloc (by simp) _
  exact ⟨h.held hB, hT.below hB, only_of_below hB _, old_at (new_at w _ _ rfl), new_at _ _ _ (by simp), ⟨h.lt, hT.lt.1, hT.lt.2⟩, ⟨h1, h2⟩⟩
theorem Sp.num (h : Sp w w1 r g b s t p x y z) (hR : RdAt w2 r g s q) (hG : w1.grownBy w2 (some r)) : Sp w w2 r g b s t q x y z := by
  have h1 := h.lt
  have h2 := h.ne
  have h3 := h.grown.size
  have l1 := world_lt h.ret
  have l2 := world_lt h.fld
  exact ⟨hR, h.tab.kept hG.size (grown_block hG (by omega) (fun e => h2.1 e.symm)) (fun hb => grown_block hG hb (fun e => h2.2 e.symm)), grown_trans h.grown hG, (grown_block hG l1 (by omega)).trans h.ret, (grown_block hG l2 (by omega)).trans h.fld, h1, h2⟩
theorem Sp.below (h : Sp w w1 r g b s t p x y z) (hB : Below w1.heap.size w1 w2) : Sp w w2 r g b s t p x y z := h.num (h.rd.held hB) (only_of_below hB _)
theorem Sp.setAt (h : Sp w w1 r g b s t p x y z) {i : Nat} {u x' y' z' : Value} (hf : (w1.setCell ⟨w.heap.size + 1, i, none⟩ u).heap[w.heap.size + 1]? = some (.cells #[x', y', z'] 45 (0, 0))) : Sp w (w1.setCell ⟨w.heap.size + 1, i, none⟩ u) r g b s t p x' y' z' := by
  have h1 := h.lt
  have hs := h.grown.size
  exact ⟨h.rd.far (q := ⟨w.heap.size + 1, i, none⟩) (by show r ≠ w.heap.size + 1; omega) u, h.tab.kept (by simp) (Below.heap_setCell w1 ⟨w.heap.size + 1, i, none⟩ u g (by show g ≠ w.heap.size + 1; omega)) (fun _ => Below.heap_setCell w1 ⟨w.heap.size + 1, i, none⟩ u b (by show b ≠ w.heap.size + 1; omega)),
    only_setCell (g := r) h.grown (p := ⟨w.heap.size + 1, i, none⟩) (.inr (by show w.heap.size ≤ w.heap.size + 1; omega)) u, (Below.heap_setCell w1 ⟨w.heap.size + 1, i, none⟩ u w.heap.size (by show w.heap.size ≠ w.heap.size + 1; omega)).trans h.ret, hf, h1, h.ne⟩
theorem Sp.set0 (h : Sp w w1 r g b s t p x y z) (u : Value) : Sp w (w1.setCell ⟨w.heap.size + 1, 0, none⟩ u) r g b s t p u y z := h.setAt (set3_0 h.fld)
theorem Sp.set1 (h : Sp w w1 r g b s t p x y z) (u : Value) : Sp w (w1.setCell ⟨w.heap.size + 1, 1, none⟩ u) r g b s t p x u z := h.setAt (set3_1 h.fld)
theorem Sp.set2 (h : Sp w w1 r g b s t p x y z) (u : Value) : Sp w (w1.setCell ⟨w.heap.size + 1, 2, none⟩ u) r g b s t p x y u := h.setAt (set3_2 h.fld)
/-- What is told. -/
theorem Sp.done (h : Sp w w1 r g b s t p x y z) (u0 u1 u2 : Value) : (((w1.setCell ⟨w.heap.size, 0, none⟩ u0).setCell ⟨w.heap.size, 1, none⟩ u1).setCell ⟨w.heap.size, 2, none⟩ u2).heap[w.heap.size]? = some (.cells #[u0, u1, u2] 45 (0, 0)) ∧
    RdAt (((w1.setCell ⟨w.heap.size, 0, none⟩ u0).setCell ⟨w.heap.size, 1, none⟩ u1).setCell ⟨w.heap.size, 2, none⟩ u2) r g s p ∧ TAt (((w1.setCell ⟨w.heap.size, 0, none⟩ u0).setCell ⟨w.heap.size, 1, none⟩ u1).setCell ⟨w.heap.size, 2, none⟩ u2) g b t ∧ w.grownBy (((w1.setCell ⟨w.heap.size, 0, none⟩ u0).setCell ⟨w.heap.size, 1, none⟩ u1).setCell ⟨w.heap.size, 2, none⟩ u2) (some r) := by
  have h1 := h.lt
  have e : ∀ k, k ≠ w.heap.size → (((w1.setCell ⟨w.heap.size, 0, none⟩ u0).setCell ⟨w.heap.size, 1, none⟩ u1).setCell ⟨w.heap.size, 2, none⟩ u2).heap[k]? = w1.heap[k]? := fun k hk =>
    ((Below.heap_setCell _ ⟨w.heap.size, 2, none⟩ u2 k hk).trans (Below.heap_setCell _ ⟨w.heap.size, 1, none⟩ u1 k hk)).trans (Below.heap_setCell _ ⟨w.heap.size, 0, none⟩ u0 k hk)
  refine ⟨set3_2 (set3_1 (set3_0 h.ret)), (e r (by omega)).trans h.rd, h.tab.kept (by simp) (e g (by omega)) (fun _ => e b (by omega)), ?_⟩
  have g1 := only_setCell (g := r) h.grown (p := ⟨w.heap.size, 0, none⟩) (.inr (Nat.le_refl _)) u0
  have g2 := only_setCell (g := r) g1 (p := ⟨w.heap.size, 1, none⟩) (.inr (Nat.le_refl _)) u1
  exact only_setCell (g := r) g2 (p := ⟨w.heap.size, 2, none⟩) (.inr (Nat.le_refl _)) u2
end
end Go.Proofs.Ytamgnbjdeoklbaa
