/- Texts of one proof, one behind the other: PkTxt, PkSpelt, PkField, PkWrite, PkOwn, PkAwake. -/
import Derived.Test.YtamgnbjdeoklbaaProg
import Derived.Test.YtamgnbjdeoklbaaBytes
import Derived.Test.YtamgnbjdeoklbaaPfMath
import Derived.Test.YtamgnbjdeoklbaaHfMath
import Derived.Test.YtamgnbjdeoklbaaHfSize
import Derived.Test.YtamgnbjdeoklbaaHfEncode
import Derived.Test.YtamgnbjdeoklbaaTbMath
import Derived.Test.YtamgnbjdeoklbaaTcMem
import Derived.Test.YtamgnbjdeoklbaaTcAdd
import Derived.Test.YtamgnbjdeoklbaaUpMath
import Derived.Test.YtamgnbjdeoklbaaPackShortProofG1
import Derived.Test.YtamgnbjdeoklbaaPackShortProofG2
import Derived.Test.YtamgnbjdeoklbaaTbFix
import Derived.Test.YtamgnbjdeoklbaaTcFind
import Derived.Test.YtamgnbjdeoklbaaUpFit
import Derived.Test.YtamgnbjdeoklbaaUpOwn
import Derived.WalkKit
import Derived.Lib.Hide
import Derived.Outline
import Derived.IntWalk
import Derived.WalkSpells
import Derived.StillTailTactics
import Derived.Deep.RegionHeld3
import Derived.Laws.Rows
import Derived.WalkLawsBesides
import Derived.Deep.CutRange
import Derived.Laws.OwnMore

/- A writer's text; a field by texts. For texts of at most 900000 bytes, blocks of at most 2 * 10^9. -/
namespace Go.Proofs.Ytamgnbjdeoklbaa
open Go Go.RowKit Bytes Pf Tb Pk Up

theorem enc_size (l : List UInt8) : Hf.sizeE l = (Hf.enc l).length := (Hf.enc_len l).symm
set_option maxHeartbeats 4000000 in
set_option maxRecDepth 100000 in
theorem wtext_any (B u g b : Nat) (v : Value) (l r : List UInt8) (t : Tab) (s : ByteArray) (w : World) (h : WrS w B u g b v l t) (hs : s.size ≤ 900000) (hr : Hid (layT s.data.toList = r)) (hmn : l.length + r.length ≤ 2000000000) :
    Calls Try.prog 64 #[.pointer (some ⟨u, 0, none⟩), .string s] w (WrTo w B u g b (l ++ r) t) := by
  obtain ⟨c, hc⟩ : ∃ c, mk (Hf.enc s.data.toList) = c := ⟨_, rfl⟩
  have hrr := hr.out
  unfold Pk.layT at hrr
  have hcl : (Hf.enc s.data.toList).length = c.size := by rw [← hc, Pk.size_mk]
  have htl : s.data.toList.length = s.size := (size_list s).symm
  rw [hcl, htl] at hrr
  have HZ := Lib.hid (show Hf.sizeE s.data.toList = c.size by rw [enc_size, hcl])
  have HC := Lib.hid hc
  have hce : Hf.enc s.data.toList = c.data.toList := by rw [← hc, mk_list]
  have H := Lib.hid h
  clear h hr
  by_cases hlt : c.size < s.size
  · rw [if_pos hlt, hce] at hrr
    obtain ⟨p, hpp⟩ : ∃ p, putL 127 128 c.size = p := ⟨_, rfl⟩
    rw [hpp] at hrr
    subst hrr
    have hpl : 1 ≤ p.length := by rw [← hpp]; exact putL_pos _ _ _
    have hci : (c.size : Int) < (s.size : Int) := by omega
    have hsum : l.length + (p.length + c.size) ≤ 2000000000 := by rw [List.length_append, ← size_list] at hmn; omega
    have HPP := Lib.hid (show putL (fullN 7) 128 c.size = p from hpp)
    clear hmn hpp hcl htl hce hc
    go_enter Try.func64, Try.ntmps64
    go_wp2_with fail
    refine (hsize_is s c.size _ (by omega) HZ).mono ?_
    rintro e w1 ⟨rfl, rfl⟩
    go_wp2_with fail
    refine (encode_is s c _ (by omega) HC).mono ?_
    rintro e w1 ⟨rfl, hB1⟩
    have H1 := Lib.hid (H.out.below hB1)
    have K1 := Lib.hid (show WrK B u g b w w1 from WrK.of_below hB1)
    clear hB1
    go_wp2_with fail
    refine (wint_any B u g b v l p t 128 c.size 7 w1 H1.out (by decide) (by omega) (by omega) (by omega) HPP (by omega)).mono ?_
    rintro e w2 ⟨rfl, v2, hS2, hK2⟩
    have H2 := Lib.hid hS2
    have K2 := Lib.hid (K1.out.trans hK2 (.inl rfl))
    clear hS2 hK2
    go_wp2_with fail
    refine (bstring_any B u g b v2 (l ++ p) c t w2 H2.out (fun e => by rw [(List.append_eq_nil_iff.1 e).2] at hpl; exact absurd hpl (by decide)) (by rw [List.length_append]; omega)).mono ?_
    rintro e w3 ⟨rfl, v3, hS3, hK3⟩
    have HE := Lib.hid (show ∃ v', WrS w3 B u g b v' (l ++ (p ++ c.data.toList)) t ∧ WrK B u g b w w3 from ⟨v3, by rw [← List.append_assoc]; exact hS3, K2.out.trans hK3 (.inl rfl)⟩)
    clear hS3 hK3
    go_wp2_with fail
    go_end0
    exact ⟨rfl, HE.out⟩
  · rw [if_neg hlt] at hrr
    obtain ⟨p, hpp⟩ : ∃ p, putL 127 0 s.size = p := ⟨_, rfl⟩
    rw [hpp] at hrr
    subst hrr
    have hpl : 1 ≤ p.length := by rw [← hpp]; exact putL_pos _ _ _
    have hci : ¬ ((c.size : Int) < (s.size : Int)) := by omega
    have hcd : decide ((c.size : Int) < (s.size : Int)) = false := decide_eq_false hci
    have hsum : l.length + (p.length + s.size) ≤ 2000000000 := by rw [List.length_append, ← size_list] at hmn; omega
    have HPP := Lib.hid (show putL (fullN 7) 0 s.size = p from hpp)
    have hcs : c.size ≤ 30 * s.size := by
      have h1 := Hf.enc_len s.data.toList
      have h2 := (Hf.encB_len s.data.toList).2
      omega
    clear hmn hpp hcl htl hce hc
    go_enter Try.func64, Try.ntmps64
    go_wp2_with fail
    refine (hsize_is s c.size _ (by omega) HZ).mono ?_
    rintro e w1 ⟨rfl, rfl⟩
    go_wp2_with fail
    refine (wint_any B u g b v l p t 0 s.size 7 w H.out (by decide) (by omega) (by omega) (by omega) HPP (by omega)).mono ?_
    rintro e w2 ⟨rfl, v2, hS2, hK2⟩
    have H2 := Lib.hid hS2
    have K2 := Lib.hid hK2
    clear hS2 hK2
    go_wp2_with fail
    refine (bstring_any B u g b v2 (l ++ p) s t w2 H2.out (fun e => by rw [(List.append_eq_nil_iff.1 e).2] at hpl; exact absurd hpl (by decide)) (by rw [List.length_append]; omega)).mono ?_
    rintro e w3 ⟨rfl, v3, hS3, hK3⟩
    have HE := Lib.hid (show ∃ v', WrS w3 B u g b v' (l ++ (p ++ s.data.toList)) t ∧ WrK B u g b w w3 from ⟨v3, by rw [← List.append_assoc]; exact hS3, K2.out.trans hK3 (.inl rfl)⟩)
    clear hS3 hK3
    go_wp2_with fail
    go_end0
    exact ⟨rfl, HE.out⟩
end Go.Proofs.Ytamgnbjdeoklbaa

/- A writer's field by texts. For names and values of at most 900000 bytes, blocks of at most 2 * 10^9. -/
namespace Go.Proofs.Ytamgnbjdeoklbaa
open Go Go.RowKit Bytes Pf Tb Pk Up

/-- A field's box. -/
def FBox (w : World) (X : Nat) (x : Fld) : Prop := w.heap[X]? = some (.cells #[.string x.name, .string x.val, .bool x.never] 45 (0, 0))
theorem FBox.kept {w w' : World} {B u g b X : Nat} {x : Fld} (h : FBox w X x) (hk : WrK B u g b w w') (hu : X ≠ u) (hg : X ≠ g) (hb : X ≠ b) : FBox w' X x :=
  hk.block X _ h hu hg hb (.inr fun c fz e => by injection e with _ e _; exact absurd e (by decide))
theorem FBox.c {w : World} {X : Nat} {x : Fld} (h : FBox w X x) : w.cell? ⟨X, 0, none⟩ = some (.string x.name) ∧ w.cell? ⟨X, 1, none⟩ = some (.string x.val) ∧ w.cell? ⟨X, 2, none⟩ = some (.bool x.never) :=
  ⟨cell_of_row _ X 0 _ _ _ h, cell_of_row _ X 1 _ _ _ h, cell_of_row _ X 2 _ _ _ h⟩
set_option maxHeartbeats 4000000 in
set_option maxRecDepth 100000 in
theorem wspelt_any (B u g b : Nat) (v : Value) (l r : List UInt8) (t : Tab) (f c n : Nat) (k : Int) (x : Fld) (w : World) (h : WrS w B u g b v l t) (hf : fullN k = f) (hc : c < 256) (hn : n ≤ 4294967295) (h1 : 1 ≤ k) (h2 : k ≤ 8) (hx1 : x.name.size ≤ 900000) (hx2 : x.val.size ≤ 900000) (hr : Hid (layF f c n x = r)) (hmn : l.length + r.length ≤ 2000000000) :
    Calls Try.prog 48 #[.pointer (some ⟨u, 0, none⟩), .int .u8 (c : Int), .int .i64 k, .int .i64 (n : Int), .agg #[.string x.name, .string x.val, .bool x.never]] w (WrTo w B u g b (l ++ r) t) := by
  subst hf
  have hrr := hr.out
  unfold Pk.layF at hrr
  obtain ⟨p, hp⟩ : ∃ p, putL (fullN k) c n = p := ⟨_, rfl⟩
  obtain ⟨q, hq⟩ : ∃ q, layT x.val.data.toList = q := ⟨_, rfl⟩
  rw [hp, hq] at hrr
  have HPP := Lib.hid hp
  have HQ := Lib.hid hq
  have hB0 := (Below.refl _ w).alloc (Nat.le_refl _) (.cells #[.string x.name, .string x.val, .bool x.never] 45)
  have HX0 := Lib.hid (show FBox (w.alloc (.cells #[.string x.name, .string x.val, .bool x.never] 45)) w.heap.size x from heap_alloc_new w _)
  have H0 := Lib.hid (h.below hB0)
  have K0 := Lib.hid (show WrK B u g b w (w.alloc (.cells #[.string x.name, .string x.val, .bool x.never] 45)) from WrK.of_below hB0)
  have hXu : w.heap.size ≠ u := by have := h.ult; omega
  have hXg : w.heap.size ≠ g := by have := h.tab.lt; omega
  have hXb : w.heap.size ≠ b := by have := h.tab.lt; omega
  clear h hB0 hp hq hr
  by_cases h0 : n = 0
  · subst h0
    obtain ⟨y, hy⟩ : ∃ y, layT x.name.data.toList = y := ⟨_, rfl⟩
    rw [if_pos rfl, hy] at hrr
    subst hrr
    have HY := Lib.hid hy
    clear hy
    rw [List.length_append, List.length_append] at hmn
    go_enter Try.func48, Try.ntmps48
    go_wp2_with fail
    refine (wint_any B u g b v l p t c 0 k _ H0.out hc (by omega) h1 h2 HPP (by omega)).mono ?_
    rintro e w1 ⟨rfl, v1, hS1, hK1⟩
    have HX1 := Lib.hid (HX0.out.kept hK1 hXu hXg hXb)
    have H1 := Lib.hid hS1
    have K1 := Lib.hid (K0.out.trans hK1 (.inl rfl))
    clear hS1 hK1
    obtain ⟨a0, a1, a2⟩ := HX1.out.c
    go_wp2_with fail
    refine (wtext_any B u g b v1 (l ++ p) y t x.name w1 H1.out hx1 HY (by rw [List.length_append]; omega)).mono ?_
    rintro e w2 ⟨rfl, v2, hS2, hK2⟩
    have HX2 := Lib.hid (HX1.out.kept hK2 hXu hXg hXb)
    have H2 := Lib.hid hS2
    have K2 := Lib.hid (K1.out.trans hK2 (.inl rfl))
    clear hS2 hK2 a0 a1 a2
    obtain ⟨a0, a1, a2⟩ := HX2.out.c
    go_wp2_with fail
    refine (wtext_any B u g b v2 (l ++ p ++ y) q t x.val w2 H2.out hx2 HQ (by rw [List.length_append, List.length_append]; omega)).mono ?_
    rintro e w3 ⟨rfl, v3, hS3, hK3⟩
    have HE := Lib.hid (show ∃ v', WrS w3 B u g b v' (l ++ (p ++ (y ++ q))) t ∧ WrK B u g b w w3 from ⟨v3, by rw [← List.append_assoc, ← List.append_assoc]; exact hS3, K2.out.trans hK3 (.inl rfl)⟩)
    clear hS3 hK3 a0 a1 a2
    go_wp2_with fail
    go_end0
    exact ⟨rfl, HE.out⟩
  · rw [if_neg h0, List.nil_append] at hrr
    subst hrr
    have hnz : ((n : Int) == 0) = false := beq_eq_false_iff_ne.2 (by omega)
    have hnd : decide ((n : Int) = 0) = false := decide_eq_false (by omega)
    rw [List.length_append] at hmn
    go_enter Try.func48, Try.ntmps48
    go_wp2_with fail
    refine (wint_any B u g b v l p t c n k _ H0.out hc (by omega) h1 h2 HPP (by omega)).mono ?_
    rintro e w1 ⟨rfl, v1, hS1, hK1⟩
    have HX1 := Lib.hid (HX0.out.kept hK1 hXu hXg hXb)
    have H1 := Lib.hid hS1
    have K1 := Lib.hid (K0.out.trans hK1 (.inl rfl))
    clear hS1 hK1
    obtain ⟨a0, a1, a2⟩ := HX1.out.c
    go_wp2_with fail
    refine (wtext_any B u g b v1 (l ++ p) q t x.val w1 H1.out hx2 HQ (by rw [List.length_append]; omega)).mono ?_
    rintro e w3 ⟨rfl, v3, hS3, hK3⟩
    have HE := Lib.hid (show ∃ v', WrS w3 B u g b v' (l ++ (p ++ q)) t ∧ WrK B u g b w w3 from ⟨v3, by rw [← List.append_assoc]; exact hS3, K1.out.trans hK3 (.inl rfl)⟩)
    clear hS3 hK3 a0 a1 a2
    go_wp2_with fail
    go_end0
    exact ⟨rfl, HE.out⟩
end Go.Proofs.Ytamgnbjdeoklbaa

/- A writer's next field. For names and values of at most 900000 bytes, blocks of at most 2 * 10^9. -/
namespace Go.Proofs.Ytamgnbjdeoklbaa
open Go Go.RowKit Bytes Pf Tb Pk Up

namespace Pk
/-- What a writer's call leaves that may work on the table. -/
def WrEnd (w : World) (B u g b : Nat) (L : List UInt8) (t : Tab) (e : Ending) (w' : World) : Prop := e = .returned (.tuple #[]) ∧ ∃ v' b', WrS w' B u g b' v' L t ∧ WrK B u g b w w' ∧ (b' = b ∨ b' = g ∨ w.heap.size ≤ b')
theorem WrTo.to {w w1 w' : World} {B u g b : Nat} {L : List UInt8} {t : Tab} {e : Ending} (h : WrTo w1 B u g b L t e w') (hk : WrK B u g b w w1) : WrEnd w B u g b L t e w' := by
  obtain ⟨he, v', hS, hK⟩ := h
  exact ⟨he, v', b, hS, hk.trans hK (.inl rfl), .inl rfl⟩
theorem WrK.of_kept2 {w w1 : World} {B u g b : Nat} (h : Kept2 g b w w1) : WrK B u g b w w1 := ⟨h.os, h.tape, h.output, h.size, fun k _ hk _ h2 h3 _ => (h.block k (world_lt hk) h2 h3).trans hk⟩
theorem WrS.turn {w w1 : World} {B u g b b' : Nat} {v : Value} {l : List UInt8} {t t' : Tab} (h : WrS w B u g b v l t) (hT : TAt w1 g b' t') (hK : Kept2 g b w w1) (hb : b' = b ∨ b' = g ∨ w.heap.size ≤ b') (h4 : Ok4 t') : WrS w1 B u g b' v l t' := by
  obtain ⟨p, hp, hc⟩ := h.cells
  have hu := h.ult
  refine ⟨h.le, ⟨p, hp, (hK.block u hu h.ug h.ub).trans hc⟩, own_keep h.own (fun k hv => hK.block k (h.vlt hv).1 (h.vu hv).2 (fun e => h.nb (by rw [hv, e]))), ?_, h.nil, hT, h4, h.ug, ?_⟩
  · rcases hb with e | e | e
    · rw [e]; exact h.nb
    · rw [e]; exact fun e2 => (h.vu e2).2 rfl
    · intro e2
      have := (h.vlt e2).1
      omega
  · rcases hb with e | e | e
    · rw [e]; exact h.ub
    · rw [e]; exact h.ug
    · omega
/-- What stands while a field is laid. -/
def FSt (w : World) (B u g b X : Nat) (v : Value) (l : List UInt8) (t : Tab) (x : Fld) (W : World) : Prop := WrS W B u g b v l t ∧ FBox W X x ∧ WrK B u g b w W
/-- The same, with what a walk asks of it. -/
def FSc (w : World) (B u g b X : Nat) (v : Value) (l : List UInt8) (t : Tab) (xn xv : ByteArray) (nv : Bool) (W : World) : Prop := W.cell? ⟨u, 2, none⟩ = some (.pointer (some ⟨g, 0, none⟩)) ∧ W.cell? ⟨X, 0, none⟩ = some (.string xn) ∧ W.cell? ⟨X, 1, none⟩ = some (.string xv) ∧ W.cell? ⟨X, 2, none⟩ = some (.bool nv) ∧ FSt w B u g b X v l t ⟨xn, xv, nv⟩ W
theorem FSt.sc {w W : World} {B u g b X : Nat} {v : Value} {l : List UInt8} {t : Tab} {xn xv : ByteArray} {nv : Bool} (h : FSt w B u g b X v l t ⟨xn, xv, nv⟩ W) : FSc w B u g b X v l t xn xv nv W := by
  obtain ⟨p, _, hc⟩ := h.1.cells
  obtain ⟨a0, a1, a2⟩ := h.2.1.c
  exact ⟨cell_of_row _ u 2 _ _ _ hc, a0, a1, a2, h⟩
theorem FSt.below {w W W' : World} {B u g b X : Nat} {v : Value} {l : List UInt8} {t : Tab} {x : Fld} (h : FSt w B u g b X v l t x W) (hB : Below W.heap.size W W') : FSt w B u g b X v l t x W' :=
  ⟨h.1.below hB, (hB.block X (world_lt h.2.1)).trans h.2.1, h.2.2.below hB⟩
end Pk
/-- A field's size. -/
theorem fsize_any (xn xv : ByteArray) (nv : Bool) (w : World) (h1 : xn.size ≤ 900000) (h2 : xv.size ≤ 900000) :
    Calls Try.prog 49 #[.agg #[.string xn, .string xv, .bool nv]] w fun e w' => e = .returned (.int .i64 ((xn.size : Int) + (xv.size : Int) + 32)) ∧ Below w.heap.size w w' := by
  go_enter Try.func49, Try.ntmps49
  go_wp2_with fail
  go_ret
  exact ⟨rfl, (Below.refl _ w).alloc (Nat.le_refl _) _⟩
theorem one_never {t : Tab} {x : Fld} {n : Nat} {q : Bool} (hf : findT x.name x.val (fixedT ++ t.2) = (n, q)) (h : x.never = true) : Pk.one t x = (layF 15 16 n x, t) := by unfold Pk.one; rw [hf, if_pos h]
theorem one_whole {t : Tab} {x : Fld} {n : Nat} (hf : findT x.name x.val (fixedT ++ t.2) = (n, true)) (h : x.never = false) : Pk.one t x = (putL 127 128 n, t) := by unfold Pk.one; rw [hf, h]; rfl
theorem one_added {t : Tab} {x : Fld} {n : Nat} (hf : findT x.name x.val (fixedT ++ t.2) = (n, false)) (h : x.never = false) (hs : sz (x.name, x.val) ≤ t.1) : Pk.one t x = (layF 63 64 n x, addT t (x.name, x.val)) := by unfold Pk.one; rw [hf, h]; simp only; rw [if_neg (by decide), if_neg (by decide), if_pos hs]
theorem one_other {t : Tab} {x : Fld} {n : Nat} (hf : findT x.name x.val (fixedT ++ t.2) = (n, false)) (h : x.never = false) (hs : ¬ sz (x.name, x.val) ≤ t.1) : Pk.one t x = (layF 15 0 n x, t) := by unfold Pk.one; rw [hf, h]; simp only; rw [if_neg (by decide), if_neg (by decide), if_neg hs]

set_option maxHeartbeats 8000000 in
set_option maxRecDepth 100000 in
theorem wfield_any (B u g b : Nat) (v : Value) (l r : List UInt8) (t t' : Tab) (xn xv : ByteArray) (nv : Bool) (w : World) (h : WrS w B u g b v l t) (hx1 : xn.size ≤ 900000) (hx2 : xv.size ≤ 900000) (hr : Hid (Pk.one t ⟨xn, xv, nv⟩ = (r, t'))) (hmn : l.length + r.length ≤ 2000000000) :
    Calls Try.prog 30 #[.pointer (some ⟨u, 0, none⟩), .agg #[.string xn, .string xv, .bool nv]] w (WrEnd w B u g b (l ++ r) t') := by
  have hB0 := (Below.refl _ w).alloc (Nat.le_refl _) (.cells #[.string xn, .string xv, .bool nv] 45)
  have H0d := Lib.hid (show FSc w B u g b w.heap.size v l t xn xv nv ((w.alloc (.cells #[.string xn, .string xv, .bool nv] 45)).drew) from FSt.sc ⟨h.below hB0.drew, heap_alloc_new w _, WrK.of_below hB0.drew⟩)
  have hXu : w.heap.size ≠ u := by have := h.ult; omega
  have hXg : w.heap.size ≠ g := by have := h.tab.lt; omega
  have hXb : w.heap.size ≠ b := by have := h.tab.lt; omega
  have h4 := h.ok4
  have hM : t.1 ≤ 4096 := h4.1
  obtain ⟨⟨n, q⟩, hf⟩ : ∃ z, findT xn xv (fixedT ++ t.2) = z := ⟨_, rfl⟩
  have hfew := table_few h4
  have hn : n ≤ 200 := by
    by_cases h0 : n = 0
    · omega
    · have := (find_name hf h0).2.1
      omega
  have HF := Lib.hid hf
  have HFI : Hid (∀ W : World, FSt w B u g b w.heap.size v l t ⟨xn, xv, nv⟩ W → Calls Try.prog 47 #[.pointer (some ⟨g, 0, none⟩), .string xn, .string xv] W fun e w' => e = .returned (.tuple #[.int .i64 (n : Int), .bool q]) ∧ FSc w B u g b w.heap.size v l t xn xv nv w') := Lib.hid fun W hW => (find_is g b t xn xv n q W (Lib.hid hW.1.tab) (Lib.hid (Ok4.fit h4)) HF).mono fun e w' ⟨he, hB⟩ => ⟨he, (hW.below hB).sc⟩
  have HSI : Hid (∀ W : World, FSt w B u g b w.heap.size v l t ⟨xn, xv, nv⟩ W → Calls Try.prog 49 #[.agg #[.string xn, .string xv, .bool nv]] W fun e w' => e = .returned (.int .i64 ((xn.size : Int) + (xv.size : Int) + 32)) ∧ FSc w B u g b w.heap.size v l t xn xv nv w') := Lib.hid fun W hW => (fsize_any xn xv nv W hx1 hx2).mono fun e w' ⟨he, hB⟩ => ⟨he, (hW.below hB).sc⟩
  have HMO : Hid (∀ W : World, FSt w B u g b w.heap.size v l t ⟨xn, xv, nv⟩ W → Calls Try.prog 18 #[.pointer (some ⟨g, 0, none⟩)] W fun e w' => e = .returned (.int .i64 (t.1 : Int)) ∧ FSc w B u g b w.heap.size v l t xn xv nv w') := Lib.hid fun W hW => (most_t g b t (t.1 : Int) W (Lib.hid hW.1.tab) (Lib.hid rfl)).mono fun e w' ⟨he, hB⟩ => ⟨he, by rw [hB]; exact hW.sc⟩
  obtain ⟨c0, c1, c2, c3, cst⟩ := H0d.out
  clear h hB0 hf
  go_enter Try.func30, Try.ntmps30
  go_upto_region 1 with fail
  go_cut [4, 5] from 1 to 2 (fun s4 s5 wx => s4 = .int .i64 (n : Int) ∧ s5 = .bool q ∧ Hid (FSc w B u g b w.heap.size v l t xn xv nv wx))
  case first =>
    go_region_held3 (fun W => W.cell? ⟨u, 2, none⟩ = some (.pointer (some ⟨g, 0, none⟩)) ∧ W.cell? ⟨w.heap.size, 0, none⟩ = some (.string xn) ∧ W.cell? ⟨w.heap.size, 1, none⟩ = some (.string xv) ∧ W.cell? ⟨w.heap.size, 2, none⟩ = some (.bool nv) ∧ FSt w B u g b w.heap.size v l t ⟨xn, xv, nv⟩ W) (first | exact H0d.out | (refine ⟨?_, ?_, ?_, ?_, ?_⟩ <;> assumption)) (first | (go_at_call 47; (with_reducible refine (HFI.out _ ?_).mono ?_); (first | exact cst | assumption); rintro e w5 ⟨rfl, c0, c1, c2, c3, cst⟩))
    go_wp2_with fail
    go_meet
    exact ⟨rfl, rfl, Lib.hid ⟨by assumption, by assumption, by assumption, by assumption, by assumption⟩⟩
  case rest =>
    obtain ⟨rfl, rfl, HS⟩ := hcut
    generalize wc = w1 at *
    clear c0 c1 c2 c3 cst H0d HFI
    obtain ⟨c0, c1, c2, c3, cst⟩ := HS.out
    have hO := cst.1
    have hK := cst.2.2
    have HO := Lib.hid hO
    have HK := Lib.hid hK
    clear hO hK
    cases nv with
    | true =>
      have hr2 := hr.out
      rw [one_never HF.out rfl] at hr2
      injection hr2 with hr2 ht2
      subst ht2
      have HR := Lib.hid hr2
      clear hr2 cst
      go_wp2_with fail
      refine (wspelt_any B u g b v l r t 15 16 n 4 ⟨xn, xv, true⟩ w1 HO.out full4 (by decide) (by omega) (by omega) (by omega) hx1 hx2 HR (by omega)).mono ?_
      intro e w2 hE
      have HE := hE.to HK.out
      obtain ⟨rfl, HE⟩ := HE
      go_wp2_with fail
      go_end0
      exact ⟨rfl, HE⟩
    | false =>
      cases q with
      | true =>
        have hr2 := hr.out
        rw [one_whole HF.out rfl] at hr2
        injection hr2 with hr2 ht2
        subst ht2
        have HR := Lib.hid (show putL (fullN 7) 128 n = r from hr2)
        clear hr2 cst
        go_wp2_with fail
        refine (wint_any B u g b v l r t 128 n 7 w1 HO.out (by decide) (by omega) (by omega) (by omega) HR (by omega)).mono ?_
        intro e w2 hE
        have HE := hE.to HK.out
        obtain ⟨rfl, HE⟩ := HE
        go_wp2_with fail
        go_end0
        exact ⟨rfl, HE⟩
      | false =>
        have hszz : sz (xn, xv) = xn.size + xv.size + 32 := rfl
        obtain ⟨d, hd⟩ : ∃ d, decide ((xn.size : Int) + (xv.size : Int) + 32 ≤ (t.1 : Int)) = d := ⟨_, rfl⟩
        have cst0 := cst
        have H1d := Lib.hid (show FSc w B u g b w.heap.size v l t xn xv false w1.drew from (cst.below (Below.refl _ w1).drew).sc)
        clear cst
        obtain ⟨c0, c1, c2, c3, cst⟩ := H1d.out
        go_upto_region 7 with fail
        go_cut [34] from 7 to 8 (fun s wx => s = .bool d ∧ Hid (FSc w B u g b w.heap.size v l t xn xv false wx))
        case first =>
          go_region_held3 (fun W => W.cell? ⟨u, 2, none⟩ = some (.pointer (some ⟨g, 0, none⟩)) ∧ W.cell? ⟨w.heap.size, 0, none⟩ = some (.string xn) ∧ W.cell? ⟨w.heap.size, 1, none⟩ = some (.string xv) ∧ W.cell? ⟨w.heap.size, 2, none⟩ = some (.bool false) ∧ FSt w B u g b w.heap.size v l t ⟨xn, xv, false⟩ W) (first | exact H1d.out | (refine ⟨?_, ?_, ?_, ?_, ?_⟩ <;> assumption))
            (first | (go_at_call 49; (with_reducible refine (HSI.out _ ?_).mono ?_); (first | exact cst | assumption); rintro e w5 ⟨rfl, c0, c1, c2, c3, cst⟩) | (go_at_call 18; (with_reducible refine (HMO.out _ ?_).mono ?_); (first | exact cst | assumption); rintro e w5 ⟨rfl, c0, c1, c2, c3, cst⟩))
          all_goals
            go_wp2_with fail
            go_meet
            exact ⟨rfl, Lib.hid ⟨by assumption, by assumption, by assumption, by assumption, by assumption⟩⟩
        case rest =>
          obtain ⟨rfl, HS2⟩ := hcut
          generalize wc = w2 at *
          clear c0 c1 c2 c3 cst H1d HSI HMO HS HO HK cst0
          obtain ⟨c0, c1, c2, c3, cst⟩ := HS2.out
          have hO := cst.1
          have hK := cst.2.2
          have hX := cst.2.1
          have HO := Lib.hid hO
          have HK := Lib.hid hK
          have HX := Lib.hid hX
          clear hO hK hX cst HS2
          cases d with
          | true =>
            have hle := of_decide_eq_true hd
            have hr2 := hr.out
            rw [one_added HF.out rfl (by show sz (xn, xv) ≤ t.1; omega)] at hr2
            injection hr2 with hr2 ht2
            subst ht2
            have HR := Lib.hid hr2
            clear hr2
            go_wp2_with fail
            refine (wspelt_any B u g b v l r t 63 64 n 6 ⟨xn, xv, false⟩ w2 HO.out full6 (by decide) (by omega) (by omega) (by omega) hx1 hx2 HR (by omega)).mono ?_
            rintro e w3 ⟨rfl, v3, hS3, hK3⟩
            have H3 := Lib.hid hS3.drew
            have HX3 := Lib.hid (HX.out.kept hK3 hXu hXg hXb)
            have HK3 := Lib.hid (HK.out.trans hK3 (.inl rfl))
            have h3 := H3.out.cells
            clear hS3 hK3 c0 c1 c2 c3
            obtain ⟨a0, a1, a2⟩ := HX3.out.c
            obtain ⟨p, _, hc⟩ := h3
            have b2 : w3.cell? ⟨u, 2, none⟩ = some (.pointer (some ⟨g, 0, none⟩)) := cell_of_row w3 u 2 _ _ _ hc
            have b2d : w3.drew.cell? ⟨u, 2, none⟩ = some (.pointer (some ⟨g, 0, none⟩)) := b2
            have a0d : w3.drew.cell? ⟨w.heap.size, 0, none⟩ = some (.string xn) := a0
            have a1d : w3.drew.cell? ⟨w.heap.size, 1, none⟩ = some (.string xv) := a1
            clear hc
            go_wp2_with fail
            go_still_tail 8, (by kernel_rfl)
            change wpList _ _ _ _ _ w3.drew
            have hK4 : WrK B u g b w w3.drew := HK3.out.below (Below.refl _ w3).drew
            have HK4 := Lib.hid hK4
            clear hK4 HK3 HX3 a0 a1 a2 b2
            generalize w3.drew = w4 at *
            go_wp2_with fail
            refine (add_is g b t xn xv w4 (Lib.hid H3.out.tab) (Lib.hid (Ok4.fit h4)) (by omega) (by omega)).mono ?_
            rintro e w5 ⟨rfl, b5, hT5, hK5, hb5⟩
            have HE := Lib.hid (show ∃ v' b', WrS w5 B u g b' v' (l ++ r) (addT t (xn, xv)) ∧ WrK B u g b w w5 ∧ (b' = b ∨ b' = g ∨ w.heap.size ≤ b') from
              ⟨v3, b5, H3.out.turn hT5 hK5 hb5 (h4.add _), HK4.out.trans (WrK.of_kept2 hK5) (.inl rfl), by have := HK4.out.size; omega⟩)
            clear hT5 hK5 hb5
            go_wp2_with fail
            go_end0
            exact ⟨rfl, HE.out⟩
          | false =>
            have hle := of_decide_eq_false hd
            have hr2 := hr.out
            rw [one_other HF.out rfl (by show ¬ sz (xn, xv) ≤ t.1; omega)] at hr2
            injection hr2 with hr2 ht2
            subst ht2
            have HR := Lib.hid hr2
            clear hr2
            go_wp2_with fail
            refine (wspelt_any B u g b v l r t 15 0 n 4 ⟨xn, xv, false⟩ w2 HO.out full4 (by decide) (by omega) (by omega) (by omega) hx1 hx2 HR (by omega)).mono ?_
            intro e w3 hE
            have HE := hE.to HK.out
            obtain ⟨rfl, HE⟩ := HE
            go_wp2_with fail
            go_end0
            exact ⟨rfl, HE⟩
end Go.Proofs.Ytamgnbjdeoklbaa

/- An encoder's Write. For few fields: their number, their names' and values' bytes together below 3000. -/
namespace Go.Proofs.Ytamgnbjdeoklbaa
open Go Go.RowKit Bytes Pf Tb Pk Up

namespace Pk
/-- What stands while a block is written: the encoder's row, the writer, all else below. -/
structure WSt (w0 : World) (c g b0 y : Nat) (u b : Nat) (v : Value) (l : List UInt8) (t : Tab) (w : World) : Prop where
  enc : w.heap[c]? = some (.cells #[.pointer (some ⟨g, 0, none⟩), .bool false, .int .i64 (y : Int)] 61 (0, 0))
  wr : WrS w w0.heap.size u g b v l t
  k3 : K3 c g b0 w0 w
  hb : b = b0 ∨ b = g ∨ w0.heap.size ≤ b
  clt : c < w0.heap.size
  cg : c ≠ g
  cb : c ≠ b
section
variable {w0 w w1 : World} {c g b0 y u b : Nat} {v : Value} {l : List UInt8} {t : Tab}
theorem WSt.cu (h : WSt w0 c g b0 y u b v l t w) : c ≠ u := by have := h.wr.le; have := h.clt; omega
theorem WSt.below (h : WSt w0 c g b0 y u b v l t w) (hB : Below w.heap.size w w1) : WSt w0 c g b0 y u b v l t w1 :=
  ⟨(hB.block c (world_lt h.enc)).trans h.enc, h.wr.below hB, h.k3.writer (WrK.of_below (u := u) (b := b) hB) h.wr.le h.hb, h.hb, h.clt, h.cg, h.cb⟩
theorem WSt.step {v' : Value} {l' : List UInt8} {t' : Tab} {b' : Nat} (h : WSt w0 c g b0 y u b v l t w) (hS : WrS w1 w0.heap.size u g b' v' l' t') (hK : WrK w0.heap.size u g b w w1) (hb : b' = b ∨ b' = g ∨ w.heap.size ≤ b') : WSt w0 c g b0 y u b' v' l' t' w1 := by
  have hs := h.k3.size
  have hc := world_lt h.enc
  have hcu := h.cu
  refine ⟨hK.block c _ h.enc hcu h.cg h.cb (.inl h.clt), hS, h.k3.writer hK h.wr.le h.hb, ?_, h.clt, h.cg, ?_⟩
  · rcases hb with e | e | e
    · rw [e]; exact h.hb
    · exact .inr (.inl e)
    · exact .inr (.inr (by omega))
  · rcases hb with e | e | e
    · rw [e]; exact h.cb
    · rw [e]; exact h.cg
    · omega
theorem WrS.far {B : Nat} (h : WrS w B u g b v l t) (hO : Only c w w1) (hc : c < B) (hg : c ≠ g) (hb : c ≠ b) : WrS w1 B u g b v l t := by
  obtain ⟨p, hp, hcc⟩ := h.cells
  have hle := h.le
  exact ⟨h.le, ⟨p, hp, (hO.block u (by omega)).trans hcc⟩, own_keep h.own (fun k hk => hO.block k (by have := (h.vlt hk).2; omega)), h.nb, h.nil, h.tab.kept (Nat.le_of_eq hO.size.symm) (hO.block g (fun e => hg e.symm)) (fun _ => hO.block b (fun e => hb e.symm)), h.ok4, h.ug, h.ub⟩
/-- Fields that came in, below the encoder. -/
theorem RdF.k3 {B : Nat} {a : Option Addr} {L : List Fld} (h : RdF w0 B a L) (hB : B ≤ w0.heap.size) (hc : B ≤ c) (hg : B ≤ g) (hb : B ≤ b0) (W : World) (hK : K3 c g b0 w0 W) : RdF W W.heap.size a L := h.on (K3.below (Below.refl B w0) hK hc hg hb hB) (Nat.le_trans hB hK.size)
/-- Fields in a block that is none of the encoder's. -/
theorem RdF.apart {k : Nat} {L : List Fld} (h : RdF w0 w0.heap.size (some ⟨k, 0, none⟩) L) (hc : k ≠ c) (hg : k ≠ g) (hb : k ≠ b0) (W : World) (hK : K3 c g b0 w0 W) : RdF W W.heap.size (some ⟨k, 0, none⟩) L := fun j hj => by
  obtain ⟨b, off, e, hlt, c0, c1, c2, r⟩ := h j hj
  injection e with e
  injection e with e1 e2
  subst e1 e2
  have hs := hK.block k hlt hc hg hb
  exact ⟨k, 0, rfl, Nat.lt_of_lt_of_le hlt hK.size, (World.cell?_of_block (a := ⟨k, 0 + j * 3, none⟩) hs).trans c0, (World.cell?_of_block (a := ⟨k, 0 + j * 3 + 1, none⟩) hs).trans c1, (World.cell?_of_block (a := ⟨k, 0 + j * 3 + 2, none⟩) hs).trans c2, r⟩
end
end Pk

set_option maxHeartbeats 8000000 in
set_option maxRecDepth 100000 in
theorem ewrite_any (c g b : Nat) (E : Pk.Enc) (L : List Fld) (a : Option Addr) (n cap : Nat) (r : ByteArray) (w : World) (h : EnAt w c g b E) (hF : Hid (∀ W, K3 c g b w W → RdF W W.heap.size a L)) (hL : Hid (L.length = n)) (hf : Hid (L.length + sumZ L < 3000)) (hr : Hid (mk (wrote E L) = r)) :
    Calls Try.prog 12 #[.pointer (some ⟨c, 0, none⟩), .slice a n cap] w fun e w' => e = .returned (.string r) ∧ ∃ b', EnAt w' c g b' (behind E L) ∧ K3 c g b w w' ∧ (b' = b ∨ b' = g ∨ w.heap.size ≤ b') := by
  have hlen := wrote_len h.ok4 hf.out
  have hn3 : n < 3000 := by have := hf.out; have := hL.out; omega
  have HLEN := Lib.hid hlen
  obtain ⟨y, hc, hy4, hfold⟩ := h.cells
  obtain ⟨q, hq⟩ : ∃ q, chg E = q := ⟨_, rfl⟩
  rw [hq] at hc
  have hM4 := h.ok4.1
  have hl := h.lt
  have hAl := (Below.refl _ w).alloc (Nat.le_refl _) (.cells #[.pointer none, .slice none 0 0, .pointer (some ⟨g, 0, none⟩)] 75)
  have H0 : Hid (WrS (w.alloc (.cells #[.pointer none, .slice none 0 0, .pointer (some ⟨g, 0, none⟩)] 75)) w.heap.size w.heap.size g b (.slice none 0 0) [] E.1) := Lib.hid
    ⟨Nat.le_refl _, ⟨_, .inl rfl, heap_alloc_new w _⟩, ⟨rfl, .inl ⟨rfl, rfl⟩⟩, fun e => by simp [Value.ownBlock] at e, fun _ => rfl, h.tab.below hAl, h.ok4, by omega, by omega⟩
  have HW0 : Hid ((w.alloc (.cells #[.pointer none, .slice none 0 0, .pointer (some ⟨g, 0, none⟩)] 75)).heap[c]? = some (.cells #[.pointer (some ⟨g, 0, none⟩), .bool q, .int .i64 (y : Int)] 61 (0, 0))) := Lib.hid ((hAl.block c hl.1).trans hc)
  have HK0 := Lib.hid (show K3 c g b w (w.alloc (.cells #[.pointer none, .slice none 0 0, .pointer (some ⟨g, 0, none⟩)] 75)) from K3.of_below hAl)
  have c0 : w.cell? ⟨c, 0, none⟩ = some (.pointer (some ⟨g, 0, none⟩)) := cell_of_row _ c 0 _ _ _ hc
  have HC := Lib.hid (And.intro hl.1 (And.intro h.cg h.cb))
  have HQ := Lib.hid hq
  have HH := Lib.hid (heads_is hfold)
  have h4 := Lib.hid h.ok4
  clear h hc hAl hfold hq hl hlen
  go_enter Try.func12, Try.ntmps12
  go_upto_region 2 with fail
  generalize (w.alloc (.cells #[.pointer none, .slice none 0 0, .pointer (some ⟨g, 0, none⟩)] 75)) = w1 at *
  have d1 : w1.cell? ⟨c, 1, none⟩ = some (.bool q) := cell_of_row _ c 1 _ _ _ HW0.out
  have d2 : w1.cell? ⟨c, 2, none⟩ = some (.int .i64 (y : Int)) := cell_of_row _ c 2 _ _ _ HW0.out
  clear c0
  go_upto_if 17 with fail
  go_cut [] from 18 to 26 (fun wx => ∃ v, Hid (WSt w c g b y w.heap.size b v (heads E) E.1 wx))
  case first =>
    cases q with
    | true =>
      have hE2 : E.2 ≠ [] := by
        have := HQ.out
        unfold chg at this
        intro e
        rw [e] at this
        exact absurd this (by decide)
      obtain ⟨s, hs⟩ : ∃ s, (if y < E.1.1 then putL 31 32 y else []) ++ putL 31 32 E.1.1 = s := ⟨_, rfl⟩
      have hh := HH.out
      rw [if_neg hE2, hs] at hh
      have HS := Lib.hid hs
      have hsl : s.length ≤ 22 := by
        rw [← hs, List.length_append]
        have h1 := putL_few 31 32 y (by omega)
        have h2 := putL_few 31 32 E.1.1 (by omega)
        split
        · omega
        · rw [List.length_nil]; omega
      have HHD := Lib.hid hh
      clear hh hs
      go_wp2_with fail
      refine (wsizes_any w.heap.size w.heap.size g b _ [] s E.1 y E.1.1 w1 H0.out rfl hy4 HS (by rw [List.length_nil]; omega)).mono ?_
      rintro e w2 ⟨rfl, v2, hS2, hK2⟩
      have hcl := HC.out
      have hc2 : w2.heap[c]? = some (.cells #[.pointer (some ⟨g, 0, none⟩), .bool true, .int .i64 (y : Int)] 61 (0, 0)) := hK2.block c _ HW0.out (by omega) hcl.2.1 hcl.2.2 (.inl hcl.1)
      have e1 : w2.cell? ⟨c, 1, none⟩ = some (.bool true) := cell_of_row _ c 1 _ _ _ hc2
      have f1 : w2.frozen? ⟨c, 1, none⟩ = false := by simp [World.frozen?, hc2]
      have HE := Lib.hid (show WSt w c g b y w.heap.size b v2 (heads E) E.1 (w2.setCell ⟨c, 1, none⟩ (.bool false)) from by
        rw [HHD.out]
        exact ⟨by simp [World.setCell, Array.getElem?_modify, hc2], hS2.far (Only.set c 1 w2 (.bool false)) hcl.1 hcl.2.1 hcl.2.2, (HK0.out.writer hK2 (Nat.le_refl _) (.inl rfl)).set 1 _, .inl rfl, hcl.1, hcl.2.1, hcl.2.2⟩)
      clear hS2 hK2 hc2
      go_wp2_with fail
      go_meet
      exact ⟨_, HE⟩
    | false =>
      have hE2 : E.2 = [] := by
        have := HQ.out
        unfold chg at this
        simpa using this
      have hh := HH.out
      rw [if_pos hE2] at hh
      have hcl := HC.out
      have HE := Lib.hid (show WSt w c g b y w.heap.size b (.slice none 0 0) (heads E) E.1 w1 from by
        rw [hh]
        exact ⟨HW0.out, H0.out, HK0.out, .inl rfl, hcl.1, hcl.2.1, hcl.2.2⟩)
      clear hh hE2
      go_wp2_with fail
      go_meet
      exact ⟨_, HE⟩
  case rest =>
    obtain ⟨v1, HS1⟩ := hcut
    generalize wc = w2 at *
    clear d1 d2 H0 HW0 HK0
    have HSUM := Lib.hid (show heads E ++ (all E.1 (L.drop 0)).1 = wrote E L by rw [List.drop_zero]; rfl)
    have HALL := Lib.hid (show (all E.1 (L.drop 0)).2 = (all E.1 L).2 by rw [List.drop_zero])
    have hni : (0 : Int) ≤ (n : Int) := by omega
    go_wp2_with fail
    go_loopw [29] (fun i wr => ∃ (j : Nat) (l : List UInt8) (t : Tab) (b' : Nat) (v : Value), j ≤ n ∧ i = .int .i64 (j : Int) ∧ Hid (WSt w c g b y w.heap.size b' v l t wr) ∧ Hid (l ++ (all t (L.drop j)).1 = wrote E L) ∧ Hid ((all t (L.drop j)).2 = (all E.1 L).2)) (fun i _ => n + 1 - (intOf i).toNat)
    case atStart => exact ⟨0, _, _, b, v1, Nat.zero_le _, rfl, HS1, HSUM, HALL⟩
    case round =>
      obtain ⟨j, l, t, b', v, hj, rfl, HS, HU, HA⟩ := hrel
      clear HSUM HALL HS1
      by_cases hlt : j < n
      · have hltL : j < L.length := by rw [hL.out]; exact hlt
        have hsm := small_few hf.out _ (fldAt_mem hltL)
        have hdr := fldAt_drop hltL
        obtain ⟨bb, off, rfl, hbb, x0, x1, x2, _⟩ := hF.out _ HS.out.k3 j hltL
        obtain ⟨⟨xn, xv, nv⟩, hx⟩ : ∃ x, fldAt L j = x := ⟨_, rfl⟩
        rw [hx] at x0 x1 x2 hdr hsm
        simp only at x0 x1 x2 hsm
        obtain ⟨⟨p, t'⟩, hone⟩ : ∃ z, Pk.one t ⟨xn, xv, nv⟩ = z := ⟨_, rfl⟩
        have hU := HU.out
        have hA := HA.out
        rw [hdr, all, hone] at hU hA
        simp only at hU hA
        have hlb : l.length + p.length ≤ 110000 := by
          have e := congrArg List.length hU
          rw [List.length_append, List.length_append] at e
          have := HLEN.out
          omega
        have HU2 := Lib.hid (show (l ++ p) ++ (all t' (L.drop (j + 1))).1 = wrote E L by rw [List.append_assoc]; exact hU)
        have HA2 := Lib.hid hA
        have HONE := Lib.hid hone
        have hji : (0 : Int) ≤ (j : Int) := by omega
        have hjl : (j : Int) < (n : Int) := by omega
        have ew : IntKind.i64.wrap ((j : Int) + 1) = ((j + 1 : Nat) : Int) := by rw [IntKind.wrap_i64]; omega
        obtain ⟨wa, hwa⟩ : ∃ wa, wr.alloc (.cells #[.string xn, .string xv, .bool nv] 45) = wa := ⟨_, rfl⟩
        have hBa : Below wr.heap.size wr wa := by rw [← hwa]; exact (Below.refl _ wr).alloc (Nat.le_refl _) _
        have HSA := Lib.hid (HS.out.below hBa)
        have hbx : wa.heap[wr.heap.size]? = some (.cells #[.string xn, .string xv, .bool nv] 45 (0, 0)) := by rw [← hwa]; exact heap_alloc_new wr _
        have k0 : wa.cell? ⟨wr.heap.size, 0, none⟩ = some (.string xn) := cell_of_row _ _ 0 _ _ _ hbx
        have k1 : wa.cell? ⟨wr.heap.size, 1, none⟩ = some (.string xv) := cell_of_row _ _ 1 _ _ _ hbx
        have k2 : wa.cell? ⟨wr.heap.size, 2, none⟩ = some (.bool nv) := cell_of_row _ _ 2 _ _ _ hbx
        clear hU hA hone hdr hx hltL hBa HU HA hbx
        go_upto_region 8 with fail
        clear hwa x0 x1 x2
        go_wp2_with fail
        refine (wfield_any w.heap.size w.heap.size g b' v l p t t' xn xv nv wa HSA.out.wr (by omega) (by omega) HONE (by omega)).mono ?_
        rintro e w3 ⟨rfl, v3, b3, hS3, hK3, hb3⟩
        have HS3 := Lib.hid (HSA.out.step hS3 hK3 hb3)
        clear hS3 hK3 hb3 k0 k1 k2
        go_wp2_with fail
        go_roundw
        case rel => first | exact ⟨j + 1, l ++ p, t', b3, v3, by omega, rfl, HS3, HU2, HA2⟩ | ((repeat apply Exists.intro); exact ⟨⟨by omega, by assumption, HS3, HU2, HA2⟩, rfl⟩)
        case measure => simp [intOf]; omega
      · have hjn : j = n := by omega
        subst hjn
        have hdn : L.drop j = [] := List.drop_eq_nil_of_le (by rw [hL.out]; exact Nat.le_refl _)
        have hU := HU.out
        have hA := HA.out
        rw [hdn, all, List.append_nil] at hU
        rw [hdn, all] at hA
        simp only at hU hA
        subst hU
        have hnj : ¬ ((j : Int) < (j : Int)) := by omega
        have hll := HLEN.out
        have HA2 := Lib.hid (show behind E L = (t, []) by unfold behind; rw [hA])
        clear hA HA HU hdn
        go_wp2_with fail
        refine (btext_any w.heap.size w.heap.size g b' v (wrote E L) r t wr HS.out.wr hr.out (by omega)).mono ?_
        rintro e w3 ⟨rfl, hK3, hT3⟩
        have HE := Lib.hid (show ∃ b', EnAt w3 c g b' (behind E L) ∧ K3 c g b w w3 ∧ (b' = b ∨ b' = g ∨ w.heap.size ≤ b') from by
          have hS := HS.out
          rw [HA2.out]
          exact ⟨b', ⟨⟨y, hK3.block c _ hS.enc hS.cu hS.cg hS.cb (.inl hS.clt), hy4, fun h => absurd rfl h⟩, hT3, hS.wr.ok4, hS.cg, hS.cb⟩, hS.k3.writer hK3 hS.wr.le hS.hb, hS.hb⟩)
        clear hK3 hT3
        go_wp2_with fail
        go_ret
        exact ⟨rfl, HE.out⟩
end Go.Proofs.Ytamgnbjdeoklbaa

/- Rows of fields of the call's own, read as fields that came in are. No condition. -/
namespace Go.Proofs.Ytamgnbjdeoklbaa
open Go Go.RowKit Tb Up

namespace Pk
theorem fldCs_get : ∀ {L : List Fld} {k : Nat}, k < L.length → (fldCs L)[k * 3]? = some (.string (fldAt L k).name) ∧ (fldCs L)[k * 3 + 1]? = some (.string (fldAt L k).val) ∧ (fldCs L)[k * 3 + 2]? = some (.bool (fldAt L k).never)
  | [], k, h => absurd h (Nat.not_lt_zero k)
  | x :: l, 0, _ => ⟨rfl, rfl, rfl⟩
  | x :: l, k + 1, h => by
    have ih := fldCs_get (L := l) (k := k) (by simpa using h)
    have e : fldCs (x :: l) = .string x.name :: .string x.val :: .bool x.never :: fldCs l := rfl
    have e1 : (k + 1) * 3 = k * 3 + 1 + 1 + 1 := by omega
    rw [e, e1]
    exact ih
theorem rdf_own {w : World} {base n : Nat} {v : Value} {L : List Fld} (h : w.ownsRow base 45 3 v n (fldCs L)) (hn : L.length = n) (hs : ∀ x ∈ L, x.name.size ≤ maxLen ∧ x.val.size ≤ maxLen) : ∃ A c, v = .slice A n c ∧ RdF w w.heap.size A L ∧ (∀ k, v.ownBlock = some k → A = some ⟨k, 0, none⟩) ∧ (v.ownBlock = none → L = []) := by
  rcases h.2 with ⟨rfl, rfl⟩ | ⟨g, cap, cur, rfl, hbg, hgg, hnc, hcm, hcs, htake⟩
  · exact ⟨_, _, rfl, fun k hk => by omega, fun k hk => by simp [Value.ownBlock] at hk, fun _ => List.length_eq_zero_iff.1 hn⟩
  · refine ⟨_, _, rfl, fun k hk => ?_, fun k hk => by simp [Value.ownBlock] at hk; rw [hk], fun e => by simp [Value.ownBlock] at e⟩
    have hc := h.cells (g := g) rfl
    obtain ⟨e0, e1, e2⟩ := fldCs_get hk
    have c0 := hc _ _ e0
    have c1 := hc _ _ e1
    have c2 := hc _ _ e2
    rw [zero_add_addr] at c0 c1 c2
    have hx := hs _ (fldAt_mem hk)
    refine ⟨g, 0, rfl, world_lt hgg, ?_, ?_, ?_, hx.1, hx.2⟩
    · rw [Nat.zero_add]; exact c0
    · rw [Nat.zero_add]; exact c1
    · rw [Nat.zero_add]; exact c2
end Pk
end Go.Proofs.Ytamgnbjdeoklbaa

/- The law's awake: two blocks whose bytes are known. No condition. -/
namespace Go.Proofs.Ytamgnbjdeoklbaa
open Go Go.RowKit Bytes Tb Up Pk

namespace Pk
def awF : Fld := ⟨⟨#[99, 97, 99, 104, 101, 45, 99, 111, 110, 116, 114, 111, 108]⟩, ⟨#[110, 111, 45, 99, 97, 99, 104, 101]⟩, false⟩
def awL : List Fld := [⟨⟨#[58, 109, 101, 116, 104, 111, 100]⟩, ⟨#[71, 69, 84]⟩, false⟩, ⟨⟨#[58, 115, 99, 104, 101, 109, 101]⟩, ⟨#[104, 116, 116, 112]⟩, false⟩, ⟨⟨#[58, 112, 97, 116, 104]⟩, ⟨#[47]⟩, false⟩, ⟨⟨#[58, 97, 117, 116, 104, 111, 114, 105, 116, 121]⟩, ⟨#[119, 119, 119, 46, 101, 120, 97, 109, 112, 108, 101, 46, 99, 111, 109]⟩, false⟩]
def awM : List Fld := awL ++ [awF]
theorem aw1 : wrote (newT 4096, []) awL = [130, 134, 132, 65, 140, 241, 227, 194, 229, 242, 58, 107, 160, 171, 144, 244, 255] := by decide +kernel
theorem aw2 : wrote (behind (newT 4096, []) awL) awM = [130, 134, 132, 190, 88, 134, 168, 235, 16, 100, 156, 191] := by decide +kernel
end Pk

theorem cell_row {w : World} {b : Nat} {cs : Array Value} {T : TypeId} (hb : w.heap[b]? = some (.cells cs T (0, 0))) (j : Nat) : w.cell? ⟨b, j, none⟩ = cs[j]? := by simp [World.cell?, hb]
set_option maxHeartbeats 4000000 in
set_option maxRecDepth 100000 in
theorem awake_is (w : World) : Calls Try.prog 6 #[] w fun e w' => e = .returned (.bool true) ∧ Below w.heap.size w w' := by
  go_enter Try.func6, Try.ntmps6
  go_wp2_with fail
  refine (penew_is w).mono ?_
  rintro e w1 ⟨c, g, b, rfl, hE, hB, l1, l2, l3⟩
  have hl := hE.lt
  obtain ⟨w2, hw2⟩ : ∃ w2, w1.alloc (.cells #[.string ⟨#[58, 109, 101, 116, 104, 111, 100]⟩, .string ⟨#[71, 69, 84]⟩, .bool false, .string ⟨#[58, 115, 99, 104, 101, 109, 101]⟩, .string ⟨#[104, 116, 116, 112]⟩, .bool false, .string ⟨#[58, 112, 97, 116, 104]⟩, .string ⟨#[47]⟩, .bool false, .string ⟨#[58, 97, 117, 116, 104, 111, 114, 105, 116, 121]⟩, .string ⟨#[119, 119, 119, 46, 101, 120, 97, 109, 112, 108, 101, 46, 99, 111, 109]⟩, .bool false] 45) = w2 := ⟨_, rfl⟩
  have hB2 : Below w1.heap.size w1 w2 := by rw [← hw2]; exact (Below.refl _ w1).alloc (Nat.le_refl _) _
  have hO : w2.ownsRow w1.heap.size 45 3 (.slice (some ⟨w1.heap.size, 0, none⟩) 4 4) 4 (fldCs awL) :=
    ⟨rfl, .inr ⟨w1.heap.size, 4, #[.string ⟨#[58, 109, 101, 116, 104, 111, 100]⟩, .string ⟨#[71, 69, 84]⟩, .bool false, .string ⟨#[58, 115, 99, 104, 101, 109, 101]⟩, .string ⟨#[104, 116, 116, 112]⟩, .bool false, .string ⟨#[58, 112, 97, 116, 104]⟩, .string ⟨#[47]⟩, .bool false, .string ⟨#[58, 97, 117, 116, 104, 111, 114, 105, 116, 121]⟩, .string ⟨#[119, 119, 119, 46, 101, 120, 97, 109, 112, 108, 101, 46, 99, 111, 109]⟩, .bool false], rfl, Nat.le_refl _, by rw [← hw2]; exact heap_alloc_new w1 _, Nat.le_refl _, by decide, rfl, rfl⟩⟩
  have hz2 : w2.heap.size = w1.heap.size + 1 := by rw [← hw2]; simp
  obtain ⟨A0, c0, e0, hF, hA, _⟩ := rdf_own hO rfl (by decide)
  have hA0 := hA w1.heap.size rfl
  subst hA0
  have HR1 := Lib.hid (ewrite_any c g b (newT 4096, []) awL (some ⟨w1.heap.size, 0, none⟩) 4 4 _ w2 (hE.below hB2) (Lib.hid (hF.apart (by omega) (by omega) (by omega))) (Lib.hid rfl) (Lib.hid (by decide)) (Lib.hid (by rw [aw1])))
  have HO := Lib.hid hO
  have HB2 := Lib.hid (hB.trans (hB2.mono hB.size))
  have hws := hB.size
  clear hE hB hB2 hO hF hA e0
  go_wp2_with fail
  refine HR1.out.mono ?_
  rintro e w3 ⟨rfl, b1, hE1, hK1, hb1⟩
  have hO3 : w3.ownsRow w1.heap.size 45 3 (.slice (some ⟨w1.heap.size, 0, none⟩) 4 4) 4 (fldCs awL) := own_same HO.out (fun k hk => by
    have hk2 := HO.out.lt k hk
    exact hK1.block k hk2.2 (by omega) (by omega) (by omega))
  have hs3 := hK1.size
  have hB3 : Below w.heap.size w w3 := K3.below HB2.out hK1 l1 l2 l3 (by omega)
  have hl1 := hE1.lt
  obtain ⟨w4, hw4⟩ : ∃ w4, w3.alloc (.cells #[.string ⟨#[99, 97, 99, 104, 101, 45, 99, 111, 110, 116, 114, 111, 108]⟩, .string ⟨#[110, 111, 45, 99, 97, 99, 104, 101]⟩, .bool false] 45) = w4 := ⟨_, rfl⟩
  have hB4 : Below w3.heap.size w3 w4 := by rw [← hw4]; exact (Below.refl _ w3).alloc (Nat.le_refl _) _
  have hz4 : w4.heap.size = w3.heap.size + 1 := by rw [← hw4]; simp
  obtain ⟨k, cap, w5, hrun, hO5, hG5, hloc⟩ := run_append_fld (own_same hO3 (w' := w4) (fun k hk => hB4.block k (hO3.lt k hk).2)) (E := w3.heap.size) (x := awF) (by rw [← hw4]; exact heap_alloc_new w3 _) (by decide) (by omega) 30
  have hB5 : Below w1.heap.size w4 w5 := (Below.refl _ w4).grown hG5 (by omega) (fun k hk => by injection hk with hk; have hk2 : w1.heap.size = k := hk; omega)
  have hkne : k = w1.heap.size ∨ w4.heap.size ≤ k := by
    rcases hloc with e | e
    · injection e with e
      exact .inl e.symm
    · exact .inr e
  have hE5 : EnAt w5 c g b1 (behind (newT 4096, []) awL) := (hE1.below hB4).kept hG5.size (fun i hi hii => hG5.block i hi (fun e => by
    injection e with e
    have e2 : i = w1.heap.size := e
    omega))
  obtain ⟨A0, c0, e0, hF, hA, _⟩ := rdf_own hO5 rfl (by decide)
  have hA0 := hA k rfl
  subst hA0
  have HR2 := Lib.hid (ewrite_any c g b1 (behind (newT 4096, []) awL) awM (some ⟨k, 0, none⟩) 5 cap _ w5 hE5 (Lib.hid (hF.apart (by omega) (by omega) (by omega))) (Lib.hid rfl) (Lib.hid (by decide)) (Lib.hid (by rw [aw2])))
  have HB5 := Lib.hid (hB3.trans ((hB4.mono (by have := hB3.size; omega)).trans (hB5.mono (by omega))))
  have hn1 : w.heap.size ≤ b1 := by omega
  have hz5 := hB5.size
  have HRUN := Lib.hid hrun
  clear hE1 hK1 hO3 hB3 hB4 hO5 hG5 hloc hB5 hE5 hF hA e0 hrun HR1
  go_wp2_with (at_builtin; refine wpList_append_run rfl _ _ _ rfl _ _ _ rfl rfl HRUN.out ?_)
  refine HR2.out.mono ?_
  rintro e w6 ⟨rfl, b2, hE6, hK6, hb6⟩
  have HB6 := Lib.hid (K3.below HB5.out hK6 l1 l2 hn1 (by have := HB5.out.size; omega))
  clear hE6 hK6
  have q1 : ((mk [130, 134, 132, 65, 140, 241, 227, 194, 229, 242, 58, 107, 160, 171, 144, 244, 255]).toList == [130, 134, 132, 65, 140, 241, 227, 194, 229, 242, 58, 107, 160, 171, 144, 244, 255]) = true := by rw [Lib.toList_data]; exact beq_self_eq_true _
  have q2 : ((mk [130, 134, 132, 190, 88, 134, 168, 235, 16, 100, 156, 191]).toList == [130, 134, 132, 190, 88, 134, 168, 235, 16, 100, 156, 191]) = true := by rw [Lib.toList_data]; exact beq_self_eq_true _
  go_wp2_with fail
  go_ret
  exact ⟨rfl, HB6.out⟩
end Go.Proofs.Ytamgnbjdeoklbaa
