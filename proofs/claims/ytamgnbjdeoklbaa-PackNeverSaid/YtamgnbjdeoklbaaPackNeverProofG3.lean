/- Texts of one proof, one behind the other: PkRef, PkRefW, PkBound, PkBld, PfPut. -/
import Derived.Test.YtamgnbjdeoklbaaProg
import Derived.Test.YtamgnbjdeoklbaaBytes
import Derived.Test.YtamgnbjdeoklbaaGrown
import Derived.Test.YtamgnbjdeoklbaaPackNeverProofG1
import Derived.Test.YtamgnbjdeoklbaaTbRef
import Derived.Test.YtamgnbjdeoklbaaTbAt
import Derived.Test.YtamgnbjdeoklbaaPackNeverProofG2
import Derived.Test.YtamgnbjdeoklbaaUpMath
import Derived.Test.YtamgnbjdeoklbaaPfMath
import Derived.Test.YtamgnbjdeoklbaaTbFind
import Derived.Test.YtamgnbjdeoklbaaTbMath
import Derived.Test.YtamgnbjdeoklbaaTcMem
import Derived.Test.YtamgnbjdeoklbaaTcAdd
import Derived.Test.YtamgnbjdeoklbaaPfFull
import Derived.Test.YtamgnbjdeoklbaaShelf
import Derived.WalkKit
import Derived.OwnWalk
import Derived.Lib.Hide
import Derived.Laws.Rows
import Derived.Outline
import Derived.IntWalk
import Derived.WalkSpells
import Derived.WalkLawsBesides
import Derived.Deep.CutRange
import Derived.Lib.Builder
import Derived.Lib.FrozenHead
import Derived.Lib.AppendStr
import Derived.Lib.UnsafeStr
import Derived.Laws.Externs
import Derived.Laws.OwnMore
import Derived.Laws.Bits64b
import Derived.Laws.BitsAllLaws
import Derived.ArgAppend

/- The document's encoder: New, Limit. No condition but that sizes are few. -/
namespace Go.Proofs.Ytamgnbjdeoklbaa
open Go Go.RowKit Bytes Tb Up Ints

namespace Pk
theorem cells3 {w : World} {g : Nat} {a b c : Value} {t : TypeId} (h : w.heap[g]? = some (.cells #[a, b, c] t (0, 0))) :
    w.cell? ⟨g, 0, none⟩ = some a ∧ w.cell? ⟨g, 1, none⟩ = some b ∧ w.cell? ⟨g, 2, none⟩ = some c ∧ w.frozen? ⟨g, 0, none⟩ = false ∧ w.frozen? ⟨g, 1, none⟩ = false ∧ w.frozen? ⟨g, 2, none⟩ = false :=
  ⟨cell_of_row _ _ _ _ _ _ h, cell_of_row _ _ _ _ _ _ h, cell_of_row _ _ _ _ _ _ h, frozen_of_row _ _ _ _ _ h, frozen_of_row _ _ _ _ _ h, frozen_of_row _ _ _ _ _ h⟩
theorem put3_0 {w : World} {g : Nat} {a b c y : Value} {t : TypeId} (h : w.heap[g]? = some (.cells #[a, b, c] t (0, 0))) : (w.setCell ⟨g, 0, none⟩ y).heap[g]? = some (.cells #[y, b, c] t (0, 0)) := heap_setCell_same _ g 0 _ _ y h
theorem put3_1 {w : World} {g : Nat} {a b c y : Value} {t : TypeId} (h : w.heap[g]? = some (.cells #[a, b, c] t (0, 0))) : (w.setCell ⟨g, 1, none⟩ y).heap[g]? = some (.cells #[a, y, c] t (0, 0)) := heap_setCell_same _ g 1 _ _ y h
theorem put3_2 {w : World} {g : Nat} {a b c y : Value} {t : TypeId} (h : w.heap[g]? = some (.cells #[a, b, c] t (0, 0))) : (w.setCell ⟨g, 2, none⟩ y).heap[g]? = some (.cells #[a, b, y] t (0, 0)) := heap_setCell_same _ g 2 _ _ y h
/-- Three cells that are stored. -/
theorem put3 {w : World} {g : Nat} {a b c x y z : Value} {t : TypeId} (h : w.heap[g]? = some (.cells #[a, b, c] t (0, 0))) :
    (((w.setCell ⟨g, 0, none⟩ x).setCell ⟨g, 1, none⟩ y).setCell ⟨g, 2, none⟩ z).heap[g]? = some (.cells #[x, y, z] t (0, 0)) := put3_2 (put3_1 (put3_0 h))
end Pk
theorem encInfo : (Try.prog.info? 52).map (·.size) = some 3 := by kernel_rfl
/-- The document's encoder as a value: its table's row, its sizes' row. -/
def encV (c : Pk.Enc) (A : Option Addr) (k : Nat) (A' : Option Addr) (k' : Nat) : Value := .agg #[.int .i64 (c.1.1 : Int), .slice A c.1.2.length k, .slice A' c.2.length k']
/-- .. and what stands in memory for it, below a block. -/
structure EncE (w : World) (B : Nat) (c : Pk.Enc) (A : Option Addr) (k : Nat) (A' : Option Addr) (k' : Nat) : Prop where
  tab : TabE w B A c.1.2.length k c.1.2
  szs : RdN w B A' c.2
  cap : A' = none → k' = 0
theorem EncE.on {w w' : World} {B B' : Nat} {c : Pk.Enc} {A A' : Option Addr} {k k' : Nat} (h : EncE w B c A k A' k') (hb : Below B w w') (hB : B ≤ B') : EncE w' B' c A k A' k' :=
  ⟨h.tab.on hb hB, h.szs.on hb hB, h.cap⟩
set_option maxRecDepth 100000 in
theorem pnew_is (w : World) :
    Calls Try.prog 21 #[] w fun e w' => e = .returned (encV (newT 4096, []) none 0 none 0) ∧ Below w.heap.size w w' := by
  have HB0 := Lib.hid ((Below.refl _ w).alloc (Nat.le_refl _) (.cells #[.int .i64 0, .slice none 0 0, .slice none 0 0] 52))
  have HK := Lib.hid (new_at w (.cells #[.int .i64 0, .slice none 0 0, .slice none 0 0] 52) w.heap.size rfl)
  have HL := Lib.hid (show w.heap.size < (w.alloc (.cells #[.int .i64 0, .slice none 0 0, .slice none 0 0] 52)).heap.size by simp)
  have HN := Lib.hid (fun W => refNew_is 4096 W (by omega) (by omega))
  go_enter Try.func21, Try.ntmps21
  go_wp2_with fail
  generalize w.alloc (.cells #[.int .i64 0, .slice none 0 0, .slice none 0 0] 52) = W at *
  refine (HN.out W).mono ?_
  rintro e w1 ⟨rfl, hB⟩
  have hk := (hB.block _ HL.out).trans HK.out
  obtain ⟨a1, a2, a3, a4, a5, a6⟩ := Pk.cells3 hk
  have HV := Lib.hid (Pk.put3 (x := .int .i64 4096) (y := .slice none 0 0) (z := .slice none 0 0) hk)
  have HB := Lib.hid ((((HB0.out.trans (hB.mono (Nat.le_of_lt HL.out))).setCell (p := ⟨w.heap.size, 0, none⟩) (Nat.le_refl _) (.int .i64 4096)).setCell (p := ⟨w.heap.size, 1, none⟩) (Nat.le_refl _) (.slice none 0 0)).setCell (p := ⟨w.heap.size, 2, none⟩) (Nat.le_refl _) (.slice none 0 0))
  clear hB hk
  go_wp2_with fail
  exact bodyPost_ret (v := .agg #[.int .i64 4096, .slice none 0 0, .slice none 0 0]) (results_cell_row rfl _ _ w.heap.size 52 #[.int .i64 4096, .slice none 0 0, .slice none 0 0] (0, 0) _ rfl HV.out Try.underlying52 rfl encInfo) rfl ⟨rfl, HB.out⟩
set_option maxHeartbeats 4000000 in
set_option maxRecDepth 100000 in
theorem plimit_is (c : Pk.Enc) (n : Nat) (A : Option Addr) (k : Nat) (A' : Option Addr) (k' : Nat) (R : Pk.Enc) (w : World) (h : EncE w w.heap.size c A k A' k') (h4 : Up.Ok4 c.1) (hn : n < 4294967296) (hl : c.2.length ≤ 1000) (hR : Hid (Pk.lim c n = R)) :
    Calls Try.prog 22 #[encV c A k A' k', .int .u32 (n : Int)] w fun e w' => ∃ A2 k2 A3 k3, e = .returned (encV R A2 k2 A3 k3) ∧ EncE w' w'.heap.size R A2 k2 A3 k3 ∧ Below w.heap.size w w' ∧ (∀ b o, A2 = some ⟨b, o, none⟩ → A = some ⟨b, o, none⟩ ∨ w.heap.size ≤ b) ∧ (∀ a, A3 = some a → (A' = some a ∧ c = R) ∨ w.heap.size ≤ a.block) := by
  obtain ⟨⟨M, L⟩, S⟩ := c
  obtain ⟨m, hm⟩ : ∃ m, min n 4096 = m := ⟨_, rfl⟩
  have hM : M ≤ 4096 := h4.1
  have hr := hR.out
  unfold Pk.lim at hr
  rw [hm] at hr
  simp only at hr hl
  have hm4 : m ≤ 4096 := by omega
  obtain ⟨E, hE⟩ : ∃ E : Array Value, E = #[.int .i64 (M : Int), .slice A L.length k, .slice A' S.length k'] := ⟨_, rfl⟩
  have HB0 := Lib.hid (((Below.refl w.heap.size w).alloc (Nat.le_refl _) (.cells #[.int .i64 (M : Int), .slice A L.length k, .slice A' S.length k'] 52)).alloc (by simp) (.cells #[.int .i64 0, .slice none 0 0, .slice none 0 0] 52))
  have K0 := Lib.hid (heap_alloc2_old w (.cells #[.int .i64 (M : Int), .slice A L.length k, .slice A' S.length k'] 52) (.cells #[.int .i64 0, .slice none 0 0, .slice none 0 0] 52))
  have K1 := Lib.hid (heap_alloc2_new w (.cells #[.int .i64 (M : Int), .slice A L.length k, .slice A' S.length k'] 52) (.cells #[.int .i64 0, .slice none 0 0, .slice none 0 0] 52))
  have HS2 := Lib.hid (show ((w.alloc (.cells #[.int .i64 (M : Int), .slice A L.length k, .slice A' S.length k'] 52)).alloc (.cells #[.int .i64 0, .slice none 0 0, .slice none 0 0] 52)).heap.size = w.heap.size + 2 by simp)
  unfold encV
  simp only
  go_enter Try.func22, Try.ntmps22
  obtain ⟨q, hq7⟩ : ∃ q, decide ((n : Int) < 4096) = q := ⟨_, rfl⟩
  go_upto_if 7 with fail
  generalize ((w.alloc (.cells #[.int .i64 (M : Int), .slice A L.length k, .slice A' S.length k'] 52)).alloc (.cells #[.int .i64 0, .slice none 0 0, .slice none 0 0] 52)) = W at *
  go_cut [5] from 8 to 10 (fun v wx => v = .int .i64 (m : Int) ∧ W = wx)
  case first =>
    cases q with
    | true =>
      have hlt := of_decide_eq_true hq7
      have hi : IntKind.i64.wrap (n : Int) = (m : Int) := by rw [IntKind.wrap_i64]; omega
      clear hlt hq7
      go_wp2_with fail
      go_meet
      exact ⟨rfl, rfl⟩
    | false =>
      have hlt := of_decide_eq_false hq7
      have hm2 : m = 4096 := by omega
      clear hlt hq7
      go_wp2_with fail
      go_meet
      exact ⟨by rw [hm2]; rfl, rfl⟩
  case rest =>
    obtain ⟨rfl, rfl⟩ := hcut
    clear hq7
    obtain ⟨a1, a2, a3, a4, a5, a6⟩ := Pk.cells3 K0.out
    by_cases hq : m = M
    · rw [if_pos hq] at hr
      subst hr
      have hd : ((m : Int) == (M : Int)) = true := by rw [hq]; exact beq_self_eq_true _
      obtain ⟨e1, e2, e3, e4, e5, e6⟩ := Pk.cells3 K1.out
      obtain ⟨f1, f2, f3, f4, f5, f6⟩ := Pk.cells3 (Pk.put3_0 (y := .int .i64 (M : Int)) K1.out)
      obtain ⟨g1, g2, g3, g4, g5, g6⟩ := Pk.cells3 (Pk.put3_1 (y := .slice A L.length k) (Pk.put3_0 (y := .int .i64 (M : Int)) K1.out))
      have HY6 := Lib.hid (Pk.put3 (x := .int .i64 (M : Int)) (y := .slice A L.length k) (z := .slice A' S.length k') K1.out)
      have HB5 := Lib.hid (((HB0.out.setCell (p := ⟨w.heap.size + 1, 0, none⟩) (Nat.le_succ _) (.int .i64 (M : Int))).setCell (p := ⟨w.heap.size + 1, 1, none⟩) (Nat.le_succ _) (.slice A L.length k)).setCell (p := ⟨w.heap.size + 1, 2, none⟩) (Nat.le_succ _) (.slice A' S.length k'))
      go_wp2_with fail
      exact bodyPost_ret (v := .agg #[.int .i64 (M : Int), .slice A L.length k, .slice A' S.length k']) (results_cell_row rfl _ _ (w.heap.size + 1) 52 #[.int .i64 (M : Int), .slice A L.length k, .slice A' S.length k'] (0, 0) _ rfl HY6.out Try.underlying52 rfl encInfo) rfl ⟨A, k, A', k', rfl, h.on HB5.out HB5.out.size, HB5.out, fun b o hb => .inl hb, fun a ha => .inl (by first | exact ⟨ha, rfl⟩ | exact ha)⟩
    · rw [if_neg hq] at hr
      have hd : ((m : Int) == (M : Int)) = false := by rw [beq_eq_false_iff_ne]; omega
      go_wp2_with fail
      refine (refRes_t (M, L) m A k W (Lib.hid (h.tab.on HB0.out (by have := HS2.out; omega))) (Lib.hid h4) (by omega)).mono ?_
      rintro e w1 ⟨A2, k2, rfl, hT, hB, hA⟩
      have hg0 : w.heap.size < W.heap.size := by have := HS2.out; omega
      have q0 := (hB.block w.heap.size hg0).trans K0.out
      have q1 := (hB.block (w.heap.size + 1) (by have := HS2.out; omega)).trans K1.out
      have p0 := Pk.put3_1 (y := .slice A2 (resT (M, L) m).2.length k2) (Pk.put3_0 (y := .int .i64 ((resT (M, L) m).1 : Int)) q0)
      obtain ⟨b1, b2, b3, b4, b5, b6⟩ := Pk.cells3 q0
      obtain ⟨c1, c2, c3, c4, c5, c6⟩ := Pk.cells3 p0
      have hgl : w.heap.size < w1.heap.size := Nat.lt_of_lt_of_le hg0 hB.size
      have z0 := (heap_alloc_old ((w1.setCell ⟨w.heap.size, 0, none⟩ (.int .i64 ((resT (M, L) m).1 : Int))).setCell ⟨w.heap.size, 1, none⟩ (.slice A2 (resT (M, L) m).2.length k2)) (.cells #[] 3) (r := w.heap.size) (by simpa using hgl)).trans p0
      obtain ⟨d1, d2, d3, d4, d5, d6⟩ := Pk.cells3 z0
      have HP0 := Lib.hid p0
      have HB := Lib.hid hB
      clear p0 z0 hB q0 q1
      clear a1 a2 a3 a4 a5 a6
      have HB2 := Lib.hid (((HB0.out.trans (HB.out.mono HB0.out.size)).setCell (p := ⟨w.heap.size, 0, none⟩) (Nat.le_refl _) (.int .i64 ((resT (M, L) m).1 : Int))).setCell (p := ⟨w.heap.size, 1, none⟩) (Nat.le_refl _) (.slice A2 (resT (M, L) m).2.length k2))
      have hse : ((w1.setCell ⟨w.heap.size, 0, none⟩ (.int .i64 ((resT (M, L) m).1 : Int))).setCell ⟨w.heap.size, 1, none⟩ (.slice A2 (resT (M, L) m).2.length k2)).heap.size = w1.heap.size := by simp
      have HRW := Lib.hid (show (((w1.setCell ⟨w.heap.size, 0, none⟩ (.int .i64 ((resT (M, L) m).1 : Int))).setCell ⟨w.heap.size, 1, none⟩ (.slice A2 (resT (M, L) m).2.length k2)).alloc (.cells #[] 3)).ownsRow w1.heap.size 3 1 (.slice (some ⟨w1.heap.size, 0, none⟩) 0 0) 0 [] from ⟨rfl, .inr ⟨w1.heap.size, 0, #[], rfl, Nat.le_refl _, by rw [← hse]; exact heap_alloc_new _ _, Nat.le_refl _, by decide, rfl, rfl⟩⟩)
      have HSR := Lib.hid (show SrcN (((w1.setCell ⟨w.heap.size, 0, none⟩ (.int .i64 ((resT (M, L) m).1 : Int))).setCell ⟨w.heap.size, 1, none⟩ (.slice A2 (resT (M, L) m).2.length k2)).alloc (.cells #[] 3)) (.slice A' S.length k') S.length S from nums_of (h.szs.on (HB2.out.alloc (by simpa using Nat.le_of_lt hgl) _) (Nat.le_refl _)) rfl h.cap)
      have hsz : w1.heap.size ≤ (((w1.setCell ⟨w.heap.size, 0, none⟩ (.int .i64 ((resT (M, L) m).1 : Int))).setCell ⟨w.heap.size, 1, none⟩ (.slice A2 (resT (M, L) m).2.length k2)).alloc (.cells #[] 3)).heap.size := by simp
      go_wp2_with (at_builtin; refine wpList_append_nums rfl _ _ rfl w1.heap.size _ 0 [] rfl HRW.out S.length S HSR.out (by omega) hsz ?_)
      intro v' w3 hown hgrow
      have hs3 : w1.heap.size ≤ w3.heap.size := Nat.le_trans hsz hgrow.size
      have z3 := (hgrow.block w.heap.size (by simp; omega) (fun e => by have e : w1.heap.size = _ := Option.some.inj e.symm; omega)).trans ((heap_alloc_old ((w1.setCell ⟨w.heap.size, 0, none⟩ (.int .i64 ((resT (M, L) m).1 : Int))).setCell ⟨w.heap.size, 1, none⟩ (.slice A2 (resT (M, L) m).2.length k2)) (.cells #[] 3) (r := w.heap.size) (by simpa using hgl)).trans HP0.out)
      have HO3 := Lib.hid (hown.alloc (.cells #[.int .i64 (m : Int)] 3))
      have HSR3 := Lib.hid (show SrcN (w3.alloc (.cells #[.int .i64 (m : Int)] 3)) (.slice (some ⟨w3.heap.size, 0, none⟩) 1 1) 1 [m] from .inr ⟨_, 1, rfl, rfl, fun j hj => by
        obtain rfl : j = 0 := by simpa using hj
        rw [zero_add_addr]
        exact cell_of_row _ _ 0 _ _ _ (heap_alloc_new w3 _)⟩)
      have hsz3 : w1.heap.size ≤ (w3.alloc (.cells #[.int .i64 (m : Int)] 3)).heap.size := by simp; omega
      have hgrow3 := Lib.hid hgrow
      have hown3 := Lib.hid hown
      have HZ3 := Lib.hid z3
      clear hown hgrow z3 b1 b2 b3 b4 b5 b6 c1 c2 c3 c4 c5 c6 d1 d2 d3 d4 d5 d6 hsz hse
      go_wp2_with (at_builtin; refine wpList_append_nums rfl _ _ rfl w1.heap.size _ S.length (numCs S) rfl HO3.out 1 [m] HSR3.out (by omega) hsz3 ?_)
      intro v4 w4 hown0 hgrow
      have hown : w4.ownsRow w1.heap.size 3 1 v4 (S.length + 1) (numCs (S ++ [m])) := by rw [numCs_snoc]; exact hown0
      have hsl := hown
      obtain ⟨A3, k3, rfl, _, _, _⟩ := own_rdn hsl (by simp)
      clear hsl hown0
      have hg4 : ∀ j, j < w1.heap.size → w4.heap[j]? = w3.heap[j]? := fun j hj =>
        (hgrow.block j (by simp; omega) (fun e => by have := (hown3.out.lt j e.symm).1; omega)).trans (heap_alloc_old w3 _ (r := j) (by omega))
      have hg3 : ∀ j, j < w1.heap.size → w3.heap[j]? = (((w1.setCell ⟨w.heap.size, 0, none⟩ (.int .i64 ((resT (M, L) m).1 : Int))).setCell ⟨w.heap.size, 1, none⟩ (.slice A2 (resT (M, L) m).2.length k2))).heap[j]? := fun j hj =>
        (hgrow3.out.block j (by simp; omega) (fun e => by have e : w1.heap.size = _ := Option.some.inj e.symm; omega)).trans (heap_alloc_old _ _ (r := j) (by simp; omega))
      have hW2 := HS2.out
      have hs1 := HB.out.size
      have z4 := (hg4 _ hgl).trans HZ3.out
      have hs4 : w3.heap.size ≤ w4.heap.size := Nat.le_trans (by simp) hgrow.size
      have hfar : ∀ j, j ≠ w.heap.size → j < w1.heap.size → w4.heap[j]? = w1.heap[j]? := fun j hj hl =>
        (hg4 _ hl).trans ((hg3 _ hl).trans ((Below.heap_setCell _ ⟨w.heap.size, 1, none⟩ _ j hj).trans (Below.heap_setCell _ ⟨w.heap.size, 0, none⟩ _ j hj)))
      have y4 := (hfar (w.heap.size + 1) (by omega) (by omega)).trans ((HB.out.block (w.heap.size + 1) (by omega)).trans K1.out)
      have x4 := Pk.put3_2 (y := .slice A3 (S.length + 1) k3) z4
      have y5 := (Below.heap_setCell w4 ⟨w.heap.size, 2, none⟩ (.slice A3 (S.length + 1) k3) (w.heap.size + 1) (by simp)).trans y4
      have y6 := Pk.put3 (x := .int .i64 ((resT (M, L) m).1 : Int)) (y := .slice A2 (resT (M, L) m).2.length k2) (z := .slice A3 (S.length + 1) k3) y5
      obtain ⟨b1, b2, b3, b4, b5, b6⟩ := Pk.cells3 z4
      obtain ⟨c1, c2, c3, c4, c5, c6⟩ := Pk.cells3 x4
      obtain ⟨d1, d2, d3, d4, d5, d6⟩ := Pk.cells3 y5
      obtain ⟨e1, e2, e3, e4, e5, e6⟩ := Pk.cells3 (Pk.put3_0 (y := .int .i64 ((resT (M, L) m).1 : Int)) y5)
      obtain ⟨f1, f2, f3, f4, f5, f6⟩ := Pk.cells3 (Pk.put3_1 (y := .slice A2 (resT (M, L) m).2.length k2) (Pk.put3_0 (y := .int .i64 ((resT (M, L) m).1 : Int)) y5))
      have HY6 := Lib.hid y6
      have p4 : (((((w4.setCell ⟨w.heap.size, 2, none⟩ (.slice A3 (S.length + 1) k3)).setCell ⟨w.heap.size + 1, 0, none⟩ (.int .i64 ((resT (M, L) m).1 : Int))).setCell ⟨w.heap.size + 1, 1, none⟩ (.slice A2 (resT (M, L) m).2.length k2)).setCell ⟨w.heap.size + 1, 2, none⟩ (.slice A3 (S.length + 1) k3)).heap.size) = w4.heap.size := by simp
      have hT5 : TabE ((((w4.setCell ⟨w.heap.size, 2, none⟩ (.slice A3 (S.length + 1) k3)).setCell ⟨w.heap.size + 1, 0, none⟩ (.int .i64 ((resT (M, L) m).1 : Int))).setCell ⟨w.heap.size + 1, 1, none⟩ (.slice A2 (resT (M, L) m).2.length k2)).setCell ⟨w.heap.size + 1, 2, none⟩ (.slice A3 (S.length + 1) k3)) ((((w4.setCell ⟨w.heap.size, 2, none⟩ (.slice A3 (S.length + 1) k3)).setCell ⟨w.heap.size + 1, 0, none⟩ (.int .i64 ((resT (M, L) m).1 : Int))).setCell ⟨w.heap.size + 1, 1, none⟩ (.slice A2 (resT (M, L) m).2.length k2)).setCell ⟨w.heap.size + 1, 2, none⟩ (.slice A3 (S.length + 1) k3)).heap.size A2 (resT (M, L) m).2.length k2 (resT (M, L) m).2 := tabE_same hT (by rw [p4]; omega) (fun b o hb => by
        have q1 := hA b o hb
        have q2 := tabE_lt hT b o hb
        exact ((((Below.heap_setCell _ ⟨w.heap.size + 1, 2, none⟩ _ b (by show b ≠ w.heap.size + 1; omega)).trans (Below.heap_setCell _ ⟨w.heap.size + 1, 1, none⟩ _ b (by show b ≠ w.heap.size + 1; omega))).trans (Below.heap_setCell _ ⟨w.heap.size + 1, 0, none⟩ _ b (by show b ≠ w.heap.size + 1; omega))).trans (Below.heap_setCell _ ⟨w.heap.size, 2, none⟩ _ b (by show b ≠ w.heap.size; omega))).trans (hfar b (by omega) q2))
      have hO5 : ((((w4.setCell ⟨w.heap.size, 2, none⟩ (.slice A3 (S.length + 1) k3)).setCell ⟨w.heap.size + 1, 0, none⟩ (.int .i64 ((resT (M, L) m).1 : Int))).setCell ⟨w.heap.size + 1, 1, none⟩ (.slice A2 (resT (M, L) m).2.length k2)).setCell ⟨w.heap.size + 1, 2, none⟩ (.slice A3 (S.length + 1) k3)).ownsRow w1.heap.size 3 1 (.slice A3 (S.length + 1) k3) (S.length + 1) (numCs (S ++ [m])) :=
        ownsRow_setCell_below (ownsRow_setCell_below (ownsRow_setCell_below (ownsRow_setCell_below hown (a := ⟨w.heap.size, 2, none⟩) hgl _) (a := ⟨w.heap.size + 1, 0, none⟩) (by show w.heap.size + 1 < _; omega) _) (a := ⟨w.heap.size + 1, 1, none⟩) (by show w.heap.size + 1 < _; omega) _) (a := ⟨w.heap.size + 1, 2, none⟩) (by show w.heap.size + 1 < _; omega) _
      obtain ⟨A5, k5, e5, _, hS5, hS6⟩ := own_rdn hO5 (by simp)
      injection e5 with e5 _ e5'
      subst e5
      subst e5'
      have HS6 := Lib.hid (show ∀ a, A3 = some a → (A' = some a ∧ (((M, L), S) : Pk.Enc) = R) ∨ w.heap.size ≤ a.block from fun a ha => .inr (by have := hS6 (by simp) a ha; omega))
      have HA6 := Lib.hid (show ∀ b o, A2 = some ⟨b, o, none⟩ → A = some ⟨b, o, none⟩ ∨ w.heap.size ≤ b from fun b o hb => .inr (by have := hA b o hb; omega))
      have hN5 : A3 = none → k3 = 0 := fun e => by
        obtain ⟨a, ha, _⟩ := hS5.get (k := 0) (by simp)
        rw [e] at ha
        cases ha
      have hb1 := HB2.out.alloc (by simpa using Nat.le_of_lt hgl) (.cells #[] 3)
      have hb2 := hb1.grown hgrow3.out hb1.size (fun j hj => by have := (HRW.out.lt j hj).1; omega)
      have hb3 := hb2.alloc hb2.size (.cells #[.int .i64 (m : Int)] 3)
      have hb4 := hb3.grown hgrow hb3.size (fun j hj => by have := (HO3.out.lt j hj).1; omega)
      have HB5 := Lib.hid ((((hb4.setCell (p := ⟨w.heap.size, 2, none⟩) (Nat.le_refl _) (.slice A3 (S.length + 1) k3)).setCell (p := ⟨w.heap.size + 1, 0, none⟩) (Nat.le_succ _) (.int .i64 ((resT (M, L) m).1 : Int))).setCell (p := ⟨w.heap.size + 1, 1, none⟩) (Nat.le_succ _) (.slice A2 (resT (M, L) m).2.length k2)).setCell (p := ⟨w.heap.size + 1, 2, none⟩) (Nat.le_succ _) (.slice A3 (S.length + 1) k3))
      have HE5 := Lib.hid (show EncE ((((w4.setCell ⟨w.heap.size, 2, none⟩ (.slice A3 (S.length + 1) k3)).setCell ⟨w.heap.size + 1, 0, none⟩ (.int .i64 ((resT (M, L) m).1 : Int))).setCell ⟨w.heap.size + 1, 1, none⟩ (.slice A2 (resT (M, L) m).2.length k2)).setCell ⟨w.heap.size + 1, 2, none⟩ (.slice A3 (S.length + 1) k3)) ((((w4.setCell ⟨w.heap.size, 2, none⟩ (.slice A3 (S.length + 1) k3)).setCell ⟨w.heap.size + 1, 0, none⟩ (.int .i64 ((resT (M, L) m).1 : Int))).setCell ⟨w.heap.size + 1, 1, none⟩ (.slice A2 (resT (M, L) m).2.length k2)).setCell ⟨w.heap.size + 1, 2, none⟩ (.slice A3 (S.length + 1) k3)).heap.size (resT (M, L) m, S ++ [m]) A2 k2 A3 k3 from ⟨hT5, hS5, hN5⟩)
      have hlen : (S ++ [m]).length = S.length + 1 := by simp
      have hV : encV (resT (M, L) m, S ++ [m]) A2 k2 A3 k3 = .agg #[.int .i64 ((resT (M, L) m).1 : Int), .slice A2 (resT (M, L) m).2.length k2, .slice A3 (S.length + 1) k3] := by
        unfold encV
        rw [hlen]
      have HV := Lib.hid hV
      clear hT5 hO5 hS5 hS6 hN5 hb1 hb2 hb3 hb4 p4 hlen hV
      clear hg4 hg3 z4 x4 y4 y5 y6 hfar hown hgrow HZ3 HO3 HSR3 hgrow3 hown3
      go_wp2_with fail
      exact bodyPost_ret (v := .agg #[.int .i64 ((resT (M, L) m).1 : Int), .slice A2 (resT (M, L) m).2.length k2, .slice A3 (S.length + 1) k3]) (results_cell_row rfl _ _ (w.heap.size + 1) 52 #[.int .i64 ((resT (M, L) m).1 : Int), .slice A2 (resT (M, L) m).2.length k2, .slice A3 (S.length + 1) k3] (0, 0) _ rfl HY6.out Try.underlying52 rfl encInfo) rfl ⟨A2, k2, A3, k3, by rw [← hr]; exact congrArg Ending.returned HV.out.symm, by rw [← hr]; exact HE5.out, HB5.out, HA6.out, HS6.out⟩
end Go.Proofs.Ytamgnbjdeoklbaa

/- The document's Write: fields laid one behind the other. For blocks of at most 300000 bytes. -/
namespace Go.Proofs.Ytamgnbjdeoklbaa
open Go Go.RowKit Bytes Pf Tb Up Ints

/-- What stands while a block is written: the encoder's copy in block X, the result's block behind it. -/
def PwSt (w0 w : World) (X : Nat) (M n k m k' : Nat) (A A' : Option Addr) : Prop :=
  w.heap[X]? = some (.cells #[.int .i64 (M : Int), .slice A n k, .slice A' m k'] 52 (0, 0)) ∧ w.heap[X + 1]? = some (.cells #[.int .i64 0, .slice none 0 0, .slice none 0 0] 52 (0, 0)) ∧ X + 2 ≤ w.heap.size ∧ Below X w0 w
theorem PwSt.below {w0 w w' : World} {X M n k m k' : Nat} {A A' : Option Addr} (h : PwSt w0 w X M n k m k' A A') (hB : Below w.heap.size w w') : PwSt w0 w' X M n k m k' A A' :=
  ⟨(hB.block X (by have := h.2.2.1; omega)).trans h.1, (hB.block (X + 1) (by have := h.2.2.1; omega)).trans h.2.1, by have := h.2.2.1; have := hB.size; omega, h.2.2.2.trans (hB.mono (by have := h.2.2.1; omega))⟩
theorem PwSt.nil {w0 w : World} {X M n k m k' : Nat} {A A' : Option Addr} (h : PwSt w0 w X M n k m k' A A') : PwSt w0 (w.setCell ⟨X, 2, none⟩ (.slice none 0 0)) X M n k 0 0 A none :=
  ⟨Pk.put3_2 h.1, (Below.heap_setCell w ⟨X, 2, none⟩ _ (X + 1) (by show X + 1 ≠ X; omega)).trans h.2.1, by have := h.2.2.1; simpa using this, h.2.2.2.setCell (p := ⟨X, 2, none⟩) (Nat.le_refl _) _⟩
theorem PwSt.turn {w0 w : World} {X M n k m k' n2 k2 : Nat} {A A' A2 : Option Addr} (h : PwSt w0 w X M n k m k' A A') : PwSt w0 ((w.setCell ⟨X, 0, none⟩ (.int .i64 (M : Int))).setCell ⟨X, 1, none⟩ (.slice A2 n2 k2)) X M n2 k2 m k' A2 A' :=
  ⟨Pk.put3_1 (Pk.put3_0 h.1), ((Below.heap_setCell _ ⟨X, 1, none⟩ _ (X + 1) (by show X + 1 ≠ X; omega)).trans (Below.heap_setCell w ⟨X, 0, none⟩ _ (X + 1) (by show X + 1 ≠ X; omega))).trans h.2.1, by have := h.2.2.1; simpa using this, (h.2.2.2.setCell (p := ⟨X, 0, none⟩) (Nat.le_refl _) _).setCell (p := ⟨X, 1, none⟩) (Nat.le_refl _) _⟩
theorem tabE_set {w : World} {X i n c : Nat} {A : Option Addr} {L : List Ent} {u : Value} (h : TabE w w.heap.size A n c L) (hne : ∀ b o, A = some ⟨b, o, none⟩ → b ≠ X) : TabE (w.setCell ⟨X, i, none⟩ u) (w.setCell ⟨X, i, none⟩ u).heap.size A n c L :=
  tabE_same h (by simp) (fun b o hA => Below.heap_setCell w ⟨X, i, none⟩ u b (hne b o hA))
theorem fold_take {S : List Nat} {j M : Nat} (h : j < S.length) : (S.take (j + 1)).foldl min M = min ((S.take j).foldl min M) (S.getD j 0) := by
  rw [num_take h, List.foldl_append]
  rfl
theorem getD_in {S : List Nat} {j : Nat} (h : j < S.length) : S.getD j 0 ∈ S := by
  rw [List.getD_eq_getElem?_getD, List.getElem?_eq_getElem h]
  exact List.getElem_mem h
theorem fold_le2 (S : List Nat) : ∀ x : Nat, S.foldl min x ≤ x := by
  induction S with
  | nil => intro x; exact Nat.le_refl _
  | cons a S ih => intro x; rw [List.foldl_cons]; exact Nat.le_trans (ih _) (Nat.min_le_left _ _)
theorem empty_list : (⟨#[]⟩ : ByteArray).data.toList = [] := rfl
set_option maxHeartbeats 8000000 in
set_option maxRecDepth 100000 in
theorem pwrite_is (c : Pk.Enc) (L : List Fld) (A : Option Addr) (k : Nat) (A' : Option Addr) (k' : Nat) (a : Option Addr) (cap : Nat) (r : ByteArray) (w : World) (h : EncE w w.heap.size c A k A' k') (h4 : Up.Ok4 c.1) (hS : c.2.length ≤ 1000) (hS4 : ∀ n ∈ c.2, n ≤ 4096)
    (hF : Hid (Pk.RdF w w.heap.size a L)) (hL : L.length ≤ 3000) (hsm : Hid (∀ x ∈ L, x.name.size ≤ 3000 ∧ x.val.size ≤ 3000)) (hbig : (Pk.wrote c L).length ≤ 300000) (hr : Hid (mk (Pk.wrote c L) = r)) :
    Calls Try.prog 23 #[encV c A k A' k', .slice a L.length cap] w fun e w' => ∃ A2 k2, e = .returned (.tuple #[encV (Pk.behind c L) A2 k2 none 0, .string r]) ∧ EncE w' w'.heap.size (Pk.behind c L) A2 k2 none 0 ∧ Below w.heap.size w w' ∧ (∀ b o, A2 = some ⟨b, o, none⟩ → A = some ⟨b, o, none⟩ ∨ w.heap.size ≤ b) := by
  obtain ⟨⟨M, Lt⟩, S⟩ := c
  have hM : M ≤ 4096 := h4.1
  have HB0 := Lib.hid (((Below.refl w.heap.size w).alloc (Nat.le_refl _) (.cells #[.int .i64 (M : Int), .slice A Lt.length k, .slice A' S.length k'] 52)).alloc (by simp) (.cells #[.int .i64 0, .slice none 0 0, .slice none 0 0] 52))
  have HP0 := Lib.hid (show PwSt w ((w.alloc (.cells #[.int .i64 (M : Int), .slice A Lt.length k, .slice A' S.length k'] 52)).alloc (.cells #[.int .i64 0, .slice none 0 0, .slice none 0 0] 52)) w.heap.size M Lt.length k S.length k' A A' from
    ⟨heap_alloc2_old w _ _, heap_alloc2_new w _ _, by simp, HB0.out⟩)
  simp only at hS hS4
  unfold encV
  simp only
  have HS4 := Lib.hid hS4
  have HBIG := Lib.hid hbig
  clear hS4 hbig
  go_enter Try.func23, Try.ntmps23
  obtain ⟨a1, a2, a3, a4, a5, a6⟩ := Pk.cells3 HP0.out.1
  go_wp2_with fail
  generalize ((w.alloc (.cells #[.int .i64 (M : Int), .slice A Lt.length k, .slice A' S.length k'] 52)).alloc (.cells #[.int .i64 0, .slice none 0 0, .slice none 0 0] 52)) = W at *
  have hXW : w.heap.size ≤ W.heap.size := by have := HP0.out.2.2.1; omega
  have HTW := Lib.hid (h.tab.on HB0.out hXW)
  have HSW := Lib.hid (h.szs.on HB0.out hXW)
  have HFW := Lib.hid (hF.out.on HB0.out hXW)
  go_loop [7, 8] (fun m i => ∃ j : Nat, j ≤ S.length ∧ i = .int .i64 (j : Int) ∧ m = .int .i64 (((S.take j).foldl min M : Nat) : Int)) (fun _ i => S.length + 1 - (intOf i).toNat)
  case atStart => exact ⟨0, by omega, rfl, rfl⟩
  case round =>
    obtain ⟨j, hj, rfl, rfl⟩ := hrel
    have hle : (S.take j).foldl min M ≤ M := fold_le2 _ _
    obtain ⟨y, hy⟩ : ∃ y, (S.take j).foldl min M = y := ⟨_, rfl⟩
    rw [hy] at hle ⊢
    by_cases hlt : j < S.length
    · obtain ⟨ad, hA, _, hc⟩ := HSW.out.get hlt
      subst hA
      have hx4 := HS4.out _ (getD_in hlt)
      obtain ⟨x, hx⟩ : ∃ x, S.getD j 0 = x := ⟨_, rfl⟩
      have hf := fold_take (M := M) hlt
      rw [hy, hx] at hf
      rw [hx] at hc hx4
      have hj1 : (0 : Int) ≤ (j : Int) := by omega
      have hj2 : (j : Int) < (S.length : Int) := by omega
      have ew : IntKind.i64.wrap ((j : Int) + 1) = ((j + 1 : Nat) : Int) := by rw [IntKind.wrap_i64]; omega
      have HF := Lib.hid hf
      clear hf hy hx hlt
      by_cases hlt2 : x < y
      · have hd : decide ((x : Int) < (y : Int)) = true := decide_eq_true (by omega)
        go_wp2_with fail
        go_round
        case rel => exact ⟨j + 1, by omega, rfl, by rw [HF.out, Nat.min_eq_right (Nat.le_of_lt hlt2)]⟩
        case measure => simp [intOf] <;> omega
      · have hd : decide ((x : Int) < (y : Int)) = false := decide_eq_false (by omega)
        go_wp2_with fail
        go_round
        case rel => exact ⟨j + 1, by omega, rfl, by rw [HF.out, Nat.min_eq_left (by omega)]⟩
        case measure => simp [intOf] <;> omega
    · have hjl : j = S.length := by omega
      subst hjl
      rw [List.take_length] at hy
      obtain ⟨q1, hq1⟩ : ∃ q, decide (y < M) = q := ⟨_, rfl⟩
      obtain ⟨H1, hH1⟩ : ∃ l, (if y < M then putL 31 32 y else []) = l := ⟨_, rfl⟩
      obtain ⟨H2, hH2⟩ : ∃ l, (if S = [] then [] else putL 31 32 M) = l := ⟨_, rfl⟩
      have hheads : Pk.heads ((M, Lt), S) = H1 ++ H2 := by
        show (if S.foldl min M < M then putL 31 32 (S.foldl min M) else []) ++ (if S = [] then [] else putL 31 32 M) = _
        rw [hy, hH1, hH2]
      have HHD := Lib.hid hheads
      have HH1 := Lib.hid hH1
      have HH2 := Lib.hid hH2
      clear hheads hH1 hH2 hy
      have hwy : IntKind.u64.wrap (y : Int) = (y : Int) := by rw [IntKind.wrap_u64]; omega
      have hwm : IntKind.u64.wrap (M : Int) = (M : Int) := by rw [IntKind.wrap_u64]; omega
      go_upto_if 39 with fail
      go_cut [6] from 40 to 44 (fun v wx => ∃ s1 : ByteArray, v = .string s1 ∧ Hid (s1.data.toList = H1) ∧ Hid (PwSt w wx w.heap.size M Lt.length k S.length k' A A') ∧ Hid (Below W.heap.size W wx))
      case first =>
        cases q1 with
        | true =>
          have hlt := of_decide_eq_true hq1
          have h1 := HH1.out
          rw [if_pos (by omega)] at h1
          have HP := Lib.hid (show putL (fullN 5) 32 y = H1 from h1)
          clear hlt h1 hq1
          go_wp2_with fail
          refine (refPut_is ⟨#[]⟩ H1 32 y 5 W (by decide) (by decide) (by omega) (by omega) (by omega) HP).mono ?_
          rintro e w1 ⟨rfl, hB⟩
          have HPW := Lib.hid (HP0.out.below hB)
          have HBW := Lib.hid hB
          go_wp2_with fail
          go_meet
          exact ⟨_, rfl, Lib.hid (mk_list H1), HPW, HBW⟩
        | false =>
          have hlt := of_decide_eq_false hq1
          have h1 := HH1.out
          rw [if_neg (by omega)] at h1
          have HN := Lib.hid h1
          clear hlt hq1 h1
          go_wp2_with fail
          go_meet
          exact ⟨_, rfl, Lib.hid (by rw [← HN.out]), HP0, Lib.hid (Below.refl _ _)⟩
      case rest =>
        obtain ⟨s1, rfl, HS1, HPW, HBW⟩ := hcut
        generalize wc = w1 at *
        clear a1 a2 a3 a4 a5 a6 hq1
        obtain ⟨a1, a2, a3, a4, a5, a6⟩ := Pk.cells3 HPW.out.1
        obtain ⟨q2, hq2⟩ : ∃ q, decide (0 < S.length) = q := ⟨_, rfl⟩
        have hs1l : s1.size ≤ 100 := by
          rw [size_list, HS1.out, ← HH1.out]
          split
          · exact Nat.le_trans (putL_few 31 32 y (by omega)) (by omega)
          · exact Nat.zero_le _
        go_upto_if 47 with fail
        go_cut [6] from 48 to 54 (fun v wx => ∃ s2 : ByteArray, v = .string s2 ∧ Hid (s2.data.toList = H1 ++ H2) ∧ Hid (PwSt w wx w.heap.size M Lt.length k S.length k' A A') ∧ Hid (Below W.heap.size W wx))
        case first =>
          cases q2 with
          | true =>
            have hlt := of_decide_eq_true hq2
            have h1 := HH2.out
            rw [if_neg (fun e => by rw [e] at hlt; exact absurd hlt (by decide))] at h1
            have HP := Lib.hid (show putL (fullN 5) 32 M = H2 from h1)
            clear hlt h1 hq2
            go_wp2_with fail
            refine (refPut_is s1 H2 32 M 5 w1 (by omega) (by decide) (by omega) (by omega) (by omega) HP).mono ?_
            rintro e w2 ⟨rfl, hB⟩
            have HPW2 := Lib.hid (HPW.out.below hB)
            have HBW2 := Lib.hid (HBW.out.trans (hB.mono HBW.out.size))
            rw [HS1.out]
            go_wp2_with fail
            go_meet
            exact ⟨_, rfl, Lib.hid (mk_list _), HPW2, HBW2⟩
          | false =>
            have hlt := of_decide_eq_false hq2
            have h1 := HH2.out
            rw [if_pos (List.length_eq_zero_iff.1 (by omega))] at h1
            have HN := Lib.hid h1
            clear hlt hq2 h1
            go_wp2_with fail
            go_meet
            exact ⟨_, rfl, Lib.hid (by rw [HS1.out, ← HN.out, List.append_nil]), HPW, HBW⟩
        case rest =>
          obtain ⟨s2, rfl, HS2, HPW2, HBW2⟩ := hcut
          generalize wc = w2 at *
          clear a1 a2 a3 a4 a5 a6 hq2
          obtain ⟨a1, a2, a3, a4, a5, a6⟩ := Pk.cells3 HPW2.out.1
          have HAX := Lib.hid (show ∀ b o, A = some ⟨b, o, none⟩ → b ≠ w.heap.size ∧ b ≠ w.heap.size + 1 ∧ (A = some ⟨b, o, none⟩ ∨ w.heap.size ≤ b) from fun b o hA => ⟨by have := tabE_lt h.tab b o hA; omega, by have := tabE_lt h.tab b o hA; omega, .inl hA⟩)
          have HT3 := Lib.hid (tabE_set (i := 2) (u := .slice none 0 0) (HTW.out.on HBW2.out HBW2.out.size) (fun b o hA => (HAX.out b o hA).1))
          have HP3 := Lib.hid HPW2.out.nil
          have HSUM := Lib.hid (show s2.data.toList ++ (Pk.all (M, Lt) (L.drop 0)).1 = Pk.wrote ((M, Lt), S) L by
            rw [HS2.out, List.drop_zero, ← HHD.out]
            rfl)
          have H4 := Lib.hid (show Up.Ok4 (M, Lt) from h4)
          go_wp2_with fail
          go_loopw [6, 9] (fun v i wr => ∃ (j : Nat) (u : ByteArray) (l : List Ent) (A2 : Option Addr) (k2 : Nat), j ≤ L.length ∧ i = .int .i64 (j : Int) ∧ v = .string u ∧ Hid (u.data.toList ++ (Pk.all (M, l) (L.drop j)).1 = Pk.wrote ((M, Lt), S) L) ∧ Hid ((Pk.all (M, l) (L.drop j)).2 = (Pk.all (M, Lt) L).2) ∧ Hid (Up.Ok4 (M, l)) ∧
            Hid (PwSt w wr w.heap.size M l.length k2 0 0 A2 none) ∧ Hid (TabE wr wr.heap.size A2 l.length k2 l) ∧ Hid (∀ b o, A2 = some ⟨b, o, none⟩ → b ≠ w.heap.size ∧ b ≠ w.heap.size + 1 ∧ (A = some ⟨b, o, none⟩ ∨ w.heap.size ≤ b))) (fun _ i _ => L.length + 1 - (intOf i).toNat)
          case atStart => exact ⟨0, s2, Lt, A, k, Nat.zero_le _, rfl, rfl, HSUM, Lib.hid (by rw [List.drop_zero]), H4, HP3, HT3, HAX⟩
          case round =>
            obtain ⟨j, u, l, A2, k2, hj, rfl, rfl, HU, HE, HO, HP, HT, HA⟩ := hrel
            clear HSUM HS2 HT3 HP3 HPW2 HBW2 HPW HBW HS1 HTW HSW HFW a1 a2 a3 a4 a5 a6
            have hul : u.size ≤ 300000 := by
              have := congrArg List.length HU.out
              rw [List.length_append, ← size_list] at this
              have := HBIG.out
              omega
            obtain ⟨c1, c2, c3, c4, c5, c6⟩ := Pk.cells3 HP.out.1
            by_cases hlt : j < L.length
            · obtain ⟨b, off, rfl, hb, x0, x1, x2, _⟩ := (hF.out.on HP.out.2.2.2 (Nat.le_refl _)) j hlt
              have hdr := Pk.fldAt_drop hlt
              have hsx := hsm.out _ (Pk.fldAt_mem hlt)
              obtain ⟨x, hx⟩ : ∃ x, Pk.fldAt L j = x := ⟨_, rfl⟩
              rw [hx] at x0 x1 x2 hdr hsx
              have hU := HU.out
              have hE := HE.out
              rw [hdr, Pk.all] at hU hE
              have NEXT := Lib.hid (show ∀ (p : List UInt8) (l' : List Ent), Pk.one (M, l) x = (p, (M, l')) → Hid ((mk (u.data.toList ++ p)).data.toList ++ (Pk.all (M, l') (L.drop (j + 1))).1 = Pk.wrote ((M, Lt), S) L) ∧ Hid ((Pk.all (M, l') (L.drop (j + 1))).2 = (Pk.all (M, Lt) L).2) from fun p l' e => by
                rw [e] at hU hE
                exact ⟨Lib.hid (by rw [mk_list, List.append_assoc]; exact hU), Lib.hid hE⟩)
              have H4N := Lib.hid (Pk.one_ok4 x HO.out)
              obtain ⟨⟨n, q⟩, hfind⟩ : ∃ z, findT x.name x.val (fixedT ++ l) = z := ⟨_, rfl⟩
              have hll := Pk.table_few HO.out
              simp only at hll
              have hnb : n ≤ 200 := by
                by_cases h0 : n = 0
                · omega
                · have := (Pk.find_name hfind h0).2.1
                  omega
              rw [List.length_append, fixedT_len] at hll
              have HFI := Lib.hid hfind
              have hls : l.length ≤ 30000 := by omega
              clear hU hE hdr hfind hx hll
              obtain ⟨nm, vl, nv⟩ := x
              simp only at x0 x1 x2 hsx HFI
              have hj1 : (0 : Int) ≤ (j : Int) := by omega
              have hj2 : (j : Int) < (L.length : Int) := by omega
              have ew : IntKind.i64.wrap ((j : Int) + 1) = ((j + 1 : Nat) : Int) := by rw [IntKind.wrap_i64]; omega
              have hG := heap_alloc_new wr (.cells #[.string nm, .string vl, .bool nv] 45)
              have hBG := (Below.refl wr.heap.size wr).alloc (Nat.le_refl _) (.cells #[.string nm, .string vl, .bool nv] 45)
              have HP1 := Lib.hid (HP.out.below hBG)
              have HT1 := Lib.hid (HT.out.on hBG hBG.size)
              have HG1 := Lib.hid hG
              have hGs : wr.heap.size < (wr.alloc (.cells #[.string nm, .string vl, .bool nv] 45)).heap.size := by simp
              obtain ⟨d1, d2, d3, d4, d5, d6⟩ := Pk.cells3 HP1.out.1
              obtain ⟨f1, f2, f3⟩ := fld_cells (x := ⟨nm, vl, nv⟩) hG
              simp only at f1 f2 f3
              clear hG hBG
              go_wp2_with fail
              generalize (wr.alloc (.cells #[.string nm, .string vl, .bool nv] 45)) = W1 at *
              refine (refFind_is (M : Int) A2 l.length k2 l nm vl n q W1 HT1 (Lib.hid rfl) hls HFI).mono ?_
              rintro e w2 ⟨rfl, hB⟩
              have HP2 := Lib.hid (HP1.out.below hB)
              have HG2 := Lib.hid ((hB.block wr.heap.size hGs).trans HG1.out)
              have HT2 := Lib.hid (HT1.out.on hB hB.size)
              have hGs2 : wr.heap.size < w2.heap.size := Nat.lt_of_lt_of_le hGs hB.size
              clear d1 d2 d3 d4 d5 d6 f1 f2 f3 hB HP1 HG1 HT1 hGs
              obtain ⟨d1, d2, d3, d4, d5, d6⟩ := Pk.cells3 HP2.out.1
              obtain ⟨f1, f2, f3⟩ := fld_cells (x := ⟨nm, vl, nv⟩) HG2.out
              simp only at f1 f2 f3
              cases nv with
              | true =>
                obtain ⟨p, hp⟩ : ∃ p, Pk.layF 15 16 n ⟨nm, vl, true⟩ = p := ⟨_, rfl⟩
                have hone : Pk.one (M, l) ⟨nm, vl, true⟩ = (p, (M, l)) := by
                  unfold Pk.one
                  rw [if_pos rfl, HFI.out, hp]
                obtain ⟨N1, N2⟩ := NEXT.out p l hone
                have HLY := Lib.hid (show Pk.layF (fullN 4) 16 n ⟨nm, vl, true⟩ = p from hp)
                clear hone hp
                go_wp2_with fail
                refine (refLay_is u 16 n 4 ⟨nm, vl, true⟩ p w2 (by omega) (by decide) (by omega) (by omega) (by omega) (by show nm.size ≤ _; omega) (by show vl.size ≤ _; omega) HLY).mono ?_
                rintro e w3 ⟨rfl, hB3⟩
                have HP3 := Lib.hid (HP2.out.below hB3)
                have HT3 := Lib.hid (HT2.out.on hB3 hB3.size)
                go_wp2_with fail
                go_roundw
                case rel => exact ⟨j + 1, _, l, A2, k2, by omega, rfl, rfl, N1, N2, HO, HP3, HT3, HA⟩
                case measure => simp [intOf] <;> omega
              | false =>
                cases q with
                | true =>
                  obtain ⟨p, hp⟩ : ∃ p, putL 127 128 n = p := ⟨_, rfl⟩
                  have hone : Pk.one (M, l) ⟨nm, vl, false⟩ = (p, (M, l)) := by
                    unfold Pk.one
                    rw [HFI.out]
                    simp only [Bool.false_eq_true, if_false, if_true]
                    rw [hp]
                  obtain ⟨N1, N2⟩ := NEXT.out p l hone
                  have HLY := Lib.hid (show putL (fullN 7) 128 n = p from hp)
                  have hwn : IntKind.u64.wrap (n : Int) = (n : Int) := by rw [IntKind.wrap_u64]; omega
                  clear hone hp
                  go_wp2_with fail
                  refine (refPut_is u p 128 n 7 w2 (by omega) (by decide) (by omega) (by omega) (by omega) HLY).mono ?_
                  rintro e w3 ⟨rfl, hB3⟩
                  have HP3 := Lib.hid (HP2.out.below hB3)
                  have HT3 := Lib.hid (HT2.out.on hB3 hB3.size)
                  go_wp2_with fail
                  go_roundw
                  case rel => exact ⟨j + 1, _, l, A2, k2, by omega, rfl, rfl, N1, N2, HO, HP3, HT3, HA⟩
                  case measure => simp [intOf] <;> omega
                | false =>
                  have hszd : sz (nm, vl) = nm.size + vl.size + 32 := rfl
                  by_cases hz : sz (nm, vl) ≤ M
                  · have g1 : (nm.size : Int) ≤ (M : Int) := by omega
                    have g2 : (vl.size : Int) ≤ (M : Int) := by omega
                    have g3 : (nm.size : Int) + (vl.size : Int) + 32 ≤ (M : Int) := by omega
                    obtain ⟨p, hp⟩ : ∃ p, Pk.layF 63 64 n ⟨nm, vl, false⟩ = p := ⟨_, rfl⟩
                    obtain ⟨l', hl'⟩ : ∃ l', (addT (M, l) (nm, vl)).2 = l' := ⟨_, rfl⟩
                    have hone : Pk.one (M, l) ⟨nm, vl, false⟩ = (p, (M, l')) := by
                      unfold Pk.one
                      rw [HFI.out]
                      simp only [Bool.false_eq_true, if_false]
                      rw [if_pos hz, hp, ← hl']
                      rfl
                    obtain ⟨N1, N2⟩ := NEXT.out p l' hone
                    have h4n := H4N.out
                    rw [hone] at h4n
                    have H4L := Lib.hid h4n
                    have HLY := Lib.hid (show Pk.layF (fullN 6) 64 n ⟨nm, vl, false⟩ = p from hp)
                    have HL' := Lib.hid hl'
                    clear hone hp hl' h4n
                    go_wp2_with fail
                    refine (refLay_is u 64 n 6 ⟨nm, vl, false⟩ p w2 (by omega) (by decide) (by omega) (by omega) (by omega) (by show nm.size ≤ _; omega) (by show vl.size ≤ _; omega) HLY).mono ?_
                    rintro e w3 ⟨rfl, hB3⟩
                    have HP3 := Lib.hid (HP2.out.below hB3)
                    have HT3 := Lib.hid (HT2.out.on hB3 hB3.size)
                    have HG3 := Lib.hid ((hB3.block wr.heap.size hGs2).trans HG2.out)
                    have hGs3 : wr.heap.size < w3.heap.size := Nat.lt_of_lt_of_le hGs2 hB3.size
                    clear d1 d2 d3 d4 d5 d6 f1 f2 f3 hB3
                    obtain ⟨d1, d2, d3, d4, d5, d6⟩ := Pk.cells3 HP3.out.1
                    obtain ⟨f1, f2, f3⟩ := fld_cells (x := ⟨nm, vl, false⟩) HG3.out
                    simp only at f1 f2 f3
                    go_wp2_with fail
                    refine (refAdd_t (M, l) nm vl A2 k2 w3 (Lib.hid HT3.out) HO (by omega) (by omega)).mono ?_
                    rintro e w4 ⟨A3, k3, rfl, hT4, hB4, hA4⟩
                    rw [HL'.out] at hT4 ⊢
                    have hp4 := HP3.out.below hB4
                    have hX3 := HP3.out.2.2.1
                    have HA4 := Lib.hid (show ∀ b o, A3 = some ⟨b, o, none⟩ → b ≠ w.heap.size ∧ b ≠ w.heap.size + 1 ∧ (A = some ⟨b, o, none⟩ ∨ w.heap.size ≤ b) from fun b o hb => ⟨by have := hA4 b o hb; omega, by have := hA4 b o hb; omega, .inr (by have := hA4 b o hb; omega)⟩)
                    have HT5 := Lib.hid (tabE_set (i := 1) (u := .slice A3 l'.length k3) (tabE_set (i := 0) (u := .int .i64 (M : Int)) hT4 (fun b o hb => (HA4.out b o hb).1)) (fun b o hb => (HA4.out b o hb).1))
                    have HP5 := Lib.hid (hp4.turn (n2 := l'.length) (k2 := k3) (A2 := A3))
                    clear d1 d2 d3 d4 d5 d6 f1 f2 f3
                    obtain ⟨d1, d2, d3, d4, d5, d6⟩ := Pk.cells3 hp4.1
                    obtain ⟨e1, e2, e3, e4, e5, e6⟩ := Pk.cells3 (Pk.put3_0 (y := .int .i64 (M : Int)) hp4.1)
                    clear hp4 hT4 hB4 hA4 hX3
                    go_wp2_with fail
                    go_roundw
                    case rel => exact ⟨j + 1, _, l', A3, k3, by omega, rfl, rfl, N1, N2, H4L, HP5, HT5, HA4⟩
                    case measure => simp [intOf] <;> omega
                  · by_cases g1 : nm.size ≤ M
                    · by_cases g2 : vl.size ≤ M
                      · have g3 : ¬ ((nm.size : Int) + (vl.size : Int) + 32 ≤ (M : Int)) := by omega
                        obtain ⟨p, hp⟩ : ∃ p, Pk.layF 15 0 n ⟨nm, vl, false⟩ = p := ⟨_, rfl⟩
                        have hone : Pk.one (M, l) ⟨nm, vl, false⟩ = (p, (M, l)) := by
                          unfold Pk.one
                          rw [HFI.out]
                          simp only [Bool.false_eq_true, if_false]
                          rw [if_neg hz, hp]
                        obtain ⟨N1, N2⟩ := NEXT.out p l hone
                        have HLY := Lib.hid (show Pk.layF (fullN 4) 0 n ⟨nm, vl, false⟩ = p from hp)
                        clear hone hp
                        go_wp2_with fail
                        refine (refLay_is u 0 n 4 ⟨nm, vl, false⟩ p w2 (by omega) (by decide) (by omega) (by omega) (by omega) (by show nm.size ≤ _; omega) (by show vl.size ≤ _; omega) HLY).mono ?_
                        rintro e w3 ⟨rfl, hB3⟩
                        have HP3 := Lib.hid (HP2.out.below hB3)
                        have HT3 := Lib.hid (HT2.out.on hB3 hB3.size)
                        go_wp2_with fail
                        go_roundw
                        case rel => exact ⟨j + 1, _, l, A2, k2, by omega, rfl, rfl, N1, N2, HO, HP3, HT3, HA⟩
                        case measure => simp [intOf] <;> omega
                      · have g3 : (nm.size : Int) ≤ (M : Int) := by omega
                        obtain ⟨p, hp⟩ : ∃ p, Pk.layF 15 0 n ⟨nm, vl, false⟩ = p := ⟨_, rfl⟩
                        have hone : Pk.one (M, l) ⟨nm, vl, false⟩ = (p, (M, l)) := by
                          unfold Pk.one
                          rw [HFI.out]
                          simp only [Bool.false_eq_true, if_false]
                          rw [if_neg hz, hp]
                        obtain ⟨N1, N2⟩ := NEXT.out p l hone
                        have HLY := Lib.hid (show Pk.layF (fullN 4) 0 n ⟨nm, vl, false⟩ = p from hp)
                        clear hone hp
                        go_wp2_with fail
                        refine (refLay_is u 0 n 4 ⟨nm, vl, false⟩ p w2 (by omega) (by decide) (by omega) (by omega) (by omega) (by show nm.size ≤ _; omega) (by show vl.size ≤ _; omega) HLY).mono ?_
                        rintro e w3 ⟨rfl, hB3⟩
                        have HP3 := Lib.hid (HP2.out.below hB3)
                        have HT3 := Lib.hid (HT2.out.on hB3 hB3.size)
                        go_wp2_with fail
                        go_roundw
                        case rel => exact ⟨j + 1, _, l, A2, k2, by omega, rfl, rfl, N1, N2, HO, HP3, HT3, HA⟩
                        case measure => simp [intOf] <;> omega
                    · have g3 : ¬ ((nm.size : Int) ≤ (M : Int)) := by omega
                      obtain ⟨p, hp⟩ : ∃ p, Pk.layF 15 0 n ⟨nm, vl, false⟩ = p := ⟨_, rfl⟩
                      have hone : Pk.one (M, l) ⟨nm, vl, false⟩ = (p, (M, l)) := by
                        unfold Pk.one
                        rw [HFI.out]
                        simp only [Bool.false_eq_true, if_false]
                        rw [if_neg hz, hp]
                      obtain ⟨N1, N2⟩ := NEXT.out p l hone
                      have HLY := Lib.hid (show Pk.layF (fullN 4) 0 n ⟨nm, vl, false⟩ = p from hp)
                      clear hone hp
                      go_wp2_with fail
                      refine (refLay_is u 0 n 4 ⟨nm, vl, false⟩ p w2 (by omega) (by decide) (by omega) (by omega) (by omega) (by show nm.size ≤ _; omega) (by show vl.size ≤ _; omega) HLY).mono ?_
                      rintro e w3 ⟨rfl, hB3⟩
                      have HP3 := Lib.hid (HP2.out.below hB3)
                      have HT3 := Lib.hid (HT2.out.on hB3 hB3.size)
                      go_wp2_with fail
                      go_roundw
                      case rel => exact ⟨j + 1, _, l, A2, k2, by omega, rfl, rfl, N1, N2, HO, HP3, HT3, HA⟩
                      case measure => simp [intOf] <;> omega
            · have hjl : j = L.length := by omega
              subst hjl
              have hU := HU.out
              have hE := HE.out
              rw [List.drop_length, Pk.all] at hU hE
              rw [List.append_nil] at hU
              have hu : u = r := by rw [← hr.out, ← hU, mk_data]
              subst hu
              have HBH := Lib.hid (show Pk.behind ((M, Lt), S) L = ((M, l), []) by unfold Pk.behind; rw [← hE])
              have k1 := HP.out.2.1
              have y6 := Pk.put3 (x := .int .i64 (M : Int)) (y := .slice A2 l.length k2) (z := .slice none 0 0) k1
              obtain ⟨d1, d2, d3, d4, d5, d6⟩ := Pk.cells3 k1
              obtain ⟨e1, e2, e3, e4, e5, e6⟩ := Pk.cells3 (Pk.put3_0 (y := .int .i64 (M : Int)) k1)
              obtain ⟨f1, f2, f3, f4, f5, f6⟩ := Pk.cells3 (Pk.put3_1 (y := .slice A2 l.length k2) (Pk.put3_0 (y := .int .i64 (M : Int)) k1))
              obtain ⟨z1, z2, z3, _, _, _⟩ := Pk.cells3 y6
              have hn1 : ∀ b o, A2 = some ⟨b, o, none⟩ → b ≠ w.heap.size + 1 := fun b o hb => (HA.out b o hb).2.1
              have HT5 := Lib.hid (tabE_set (i := 2) (u := .slice none 0 0) (tabE_set (i := 1) (u := .slice A2 l.length k2) (tabE_set (i := 0) (u := .int .i64 (M : Int)) HT.out hn1) hn1) hn1)
              have HB5 := Lib.hid (((HP.out.2.2.2.setCell (p := ⟨w.heap.size + 1, 0, none⟩) (Nat.le_succ _) (.int .i64 (M : Int))).setCell (p := ⟨w.heap.size + 1, 1, none⟩) (Nat.le_succ _) (.slice A2 l.length k2)).setCell (p := ⟨w.heap.size + 1, 2, none⟩) (Nat.le_succ _) (.slice none 0 0))
              clear k1 y6 hU hE hn1
              go_wp2_with fail
              refine bodyPost_ret (v := .tuple #[.agg #[.int .i64 (M : Int), .slice A2 l.length k2, .slice none 0 0], .string u]) (by simp [results, Try.results23, go_sem, z1, z2, z3]) rfl ?_
              rw [HBH.out]
              exact ⟨A2, k2, rfl, ⟨HT5.out, RdN.void _ _ _, fun _ => rfl⟩, HB5.out, fun b o hb => (HA.out b o hb).2.2⟩
end Go.Proofs.Ytamgnbjdeoklbaa

/- Header blocks as they are sent: how long a block may be; the document's Write of few fields. -/
namespace Go.Proofs.Ytamgnbjdeoklbaa
open Go Go.RowKit Bytes Pf Tb Up Pk

/-- The document's Write, of few fields. -/
theorem pwrite_few (c : Pk.Enc) (L : List Fld) (A : Option Addr) (k : Nat) (A' : Option Addr) (k' : Nat) (a : Option Addr) (cap : Nat) (r : ByteArray) (w : World) (h : EncE w w.heap.size c A k A' k') (h4 : Up.Ok4 c.1) (hS : c.2.length ≤ 1000) (hS4 : ∀ n ∈ c.2, n ≤ 4096)
    (hF : Hid (Pk.RdF w w.heap.size a L)) (hf : L.length + sumZ L < 3000) (hr : Hid (mk (Pk.wrote c L) = r)) :
    Calls Try.prog 23 #[encV c A k A' k', .slice a L.length cap] w fun e w' => ∃ A2 k2, e = .returned (.tuple #[encV (Pk.behind c L) A2 k2 none 0, .string r]) ∧ EncE w' w'.heap.size (Pk.behind c L) A2 k2 none 0 ∧ Below w.heap.size w w' ∧ (∀ b o, A2 = some ⟨b, o, none⟩ → A = some ⟨b, o, none⟩ ∨ w.heap.size ≤ b) :=
  pwrite_is c L A k A' k' a cap r w h h4 hS hS4 hF (by omega) (Lib.hid (small_few hf)) (by have := wrote_len h4 hf; omega) hr
end Go.Proofs.Ytamgnbjdeoklbaa

/- A builder that lies in a writer's block: what is written to it goes behind what it holds; its text. For texts of at most 2 * 10^9 bytes. -/
namespace Go.Proofs.Ytamgnbjdeoklbaa
open Go Go.RowKit Bytes Tb

theorem infoB : (Try.prog.info? 73).map (·.size) = some 2 := by kernel_rfl
theorem liesW : liesAt Try.prog Try.prog.depth 75 (3 / Try.prog.cellsOf 75) 0 73 1 = true := by kernel_rfl
theorem own_keep {w w' : World} {g n size : Nat} {e : TypeId} {v : Value} {xs : List Value} (h : w.ownsRow g e size v n xs) (hk : ∀ k, v.ownBlock = some k → w'.heap[k]? = w.heap[k]?) : w'.ownsRow g e size v n xs := by
  refine ⟨h.1, ?_⟩
  rcases h.2 with hn | ⟨b, cap, cur, rfl, hb, hgg, rest⟩
  · exact .inl hn
  · exact .inr ⟨b, cap, cur, rfl, hb, (hk b rfl).trans hgg, rest⟩
theorem own_kind {w : World} {B : Nat} {e : TypeId} {v : Value} {n : Nat} {xs : List Value} (h : w.ownsRow B e 1 v n xs) {k : Nat} (hk : v.ownBlock = some k) : ∃ c, w.heap[k]? = some (.cells c e (0, 0)) := by
  rcases h.2 with ⟨rfl, _⟩ | ⟨g', cap, cur, rfl, _, hgg, _⟩
  · simp [Value.ownBlock] at hk
  · simp [Value.ownBlock] at hk
    subst hk
    exact ⟨cur, hgg⟩

namespace Pk
/-- A writer in block u: its builder (the buffer v, the bytes l), the table in block g, its row in block b. -/
structure WrS (w : World) (B u g b : Nat) (v : Value) (l : List UInt8) (t : Tab) : Prop where
  le : B ≤ u
  cells : ∃ p, (p = Value.pointer none ∨ p = .pointer (some ⟨u, 0, none⟩)) ∧ w.heap[u]? = some (.cells #[p, v, .pointer (some ⟨g, 0, none⟩)] 75 (0, 0))
  own : w.ownsRow B 5 1 v l.length (Bytes.byteCells l)
  nb : v.ownBlock ≠ some b
  nil : l = [] → v = .slice none 0 0
  tab : TAt w g b t
  ok4 : Up.Ok4 t
  ug : u ≠ g
  ub : u ≠ b
/-- What stands while it writes: all below B but the table; above B all but rows of bytes. -/
structure WrK (B u g b : Nat) (w w' : World) : Prop where
  os : w'.os = w.os
  tape : w'.tape = w.tape
  output : w'.output = w.output
  size : w.heap.size ≤ w'.heap.size
  block : ∀ k o, w.heap[k]? = some o → k ≠ u → k ≠ g → k ≠ b → (k < B ∨ ∀ c fz, o ≠ .cells c 5 fz) → w'.heap[k]? = some o
/-- One block alone may have turned. -/
structure Only (u : Nat) (w w' : World) : Prop where
  os : w'.os = w.os
  tape : w'.tape = w.tape
  output : w'.output = w.output
  size : w'.heap.size = w.heap.size
  block : ∀ k, k ≠ u → w'.heap[k]? = w.heap[k]?
section
variable {w w1 w2 : World} {B u g b b' : Nat} {v : Value} {l : List UInt8} {t : Tab}
theorem WrK.refl (B u g b : Nat) (w : World) : WrK B u g b w w := ⟨rfl, rfl, rfl, Nat.le_refl _, fun _ _ h _ _ _ _ => h⟩
theorem WrK.trans (h : WrK B u g b w w1) (k : WrK B u g b' w1 w2) (hb : b' = b ∨ b' = g ∨ w.heap.size ≤ b') : WrK B u g b w w2 :=
  ⟨k.os.trans h.os, k.tape.trans h.tape, k.output.trans h.output, Nat.le_trans h.size k.size, fun i o hi h1 h2 h3 h4 =>
    k.block i o (h.block i o hi h1 h2 h3 h4) h1 h2 (by have := world_lt hi; rcases hb with rfl | rfl | hb; exact h3; exact h2; omega) h4⟩
theorem WrK.of_below (h : Below w.heap.size w w1) : WrK B u g b w w1 := ⟨h.os, h.tape, h.output, h.size, fun i _ hi _ _ _ _ => (h.block i (world_lt hi)).trans hi⟩
theorem WrK.below (h : WrK B u g b w w1) (k : Below w1.heap.size w1 w2) : WrK B u g b w w2 := h.trans (b' := b) (.of_below k) (.inl rfl)
theorem WrK.first (h : Below w.heap.size w w1) (k : WrK B u g b w1 w2) : WrK B u g b w w2 := WrK.trans (.of_below h) k (.inl rfl)
theorem Only.refl (u : Nat) (w : World) : Only u w w := ⟨rfl, rfl, rfl, rfl, fun _ _ => rfl⟩
theorem Only.set (u i : Nat) (w : World) (x : Value) : Only u w (w.setCell ⟨u, i, none⟩ x) := ⟨rfl, rfl, rfl, by simp, fun k hk => Below.heap_setCell w ⟨u, i, none⟩ x k hk⟩
theorem WrS.ult (h : WrS w B u g b v l t) : u < w.heap.size := by obtain ⟨p, _, hc⟩ := h.cells; exact world_lt hc
theorem WrS.vlt (h : WrS w B u g b v l t) {k : Nat} (hk : v.ownBlock = some k) : k < w.heap.size ∧ B ≤ k := by
  have := h.own.lt k hk
  exact ⟨this.2, this.1⟩
theorem WrS.vu (h : WrS w B u g b v l t) {k : Nat} (hk : v.ownBlock = some k) : k ≠ u ∧ k ≠ g := by
  obtain ⟨c, hc⟩ := own_kind h.own hk
  refine ⟨fun e => ?_, fun e => ?_⟩
  · obtain ⟨p, _, hu⟩ := h.cells
    rw [e, hu] at hc
    simp at hc
  · obtain ⟨⟨ao, off, cc, hT⟩, _⟩ := h.tab
    have := hT.1
    rw [e, this] at hc
    simp at hc
theorem WrS.kept (h : WrS w B u g b v l t) (hs : w.heap.size ≤ w1.heap.size) (hk : ∀ k, k < w.heap.size → w1.heap[k]? = w.heap[k]?) : WrS w1 B u g b v l t := by
  obtain ⟨p, hp, hc⟩ := h.cells
  exact ⟨h.le, ⟨p, hp, (hk u h.ult).trans hc⟩, own_keep h.own (fun k hv => hk k (h.vlt hv).1), h.nb, h.nil, h.tab.kept hs (hk g h.tab.lt.1) (fun hb => hk b hb), h.ok4, h.ug, h.ub⟩
theorem WrS.below (h : WrS w B u g b v l t) (k : Below w.heap.size w w1) : WrS w1 B u g b v l t := h.kept k.size k.block
/-- A new buffer laid into it. -/
theorem WrS.put {r : List UInt8} {n : Nat} {v' : Value} (h : WrS w B u g b v l t) (hG : w.grownBy w1 v.ownBlock) (hO : w1.ownsRow B 5 1 v' n (Bytes.byteCells (l ++ r))) (hn : (l ++ r).length = n) (h0 : l ++ r = [] → v' = .slice none 0 0) (hloc : v'.ownBlock = v.ownBlock ∨ ∀ k, v'.ownBlock = some k → w.heap.size ≤ k) :
    WrS (w1.setCell ⟨u, 1, none⟩ v') B u g b v' (l ++ r) t ∧ WrK B u g b w (w1.setCell ⟨u, 1, none⟩ v') := by
  subst hn
  obtain ⟨p, hp, hc⟩ := h.cells
  have hul := h.ult
  have hvu : v.ownBlock ≠ some u := fun e => (h.vu e).1 rfl
  have hvg : v.ownBlock ≠ some g := fun e => (h.vu e).2 rfl
  have hu1 : w1.heap[u]? = some (.cells #[p, v, .pointer (some ⟨g, 0, none⟩)] 75 (0, 0)) := (hG.block u hul (fun e => hvu e.symm)).trans hc
  have hnu : v'.ownBlock ≠ some u := fun e => by
    obtain ⟨c, hcc⟩ := own_kind hO e
    rw [hu1] at hcc
    simp at hcc
  have hgl := h.tab.lt
  have hset : ∀ k, k ≠ u → (w1.setCell ⟨u, 1, none⟩ v').heap[k]? = w1.heap[k]? := fun k hk => Below.heap_setCell w1 ⟨u, 1, none⟩ v' k hk
  have hz : w.heap.size ≤ (w1.setCell ⟨u, 1, none⟩ v').heap.size := by have := hG.size; simpa using this
  refine ⟨⟨h.le, ⟨p, hp, ?_⟩, own_keep hO (fun k hk => hset k (fun e => hnu (by rw [hk, e]))), ?_, h0, ?_, h.ok4, h.ug, h.ub⟩, ⟨hG.os, hG.tape, hG.output, hz, fun k _ hk h1 h2 h3 h4 => ?_⟩⟩
  · simp [World.setCell, Array.getElem?_modify, hu1]
  · rcases hloc with e | e
    · rw [e]; exact h.nb
    · intro e2
      have := e b e2
      omega
  · exact h.tab.kept hz ((hset g (fun e => h.ug e.symm)).trans (hG.block g hgl.1 (fun e => hvg e.symm))) (fun hb => (hset b (fun e => h.ub e.symm)).trans (hG.block b hb (fun e => h.nb e.symm)))
  · refine ((hset k h1).trans (hG.block k (world_lt hk) (fun e => ?_))).trans hk
    rcases h4 with h4 | h4
    · have := (h.vlt e.symm).2
      omega
    · obtain ⟨c, hcc⟩ := own_kind h.own e.symm
      rw [hk] at hcc
      exact h4 _ _ (Option.some.inj hcc)
theorem WrS.only (h : WrS w B u g b v l t) (hO : Only u w w1) {q : Value} (hq : q = .pointer none ∨ q = .pointer (some ⟨u, 0, none⟩)) (hc : w1.heap[u]? = some (.cells #[q, v, .pointer (some ⟨g, 0, none⟩)] 75 (0, 0))) : WrS w1 B u g b v l t ∧ WrK B u g b w w1 := by
  have hvu : v.ownBlock ≠ some u := fun e => (h.vu e).1 rfl
  exact ⟨⟨h.le, ⟨q, hq, hc⟩, own_keep h.own (fun k hk => hO.block k (fun e => hvu (by rw [hk, e]))), h.nb, h.nil, h.tab.kept (Nat.le_of_eq hO.size.symm) (hO.block g (fun e => h.ug e.symm)) (fun _ => hO.block b (fun e => h.ub e.symm)), h.ok4, h.ug, h.ub⟩,
    ⟨hO.os, hO.tape, hO.output, Nat.le_of_eq hO.size.symm, fun k o hk h1 _ _ _ => (hO.block k h1).trans hk⟩⟩
end
theorem zero_add2 (g j : Nat) : (⟨g, 0, none⟩ : Addr).add j = ⟨g, j, none⟩ := by
  unfold Addr.add
  by_cases hj : j = 0
  · subst hj; rfl
  · simp [hj]
/-- append of bytes to a row of one's own: where it lies then. -/
theorem run_append_bytes (w : World) (ty : TypeId) (base : Nat) (v : Value) (m : Nat) (l : List UInt8) (hO : w.ownsRow base 5 1 v m (Bytes.byteCells l)) (gs k cs : Nat) (r : List UInt8) (hk : r.length = k) (h0 : 0 < k)
    (hr : ∀ j u, (Bytes.byteCells r)[j]? = some u → w.cell? ((⟨gs, 0, none⟩ : Addr).add j) = some u) (hmn : m + k ≤ 2000000000) (hb : base ≤ w.heap.size) :
    ∃ gg cap w', (Builtin.append_ #[71, 71] ty #[v, .slice (some ⟨gs, 0, none⟩) k cs]).run Try.prog w = .ok (.slice (some ⟨gg, 0, none⟩) (m + k) cap) w' ∧ w'.ownsRow base 5 1 (.slice (some ⟨gg, 0, none⟩) (m + k) cap) (m + k) (Bytes.byteCells (l ++ r)) ∧ w.grownBy w' v.ownBlock ∧ (v.ownBlock = some gg ∨ w.heap.size ≤ gg) := by
  obtain ⟨i0, hi, hz0, hz1, hz2⟩ := info_parts info5
  have ht := Try.underlying71
  have hrl := byteCells_len r
  have hl : (Bytes.byteCells r).length = k * i0.size := by rw [hz1]; omega
  have hone : ∀ u ∈ Bytes.byteCells r, u.oneCell' = true := fun u hu => by
    unfold Bytes.byteCells at hu
    obtain ⟨x, _, rfl⟩ := List.mem_map.1 hu
    rfl
  obtain ⟨v', w', hrun, h2, h3, _⟩ := run_append_own (P := Try.prog) w base 71 ty 5 i0 _ 1 1 ht hi hz0 hz1 hz2 rfl (by decide) v m (Bytes.byteCells l) hO ⟨gs, 0, none⟩ k cs (Bytes.byteCells r) (by rw [hl, hz1]) hr hone (by unfold maxLen; omega) (by omega) hb
  rw [← byteCells_cat] at h2
  have hloc : ∃ gg cap, v' = .slice (some ⟨gg, 0, none⟩) (m + k) cap ∧ (v.ownBlock = some gg ∨ w.heap.size ≤ gg) := by
    have hxl : (Bytes.byteCells l).length = m := by simpa using hO.1
    rcases hO.2 with ⟨rfl, rfl⟩ | ⟨g0, cap, cur, rfl, hbg, hgg, hnc, hcm, hcs, htake⟩
    · have hr2 := run_append_nil (P := Try.prog) w 71 ty 5 i0 _ ht hi hz0 ⟨gs, 0, none⟩ k cs (Bytes.byteCells r) hl hr (by omega) (by omega) (by rw [hz2]; omega)
      rw [hrun] at hr2
      injection hr2 with e1 e2
      exact ⟨_, _, by rw [e1, Nat.zero_add], .inr (Nat.le_refl _)⟩
    · by_cases hroom : m + k ≤ cap
      · have hr2 := run_append_room (P := Try.prog) w 71 ty 5 i0 ht hi g0 m cap cur hgg ⟨gs, 0, none⟩ k cs (Bytes.byteCells r) hl hr hone hroom (by rw [hl, hz1, hcs]; omega)
        rw [hrun] at hr2
        injection hr2 with e1 e2
        exact ⟨_, _, e1, .inl rfl⟩
      · have holds : ∀ j u, (Bytes.byteCells l)[j]? = some u → w.cell? ((⟨g0, 0, none⟩ : Addr).add j) = some u := hO.cells (g := g0) rfl
        have hr2 := run_append_grow (P := Try.prog) w 71 ty 5 i0 _ ht hi hz0 ⟨g0, 0, none⟩ m cap (Bytes.byteCells l) (by rw [hz1]; omega) holds ⟨gs, 0, none⟩ k cs (Bytes.byteCells r) hl hr (by omega) (by omega) (growslice_fits (by omega) (by rw [hz2]; omega))
        rw [hrun] at hr2
        injection hr2 with e1 e2
        exact ⟨_, _, e1, .inr (Nat.le_refl _)⟩
  obtain ⟨gg, cap, rfl, hl⟩ := hloc
  exact ⟨gg, cap, w', hrun, h2, h3, hl⟩
theorem strCells_bytes' (s : ByteArray) : Lib.strCells s = Bytes.byteCells s.data.toList := rfl
/-- The same of a text, where something stands already. -/
theorem run_append_str (w : World) (ty : TypeId) (base : Nat) (g0 m c0 : Nat) (l : List UInt8) (hO : w.ownsRow base 5 1 (.slice (some ⟨g0, 0, none⟩) m c0) m (Bytes.byteCells l)) (s : ByteArray) (n : Nat) (hn : s.size = n) (hmn : m + n ≤ 2000000000) (hb : base ≤ w.heap.size) :
    ∃ gg cap w', (Builtin.append_ #[71, 9] ty #[.slice (some ⟨g0, 0, none⟩) m c0, .string s]).run Try.prog w = .ok (.slice (some ⟨gg, 0, none⟩) (m + n) cap) w' ∧ w'.ownsRow base 5 1 (.slice (some ⟨gg, 0, none⟩) (m + n) cap) (m + n) (Bytes.byteCells (l ++ s.data.toList)) ∧ w.grownBy w' (some g0) ∧ (gg = g0 ∨ w.heap.size ≤ gg) := by
  obtain ⟨i5, hi, hz0, hz1, hz2⟩ := info_parts info5
  subst hn
  obtain ⟨v', w', hr, h2, h3, _⟩ := Lib.run_append_own_string (P := Try.prog) w base 71 9 ty 5 i5 Try.underlying71 Try.underlying9 hi hz0 hz1 hz2 _ m (Bytes.byteCells l) hO s (by unfold maxLen; omega) (by omega) hb
  rw [strCells_bytes', ← byteCells_cat] at h2
  have hxl : (Bytes.byteCells l).length = m := by simpa using hO.1
  have hloc : ∃ gg cap, v' = .slice (some ⟨gg, 0, none⟩) (m + s.size) cap ∧ (gg = g0 ∨ w.heap.size ≤ gg) := by
    rcases hO.2 with ⟨e, _⟩ | ⟨g1, cap, cur, e, hbg, hgg, hnc, hcm, hcs, htake⟩
    · cases e
    · injection e with e1 _ e3
      injection e1 with e1
      injection e1 with e1
      subst e1 e3
      by_cases hroom : m + s.size ≤ c0
      · have hcs' : cur.size = c0 := by simpa using hcs
        have hr2 := Lib.run_append_room_string (P := Try.prog) w 71 9 ty 5 i5 Try.underlying71 Try.underlying9 hi hz1 g0 m c0 cur hgg s hroom (by omega)
        rw [hr] at hr2
        injection hr2 with e1 e2
        exact ⟨_, _, e1, .inl rfl⟩
      · have holds : ∀ j u, (Bytes.byteCells l)[j]? = some u → w.cell? ((⟨g0, 0, none⟩ : Addr).add j) = some u := hO.cells (g := g0) rfl
        have hr2 := Lib.run_append_grow_string (P := Try.prog) w 71 9 ty 5 i5 (.int .u8 0) Try.underlying71 Try.underlying9 hi hz0 ⟨g0, 0, none⟩ m c0 (Bytes.byteCells l) (by rw [hz1]; simpa using hxl) holds s (by omega) (by omega) (by rw [hz2]; exact growslice_fits (by omega) (by omega))
        rw [hr] at hr2
        injection hr2 with e1 e2
        exact ⟨_, _, e1, .inr (Nat.le_refl _)⟩
  obtain ⟨gg, cap, rfl, hl⟩ := hloc
  exact ⟨gg, cap, w', hr, h2, h3, hl⟩
/-- An append of a text whose run is known. -/
theorem wpList_append_srun {P : Program} {w w' : World} {ops : Array Oper} {rest : List Oper} {o : Oper} {a : Act} {Q : Exit → Act → World → Prop} (hg : o.guard = none) (s x : Operand) (t t2 : TypeId) (hop : o.op = Op.call { callee := Callee.builtin Builtin.append, args := #[s, x], argTypes := #[t, t2] })
    (vs vx v' : Value) (hs : a.eval s = vs) (hx : a.eval x = vx) (hrun : (Builtin.append_ #[t, t2] o.type #[vs, vx]).run P w = .ok v' w') (hK : wpList P ops Q rest (a.put o.dst v') w') : wpList P ops Q (o :: rest) a w := by
  refine wpList_plain hg fun K hK' => ?_
  unfold Oper.wp
  simp [execOp, hop, resolve, invoke, builtin, hs, hx, hrun, Result.andThen]
  exact hK' _ _ hK
end Pk
open Pk

set_option maxHeartbeats 1000000 in
set_option maxRecDepth 100000 in
theorem bcheck_used (u : Nat) (v q : Value) (w : World) (h : w.heap[u]? = some (.cells #[.pointer (some ⟨u, 0, none⟩), v, q] 75 (0, 0))) :
    Calls Try.prog 71 #[.pointer (some ⟨u, 0, none⟩)] w fun e w' => e = .returned (.tuple #[]) ∧ w' = w := by
  obtain ⟨j, hj, _⟩ := Option.map_eq_some_iff.1 infoB
  have h0 : w.cell? ⟨u, 0, none⟩ = some (.pointer (some ⟨u, 0, none⟩)) := cell_of_row _ u 0 _ _ _ h
  go_enter Try.func71, Try.ntmps71
  go_wp2
  rw [Lib.run_neq_ptr_same w _ Try.underlying70 hj]
  go_wp2
  go_end0
  exact ⟨rfl, rfl⟩

set_option maxHeartbeats 1000000 in
set_option maxRecDepth 100000 in
theorem bcheck_fresh (u : Nat) (v q : Value) (w : World) (h : w.heap[u]? = some (.cells #[.pointer none, v, q] 75 (0, 0))) :
    Calls Try.prog 71 #[.pointer (some ⟨u, 0, none⟩)] w fun e w' => e = .returned (.tuple #[]) ∧ w' = w.setCell ⟨u, 0, none⟩ (.pointer (some ⟨u, 0, none⟩)) := by
  obtain ⟨j, hj, hjs⟩ := Option.map_eq_some_iff.1 infoB
  have h0 : w.cell? ⟨u, 0, none⟩ = some (.pointer none) := cell_of_row _ u 0 _ _ _ h
  have hsh : w.shape? u = some (75, 3) := by simp [World.shape?, h]
  have hfz : w.frozen? ⟨u, 0, none⟩ = false := by simp [World.frozen?, h]
  go_enter Try.func71, Try.ntmps71
  go_wp2
  rw [Lib.run_to_unsafe w ⟨u, 0, none⟩ Try.underlying70 Try.underlying139 hj (by rw [hjs]; decide) hsh (Nat.zero_lt_succ 2)]
  simp only [Result.andThen]
  rw [Oper.upon_value]
  go_wp2
  rw [run_callFunc_extern Try.func84 (by kernel_rfl) (by kernel_rfl) (by kernel_rfl) (e := Extern.AbiNoEscape.same) (by kernel_rfl)]
  rw [Lib.run_noEscape]
  simp only [Result.andThen]
  rw [Oper.upon_value]
  go_wp2
  rw [Lib.run_from_unsafe w ⟨u, 0, none⟩ Try.underlying139 Try.underlying70 hj hsh liesW]
  simp only [Result.andThen]
  rw [Oper.upon_value]
  go_wp2
  go_end0
  exact ⟨rfl, rfl⟩

theorem bcheck_any (B u g b : Nat) (v : Value) (l : List UInt8) (t : Tab) (w : World) (h : WrS w B u g b v l t) :
    Calls Try.prog 71 #[.pointer (some ⟨u, 0, none⟩)] w fun e w' => e = .returned (.tuple #[]) ∧ WrS w' B u g b v l t ∧ WrK B u g b w w' ∧ Only u w w' := by
  obtain ⟨p, hp, hc⟩ := h.cells
  rcases hp with rfl | rfl
  · refine (bcheck_fresh u v _ w hc).mono ?_
    rintro e w' ⟨rfl, rfl⟩
    have hO := Only.set u 0 w (.pointer (some ⟨u, 0, none⟩))
    have := h.only hO (.inr rfl) (by simp [World.setCell, Array.getElem?_modify, hc])
    exact ⟨rfl, this.1, this.2, hO⟩
  · refine (bcheck_used u v _ w hc).mono ?_
    rintro e w' ⟨rfl, rfl⟩
    exact ⟨rfl, h, WrK.refl _ _ _ _ _, Only.refl _ _⟩

set_option maxHeartbeats 2000000 in
set_option maxRecDepth 100000 in
/-- Write: bytes. -/
theorem bwrite_any (B u g b : Nat) (v : Value) (l r : List UInt8) (t : Tab) (gs k cs : Nat) (w : World) (h : WrS w B u g b v l t) (hk : r.length = k) (h0 : 0 < k) (hr : ∀ j x, (Bytes.byteCells r)[j]? = some x → w.cell? ((⟨gs, 0, none⟩ : Addr).add j) = some x) (hgs : gs ≠ u) (hmn : l.length + k ≤ 2000000000) :
    Calls Try.prog 61 #[.pointer (some ⟨u, 0, none⟩), .slice (some ⟨gs, 0, none⟩) k cs] w fun e w' => e = .returned (.tuple #[.int .i64 k, .nilIface]) ∧ ∃ v', WrS w' B u g b v' (l ++ r) t ∧ WrK B u g b w w' := by
  have H := Lib.hid h
  have HR := Lib.hid hr
  have HK := Lib.hid hk
  clear h hr hk
  go_enter Try.func61, Try.ntmps61
  go_wp2_with fail
  refine (bcheck_any B u g b v l t _ H.out).mono ?_
  rintro e w1 ⟨rfl, h1, hK1, hO1⟩
  obtain ⟨gg, cap, w2, hrun, hO2, hG2, hloc⟩ := run_append_bytes w1 71 B v l.length l h1.own gs k cs r HK.out h0 (fun j x hj => by
    have := HR.out j x hj
    rw [zero_add2] at this ⊢
    exact (World.cell?_of_block (a := ⟨gs, j, none⟩) (hO1.block gs hgs)).trans this) hmn (by have := h1.ult; have := h1.le; omega)
  have hne : l ++ r ≠ [] := fun e => by
    have := congrArg List.length e
    rw [List.length_append, HK.out, List.length_nil] at this
    omega
  have hput := h1.put hG2 hO2 (by rw [List.length_append, HK.out]) (fun e => absurd e hne) (by
    rcases hloc with e | e
    · exact .inl e.symm
    · exact .inr fun k2 hk2 => by
        injection hk2 with hk2
        have hk3 : gg = k2 := hk2
        omega)
  obtain ⟨p, hp, hc⟩ := h1.cells
  have c1 : w1.cell? ⟨u, 1, none⟩ = some v := cell_of_row _ u 1 _ _ _ hc
  have hvu : v.ownBlock ≠ some u := fun e => (h1.vu e).1 rfl
  have hu2 : w2.heap[u]? = some (.cells #[p, v, .pointer (some ⟨g, 0, none⟩)] 75 (0, 0)) := (hG2.block u h1.ult (fun e => hvu e.symm)).trans hc
  have d1 : w2.cell? ⟨u, 1, none⟩ = some v := cell_of_row _ u 1 _ _ _ hu2
  have f1 : w2.frozen? ⟨u, 1, none⟩ = false := by simp [World.frozen?, hu2]
  have HRUN := Lib.hid hrun
  have HP := Lib.hid (And.intro hput.1 (hK1.trans hput.2 (.inl rfl)))
  clear hrun hput hO2 hG2 hloc hc hu2 hK1 hO1 h1 hp
  go_wp2_with (at_builtin; refine wpList_append_srun rfl _ _ _ _ rfl _ _ _ rfl rfl HRUN.out ?_)
  go_ret2
  exact ⟨rfl, _, HP.out⟩

set_option maxHeartbeats 2000000 in
set_option maxRecDepth 100000 in
/-- WriteString: a text, where something stands already. -/
theorem bstring_any (B u g b : Nat) (v : Value) (l : List UInt8) (s : ByteArray) (t : Tab) (w : World) (h : WrS w B u g b v l t) (hne : l ≠ []) (hmn : l.length + s.size ≤ 2000000000) :
    Calls Try.prog 77 #[.pointer (some ⟨u, 0, none⟩), .string s] w fun e w' => e = .returned (.tuple #[.int .i64 s.size, .nilIface]) ∧ ∃ v', WrS w' B u g b v' (l ++ s.data.toList) t ∧ WrK B u g b w w' := by
  have H := Lib.hid h
  clear h
  go_enter Try.func77, Try.ntmps77
  go_wp2_with fail
  refine (bcheck_any B u g b v l t _ H.out).mono ?_
  rintro e w1 ⟨rfl, h1, hK1, hO1⟩
  obtain ⟨g0, c0, rfl⟩ : ∃ g0 c0, v = .slice (some ⟨g0, 0, none⟩) l.length c0 := by
    rcases h1.own.2 with ⟨_, h0⟩ | ⟨g0, cap, cur, hv, _⟩
    · exact absurd (List.length_eq_zero_iff.1 h0) hne
    · exact ⟨g0, cap, hv⟩
  obtain ⟨gg, cap, w2, hrun, hO2, hG2, hloc⟩ := run_append_str w1 71 B g0 l.length c0 l h1.own s s.size rfl hmn (by have := h1.ult; have := h1.le; omega)
  have hsz : s.data.toList.length = s.size := Lib.size_eq s
  have hput := h1.put (v' := .slice (some ⟨gg, 0, none⟩) (l.length + s.size) cap) hG2 hO2 (by rw [List.length_append, hsz]) (fun e => absurd (List.append_eq_nil_iff.1 e).1 hne) (by
    rcases hloc with e | e
    · exact .inl (by rw [e]; rfl)
    · exact .inr fun k2 hk2 => by
        injection hk2 with hk2
        have hk3 : gg = k2 := hk2
        omega)
  obtain ⟨p, hp, hc⟩ := h1.cells
  have c1 : w1.cell? ⟨u, 1, none⟩ = some (.slice (some ⟨g0, 0, none⟩) l.length c0) := cell_of_row _ u 1 _ _ _ hc
  have hvu : (Value.slice (some ⟨g0, 0, none⟩) l.length c0).ownBlock ≠ some u := fun e => (h1.vu e).1 rfl
  have hu2 : w2.heap[u]? = some (.cells #[p, .slice (some ⟨g0, 0, none⟩) l.length c0, .pointer (some ⟨g, 0, none⟩)] 75 (0, 0)) := (hG2.block u h1.ult (fun e => hvu e.symm)).trans hc
  have d1 : w2.cell? ⟨u, 1, none⟩ = some (.slice (some ⟨g0, 0, none⟩) l.length c0) := cell_of_row _ u 1 _ _ _ hu2
  have f1 : w2.frozen? ⟨u, 1, none⟩ = false := by simp [World.frozen?, hu2]
  have HRUN := Lib.hid hrun
  have HP := Lib.hid (And.intro hput.1 (hK1.trans hput.2 (.inl rfl)))
  clear hrun hput hO2 hG2 hloc hc hu2 hK1 hO1 h1 hp hsz
  go_wp2_with (at_builtin; refine wpList_append_srun rfl _ _ _ _ rfl _ _ _ rfl rfl HRUN.out ?_)
  go_ret2
  exact ⟨rfl, _, HP.out⟩

theorem bcells_one : Try.prog.cellsOf 5 = 1 := by kernel_rfl
set_option maxHeartbeats 2000000 in
set_option maxRecDepth 100000 in
/-- String: what was written. -/
theorem btext_any (B u g b : Nat) (v : Value) (l : List UInt8) (r : ByteArray) (t : Tab) (w : World) (h : WrS w B u g b v l t) (hr : mk l = r) (hmn : l.length ≤ 2000000000) :
    Calls Try.prog 31 #[.pointer (some ⟨u, 0, none⟩)] w fun e w' => e = .returned (.string r) ∧ WrK B u g b w w' ∧ TAt w' g b t := by
  subst hr
  obtain ⟨p, hp, hc⟩ := h.cells
  have c1 : w.drew.cell? ⟨u, 1, none⟩ = some v := cell_of_row w u 1 _ _ _ hc
  by_cases hl : l = []
  · subst hl
    have hv := h.nil rfl
    subst hv
    have hUS := Lib.run_unsafeString_none (P := Try.prog) w.drew 103 3 9 none
    have hSD : (Builtin.unsafeSliceData_ #[71] 103 #[.slice none 0 0]).run Try.prog w.drew = .ok (.pointer none) w.drew := rfl
    have H := Lib.hid h
    clear h hc hp
    go_enter Try.func31, Try.ntmps31
    go_wp2_with fail
    go_region
    all_goals (go_wp2; go_ret; exact ⟨rfl, ⟨rfl, rfl, rfl, Nat.le_refl _, fun _ _ hk _ _ _ _ => hk⟩, H.out.tab.kept (Nat.le_refl _) rfl (fun _ => rfl)⟩)
  · have hl0 : l.length ≠ 0 := fun e => hl (List.length_eq_zero_iff.1 e)
    obtain ⟨g0, cap, cur, rfl, hbg, hgg, hnc, hcm, hcs, htake⟩ : ∃ g0 cap cur, v = .slice (some ⟨g0, 0, none⟩) l.length cap ∧ B ≤ g0 ∧ w.heap[g0]? = some (.cells cur 5 (0, 0)) ∧ l.length ≤ cap ∧ cap ≤ maxLen ∧ cur.size = cap * 1 ∧ cur.toList.take (l.length * 1) = Bytes.byteCells l := by
      rcases h.own.2 with ⟨_, hz⟩ | ⟨g0, cap, cur, hv, r⟩
      · exact absurd hz hl0
      · exact ⟨g0, cap, cur, hv, r⟩
    have hSD : (Builtin.unsafeSliceData_ #[71] 103 #[.slice (some ⟨g0, 0, none⟩) l.length cap]).run Try.prog w.drew = .ok (.pointer (some ⟨g0, 0, none⟩)) w.drew := Lib.run_unsafeSliceData_row _ _ _ _ _ _ (by omega)
    have hUS : (Builtin.unsafeString_ #[103, 3] 9 #[.pointer (some ⟨g0, 0, none⟩), .int .i64 l.length]).run Try.prog w.drew = .ok (.string ⟨l.toArray⟩) (w.drew.freeze ⟨g0, 0, none⟩ l.length) := by
      refine Lib.run_unsafeString_row w.drew 103 3 9 5 Try.underlying103 bcells_one g0 cur.size (by have hg' : w.drew.heap[g0]? = some (.cells cur 5 (0, 0)) := hgg; simp [World.shape?, hg']) l hl (by omega) (by omega) ?_
      intro j x hx
      exact h.own.cells (g := g0) rfl j (.int .u8 x.toNat) (by simp [Bytes.byteCells, hx])
    have hfr : ∀ k, k ≠ g0 → (w.drew.freeze ⟨g0, 0, none⟩ l.length).heap[k]? = w.heap[k]? := fun k hk => by
      unfold World.freeze
      split
      · rfl
      · simp only [Array.getElem?_modify]
        rw [if_neg (fun e => hk e.symm)]
        rfl
    have hvg := (h.vu (k := g0) rfl).2
    have hnb : g0 ≠ b := fun e => h.nb (by rw [← e]; rfl)
    have hsz : (w.drew.freeze ⟨g0, 0, none⟩ l.length).heap.size = w.heap.size := by
      unfold World.freeze
      split
      · rfl
      · simp
    have HT := Lib.hid (show TAt (w.drew.freeze ⟨g0, 0, none⟩ l.length) g b t from h.tab.kept (Nat.le_of_eq hsz.symm) (hfr g (fun e => hvg e.symm)) (fun _ => hfr b (fun e => hnb e.symm)))
    have HK := Lib.hid (show WrK B u g b w (w.drew.freeze ⟨g0, 0, none⟩ l.length) from by
      refine ⟨?_, ?_, ?_, Nat.le_of_eq hsz.symm, fun k o hk h1 h2 h3 h4 => (hfr k (fun e => ?_)).trans hk⟩
      · unfold World.freeze; split <;> rfl
      · unfold World.freeze; split <;> rfl
      · unfold World.freeze; split <;> rfl
      · subst e
        rcases h4 with h4 | h4
        · omega
        · rw [hgg] at hk
          exact h4 _ _ (Option.some.inj hk).symm)
    clear h hc hp hfr hsz hgg hcs htake hvg hnb
    go_enter Try.func31, Try.ntmps31
    go_wp2_with fail
    go_region
    all_goals (go_wp2; go_ret; exact ⟨rfl, HK.out, HT.out⟩)
end Go.Proofs.Ytamgnbjdeoklbaa

/- The contract of prefix's Put: bytes with an integer behind them, in new memory. For at most 10^6 bytes. -/
namespace Go.Proofs.Ytamgnbjdeoklbaa
open Go.RowKit Bytes Pf

/-- A slice of bytes that reads as the bytes l, nil or not; what it has of memory lies below block B. -/
def RdC (w : World) (B : Nat) (a : Option Addr) (cap : Nat) (l : List UInt8) : Prop :=
  l.length ≤ cap ∧ cap ≤ 9223372036854775807 ∧ (a = none → l = [] ∧ cap = 0) ∧ ∀ x, a = some x → ∀ i v, (Bytes.byteCells l)[i]? = some v → x.block < B ∧ w.cell? (x.add i) = some v
theorem RdC.nil (w : World) (B : Nat) : RdC w B none 0 [] := ⟨Nat.le_refl _, by omega, fun _ => ⟨rfl, rfl⟩, fun _ h => by cases h⟩
theorem add_block (a : Addr) (n : Nat) : (a.add n).block = a.block := by unfold Addr.add; split <;> rfl
theorem RdC.on {w w' : World} {B B' : Nat} {a : Option Addr} {cap : Nat} {l : List UInt8} (h : RdC w B a cap l) (hb : Below B w w') (hB : B ≤ B') : RdC w' B' a cap l :=
  ⟨h.1, h.2.1, h.2.2.1, fun x hx i v hv => by
    have ⟨h1, h2⟩ := h.2.2.2 x hx i v hv
    exact ⟨by omega, by rw [hb.cell (by rw [add_block]; exact h1)]; exact h2⟩⟩
theorem andNot_full {f : Nat} (hf : isF f) (c : Nat) (hc : c < 256) : bits .andNot .u8 (c : Int) (f : Int) = ((c / (f + 1) * (f + 1) : Nat) : Int) := by
  have hb := isF_bd hf
  rw [u8_andNot_nat c f hc (by omega)]
  have h : ((List.range 256).all fun c => c &&& (255 - f) == c / (f + 1) * (f + 1)) = true := by
    unfold isF at hf
    rcases hf with rfl | rfl | rfl | rfl | rfl | rfl | rfl | rfl <;> decide +kernel
  have h2 := List.all_eq_true.1 h c (List.mem_range.2 hc)
  rw [eq_of_beq h2]
theorem or_first {f : Nat} (hf : isF f) (c n : Nat) (hc : c < 256) (hn : n ≤ f) : bits .or .u8 ((c / (f + 1) * (f + 1) : Nat) : Int) (n : Int) = ((c / (f + 1) * (f + 1) + n : Nat) : Int) := by
  have h0 := (first_mod hf hc hn).2
  rw [u8_or_nat _ _ (by omega) (by omega)]
  have h : ∃ k, f + 1 = 2 ^ k := by
    unfold isF at hf
    rcases hf with rfl | rfl | rfl | rfl | rfl | rfl | rfl | rfl
    · exact ⟨1, rfl⟩
    · exact ⟨2, rfl⟩
    · exact ⟨3, rfl⟩
    · exact ⟨4, rfl⟩
    · exact ⟨5, rfl⟩
    · exact ⟨6, rfl⟩
    · exact ⟨7, rfl⟩
    · exact ⟨8, rfl⟩
  obtain ⟨k, hk⟩ := h
  have h3 := Nat.shiftLeft_add_eq_or_of_lt (i := k) (b := n) (by omega) (c / (f + 1))
  rw [Nat.shiftLeft_eq, ← hk] at h3
  rw [← h3]
theorem or_128 (n : Nat) : bits .or .u8 128 ((n : Int) % 256) = ((128 + n % 128 : Nat) : Int) := by
  have h : ((List.range 256).all fun c => 128 ||| c == 128 + c % 128) = true := by decide +kernel
  have h2 := eq_of_beq (List.all_eq_true.1 h (n % 256) (List.mem_range.2 (by omega)))
  have h3 := u8_or_nat 128 (n % 256) (by omega) (by omega)
  rw [h2] at h3
  rw [Int.natCast_emod] at h3
  rw [show n % 256 % 128 = n % 128 by omega] at h3
  exact h3
theorem own_base {w : World} {g g' : Nat} {e : TypeId} {v : Value} {n : Nat} {xs : List Value} (h : w.ownsRow g' e 1 v n xs) (hg : g ≤ g') : w.ownsRow g e 1 v n xs := by
  refine ⟨h.1, ?_⟩
  rcases h.2 with h2 | ⟨b, cap, cur, h1, h2, h3⟩
  · exact .inl h2
  · exact .inr ⟨b, cap, cur, h1, by omega, h3⟩

/-- The first append: what it leaves. -/
theorem own_first {w w1 : World} {g n : Nat} {v' : Value} {o : Obj} {l : List UInt8} {x : UInt8} {z : Int} (hg : w.heap.size = g) (hz : (x.toNat : Int) = z)
    (hown : w1.ownsRow (w.heap.size + 1) 5 1 v' n (Bytes.byteCells l ++ [.int .u8 z])) (hgrow : (w.alloc o).grownBy w1 none) :
    w1.ownsRow g 5 1 v' n (Bytes.byteCells (l ++ [x])) ∧ Below g w w1 := by
  subst hg
  refine ⟨?_, ?_⟩
  · rw [byteCells_cat, byteCells_one, hz]
    exact own_base hown (Nat.le_succ _)
  · exact ((Below.refl w.heap.size w).alloc (Nat.le_refl _) o).grown hgrow (by have := (Below.refl 0 w).alloc (Nat.zero_le _) o; exact this.size) (fun b hb => by cases hb)

/-- How many bytes follow. -/
theorem groups_is (n k : Nat) (w : World) (h : n < 18446744073709551616) (hk : Hid ((gs n).length = k)) :
    Calls Try.prog 73 #[.int .u64 n] w fun e w' => e = .returned (.int .i64 k) ∧ w = w' := by
  have ⟨e, l1, l2⟩ := gs_len h
  rw [hk.out] at e
  have ho : bits .or .u64 (n : Int) 1 = ((n ||| 1 : Nat) : Int) := bits_or_u64_nat n 1 h (by omega)
  have hx : n ||| 1 < 18446744073709551616 := by rw [or_one]; omega
  generalize n ||| 1 = x at *
  obtain ⟨L, hL⟩ : ∃ L, Lib.bitLen x = L := ⟨_, rfl⟩
  have hc := Try.bits_Len64 (x : Int) w (by omega) (by omega)
  rw [Int.toNat_natCast] at hc
  rw [hL] at e l1 l2 hc
  have HC := Lib.hid hc
  clear hc hL
  go_enter Try.func73, Try.ntmps73
  go_wp2_with fail
  refine HC.out.mono ?_
  rintro e' w' ⟨rfl, rfl⟩
  go_wp2_with fail
  go_ret
  exact ⟨congrArg (fun z : Int => Ending.returned (.int .i64 z)) (by omega), rfl⟩

set_option maxHeartbeats 1000000 in
set_option maxRecDepth 100000 in
theorem put_is (a0 : Option Addr) (cap0 : Nat) (l r : List UInt8) (c n : Nat) (b : Int) (w : World) (hl : l.length ≤ 1000000) (hr : RdC w w.heap.size a0 cap0 l) (hc : c < 256) (hn : n < 18446744073709551616) (h3 : -9223372036854775808 ≤ b) (h4 : b ≤ 9223372036854775807) (h : Hid (putL (fullN b) c n = r)) :
    Calls Try.prog 62 #[.slice a0 l.length cap0, .int .u8 c, .int .i64 b, .int .u64 n] w fun e w' => ∃ v, e = .returned v ∧ w'.ownsRow w.heap.size 5 1 v (l.length + r.length) (Bytes.byteCells (l ++ r)) ∧ Below w.heap.size w w' := by
  have hcap := hr.1
  have hcap2 := hr.2.1
  have R := Lib.hid hr; clear hr
  have hF := fullN_is b
  obtain ⟨f, hf⟩ : ∃ f, fullN b = f := ⟨_, rfl⟩
  have hh := h.out
  rw [hf] at hh hF
  have HF := Lib.hid hf
  have hfb := isF_bd hF
  have hA := andNot_full hF c hc
  have hO := fun m (hm : m ≤ f) => or_first hF c m hc hm
  have hB := (first_mod hF hc (Nat.le_refl f)).2
  unfold putL at hh
  generalize c / (f + 1) * (f + 1) = o at *
  obtain ⟨N, hN⟩ : ∃ N, N = l.length := ⟨_, rfl⟩
  rw [← hN] at hl hcap ⊢
  have HN := Lib.hid hN; clear hN
  clear hf
  have HH := Lib.hid hh; clear hh
  generalize hg : w.heap.size = g at *
  have G := Lib.hid hg; clear hg
  obtain ⟨i0, hi, hz0, hz1, hz2⟩ := info_parts info5
  have HI := Lib.hid hi; clear hi
  have HZ0 := Lib.hid hz0; clear hz0
  have HZ1 := Lib.hid hz1; clear hz1
  have HZ2 := Lib.hid hz2; clear hz2
  by_cases hnf : n < f
  · have hon := hO n (by omega)
    have hyb : o + n < 256 := by omega
    have hr2 := HH.out
    rw [if_pos hnf] at hr2
    subst hr2
    clear hO HH
    generalize o + n = y at *
    rcases a0 with _ | x
    · go_enter Try.func62, Try.ntmps62
      go_wp2_with fail
      refine (full_is b f _ h3 h4 HF).mono ?_
      rintro e w' ⟨rfl, rfl⟩
      go_wp2_with (at_builtin; refine wpList_append_grows _ rfl _ _ 71 rfl 5 i0 (.int .u8 0) 1 1 Try.underlying71 HI.out HZ0.out HZ1.out HZ2.out rfl (by decide) _ N N (Bytes.byteCells l) rfl ?n1a ?n2a ?n3a ⟨w.heap.size, 0, none⟩ 1 1 [.int .u8 (y : Int)] rfl rfl ?c1a ?c2a ?c3a ?c4a ?c5a ?_)
      case n1a => rw [HN.out, (R.out.2.2.1 rfl).1]; rfl
      case n2a => rw [byteCells_len, ← HN.out]; omega
      case n3a =>
        intro bb hbb j u hj
        have h5 := R.out.2.2.2 _ hbb j u hj
        rw [World.cell?_alloc_lt w _ _ (by rw [add_block, G.out]; exact h5.1)]
        exact h5.2
      case c1a =>
        intro j u hj
        match j, hj with
        | 0, hj => simp at hj; subst hj; simp [Addr.add]
      case c2a => intro u hu; simp at hu; subst hu; rfl
      case c3a => omega
      case c4a => unfold maxLen; omega
      case c5a => omega
      intro v' w1 hown hgrow
      have RS := own_first (x := UInt8.ofNat y) G.out (by rw [nat_of hyb]) hown hgrow
      have R1 := Lib.hid RS.1
      have R2 := RS.2
      clear RS hown hgrow
      go_wp2_with fail
      go_ret
      exact ⟨v', rfl, R1.out, R2⟩
    · go_enter Try.func62, Try.ntmps62
      go_wp2_with fail
      refine (full_is b f _ h3 h4 HF).mono ?_
      rintro e w' ⟨rfl, rfl⟩
      go_wp2_with (at_builtin; refine wpList_append_grows _ rfl _ _ 71 rfl 5 i0 (.int .u8 0) 1 1 Try.underlying71 HI.out HZ0.out HZ1.out HZ2.out rfl (by decide) _ N N (Bytes.byteCells l) rfl ?n1b ?n2b ?n3b ⟨w.heap.size, 0, none⟩ 1 1 [.int .u8 (y : Int)] rfl rfl ?c1b ?c2b ?c3b ?c4b ?c5b ?_)
      case n1b => first | contradiction | (intro h; cases h)
      case n2b => rw [byteCells_len, ← HN.out]; omega
      case n3b =>
        intro bb hbb j u hj
        have h5 := R.out.2.2.2 _ hbb j u hj
        rw [World.cell?_alloc_lt w _ _ (by rw [add_block, G.out]; exact h5.1)]
        exact h5.2
      case c1b =>
        intro j u hj
        match j, hj with
        | 0, hj => simp at hj; subst hj; simp [Addr.add]
      case c2b => intro u hu; simp at hu; subst hu; rfl
      case c3b => omega
      case c4b => unfold maxLen; omega
      case c5b => omega
      intro v' w1 hown hgrow
      have RS := own_first (x := UInt8.ofNat y) G.out (by rw [nat_of hyb]) hown hgrow
      have R1 := Lib.hid RS.1
      have R2 := RS.2
      clear RS hown hgrow
      go_wp2_with fail
      go_ret
      exact ⟨v', rfl, R1.out, R2⟩
  · have hon := hO f (by omega)
    have hyb : o + f < 256 := by omega
    have hr2 := HH.out
    rw [if_neg hnf] at hr2
    clear hO HH
    generalize o + f = y at *
    obtain ⟨m, rfl⟩ : ∃ m, n = f + m := ⟨n - f, by omega⟩
    rw [Nat.add_sub_cancel_left] at hr2
    have HR2 := Lib.hid hr2
    clear hr2
    have hm : m < 18446744073709551616 := by omega
    have hsub : (f : Int) + (m : Int) - (f : Int) = (m : Int) := by omega
    obtain ⟨k, hk⟩ : ∃ k, (gs m).length = k := ⟨_, rfl⟩
    have hk1 := gs_pos m
    have hk2 := gs_few 9 m (by omega)
    rw [hk] at hk1 hk2
    have HK := Lib.hid hk
    clear hk
    rcases a0 with _ | x
    · go_enter Try.func62, Try.ntmps62
      go_wp2_with fail
      refine (full_is b f _ h3 h4 HF).mono ?_
      rintro e w' ⟨rfl, rfl⟩
      go_wp2_with (at_builtin; refine wpList_append_grows _ rfl _ _ 71 rfl 5 i0 (.int .u8 0) 1 1 Try.underlying71 HI.out HZ0.out HZ1.out HZ2.out rfl (by decide) _ N N (Bytes.byteCells l) rfl ?n1c ?n2c ?n3c ⟨w.heap.size, 0, none⟩ 1 1 [.int .u8 (y : Int)] rfl rfl ?c1c ?c2c ?c3c ?c4c ?c5c ?_)
      case n1c => rw [HN.out, (R.out.2.2.1 rfl).1]; rfl
      case n2c => rw [byteCells_len, ← HN.out]; omega
      case n3c =>
        intro bb hbb j u hj
        have h5 := R.out.2.2.2 _ hbb j u hj
        rw [World.cell?_alloc_lt w _ _ (by rw [add_block, G.out]; exact h5.1)]
        exact h5.2
      case c1c =>
        intro j u hj
        match j, hj with
        | 0, hj => simp at hj; subst hj; simp [Addr.add]
      case c2c => intro u hu; simp at hu; subst hu; rfl
      case c3c => omega
      case c4c => unfold maxLen; omega
      case c5c => omega
      intro v' w1 hown hgrow
      have RS := own_first (x := UInt8.ofNat y) G.out (by rw [nat_of hyb]) hown hgrow
      have R1 := Lib.hid RS.1
      have R2 := RS.2
      clear RS hown hgrow
      go_wp2_with fail
      refine (groups_is m k _ hm HK).mono ?_
      rintro e w' ⟨rfl, rfl⟩
      go_wp2_with fail
      go_loopw [11, 3, 47] (fun v u i wr => ∃ (j z : Nat) (d : List UInt8), i = .int .i64 j ∧ j + 1 ≤ k ∧ u = .int .u64 z ∧ z ≤ m ∧ d.length = j + 1 ∧ Hid (wr.ownsRow g 5 1 v (N + (j + 1)) (Bytes.byteCells (l ++ d))) ∧ Hid (d ++ gs z = r) ∧ Hid (j + (gs z).length = k) ∧ Below g w wr) (fun _ _ i _ => k - (intOf i).toNat)
      case atStart => exact ⟨0, m, [UInt8.ofNat y], rfl, by omega, rfl, Nat.le_refl _, rfl, R1, HR2, Lib.hid (by rw [Nat.zero_add]; exact HK.out), R2⟩
      case round =>
        obtain ⟨j, z, d, rfl, hj, rfl, hz, hd, hO, hD, hL, hB⟩ := hrel
        by_cases hlt : j + 1 < k
        · have hz2 : 128 ≤ z := by
            have h6 := hL.out
            rcases Nat.lt_or_ge z 128 with h7 | h7
            · rw [gs_lt h7] at h6
              simp at h6
              omega
            · exact h7
          have hon2 := or_128 z
          have hD2 : Hid ((d ++ [UInt8.ofNat (128 + z % 128)]) ++ gs (z / 128) = r) := by
            have h8 := hD.out
            show _ = _
            rw [gs_ge hz2] at h8
            rw [List.append_assoc]
            exact h8
          have hL2 : Hid (j + 1 + (gs (z / 128)).length = k) := by
            have h8 := hL.out
            show _ = _
            rw [gs_ge hz2, List.length_cons] at h8
            omega
          have hyb2 : 128 + z % 128 < 256 := by omega
          generalize hx2 : 128 + z % 128 = x2 at *
          have hlt' : (j : Int) < (k : Int) - 1 := by omega
          clear hD hL hx2
          go_wp2_with (at_builtin; refine wpList_append_own _ rfl _ _ 71 rfl g 5 i0 (.int .u8 0) 1 1 Try.underlying71 HI.out HZ0.out HZ1.out HZ2.out rfl (by decide) _ _ _ rfl (hO.out.alloc _) ⟨wr.heap.size, 0, none⟩ 1 1 [.int .u8 ((x2 : Nat) : Int)] rfl rfl ?d12c ?d22c ?d32c ?d42c ?d52c ?_)
          case d12c =>
            intro j u hj
            match j, hj with
            | 0, hj => simp at hj; subst hj; simp [Addr.add]
          case d22c => first | rfl | (intro u hu; simp at hu; subst hu; rfl)
          case d32c => unfold maxLen; omega
          case d42c => omega
          case d52c => have := hB.size; have := G.out; simp; omega
          intro v' w1 hown hgrow _
          have RS := own_step (x := UInt8.ofNat x2) hO.out hB G.out (by rw [nat_of hyb2]) hown hgrow
          have R1' := Lib.hid RS.1
          have R2' := RS.2
          clear RS hown hgrow hO hB
          go_wp2_with fail
          go_roundw
          case rel => exact ⟨j + 1, z / 128, d ++ [UInt8.ofNat x2], by go_num, by omega, by go_num, by omega, by rw [List.length_append, hd]; rfl, by rw [← List.append_assoc]; exact R1', hD2, hL2, R2'⟩
          case measure => simp [intOf]; omega
        · have hz2 : z < 128 := gs_one (by have h6 := hL.out; omega)
          have hD2 := hD.out
          have hk3 : k = j + 1 := by omega
          rw [gs_lt hz2] at hD2
          have hlt' : ¬ (j : Int) < (k : Int) - 1 := by omega
          have hmz : (z : Int) % 256 = (z : Int) := by omega
          have HD2 := Lib.hid hD2
          clear hD hL hk3 hD2
          go_wp2_with (at_builtin; refine wpList_append_own _ rfl _ _ 71 rfl g 5 i0 (.int .u8 0) 1 1 Try.underlying71 HI.out HZ0.out HZ1.out HZ2.out rfl (by decide) _ _ _ rfl (hO.out.alloc _) ⟨wr.heap.size, 0, none⟩ 1 1 [.int .u8 ((z : Nat) : Int)] rfl rfl ?d13c ?d23c ?d33c ?d43c ?d53c ?_)
          case d23c => first | rfl | (intro u hu; simp at hu; subst hu; rfl)
          case d33c => unfold maxLen; omega
          case d43c => omega
          case d53c => have := hB.size; have := G.out; simp; omega
          intro v' w1 hown hgrow _
          have RS := own_step (x := UInt8.ofNat z) hO.out hB G.out (by rw [nat_of (by omega)]) hown hgrow
          have R1' := RS.1
          have R2' := RS.2
          rw [List.append_assoc, HD2.out] at R1'
          have hrl : r.length = j + 2 := by rw [← HD2.out, List.length_append, hd]; rfl
          rw [show N + (j + 1) + 1 = N + r.length by omega] at R1'
          have R3 := Lib.hid R1'
          clear RS hown hgrow hO hB R1' hrl
          go_wp2_with fail
          go_ret
          exact ⟨v', rfl, R3.out, R2'⟩
    · go_enter Try.func62, Try.ntmps62
      go_wp2_with fail
      refine (full_is b f _ h3 h4 HF).mono ?_
      rintro e w' ⟨rfl, rfl⟩
      go_wp2_with (at_builtin; refine wpList_append_grows _ rfl _ _ 71 rfl 5 i0 (.int .u8 0) 1 1 Try.underlying71 HI.out HZ0.out HZ1.out HZ2.out rfl (by decide) _ N N (Bytes.byteCells l) rfl ?n1d ?n2d ?n3d ⟨w.heap.size, 0, none⟩ 1 1 [.int .u8 (y : Int)] rfl rfl ?c1d ?c2d ?c3d ?c4d ?c5d ?_)
      case n1d => first | contradiction | (intro h; cases h)
      case n2d => rw [byteCells_len, ← HN.out]; omega
      case n3d =>
        intro bb hbb j u hj
        have h5 := R.out.2.2.2 _ hbb j u hj
        rw [World.cell?_alloc_lt w _ _ (by rw [add_block, G.out]; exact h5.1)]
        exact h5.2
      case c1d =>
        intro j u hj
        match j, hj with
        | 0, hj => simp at hj; subst hj; simp [Addr.add]
      case c2d => intro u hu; simp at hu; subst hu; rfl
      case c3d => omega
      case c4d => unfold maxLen; omega
      case c5d => omega
      intro v' w1 hown hgrow
      have RS := own_first (x := UInt8.ofNat y) G.out (by rw [nat_of hyb]) hown hgrow
      have R1 := Lib.hid RS.1
      have R2 := RS.2
      clear RS hown hgrow
      go_wp2_with fail
      refine (groups_is m k _ hm HK).mono ?_
      rintro e w' ⟨rfl, rfl⟩
      go_wp2_with fail
      go_loopw [11, 3, 47] (fun v u i wr => ∃ (j z : Nat) (d : List UInt8), i = .int .i64 j ∧ j + 1 ≤ k ∧ u = .int .u64 z ∧ z ≤ m ∧ d.length = j + 1 ∧ Hid (wr.ownsRow g 5 1 v (N + (j + 1)) (Bytes.byteCells (l ++ d))) ∧ Hid (d ++ gs z = r) ∧ Hid (j + (gs z).length = k) ∧ Below g w wr) (fun _ _ i _ => k - (intOf i).toNat)
      case atStart => exact ⟨0, m, [UInt8.ofNat y], rfl, by omega, rfl, Nat.le_refl _, rfl, R1, HR2, Lib.hid (by rw [Nat.zero_add]; exact HK.out), R2⟩
      case round =>
        obtain ⟨j, z, d, rfl, hj, rfl, hz, hd, hO, hD, hL, hB⟩ := hrel
        by_cases hlt : j + 1 < k
        · have hz2 : 128 ≤ z := by
            have h6 := hL.out
            rcases Nat.lt_or_ge z 128 with h7 | h7
            · rw [gs_lt h7] at h6
              simp at h6
              omega
            · exact h7
          have hon2 := or_128 z
          have hD2 : Hid ((d ++ [UInt8.ofNat (128 + z % 128)]) ++ gs (z / 128) = r) := by
            have h8 := hD.out
            show _ = _
            rw [gs_ge hz2] at h8
            rw [List.append_assoc]
            exact h8
          have hL2 : Hid (j + 1 + (gs (z / 128)).length = k) := by
            have h8 := hL.out
            show _ = _
            rw [gs_ge hz2, List.length_cons] at h8
            omega
          have hyb2 : 128 + z % 128 < 256 := by omega
          generalize hx2 : 128 + z % 128 = x2 at *
          have hlt' : (j : Int) < (k : Int) - 1 := by omega
          clear hD hL hx2
          go_wp2_with (at_builtin; refine wpList_append_own _ rfl _ _ 71 rfl g 5 i0 (.int .u8 0) 1 1 Try.underlying71 HI.out HZ0.out HZ1.out HZ2.out rfl (by decide) _ _ _ rfl (hO.out.alloc _) ⟨wr.heap.size, 0, none⟩ 1 1 [.int .u8 ((x2 : Nat) : Int)] rfl rfl ?d12d ?d22d ?d32d ?d42d ?d52d ?_)
          case d12d =>
            intro j u hj
            match j, hj with
            | 0, hj => simp at hj; subst hj; simp [Addr.add]
          case d22d => first | rfl | (intro u hu; simp at hu; subst hu; rfl)
          case d32d => unfold maxLen; omega
          case d42d => omega
          case d52d => have := hB.size; have := G.out; simp; omega
          intro v' w1 hown hgrow _
          have RS := own_step (x := UInt8.ofNat x2) hO.out hB G.out (by rw [nat_of hyb2]) hown hgrow
          have R1' := Lib.hid RS.1
          have R2' := RS.2
          clear RS hown hgrow hO hB
          go_wp2_with fail
          go_roundw
          case rel => exact ⟨j + 1, z / 128, d ++ [UInt8.ofNat x2], by go_num, by omega, by go_num, by omega, by rw [List.length_append, hd]; rfl, by rw [← List.append_assoc]; exact R1', hD2, hL2, R2'⟩
          case measure => simp [intOf]; omega
        · have hz2 : z < 128 := gs_one (by have h6 := hL.out; omega)
          have hD2 := hD.out
          have hk3 : k = j + 1 := by omega
          rw [gs_lt hz2] at hD2
          have hlt' : ¬ (j : Int) < (k : Int) - 1 := by omega
          have hmz : (z : Int) % 256 = (z : Int) := by omega
          have HD2 := Lib.hid hD2
          clear hD hL hk3 hD2
          go_wp2_with (at_builtin; refine wpList_append_own _ rfl _ _ 71 rfl g 5 i0 (.int .u8 0) 1 1 Try.underlying71 HI.out HZ0.out HZ1.out HZ2.out rfl (by decide) _ _ _ rfl (hO.out.alloc _) ⟨wr.heap.size, 0, none⟩ 1 1 [.int .u8 ((z : Nat) : Int)] rfl rfl ?d13d ?d23d ?d33d ?d43d ?d53d ?_)
          case d23d => first | rfl | (intro u hu; simp at hu; subst hu; rfl)
          case d33d => unfold maxLen; omega
          case d43d => omega
          case d53d => have := hB.size; have := G.out; simp; omega
          intro v' w1 hown hgrow _
          have RS := own_step (x := UInt8.ofNat z) hO.out hB G.out (by rw [nat_of (by omega)]) hown hgrow
          have R1' := RS.1
          have R2' := RS.2
          rw [List.append_assoc, HD2.out] at R1'
          have hrl : r.length = j + 2 := by rw [← HD2.out, List.length_append, hd]; rfl
          rw [show N + (j + 1) + 1 = N + r.length by omega] at R1'
          have R3 := Lib.hid R1'
          clear RS hown hgrow hO hB R1' hrl
          go_wp2_with fail
          go_ret
          exact ⟨v', rfl, R3.out, R2'⟩
end Go.Proofs.Ytamgnbjdeoklbaa
