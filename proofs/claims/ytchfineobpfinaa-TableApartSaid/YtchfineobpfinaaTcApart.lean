/- Two tables that go their own ways beside the document's. For at most 300 acts. -/
import Derived.Test.YtchfineobpfinaaProg
import Derived.Test.YtchfineobpfinaaTbMath
import Derived.Test.YtchfineobpfinaaTbMem
import Derived.Test.YtchfineobpfinaaTbLeast
import Derived.Test.YtchfineobpfinaaTbRef
import Derived.Test.YtchfineobpfinaaTbFix
import Derived.Test.YtchfineobpfinaaTbAt
import Derived.Test.YtchfineobpfinaaTcMem
import Derived.Test.YtchfineobpfinaaTcLow
import Derived.Test.YtchfineobpfinaaTcShrink
import Derived.Test.YtchfineobpfinaaTcAdd
import Derived.Test.YtchfineobpfinaaTcAt
import Derived.Test.YtchfineobpfinaaTcActs
import Derived.Test.YtchfineobpfinaaTcPlay
import Derived.Test.YtchfineobpfinaaTcPlayTwo
import Derived.Test.YtchfineobpfinaaTcSame
import Derived.Test.YtchfineobpfinaaTcLoop
import Derived.WalkKit
import Derived.Lib.Hide
import Derived.Outline
import Derived.WalkLawsBesides
import Derived.Laws.Rows
namespace Go.Proofs.Ytchfineobpfinaa
open Go.RowKit Tb
namespace Tb
section
variable {w0 w w' : World} {B g m b n c : Nat} {A : Option Addr} {M : Int} {t : Tab}
theorem tabE_lt {L : List Ent} (h : TabE w B A n c L) : ∀ r o, A = some ⟨r, o, none⟩ → r < B := fun r o e => by
  rcases h with ⟨h1, _⟩ | ⟨r2, o2, h1, h2, h3, h4⟩
  · rw [h1] at e; cases e
  · rw [h1] at e
    injection e with e
    injection e with e1 e2
    subst e1 e2
    obtain ⟨b3, o3, e3, hlt, _⟩ := h4 (by omega)
    injection e3 with e3
    injection e3 with e3 e4
    subst e3
    exact hlt
theorem PI.mat_far (h : PI w0 B g m b A n c M w t) (hB : Below w.heap.size w w') {gc bc : Nat} (hg : w.heap.size ≤ gc) (hb : w.heap.size ≤ bc) : MAt w' gc bc A c t.2 :=
  ⟨(h.below hB).1.2.1, fun r o e => by have := tabE_lt h.1.2.1 r o e; exact ⟨by omega, by omega⟩⟩
/-- Blocks x, y, z are none of a table's, its document's. -/
def Apt (x y z gc bc m : Nat) (A : Option Addr) : Prop := (gc ≠ x ∧ gc ≠ y ∧ gc ≠ z) ∧ (bc ≠ x ∧ bc ≠ y ∧ bc ≠ z) ∧ (m ≠ x ∧ m ≠ y ∧ m ≠ z) ∧ ∀ r o, A = some ⟨r, o, none⟩ → r ≠ x ∧ r ≠ y ∧ r ≠ z
theorem PI.turn (h : PI w0 B g m b A n c M w t) (hs : w.heap.size ≤ w'.heap.size) (hk : ∀ k, k < w.heap.size → (k = g ∨ k = b ∨ k = m ∨ ∃ o, A = some ⟨k, o, none⟩) → w'.heap[k]? = w.heap[k]?) (hB : Below B w0 w') : PI w0 B g m b A n c M w' t := by
  obtain ⟨⟨hT, hMa⟩, hrow, hMn, hm, hBs, hBw⟩ := h
  have hl := hT.lt
  have hlt := tabE_lt hMa.1
  exact ⟨⟨hT.kept hs (hk g hl.1 (.inl rfl)) (fun hb => hk b hb (.inr (.inl rfl))), hMa.same hs (fun r o e => hk r (hlt r o e) (.inr (.inr (.inr ⟨o, e⟩))))⟩, (hk m (world_lt hrow) (.inr (.inr (.inl rfl)))).trans hrow, hMn, hm, hBs, hB⟩
theorem PI.dup (h : PI w0 B g m b A n c M w t) : PI w0 B g w.heap.size b A n c M (w.alloc (.cells #[.int .i64 M, .slice A n c] 29)) t := by
  have hb := (Below.refl w.heap.size w).alloc (Nat.le_refl _) (.cells #[.int .i64 M, .slice A n c] 29)
  have h' := h.below hb
  have hl := h.1.1.lt
  exact ⟨h'.1, heap_alloc_new w _, h.2.2.1, ⟨by omega, by omega⟩, ⟨h.2.2.2.2.1.1, h.2.2.2.2.1.2.1, by have := h.2.2.2.2.1.1; omega⟩, h'.2.2.2.2.2⟩
theorem PI.copied (h : PI w0 B g m b A n c M w t) (hB : Below w.heap.size w w') {gc bc : Nat} (hT : TAt w' gc bc t) (hg : w.heap.size ≤ gc) (hb : w.heap.size ≤ bc) : PI w0 B gc m bc A n c M w' t := by
  have h' := h.below hB
  have hm := world_lt h.2.1
  have hBg := h.2.2.2.2.1
  have hl := h.1.1.lt
  exact ⟨⟨hT, h.mat_far hB hg hb⟩, h'.2.1, h.2.2.1, ⟨by omega, by omega⟩, ⟨by omega, by omega, hBg.2.2⟩, h'.2.2.2.2.2⟩
theorem PI.other (h : PI w0 B g m b A n c M w t) {x i : Nat} (hx : x ≠ g ∧ x ≠ b ∧ x ≠ m) (hA : ∀ r o, A = some ⟨r, o, none⟩ → r ≠ x) (hBx : B ≤ x) (u : Value) : PI w0 B g m b A n c M (w.setCell ⟨x, i, none⟩ u) t :=
  h.turn (by simp) (fun k _ hk => Below.heap_setCell _ ⟨x, i, none⟩ u k (by
    rcases hk with rfl | rfl | rfl | ⟨o, ho⟩
    · exact fun e => hx.1 e.symm
    · exact fun e => hx.2.1 e.symm
    · exact fun e => hx.2.2 e.symm
    · exact hA k o ho)) (h.2.2.2.2.2.setCell (p := ⟨x, i, none⟩) hBx u)
end
end Tb

theorem same_pb (w0 : World) (B g m b : Nat) (A : Option Addr) (n c : Nat) (M : Int) (t : Tab) (k : Nat) (w : World) (h : Hid (PI w0 B g m b A n c M w t)) (hf : Hid (Few3 k t)) (hk : k ≤ 300) :
    Calls Try.prog 12 #[.pointer (some ⟨g, 0, none⟩), .agg #[.int .i64 M, .slice A n c]] w fun e w' => e = .returned (.bool true) ∧ Below w.heap.size w w' := by
  obtain ⟨hM, hn⟩ := h.out.2.2.1
  rw [← hM, ← hn]
  exact same_is g b t A c w (Lib.hid h.out.1.1) (Lib.hid (hf.out.fit hk)) (Lib.hid h.out.1.2.1)

theorem play_far (w0 : World) (B g m b : Nat) (A : Option Addr) (n c : Nat) (M : Int) (t : Tab) (e : ActE) (k k2 : Nat) (w5 w : World) (gc bc : Nat) (tc : Tab) (h : Hid (PI w0 B g m b A n c M w5 t)) (hf : Hid (Few3 k t)) (hk : k ≤ 200) (hfc : Hid (Few3 k2 tc)) (hk2 : k2 ≤ 200) (hT : Hid (TAt w gc bc tc)) (hg : w5.heap.size ≤ gc) (hb : w5.heap.size ≤ bc) (hB : Hid (Below w5.heap.size w5 w)) (hx : e.name.size < 3000) (hy : e.val.size < 3000) (hb1 : -9223372036854775808 ≤ e.most) (hb2 : e.most ≤ 9223372036854775807) :
    Calls Try.prog 13 #[.pointer (some ⟨gc, 0, none⟩), .agg #[.int .i64 M, .slice A n c], .agg #[.string e.name, .string e.val, .int .i64 e.most]] w fun r w' => ∃ M' A' n' c', r = .returned (.agg #[.int .i64 M', .slice A' n' c']) ∧ Hid (∃ bc', TAt w' gc bc' (actT tc e) ∧ w5.heap.size ≤ bc' ∧ Below w5.heap.size w5 w') := by
  obtain ⟨hM, hn⟩ := h.out.2.2.1
  rw [← hM, ← hn]
  refine (play_two gc bc tc t A c e w hT (Lib.hid (hfc.out.fit (by omega))) (Lib.hid (h.out.mat_far hB.out hg hb)) (by have := hf.out.1; omega) h.out.1.1.2.2 (hf.out.sum (by omega)) (by omega) (by omega) hb1 hb2).mono ?_
  rintro r w' ⟨b', A', c', hr, hT', _, hK, hbb⟩
  have hs := hB.out.size
  exact ⟨_, _, _, _, hr, Lib.hid ⟨b', hT', by rcases hbb with rfl | rfl | hbb <;> omega, hK.below hB.out hg hb hs⟩⟩

theorem play_both (w0 : World) (B g m2 b : Nat) (A1 : Option Addr) (n1 c1 : Nat) (M1 : Int) (t1 : Tab) (gc m bc : Nat) (A : Option Addr) (n c : Nat) (M : Int) (t0 : Tab) (e : ActE) (k : Nat) (w : World) (h : Hid (PI w0 B g m2 b A1 n1 c1 M1 w t1)) (h2 : Hid (PI w0 B gc m bc A n c M w t0)) (hap : Hid (Apt g b m2 gc bc m A)) (hf : Hid (Few3 k t1)) (hk : k ≤ 200) (hx : e.name.size < 3000) (hy : e.val.size < 3000) (hb1 : -9223372036854775808 ≤ e.most) (hb2 : e.most ≤ 9223372036854775807) :
    Calls Try.prog 13 #[.pointer (some ⟨g, 0, none⟩), .agg #[.int .i64 M1, .slice A1 n1 c1], .agg #[.string e.name, .string e.val, .int .i64 e.most]] w fun r w' => ∃ M' A' n' c', r = .returned (.agg #[.int .i64 M', .slice A' n' c']) ∧ w'.heap[m2]? = some (.cells #[.int .i64 M1, .slice A1 n1 c1] 29 (0, 0)) ∧ Hid (∃ b', PI w0 B g m2 b' A' n' c' M' ((w'.setCell ⟨m2, 0, none⟩ (.int .i64 M')).setCell ⟨m2, 1, none⟩ (.slice A' n' c')) (actT t1 e) ∧ PI w0 B gc m bc A n c M ((w'.setCell ⟨m2, 0, none⟩ (.int .i64 M')).setCell ⟨m2, 1, none⟩ (.slice A' n' c')) t0 ∧ Apt g b' m2 gc bc m A) := by
  obtain ⟨⟨hT, hMa⟩, hrow, ⟨hM, hn⟩, ⟨hmg, hmb⟩, ⟨hBg, hBb, hBm⟩, hBw⟩ := h.out
  rw [← hM, ← hn]
  refine (play_is g b t1 A1 c1 e w (Lib.hid hT) (Lib.hid (hf.out.fit (by omega))) (Lib.hid hMa) (hf.out.sum (by omega)) (by omega) (by omega) hb1 hb2).mono ?_
  rintro r w' ⟨b', A', c', hr, hT', hMa', hK, hb⟩
  have hrow' : w'.heap[m2]? = some (.cells #[.int .i64 M1, .slice A1 n1 c1] 29 (0, 0)) := (hK.block m2 (world_lt hrow) hmg hmb).trans hrow
  have hms := world_lt hrow
  have hml := world_lt hrow'
  have hmb' : m2 ≠ b' := by rcases hb with rfl | rfl | hb <;> omega
  have hBb' : B ≤ b' := by rcases hb with rfl | rfl | hb <;> omega
  have hap' := mat_apart hMa' hrow'
  refine ⟨_, A', _, c', hr, by rw [hM, hn]; exact hrow', Lib.hid ⟨b', ?_⟩⟩
  have hne : ∀ z0 z1 k, k ≠ m2 → ((w'.setCell ⟨m2, 0, none⟩ z0).setCell ⟨m2, 1, none⟩ z1).heap[k]? = w'.heap[k]? := fun z0 z1 k hk' => (Below.heap_setCell _ ⟨m2, 1, none⟩ z1 k hk').trans (Below.heap_setCell _ ⟨m2, 0, none⟩ z0 k hk')
  have hBw' := hK.below hBw hBg hBb (by omega)
  have hBf : ∀ z0 z1, Below B w0 ((w'.setCell ⟨m2, 0, none⟩ z0).setCell ⟨m2, 1, none⟩ z1) := fun z0 z1 => (hBw'.setCell (p := ⟨m2, 0, none⟩) hBm _).setCell (p := ⟨m2, 1, none⟩) hBm _
  obtain ⟨q1, q2, q3, q4⟩ := hap.out
  have hlt2 := h2.out.1.1.lt
  have hltm := world_lt h2.out.2.1
  have hltA := tabE_lt h2.out.1.2.1
  refine ⟨⟨⟨hT'.kept (by simp) (hne _ _ g (fun h => hmg h.symm)) (fun _ => hne _ _ b' (fun h => hmb' h.symm)), hMa'.same (by simp) (fun r o e => hne _ _ r (hap' r o e))⟩, two_set hrow', ⟨rfl, rfl⟩, ⟨hmg, hmb'⟩, ⟨hBg, hBb', hBm⟩, hBf _ _⟩, ?_, ?_⟩
  · refine h2.out.turn (by simp; exact hK.size) (fun k hk2 hkk => ?_) (hBf _ _)
    have hk3 : k ≠ g ∧ k ≠ b ∧ k ≠ m2 := by
      rcases hkk with rfl | rfl | rfl | ⟨o, ho⟩
      · exact q1
      · exact q2
      · exact q3
      · exact q4 k o ho
    exact (hne _ _ k hk3.2.2).trans (hK.block k hk2 hk3.1 hk3.2.1)
  · have one : ∀ x, x < w.heap.size → x ≠ g ∧ x ≠ b ∧ x ≠ m2 → x ≠ g ∧ x ≠ b' ∧ x ≠ m2 := fun x hx h => ⟨h.1, by rcases hb with rfl | rfl | hb; exact h.2.1; exact h.1; omega, h.2.2⟩
    exact ⟨one _ hlt2.1 q1, one _ hlt2.2 q2, one _ hltm q3, fun r o e => one _ (hltA r o e) (q4 r o e)⟩
end Go.Proofs.Ytchfineobpfinaa
