/- The laws' loops: a table and the document's after k acts of short texts. For at most 300 acts. -/
import Derived.Test.YtchfineobpfinaaProg
import Derived.Test.YtchfineobpfinaaTbMath
import Derived.Test.YtchfineobpfinaaTbMem
import Derived.Test.YtchfineobpfinaaTbLeast
import Derived.Test.YtchfineobpfinaaTbRef
import Derived.Test.YtchfineobpfinaaTbFix
import Derived.Test.YtchfineobpfinaaTbAll
import Derived.Test.YtchfineobpfinaaTbAt
import Derived.Test.YtchfineobpfinaaTbFind
import Derived.Test.YtchfineobpfinaaTbNil
import Derived.Test.YtchfineobpfinaaTcMem
import Derived.Test.YtchfineobpfinaaTcLow
import Derived.Test.YtchfineobpfinaaTcShrink
import Derived.Test.YtchfineobpfinaaTcAdd
import Derived.Test.YtchfineobpfinaaTcAt
import Derived.Test.YtchfineobpfinaaTcActs
import Derived.Test.YtchfineobpfinaaTcPlay
import Derived.Test.YtchfineobpfinaaTcSame
import Derived.WalkKit
import Derived.Lib.Hide
import Derived.Outline
import Derived.WalkLawsBesides
import Derived.Laws.Rows
namespace Go.Proofs.Ytchfineobpfinaa
open Go.RowKit Tb
namespace Tb
/-- At most k entries, all of short texts. -/
def Few3 (k : Nat) (t : Tab) : Prop := t.2.length ≤ k ∧ ∀ e ∈ t.2, e.1.size < 3000 ∧ e.2.size < 3000
theorem few_sum : ∀ (l : List Ent), (∀ e ∈ l, e.1.size < 3000 ∧ e.2.size < 3000) → sumL l ≤ 6032 * l.length
  | [], _ => Nat.zero_le _
  | e :: l, h => by
    have h1 := few_sum l (fun x hx => h x (List.mem_cons_of_mem _ hx))
    have h2 := h e (List.mem_cons_self ..)
    show sz e + sumL l ≤ _
    have : sz e = e.1.size + e.2.size + 32 := rfl
    rw [List.length_cons]
    omega
theorem Few3.sum {k : Nat} {t : Tab} (h : Few3 k t) (hk : k ≤ 300) : sumL t.2 ≤ 900000000 := by
  have := few_sum t.2 h.2
  have := h.1
  omega
theorem Few3.fit {k : Nat} {t : Tab} (h : Few3 k t) (hk : k ≤ 300) : Fit t :=
  ⟨by have := h.1; omega, fun e he => by have := h.2 e he; omega, by have := h.sum hk; omega⟩
theorem Few3.new (m : Int) : Few3 0 (newT m) := ⟨Nat.le_refl _, fun e he => by cases he⟩
theorem Few3.res {k : Nat} {t : Tab} (h : Few3 k t) (m : Int) : Few3 k (resT t m) := ⟨Nat.le_trans (leastL_len _ _) h.1, fun e he => h.2 e (leastL_mem he)⟩
theorem Few3.add {k : Nat} {t : Tab} (h : Few3 k t) {x y : ByteArray} (hx : x.size < 3000) (hy : y.size < 3000) : Few3 (k + 1) (addT t (x, y)) :=
  ⟨Nat.le_trans (leastL_len _ _) (Nat.succ_le_succ h.1), fun e he => by
    rcases List.mem_cons.1 (leastL_mem he) with rfl | h1
    · exact ⟨hx, hy⟩
    · exact h.2 e h1⟩
theorem Few3.more {k k' : Nat} {t : Tab} (h : Few3 k t) (hk : k ≤ k') : Few3 k' t := ⟨Nat.le_trans h.1 hk, h.2⟩
theorem Few3.act {k : Nat} {t : Tab} (h : Few3 k t) {e : ActE} (hx : e.name.size < 3000) (hy : e.val.size < 3000) : Few3 (k + 1) (actT t e) := by
  unfold actT
  split
  · exact (h.res _).more (Nat.le_succ k)
  · exact h.add hx hy
/-- A table and the document's, which lies in block m. -/
def PI (w0 : World) (B g m b : Nat) (A : Option Addr) (n c : Nat) (M : Int) (w : World) (t : Tab) : Prop :=
  (TAt w g b t ∧ MAt w g b A c t.2) ∧ w.heap[m]? = some (.cells #[.int .i64 M, .slice A n c] 29 (0, 0)) ∧ ((t.1 : Int) = M ∧ t.2.length = n) ∧ (m ≠ g ∧ m ≠ b) ∧ (B ≤ g ∧ B ≤ b ∧ B ≤ m) ∧ Below B w0 w
section
variable {w0 w w' : World} {B g m b n c : Nat} {A : Option Addr} {M : Int} {t : Tab}
theorem PI.below (h : PI w0 B g m b A n c M w t) (hB : Below w.heap.size w w') : PI w0 B g m b A n c M w' t :=
  ⟨⟨h.1.1.below hB, h.1.2.below hB⟩, (hB.block m (world_lt h.2.1)).trans h.2.1, h.2.2.1, h.2.2.2.1, h.2.2.2.2.1, h.2.2.2.2.2.trans (hB.mono (by have := h.1.1.lt.1; have := h.2.2.2.2.1.1; omega))⟩
theorem PI.tabE (h : PI w0 B g m b A n c M w t) : TabE w w.heap.size A n c t.2 := by have := h.1.2.1; rwa [h.2.2.1.2] at this
theorem PI.start {M' : Int} (hT : TAt w g g (newT M')) (hg : B ≤ g) (hB : Below B w0 w) (hM : (M'.toNat : Int) = M) : PI w0 B g w.heap.size g none 0 0 M (w.alloc (.cells #[.int .i64 M, .slice none 0 0] 29)) (newT M') := by
  have hb := (Below.refl w.heap.size w).alloc (Nat.le_refl _) (.cells #[.int .i64 M, .slice none 0 0] 29)
  have hl := hT.lt.1
  exact ⟨⟨hT.below hb, .inl ⟨rfl, rfl, rfl, rfl⟩, fun r o e => by cases e⟩, heap_alloc_new w _, ⟨hM, rfl⟩, ⟨by omega, by omega⟩, ⟨hg, hg, by omega⟩, hB.trans (hb.mono (by omega))⟩
theorem mat_apart {L : List Ent} {A' : Option Addr} {n' c' : Nat} (h : MAt w g b A c L) (hm : w.heap[m]? = some (.cells #[.int .i64 M, .slice A' n' c'] 29 (0, 0))) : ∀ r o, A = some ⟨r, o, none⟩ → r ≠ m := fun r o e => by
  rcases h.1 with ⟨h1, _⟩ | ⟨r2, o2, h1, h2, h3, h4⟩
  · rw [h1] at e; cases e
  · rw [h1] at e
    injection e with e
    injection e with e1 e2
    subst e1 e2
    obtain ⟨b3, o3, e3, _, hc⟩ := h4 h2
    injection e3 with e3
    injection e3 with e3 e4
    subst e3 e4
    intro hrm
    subst hrm
    have c0 := (hc 0 h2).1
    have c1 := (hc 0 h2).2
    obtain ⟨a1, a2, _, _⟩ := two_cells hm
    rcases Nat.lt_or_ge o2 2 with ho | ho
    · rcases (show o2 = 0 ∨ o2 = 1 by omega) with rfl | rfl
      · have := a1.symm.trans c0; cases this
      · have := a2.symm.trans c0; cases this
    · simp [World.cell?, hm] at c0
      obtain ⟨hl, _⟩ := List.getElem?_eq_some_iff.1 c0
      have hl2 : o2 < 2 := hl
      omega
theorem PI.again (h : PI w0 B g m b A n c M w t) : PI w0 B g m b A n c M (w.setCell ⟨m, 1, none⟩ (.slice A n c)) t := by
  obtain ⟨⟨hT, hMa⟩, hrow, hMn, ⟨hmg, hmb⟩, ⟨hBg, hBb, hBm⟩, hBw⟩ := h
  have hap := mat_apart hMa hrow
  have hne : ∀ k, k ≠ m → (w.setCell ⟨m, 1, none⟩ (.slice A n c)).heap[k]? = w.heap[k]? := fun k hk' => Below.heap_setCell _ ⟨m, 1, none⟩ _ k hk'
  exact ⟨⟨hT.kept (by simp) (hne g (fun h => hmg h.symm)) (fun _ => hne b (fun h => hmb h.symm)), hMa.same (by simp) (fun r o e => hne r (hap r o e))⟩, one_set hrow, hMn, ⟨hmg, hmb⟩, ⟨hBg, hBb, hBm⟩, hBw.setCell (p := ⟨m, 1, none⟩) hBm _⟩
end
end Tb

theorem play_step (w0 : World) (B g m b : Nat) (A : Option Addr) (n c : Nat) (M : Int) (t : Tab) (e : ActE) (k : Nat) (w : World) (h : Hid (PI w0 B g m b A n c M w t)) (hf : Hid (Few3 k t)) (hk : k ≤ 200) (hx : e.name.size < 3000) (hy : e.val.size < 3000) (hb1 : -9223372036854775808 ≤ e.most) (hb2 : e.most ≤ 9223372036854775807) :
    Calls Try.prog 13 #[.pointer (some ⟨g, 0, none⟩), .agg #[.int .i64 M, .slice A n c], .agg #[.string e.name, .string e.val, .int .i64 e.most]] w fun r w' => ∃ M' A' n' c', r = .returned (.agg #[.int .i64 M', .slice A' n' c']) ∧ w'.heap[m]? = some (.cells #[.int .i64 M, .slice A n c] 29 (0, 0)) ∧ Hid (∃ b', PI w0 B g m b' A' n' c' M' ((w'.setCell ⟨m, 0, none⟩ (.int .i64 M')).setCell ⟨m, 1, none⟩ (.slice A' n' c')) (actT t e)) := by
  obtain ⟨⟨hT, hMa⟩, hrow, ⟨hM, hn⟩, ⟨hmg, hmb⟩, ⟨hBg, hBb, hBm⟩, hBw⟩ := h.out
  rw [← hM, ← hn]
  refine (play_is g b t A c e w (Lib.hid hT) (Lib.hid (hf.out.fit (by omega))) (Lib.hid hMa) (hf.out.sum (by omega)) (by omega) (by omega) hb1 hb2).mono ?_
  rintro r w' ⟨b', A', c', hr, hT', hMa', hK, hb⟩
  have hrow' : w'.heap[m]? = some (.cells #[.int .i64 M, .slice A n c] 29 (0, 0)) := (hK.block m (world_lt hrow) hmg hmb).trans hrow
  have hms := world_lt hrow
  have hml := world_lt hrow'
  have hmb' : m ≠ b' := by rcases hb with rfl | rfl | hb <;> omega
  have hBb' : B ≤ b' := by rcases hb with rfl | rfl | hb <;> omega
  have hap := mat_apart hMa' hrow'
  refine ⟨_, A', _, c', hr, by rw [hM, hn]; exact hrow', Lib.hid ⟨b', ?_⟩⟩
  have hne : ∀ z0 z1 k, k ≠ m → ((w'.setCell ⟨m, 0, none⟩ z0).setCell ⟨m, 1, none⟩ z1).heap[k]? = w'.heap[k]? := fun z0 z1 k hk' => (Below.heap_setCell _ ⟨m, 1, none⟩ z1 k hk').trans (Below.heap_setCell _ ⟨m, 0, none⟩ z0 k hk')
  have hBw' := hK.below hBw hBg hBb (by omega)
  refine ⟨⟨hT'.kept (by simp) (hne _ _ g (fun h => hmg h.symm)) (fun _ => hne _ _ b' (fun h => hmb' h.symm)), hMa'.same (by simp) (fun r o e => hne _ _ r (hap r o e))⟩, two_set hrow', ⟨rfl, rfl⟩, ⟨hmg, hmb'⟩, ⟨hBg, hBb', hBm⟩, ?_⟩
  exact (hBw'.setCell (p := ⟨m, 0, none⟩) hBm _).setCell (p := ⟨m, 1, none⟩) hBm _

theorem same_pi (w0 : World) (B g m b : Nat) (A : Option Addr) (n c : Nat) (M : Int) (t : Tab) (k : Nat) (w : World) (h : Hid (PI w0 B g m b A n c M w t)) (hf : Hid (Few3 k t)) (hk : k ≤ 300) :
    Calls Try.prog 12 #[.pointer (some ⟨g, 0, none⟩), .agg #[.int .i64 M, .slice A n c]] w fun e w' => e = .returned (.bool true) ∧ Hid (PI w0 B g m b A n c M w' t) := by
  obtain ⟨hM, hn⟩ := h.out.2.2.1
  have hE := h.out.1.2.1
  have hT := h.out.1.1
  rw [← hM, ← hn]
  refine (same_is g b t A c w (Lib.hid hT) (Lib.hid (hf.out.fit hk)) (Lib.hid hE)).mono ?_
  rintro e w' ⟨he, hB⟩
  refine ⟨he, Lib.hid ?_⟩
  have := h.out.below hB
  rwa [← hM, ← hn] at this
theorem refNew_m (most M : Int) (w : World) (hM : Hid ((most.toNat : Int) = M)) (hb1 : -9223372036854775808 ≤ most) (hb2 : most ≤ 9223372036854775807) :
    Calls Try.prog 11 #[.int .i64 most] w fun e w' => e = .returned (.agg #[.int .i64 M, .slice none 0 0]) ∧ Below w.heap.size w w' := by
  rw [← hM.out]
  exact refNew_is most w hb1 hb2
end Go.Proofs.Ytchfineobpfinaa
