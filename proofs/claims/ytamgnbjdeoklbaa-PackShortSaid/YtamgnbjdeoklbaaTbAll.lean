/- The contract of the document's All: the fixed entries and a table's. For tables of at most 30000 entries. -/
import Derived.Test.YtamgnbjdeoklbaaProg
import Derived.Test.YtamgnbjdeoklbaaTbMath
import Derived.Test.YtamgnbjdeoklbaaTbMem
import Derived.Test.YtamgnbjdeoklbaaTbRef
import Derived.Test.YtamgnbjdeoklbaaTbFix
import Derived.WalkKit
import Derived.Lib.Hide
import Derived.Outline
import Derived.IntWalk
import Derived.WalkSpells
import Derived.WalkLawsBesides
import Derived.Deep.RegionHeld3
import Derived.Deep.AppendLies
import Derived.Laws.OwnMore
namespace Go.Proofs.Ytamgnbjdeoklbaa
open Go.RowKit Tb

/-- A table's slice: nil, if there are no entries. -/
def NilE (A : Option Addr) (n c : Nat) : Prop := n = 0 → A = none ∧ c = 0
theorem fixed_held (g : Nat) (u0 u1 : Value) (w W : World) (hg : g < w.heap.size) (hS : W.cell? ⟨g, 0, none⟩ = some u0 ∧ W.cell? ⟨g, 1, none⟩ = some u1 ∧ Below w.heap.size w W) :
    Calls Try.prog 67 #[] W fun e w' => ∃ v, e = .returned v ∧ w'.ownsRow w.heap.size 95 2 v 61 (entCs fixedT) ∧ w'.cell? ⟨g, 0, none⟩ = some u0 ∧ w'.cell? ⟨g, 1, none⟩ = some u1 ∧ Below w.heap.size w w' :=
  (fixed_is W).mono fun _ _ ⟨v, he, hO, hB⟩ => ⟨v, he, own_lower hO hS.2.2.size, (hB.cell (p := ⟨g, 0, none⟩) (Nat.lt_of_lt_of_le hg hS.2.2.size)).trans hS.1, (hB.cell (p := ⟨g, 1, none⟩) (Nat.lt_of_lt_of_le hg hS.2.2.size)).trans hS.2.1, hS.2.2.trans (hB.mono hS.2.2.size)⟩
/-- append(own, nil...) at a step of a region that draws its order. -/
theorem step_append_none {P : Program} {w : World} {ops : Array Oper} {o : Oper} {a : Act} {K : Act → World → Prop} {Q : Exit → Act → World → Prop} {E : Prop} (hgd : o.guard = none) (s x : Operand) (t : TypeId)
    (ho : o.op = .call { callee := .builtin .append, args := #[s, x], argTypes := #[t, t] })
    (base : Nat) (e : TypeId) (i : TypeInfo) (size : Nat) (ht : P.underlying t = some (.slice e)) (hi : P.info? e = some i)
    (v : Value) (n : Nat) (xs : List Value) (hs : a.eval s = v) (hown : w.ownsRow base e size v n xs) (hx : a.eval x = .slice none 0 0)
    (h : K (a.put o.dst v) w) : if Region.wanted o (yielded ops a.tmps) = true then Oper.wp P o a w K Q else E := by
  have hw : Region.wanted o (yielded ops a.tmps) = true := by simp [Region.wanted, hgd]
  rw [if_pos hw]
  have hrun := run_append_owned_none (P := P) (w := w) base t o.type e i size ht hi v n xs hown
  unfold Oper.wp
  simp [execOp, ho, resolve, invoke, builtin, hs, hx, hrun, Result.andThen]
  exact h
theorem below_grown {w w' : World} {g base n s : Nat} {e : TypeId} {v : Value} {xs : List Value} (hg : w.grownBy w' v.ownBlock) (hO : w.ownsRow base e s v n xs) (hb : base ≤ w.heap.size) (hgb : g ≤ base) : Below g w w' :=
  (Below.refl g w).grown hg (by omega) (fun k hk => by have := (hO.lt k hk).1; omega)
theorem news_of {w : World} {B : Nat} {ad : Addr} {L : List Ent} (h : RdE w B (some ad) L) : ∀ j u, (entCs L)[j]? = some u → w.cell? (ad.add j) = some u := fun j u hj => by
  have hjl : j < (entCs L).length := by
    rcases Nat.lt_or_ge j (entCs L).length with h | h
    · exact h
    · rw [List.getElem?_eq_none h] at hj; cases hj
  rw [entCs_len] at hjl
  obtain ⟨b2, o2, ha, _, hc⟩ := h.get (k := j / 2) (by omega)
  injection ha with ha
  subst ha
  rw [off_add_addr]
  have hat := entCs_at (L := L) (k := j / 2) (by omega)
  rcases Nat.mod_two_eq_zero_or_one j with hm | hm
  · rw [show j / 2 * 2 = j by omega] at hc hat
    rw [hat.1] at hj
    rw [hc.1, ← hj]
  · rw [Nat.add_assoc, show j / 2 * 2 + 1 = j by omega] at hc
    rw [show j / 2 * 2 + 1 = j by omega] at hat
    rw [hat.2] at hj
    rw [hc.2, ← hj]

set_option maxHeartbeats 4000000 in
set_option maxRecDepth 100000 in
theorem all_nil (M : Int) (w : World) :
    Calls Try.prog 55 #[.agg #[.int .i64 M, .slice none 0 0]] w fun e w' => ∃ v, e = .returned v ∧ w'.ownsRow w.heap.size 95 2 v 61 (entCs fixedT) ∧ Below w.heap.size w w' := by
  obtain ⟨i0, hi, hz0, hz1, hz2⟩ := info_parts infoE
  have HI := Lib.hid hi; clear hi
  have HZ0 := Lib.hid hz0; clear hz0
  have HZ1 := Lib.hid hz1; clear hz1
  have HZ2 := Lib.hid hz2; clear hz2
  have h0 := heap_alloc_new w (.cells #[.int .i64 M, .slice none 0 0] 49)
  obtain ⟨a1, a2, a3, a4⟩ := two_cells h0
  have HB := Lib.hid ((Below.refl w.heap.size w).alloc (Nat.le_refl _) (.cells #[.int .i64 M, .slice none 0 0] 49))
  have HS0 := Lib.hid (show (w.alloc (.cells #[.int .i64 M, .slice none 0 0] 49)).heap.size = w.heap.size + 1 by simp)
  clear h0
  go_enter Try.func55, Try.ntmps55
  go_wp2_with fail
  generalize (w.alloc (.cells #[.int .i64 M, .slice none 0 0] 49)) = W at *
  generalize hg : w.heap.size = g at *
  have hgW : g < W.heap.size := by have := HS0.out; omega
  have hH : Below W.heap.size W W := Below.refl _ _
  have hHd : Below W.heap.size W W.drew := (Below.refl _ _).drew
  have HGW := Lib.hid hgW
  have q0 : W.drew.cell? ⟨g, 0, none⟩ = some (.int .i64 M) := a1
  have q1 : W.drew.cell? ⟨g, 1, none⟩ = some (.slice none 0 0) := a2
  go_region_held3 (fun w' => w'.cell? ⟨g, 0, none⟩ = some (.int .i64 M) ∧ w'.cell? ⟨g, 1, none⟩ = some (.slice none 0 0) ∧ Below W.heap.size W w') (go_keep) (first | (go_at_call 67; (with_reducible refine (fixed_held g (.int .i64 M) (.slice none 0 0) W _ HGW.out ?_).mono ?_); (first | exact ⟨q0, q1, hHd⟩ | exact ⟨a1, a2, hH⟩); rintro e w3 ⟨v, rfl, hO3, k0, k1, hB3⟩) | ((refine step_append_none (by rfl) _ _ _ (by rfl) W.heap.size 95 i0 2 Try.underlying47 HI.out _ 61 (entCs fixedT) (by rfl) hO3 (by rfl) ?_)))
  have hO6 := own_lower hO3 (show g ≤ W.heap.size by omega)
  have hB6 := HB.out.trans (hB3.mono (by omega))
  go_wp2_with fail
  go_ret
  exact ⟨_, rfl, by first | exact hO6 | (rw [hg]; exact hO6), by first | exact hB6 | (rw [hg]; exact hB6)⟩

set_option maxHeartbeats 4000000 in
set_option maxRecDepth 100000 in
theorem all_some (M : Int) (b o n c : Nat) (L : List Ent) (w : World) (hn : Hid (L.length = n)) (hr : Hid (RdE w w.heap.size (some ⟨b, o, none⟩) L)) (hb : n ≤ 30000) (hn0 : 0 < n) :
    Calls Try.prog 55 #[.agg #[.int .i64 M, .slice (some ⟨b, o, none⟩) n c]] w fun e w' => ∃ v, e = .returned v ∧ w'.ownsRow w.heap.size 95 2 v (61 + n) (entCs (fixedT ++ L)) ∧ Below w.heap.size w w' := by
  obtain ⟨i0, hi, hz0, hz1, hz2⟩ := info_parts infoE
  have HI := Lib.hid hi; clear hi
  have HZ0 := Lib.hid hz0; clear hz0
  have HZ1 := Lib.hid hz1; clear hz1
  have HZ2 := Lib.hid hz2; clear hz2
  have h0 := heap_alloc_new w (.cells #[.int .i64 M, .slice (some ⟨b, o, none⟩) n c] 49)
  obtain ⟨a1, a2, a3, a4⟩ := two_cells h0
  have HB := Lib.hid ((Below.refl w.heap.size w).alloc (Nat.le_refl _) (.cells #[.int .i64 M, .slice (some ⟨b, o, none⟩) n c] 49))
  have HS0 := Lib.hid (show (w.alloc (.cells #[.int .i64 M, .slice (some ⟨b, o, none⟩) n c] 49)).heap.size = w.heap.size + 1 by simp)
  clear h0
  have hrW := Lib.hid (fun w' (h : Below (w.alloc (.cells #[.int .i64 M, .slice (some ⟨b, o, none⟩) n c] 49)).heap.size (w.alloc (.cells #[.int .i64 M, .slice (some ⟨b, o, none⟩) n c] 49)) w') => hr.out.below (HB.out.trans (h.mono HB.out.size)))
  go_enter Try.func55, Try.ntmps55
  go_wp2_with fail
  generalize (w.alloc (.cells #[.int .i64 M, .slice (some ⟨b, o, none⟩) n c] 49)) = W at *
  generalize hg : w.heap.size = g at *
  have hgW : g < W.heap.size := by have := HS0.out; omega
  have hH : Below W.heap.size W W := Below.refl _ _
  have hHd : Below W.heap.size W W.drew := (Below.refl _ _).drew
  have HGW := Lib.hid hgW
  have q0 : W.drew.cell? ⟨g, 0, none⟩ = some (.int .i64 M) := a1
  have q1 : W.drew.cell? ⟨g, 1, none⟩ = some (.slice (some ⟨b, o, none⟩) n c) := a2
  have hm63 : 61 + n ≤ maxLen := by unfold maxLen; omega
  have hm47 : (61 + n) * 32 ≤ 140737488355328 := by omega
  have hel : (entCs L).length = n * 2 := by rw [entCs_len, hn.out]
  go_region_held3 (fun w' => w'.cell? ⟨g, 0, none⟩ = some (.int .i64 M) ∧ w'.cell? ⟨g, 1, none⟩ = some (.slice (some ⟨b, o, none⟩) n c) ∧ Below W.heap.size W w') (first | go_keep | exact ⟨k5a, k5b, hB5⟩) (first | (go_at_call 67; (with_reducible refine (fixed_held g (.int .i64 M) (.slice (some ⟨b, o, none⟩) n c) W _ HGW.out ?_).mono ?_); (first | exact ⟨q0, q1, hHd⟩ | exact ⟨a1, a2, hH⟩); rintro e w3 ⟨v, rfl, hO3, k0, k1, hB3⟩) | ((refine step_append_lies _ (by rfl) _ _ _ (by rfl) W.heap.size 95 i0 (.agg #[.string ⟨#[]⟩, .string ⟨#[]⟩]) 2 32 Try.underlying47 HI.out HZ0.out HZ1.out HZ2.out rfl (by decide) _ 61 (entCs fixedT) (by rfl) hO3 ⟨b, o, none⟩ n c (entCs L) (by rfl) hel (news_of (hrW.out _ hB3)) entCs_one_cell hn0 hm63 hm47 hB3.size _ rfl ?_; intro gg cap w5 hown hgrow hat hlt; have hx5 := below_grown hgrow hO3 hB3.size (Nat.le_refl _); have k5a := (hx5.cell (p := ⟨g, 0, none⟩) HGW.out).trans k0; have k5b := (hx5.cell (p := ⟨g, 1, none⟩) HGW.out).trans k1; have hB5 := hB3.trans hx5)))
  have hO6 := own_lower hown (show g ≤ W.heap.size by omega)
  rw [← entCs_cat] at hO6
  have hB6 := (HB.out.trans (hB3.mono (by omega))).trans (below_grown hgrow hO3 hB3.size (by omega))
  go_wp2_with fail
  go_ret
  exact ⟨_, rfl, by first | exact hO6 | (rw [hg]; exact hO6), by first | exact hB6 | (rw [hg]; exact hB6)⟩
end Go.Proofs.Ytamgnbjdeoklbaa
