/- Rows of fields of the call's own: one appended, where it lies then. No condition but that they are few. -/
import Derived.Test.YtamgnbjdeoklbaaProg
import Derived.Test.YtamgnbjdeoklbaaTcMem
import Derived.Test.YtamgnbjdeoklbaaUpMath
import Derived.Test.YtamgnbjdeoklbaaUpFld
import Derived.Test.YtamgnbjdeoklbaaUpField
import Derived.WalkKit
import Derived.OwnWalk
import Derived.Lib.Hide
import Derived.Laws.OwnMore
import Derived.Laws.Rows
namespace Go.Proofs.Ytamgnbjdeoklbaa
open Go Go.RowKit Tb Up

theorem infoF : (Try.prog.info? 45).map (fun i => (i.zero, i.size, i.bytes)) = some (some (.agg #[.string ⟨#[]⟩, .string ⟨#[]⟩, .bool false]), 3, 40) := by kernel_rfl
/-- A field's cells. -/
def fldC (x : Fld) : List Value := [.string x.name, .string x.val, .bool x.never]
/-- Fields as cells. -/
def fldCs (L : List Fld) : List Value := L.flatMap fldC
theorem fldCs_snoc (L : List Fld) (x : Fld) : fldCs (L ++ [x]) = fldCs L ++ fldC x := by unfold fldCs; rw [List.flatMap_append]; simp
theorem own_same {w w' : World} {g n size : Nat} {e : TypeId} {v : Value} {xs : List Value} (h : w.ownsRow g e size v n xs) (hk : ∀ k, v.ownBlock = some k → w'.heap[k]? = w.heap[k]?) : w'.ownsRow g e size v n xs := by
  refine ⟨h.1, ?_⟩
  rcases h.2 with hn | ⟨b, cap, cur, rfl, hb, hgg, rest⟩
  · exact .inl hn
  · exact .inr ⟨b, cap, cur, rfl, hb, (hk b rfl).trans hgg, rest⟩
theorem own_sl {w : World} {g n size : Nat} {e : TypeId} {v : Value} {xs : List Value} (h : w.ownsRow g e size v n xs) : ∃ A c, v = .slice A n c := by
  rcases h.2 with ⟨rfl, rfl⟩ | ⟨b, cap, cur, rfl, _⟩
  · exact ⟨_, _, rfl⟩
  · exact ⟨_, _, rfl⟩
theorem Kept3.own {r g b : Nat} {w w1 w2 : World} {row : Option Nat} (h : Kept3 r g b w w1) (hg : w1.grownBy w2 row) (hr : ∀ k, row = some k → w.heap.size ≤ k) : Kept3 r g b w w2 :=
  ⟨hg.os.trans h.os, hg.tape.trans h.tape, hg.output.trans h.output, Nat.le_trans h.size hg.size, fun i hi h0 h1 h2 => (hg.block i (Nat.lt_of_lt_of_le hi h.size) (fun e => by have := hr i e.symm; omega)).trans (h.block i hi h0 h1 h2)⟩
/-- append of one field to a row of one's own: what it leaves, and where. -/
theorem run_append_fld {w : World} {base n : Nat} {v : Value} {L : List Fld} (hO : w.ownsRow base 45 3 v n (fldCs L)) {E : Nat} {x : Fld} (hE : w.heap[E]? = some (.cells #[.string x.name, .string x.val, .bool x.never] 45 (0, 0))) (hn : n ≤ 100000) (hb : base ≤ w.heap.size) (ty : TypeId) :
    ∃ k cap w', (Builtin.append_ #[30, 30] ty #[v, .slice (some ⟨E, 0, none⟩) 1 1]).run Try.prog w = .ok (.slice (some ⟨k, 0, none⟩) (n + 1) cap) w' ∧ w'.ownsRow base 45 3 (.slice (some ⟨k, 0, none⟩) (n + 1) cap) (n + 1) (fldCs (L ++ [x])) ∧ w.grownBy w' v.ownBlock ∧ (v.ownBlock = some k ∨ w.heap.size ≤ k) := by
  obtain ⟨i0, hi, hz0, hz1, hz2⟩ := info_parts infoF
  have ht := Try.underlying30
  have hl : (fldC x).length = 1 * i0.size := by rw [hz1]; rfl
  have hnews : ∀ j u, (fldC x)[j]? = some u → w.cell? ((⟨E, 0, none⟩ : Addr).add j) = some u := fun j u hj => by
    match j, hj with
    | 0, hj => simp [fldC] at hj; subst hj; rw [zero_add_addr]; exact cell_of_row _ E 0 _ _ _ hE
    | 1, hj => simp [fldC] at hj; subst hj; rw [zero_add_addr]; exact cell_of_row _ E 1 _ _ _ hE
    | 2, hj => simp [fldC] at hj; subst hj; rw [zero_add_addr]; exact cell_of_row _ E 2 _ _ _ hE
  have hone : ∀ u ∈ fldC x, u.oneCell' = true := fun u hu => by simp [fldC] at hu; rcases hu with rfl | rfl | rfl <;> rfl
  obtain ⟨v', w', hr, h2, h3, _⟩ := run_append_own (P := Try.prog) w base 30 ty 45 i0 _ 3 40 ht hi hz0 hz1 hz2 rfl (by decide) v n (fldCs L) hO ⟨E, 0, none⟩ 1 1 (fldC x) (by rw [hl, hz1]) hnews hone (by unfold maxLen; omega) (by omega) hb
  rw [← fldCs_snoc] at h2
  have hloc : ∃ k cap, v' = .slice (some ⟨k, 0, none⟩) (n + 1) cap ∧ (v.ownBlock = some k ∨ w.heap.size ≤ k) := by
    rcases hO.2 with ⟨rfl, rfl⟩ | ⟨g0, cap, cur, rfl, hbg, hgg, hnc, hcm, hcs, htake⟩
    · have hr2 := run_append_nil (P := Try.prog) w 30 ty 45 i0 _ ht hi hz0 ⟨E, 0, none⟩ 1 1 (fldC x) hl hnews (by omega) (by omega) (by rw [hz2]; omega)
      rw [hr] at hr2
      injection hr2 with e1 e2
      exact ⟨_, _, by rw [e1], .inr (Nat.le_refl _)⟩
    · by_cases hroom : n + 1 ≤ cap
      · have hr2 := run_append_room (P := Try.prog) w 30 ty 45 i0 ht hi g0 n cap cur hgg ⟨E, 0, none⟩ 1 1 (fldC x) hl hnews hone hroom (by rw [hl, hz1, hcs]; omega)
        rw [hr] at hr2
        injection hr2 with e1 e2
        exact ⟨_, _, e1, .inl rfl⟩
      · have holds : ∀ j u, (fldCs L)[j]? = some u → w.cell? ((⟨g0, 0, none⟩ : Addr).add j) = some u := hO.cells (g := g0) rfl
        have hr2 := run_append_grow (P := Try.prog) w 30 ty 45 i0 _ ht hi hz0 ⟨g0, 0, none⟩ n cap (fldCs L) (by rw [hz1]; exact hO.1) holds ⟨E, 0, none⟩ 1 1 (fldC x) hl hnews (by omega) (by omega) (growslice_fits (by omega) (by rw [hz2]; omega))
        rw [hr] at hr2
        injection hr2 with e1 e2
        exact ⟨_, _, e1, .inr (Nat.le_refl _)⟩
  obtain ⟨k, cap, rfl, hl⟩ := hloc
  exact ⟨k, cap, w', hr, h2, h3, hl⟩
/-- An append whose run is known. -/
theorem wpList_append_run {P : Program} {w w' : World} {ops : Array Oper} {rest : List Oper} {o : Oper} {a : Act} {Q : Exit → Act → World → Prop} (hg : o.guard = none) (s x : Operand) (t : TypeId) (hop : o.op = Op.call { callee := Callee.builtin Builtin.append, args := #[s, x], argTypes := #[t, t] })
    (vs vx v' : Value) (hs : a.eval s = vs) (hx : a.eval x = vx) (hrun : (Builtin.append_ #[t, t] o.type #[vs, vx]).run P w = .ok v' w') (hK : wpList P ops Q rest (a.put o.dst v') w') : wpList P ops Q (o :: rest) a w := by
  refine wpList_plain hg fun K hK' => ?_
  unfold Oper.wp
  simp [execOp, hop, resolve, invoke, builtin, hs, hx, hrun, Result.andThen]
  exact hK' _ _ hK
end Go.Proofs.Ytamgnbjdeoklbaa
