/- Texts of one proof, one behind the other: UpJoin. -/
import Derived.Test.YtaoomjbkfcbfpaaProg
import Derived.Test.YtaoomjbkfcbfpaaGrown
import Derived.Test.YtaoomjbkfcbfpaaTbMem
import Derived.Test.YtaoomjbkfcbfpaaUpMath
import Derived.Test.YtaoomjbkfcbfpaaUpFld
import Derived.Test.YtaoomjbkfcbfpaaUpField
import Derived.Test.YtaoomjbkfcbfpaaUpOwn
import Derived.Test.YtaoomjbkfcbfpaaUnpackPartsProofG1
import Derived.WalkKit
import Derived.Lib.Hide
import Derived.Laws.Rows
import Derived.Laws.AppendOwnNone

/- Two decoders of the call's own, apart from one another; rows of fields put together. No condition but that fields are few. -/
namespace Go.Proofs.Ytaoomjbkfcbfpaa
open Go Go.RowKit Tb Up

/-- Two decoders, apart. -/
structure DD (w wr : World) (d1 g1 b1 d2 g2 b2 : Nat) (D1 D2 : Dec) : Prop where
  c1 : DL w wr d1 g1 b1 D1
  c2 : DL w wr d2 g2 b2 D2
  ap : (d1 ≠ d2 ∧ d1 ≠ g2 ∧ d1 ≠ b2) ∧ (g1 ≠ d2 ∧ g1 ≠ g2 ∧ g1 ≠ b2) ∧ (b1 ≠ d2 ∧ b1 ≠ g2 ∧ b1 ≠ b2)
section
variable {w wr w1 : World} {d1 g1 b1 d2 g2 b2 b' : Nat} {D1 D2 D' : Dec}
theorem DD.below (h : DD w wr d1 g1 b1 d2 g2 b2 D1 D2) (hB : Below wr.heap.size wr w1) : DD w w1 d1 g1 b1 d2 g2 b2 D1 D2 := ⟨h.c1.below hB, h.c2.below hB, h.ap⟩
theorem DD.swap (h : DD w wr d1 g1 b1 d2 g2 b2 D1 D2) : DD w wr d2 g2 b2 d1 g1 b1 D2 D1 :=
  ⟨h.c2, h.c1, ⟨h.ap.1.1.symm, h.ap.2.1.1.symm, h.ap.2.2.1.symm⟩, ⟨h.ap.1.2.1.symm, h.ap.2.1.2.1.symm, h.ap.2.2.2.1.symm⟩, ⟨h.ap.1.2.2.symm, h.ap.2.1.2.2.symm, h.ap.2.2.2.2.symm⟩⟩
theorem DD.read (h : DD w wr d1 g1 b1 d2 g2 b2 D1 D2) (hD : DcAt w1 d1 g1 b' D') (hK : Kept3 d1 g1 b1 wr w1) (hb : b' = b1 ∨ b' = g1 ∨ wr.heap.size ≤ b') : DD w w1 d1 g1 b' d2 g2 b2 D' D2 := by
  have hl := h.c2.dec.lt
  have ha := h.ap
  have h1 := h.c1.step hD hK hb
  refine ⟨h1, ⟨h.c2.dec.kept hK.size (fun k hk => hK.block k (by omega) (by omega) (by omega) (by omega)), h1.fr, h.c2.ge⟩, ha.1, ha.2.1, ?_⟩
  rcases hb with e | e | e
  · subst e; exact ha.2.2
  · subst e; exact ha.2.1
  · omega
end
/-- append of the fields of one row to a row of one's own. -/
theorem run_append_flds {w : World} {base n : Nat} {v : Value} {L : List Fld} (hO : w.ownsRow base 47 3 v n (fldCs L)) {g2 m : Nat} {v2 : Value} {L2 : List Fld} (h2 : w.ownsRow g2 47 3 v2 m (fldCs L2)) (hn : n + m ≤ 100000) (hb : base ≤ w.heap.size) (ty : TypeId) :
    ∃ A c w', (Builtin.append_ #[33, 33] ty #[v, v2]).run Try.prog w = .ok (.slice A (n + m) c) w' ∧ w'.ownsRow base 47 3 (.slice A (n + m) c) (n + m) (fldCs (L ++ L2)) ∧ w.grownBy w' v.ownBlock := by
  obtain ⟨i0, hi, hz0, hz1, hz2⟩ := info_parts infoF
  have ht := Try.underlying33
  have hcat : fldCs (L ++ L2) = fldCs L ++ fldCs L2 := by unfold fldCs; rw [List.flatMap_append]
  rw [hcat]
  rcases h2.2 with ⟨rfl, rfl⟩ | ⟨gb, cap, cur, rfl, hbg, hgg, hnc, hcm, hcs, htake⟩
  · have hL2 : fldCs L2 = [] := List.eq_nil_of_length_eq_zero (by have := h2.1; omega)
    rw [hL2, List.append_nil, Nat.add_zero]
    obtain ⟨A, c, rfl⟩ := own_sl hO
    exact ⟨A, c, w, run_append_owned_none (P := Try.prog) (w := w) base 33 ty 47 i0 3 ht hi (.slice A n c) n (fldCs L) hO, hO, World.grownBy.refl w _⟩
  · have hone : ∀ u ∈ fldCs L2, u.oneCell' = true := fun u hu => by
      unfold fldCs at hu
      obtain ⟨x, _, hx⟩ := List.mem_flatMap.1 hu
      simp [fldC] at hx
      rcases hx with rfl | rfl | rfl <;> rfl
    obtain ⟨v', w', hr, h3, h4, _⟩ := run_append_own (P := Try.prog) w base 33 ty 47 i0 _ 3 40 ht hi hz0 hz1 hz2 rfl (by decide) v n (fldCs L) hO ⟨gb, 0, none⟩ m cap (fldCs L2) h2.1 (h2.cells (g := gb) rfl) hone (by unfold maxLen; omega) (by omega) hb
    obtain ⟨A, c, rfl⟩ := own_sl h3
    exact ⟨A, c, w', hr, h3, h4⟩
/-- An empty literal of fields. -/
theorem own_empty (w : World) : (w.alloc (.cells #[] 47)).ownsRow w.heap.size 47 3 (.slice (some ⟨w.heap.size, 0, none⟩) 0 0) 0 (fldCs []) :=
  ⟨rfl, .inr ⟨w.heap.size, 0, #[], rfl, Nat.le_refl _, heap_alloc_new w _, Nat.le_refl _, Nat.zero_le _, rfl, rfl⟩⟩
/-- A guarded append whose run is known. -/
theorem wpList_append_gd {P : Program} {w w' : World} {ops : Array Oper} {rest : List Oper} {o : Oper} {a : Act} {Q : Exit → Act → World → Prop} (hg : Region.wanted o (yielded ops a.tmps) = true) (s x : Operand) (t : TypeId) (hop : o.op = Op.call { callee := Callee.builtin Builtin.append, args := #[s, x], argTypes := #[t, t] })
    (vs vx v' : Value) (hs : a.eval s = vs) (hx : a.eval x = vx) (hrun : (Builtin.append_ #[t, t] o.type #[vs, vx]).run P w = .ok v' w') (hK : wpList P ops Q rest (a.put o.dst v') w') : wpList P ops Q (o :: rest) a w := by
  refine wpList_step fun K hK' => ?_
  rw [if_pos hg]
  unfold Oper.wp
  simp [execOp, hop, resolve, invoke, builtin, hs, hx, hrun, Result.andThen]
  exact hK' _ _ hK
end Go.Proofs.Ytaoomjbkfcbfpaa
