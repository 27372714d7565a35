/- Settings gathered in a slice of the call's own; a nil slice that came in. No condition. -/
import Derived.Test.YteddepmiejlemaaProg
import Derived.Test.YteddepmiejlemaaBytes
import Derived.Test.YteddepmiejlemaaFrMath
import Derived.Test.YteddepmiejlemaaFrFrame
import Derived.Test.YteddepmiejlemaaFrMake
import Derived.WalkKit
import Derived.Lib.Hide
import Derived.OwnWalk
import Derived.Below
import Derived.Laws.OwnMore
import Derived.Laws.AppendOwnNone
namespace Go.Proofs.Yteddepmiejlemaa
open Go Go.ChangeShapes Go.WideShapes Go.ChangeAt Go.Deep Go.RowKit

namespace Fr
theorem nil_of_trod {H : Type} {enc : TypeId × Value → H} {w : World} {base : Nat} {spare : Nat → Bool} {held : Bool} {fuel : Nat} {a : Option Addr} {len cap : Nat} {x : DataW H × List MemPlace}
    (h : DataW.trod enc Try.prog w base spare held fuel 22 [.slice a len cap] = some x) : a = none → cap = 0 ∧ len = 0 := by
  rcases open_slice_sets Try.underlying22 Try.underlying48 (by kernel_rfl) (by kernel_rfl) h with hcs | ⟨ad, l, c, m, hcs, hm, hmx, hf⟩
  · simp at hcs
    obtain ⟨rfl, rfl, rfl⟩ := hcs
    exact fun _ => ⟨rfl, rfl⟩
  · simp at hcs
    obtain ⟨rfl, rfl, rfl⟩ := hcs
    intro h
    cases h
theorem infoS : (Try.prog.info? 48).map (fun i => (i.zero, i.size, i.bytes)) = some (some (.agg #[.int .u16 0, .int .u32 0]), 2, 8) := by kernel_rfl
theorem zadd (g n : Nat) : ((⟨g, 0, none⟩ : Addr).add n) = ⟨g, n, none⟩ := by unfold Addr.add; split <;> simp_all
theorem oadd (g o n : Nat) : ((⟨g, o, none⟩ : Addr).add n) = ⟨g, o + n, none⟩ := by unfold Addr.add; split <;> simp_all
/-- Settings as cells. -/
def setCs : List (Nat × Nat) → List Value
  | [] => []
  | e :: l => .int .u16 (e.1 : Int) :: .int .u32 (e.2 : Int) :: setCs l
theorem setCs_len : ∀ L : List (Nat × Nat), (setCs L).length = L.length * 2
  | [] => rfl
  | e :: l => by rw [setCs, List.length_cons, List.length_cons, List.length_cons, setCs_len l]; omega
theorem setAt_cons (e : Nat × Nat) (l : List (Nat × Nat)) (k : Nat) : setAt (e :: l) (k + 1) = setAt l k := rfl
theorem setCs_at : ∀ {L : List (Nat × Nat)} {k : Nat}, k < L.length → (setCs L)[k * 2]? = some (.int .u16 ((setAt L k).1 : Int)) ∧ (setCs L)[k * 2 + 1]? = some (.int .u32 ((setAt L k).2 : Int))
  | [], k, h => absurd h (Nat.not_lt_zero k)
  | e :: l, 0, _ => ⟨rfl, rfl⟩
  | e :: l, k + 1, h => by
    have ih := setCs_at (L := l) (k := k) (by rw [List.length_cons] at h; omega)
    rw [setCs, show (k + 1) * 2 = k * 2 + 1 + 1 by omega, setAt_cons]
    exact ih
theorem setCs_one {L : List (Nat × Nat)} : ∀ u ∈ setCs L, u.oneCell' = true := by
  induction L with
  | nil => intro u hu; cases hu
  | cons e l ih =>
    intro u hu
    rw [setCs] at hu
    rcases List.mem_cons.1 hu with rfl | hu
    · rfl
    · rcases List.mem_cons.1 hu with rfl | hu
      · rfl
      · exact ih u hu
/-- A row of one's own reads as its settings. -/
theorem own_sets {w : World} {base n : Nat} {v : Value} {L : List (Nat × Nat)} (h : w.ownsRow base 48 2 v n (setCs L)) (hn : n = L.length) (hb : ∀ k, k < L.length → (setAt L k).1 < 65536 ∧ (setAt L k).2 < 4294967296) :
    ∃ A c, v = .slice A n c ∧ RdSt w w.heap.size A L := by
  rcases h.2 with ⟨rfl, h0⟩ | ⟨g, cap, cur, rfl, _, hg, _⟩
  · subst h0
    exact ⟨none, 0, rfl, fun k hk => absurd hk (by omega)⟩
  · refine ⟨some ⟨g, 0, none⟩, cap, rfl, fun k hk => ⟨g, 0, rfl, (h.lt g rfl).2, ?_, ?_, hb k hk⟩⟩
    · have h1 := h.cells (g := g) rfl _ _ (setCs_at hk).1
      rw [zadd] at h1
      rw [Nat.zero_add]
      exact h1
    · have h1 := h.cells (g := g) rfl _ _ (setCs_at hk).2
      rw [zadd] at h1
      rw [Nat.zero_add]
      exact h1
/-- An empty row that was just laid. -/
theorem own_empty (W : World) : (W.alloc (.cells #[] 48)).ownsRow W.heap.size 48 2 (.slice (some ⟨W.heap.size, 0, none⟩) 0 0) 0 (setCs []) := by
  refine ⟨rfl, .inr ⟨W.heap.size, 0, #[], rfl, Nat.le_refl _, heap_alloc_new W _, Nat.le_refl _, ?_, rfl, rfl⟩⟩
  unfold maxLen
  omega
set_option maxRecDepth 100000 in
/-- append(own, xs...) of settings: nil, or at an address. -/
theorem wpList_append_sets {w : World} {ops : Array Oper} {rest : List Oper} {o : Oper} {a : Act} {Q : Exit → Act → World → Prop} (hgd : o.guard = none) (s x : Operand)
    (ho : o.op = .call { callee := .builtin .append, args := #[s, x], argTypes := #[22, 22] })
    (base : Nat) (v : Value) (hs : a.eval s = v) (hown : w.ownsRow base 48 2 v 0 (setCs [])) (n c : Nat) (A : Option Addr) (L : List (Nat × Nat)) (hx : a.eval x = .slice A n c) (hn : L.length = n) (hnil : A = none → c = 0 ∧ n = 0) (B : Nat) (hsrc : RdSt w B A L)
    (hmn : n ≤ 100000) (hbase : base ≤ w.heap.size)
    (h : ∀ v' w', w'.ownsRow base 48 2 v' n (setCs L) → w.grownBy w' v.ownBlock → wpList Try.prog ops Q rest (a.put o.dst v') w') : wpList Try.prog ops Q (o :: rest) a w := by
  obtain ⟨i0, hi, hz0, hz1, hz2⟩ := info_parts infoS
  rcases A with _ | ad
  · obtain ⟨rfl, rfl⟩ := hnil rfl
    have hL : L = [] := List.length_eq_zero_iff.1 hn
    subst hL
    exact wpList_append_own_none hgd s x 22 ho base 48 i0 2 Try.underlying22 hi v 0 (setCs []) hs hown hx (h v w hown (World.grownBy.refl w _))
  · refine wpList_append_own w hgd s x 22 ho base 48 i0 (.agg #[.int .u16 0, .int .u32 0]) 2 8 Try.underlying22 hi hz0 hz1 hz2 rfl (by decide) v 0 (setCs []) hs hown ad n c (setCs L) hx (by rw [setCs_len, hn]) ?_ setCs_one (by unfold maxLen; omega) (by omega) hbase (fun v' w' h1 h2 _ => h v' w' (by rw [Nat.zero_add] at h1; exact h1) h2)
    intro j u hj
    have hjl : j < (setCs L).length := by
      rcases Nat.lt_or_ge j (setCs L).length with h | h
      · exact h
      · rw [List.getElem?_eq_none h] at hj; cases hj
    rw [setCs_len] at hjl
    obtain ⟨b2, o2, ha, _, hc0, hc1, _⟩ := hsrc (j / 2) (by omega)
    injection ha with ha
    subst ha
    rw [oadd]
    have hat := setCs_at (L := L) (k := j / 2) (by omega)
    rcases Nat.mod_two_eq_zero_or_one j with hm | hm
    · rw [show j / 2 * 2 = j by omega] at hc0 hat
      rw [hat.1] at hj
      rw [hc0, ← hj]
    · rw [Nat.add_assoc, show j / 2 * 2 + 1 = j by omega] at hc1
      rw [show j / 2 * 2 + 1 = j by omega] at hat
      rw [hat.2] at hj
      rw [hc1, ← hj]
end Fr
end Go.Proofs.Yteddepmiejlemaa
