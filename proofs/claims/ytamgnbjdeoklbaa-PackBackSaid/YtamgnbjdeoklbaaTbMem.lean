/- Slices of entries: one that reads as a list of entries (nil let in), one that the call gathered itself. No condition. -/
import Derived.Test.YtamgnbjdeoklbaaProg
import Derived.Test.YtamgnbjdeoklbaaTbMath
import Derived.WalkKit
import Derived.Lib.Hide
import Derived.OwnWalk
import Derived.Below
import Derived.Laws.OwnMore
import Derived.Laws.AppendOwnNone
import Derived.Deep.Draws
namespace Go.Proofs.Ytamgnbjdeoklbaa.Tb
open Go Go.RowKit

theorem infoE : (Try.prog.info? 95).map (fun i => (i.zero, i.size, i.bytes)) = some (some (.agg #[.string ⟨#[]⟩, .string ⟨#[]⟩]), 2, 32) := by kernel_rfl
theorem add_block (a : Addr) (n : Nat) : (a.add n).block = a.block := by unfold Addr.add; split <;> rfl
theorem add_two (a : Addr) (i j : Nat) : (a.add i).add j = a.add (i + j) := by
  unfold Addr.add
  by_cases hi : i = 0 <;> by_cases hj : j = 0 <;> simp [hi, hj, Nat.add_assoc]
theorem zero_add_addr (g n : Nat) : ((⟨g, 0, none⟩ : Addr).add n) = ⟨g, n, none⟩ := by unfold Addr.add; split <;> simp_all
theorem off_add_addr (g o n : Nat) : ((⟨g, o, none⟩ : Addr).add n) = ⟨g, o + n, none⟩ := by unfold Addr.add; split <;> simp_all
/-- Entries as cells. -/
def entCs : List Ent → List Value
  | [] => []
  | e :: l => .string e.1 :: .string e.2 :: entCs l
theorem entCs_cat (a b : List Ent) : entCs (a ++ b) = entCs a ++ entCs b := by
  induction a with
  | nil => rfl
  | cons e a ih => rw [List.cons_append, entCs, entCs, ih]; rfl
theorem entCs_one (e : Ent) : entCs [e] = [.string e.1, .string e.2] := rfl
theorem entCs_len (L : List Ent) : (entCs L).length = L.length * 2 := by
  induction L with
  | nil => rfl
  | cons e l ih => rw [entCs, List.length_cons, List.length_cons, List.length_cons, ih]; omega
/-- The entry at a place; none: an empty one. -/
def entAt (L : List Ent) (k : Nat) : Ent := L.getD k (⟨#[]⟩, ⟨#[]⟩)
theorem entAt_cons (e : Ent) (l : List Ent) (k : Nat) : entAt (e :: l) (k + 1) = entAt l k := rfl
theorem entCs_at : ∀ {L : List Ent} {k : Nat}, k < L.length → (entCs L)[k * 2]? = some (.string (entAt L k).1) ∧ (entCs L)[k * 2 + 1]? = some (.string (entAt L k).2)
  | [], k, h => absurd h (Nat.not_lt_zero k)
  | e :: l, 0, _ => ⟨rfl, rfl⟩
  | e :: l, k + 1, h => by
    have ih := entCs_at (L := l) (k := k) (by rw [List.length_cons] at h; omega)
    rw [entCs, show (k + 1) * 2 = k * 2 + 1 + 1 by omega, entAt_cons]
    exact ih
theorem entCs_one_cell {L : List Ent} : ∀ u ∈ entCs L, u.oneCell' = true := by
  induction L with
  | nil => intro u hu; cases hu
  | cons e l ih =>
    intro u hu
    rw [entCs] at hu
    rcases List.mem_cons.1 hu with rfl | hu
    · rfl
    · rcases List.mem_cons.1 hu with rfl | hu
      · rfl
      · exact ih u hu

/-- The slice at this address, as long as L, reads as the entries L, below block B. -/
def RdE (w : World) (B : Nat) (A : Option Addr) (L : List Ent) : Prop :=
  0 < L.length → ∃ b o, A = some ⟨b, o, none⟩ ∧ b < B ∧ ∀ k, k < L.length → w.cell? ⟨b, o + k * 2, none⟩ = some (.string (entAt L k).1) ∧ w.cell? ⟨b, o + k * 2 + 1, none⟩ = some (.string (entAt L k).2)
section
variable {w w' : World} {B B' : Nat} {A : Option Addr} {L : List Ent}
theorem RdE.void (w : World) (B : Nat) (A : Option Addr) : RdE w B A [] := fun h => absurd h (Nat.lt_irrefl 0)
theorem RdE.get (h : RdE w B A L) {k : Nat} (hk : k < L.length) : ∃ b o, A = some ⟨b, o, none⟩ ∧ b < B ∧ w.cell? ⟨b, o + k * 2, none⟩ = some (.string (entAt L k).1) ∧ w.cell? ⟨b, o + k * 2 + 1, none⟩ = some (.string (entAt L k).2) := by
  obtain ⟨b, o, e, hb, hc⟩ := h (by omega)
  exact ⟨b, o, e, hb, hc k hk⟩
theorem RdE.below (h : RdE w B A L) (hb : Below B w w') : RdE w' B A L := fun hp => by
  obtain ⟨b, o, e, hB, hc⟩ := h hp
  exact ⟨b, o, e, hB, fun k hk => ⟨(hb.cell hB).trans (hc k hk).1, (hb.cell hB).trans (hc k hk).2⟩⟩
theorem RdE.more (h : RdE w B A L) (hB : B ≤ B') : RdE w B' A L := fun hp => by
  obtain ⟨b, o, e, hb, hc⟩ := h hp
  exact ⟨b, o, e, by omega, hc⟩
theorem RdE.on (h : RdE w B A L) (hb : Below B w w') (hB : B ≤ B') : RdE w' B' A L := (h.below hb).more hB
/-- A beginning of a slice. -/
theorem RdE.pre (h : RdE w B A L) {k : Nat} (hk : k ≤ L.length) : RdE w B A (L.take k) := fun hp => by
  rw [List.length_take] at hp
  obtain ⟨b, o, e, hb, hc⟩ := h (by omega)
  refine ⟨b, o, e, hb, fun j hj => ?_⟩
  rw [List.length_take] at hj
  have h2 : entAt (L.take k) j = entAt L j := by unfold entAt; rw [List.getD_eq_getElem?_getD, List.getElem?_take_of_lt (by omega), ← List.getD_eq_getElem?_getD]
  rw [h2]
  exact hc j (by omega)
end
/-- A row that the call gathered itself reads as its entries. -/
theorem own_rde {w : World} {base n : Nat} {v : Value} {L : List Ent} (h : w.ownsRow base 95 2 v n (entCs L)) (hn : n = L.length) :
    ∃ A c, v = .slice A n c ∧ n ≤ c ∧ RdE w w.heap.size A L ∧ (0 < L.length → ∀ a, A = some a → base ≤ a.block) := by
  rcases h.2 with ⟨rfl, h0⟩ | ⟨g, cap, cur, rfl, hb, hg, hcap, _⟩
  · have hl : L.length = 0 := by omega
    subst h0
    exact ⟨none, 0, rfl, Nat.le_refl _, fun hp => absurd hp (by omega), fun hp => absurd hp (by omega)⟩
  · refine ⟨some ⟨g, 0, none⟩, cap, rfl, hcap, fun hp => ⟨g, 0, rfl, (h.lt g rfl).2, fun k hk => ?_⟩, fun _ a ha => ?_⟩
    · have hc := entCs_at hk
      have h1 := h.cells (g := g) rfl _ _ hc.1
      have h2 := h.cells (g := g) rfl _ _ hc.2
      rw [zero_add_addr] at h1 h2
      rw [Nat.zero_add]
      exact ⟨h1, h2⟩
    · injection ha with ha
      subst ha
      exact hb
/-- One append of one entry to a row of one's own: what it leaves. -/
theorem own_ent {wr w1 w : World} {g k : Nat} {u v' : Value} {o : Obj} {L : List Ent} {e : Ent} (hO : wr.ownsRow g 95 2 u k (entCs L)) (hB : Below g w wr) (hg : w.heap.size = g)
    (hown : w1.ownsRow g 95 2 v' (k + 1) (entCs L ++ [.string e.1, .string e.2])) (hgrow : (wr.alloc o).grownBy w1 u.ownBlock) :
    w1.ownsRow g 95 2 v' (k + 1) (entCs (L ++ [e])) ∧ Below g w w1 := by
  refine ⟨?_, ?_⟩
  · rw [entCs_cat, entCs_one]
    exact hown
  · have hle : g ≤ wr.heap.size := by have := hB.size; omega
    exact (hB.alloc hle o).grown hgrow (by have := (Below.refl 0 wr).alloc (Nat.zero_le _) o; have := this.size; omega) (fun b hb => (hO.lt b hb).1)
theorem own_rest {wr w1 : World} {g n : Nat} {v : Value} {xs : List Value} (h : wr.ownsRow g 95 2 v n xs) (hB : Below wr.heap.size wr w1) : w1.ownsRow g 95 2 v n xs :=
  h.kept (row := none) ⟨hB.os, hB.tape, hB.output, hB.size, fun k hk _ => hB.block k hk⟩ (by cases v.ownBlock <;> simp)
theorem own_drewN {w : World} {base n s : Nat} {e : TypeId} {v : Value} {xs : List Value} (h : w.ownsRow base e s v n xs) (q : Nat) : (w.drewN q).ownsRow base e s v n xs := h
set_option maxRecDepth 100000 in
/-- append(own, xs...) of entries: nil, or at an address. -/
theorem wpList_append_ents {w : World} {ops : Array Oper} {rest : List Oper} {o : Oper} {a : Act} {Q : Exit → Act → World → Prop} (hgd : o.guard = none) (s x : Operand)
    (ho : o.op = .call { callee := .builtin .append, args := #[s, x], argTypes := #[47, 47] })
    (base : Nat) (v : Value) (m : Nat) (K : List Ent) (hs : a.eval s = v) (hown : w.ownsRow base 95 2 v m (entCs K)) (n c : Nat) (A : Option Addr) (L : List Ent) (hx : a.eval x = .slice A n c) (hn : L.length = n) (hnil : A = none → c = 0 ∧ n = 0) (B : Nat) (hsrc : RdE w B A L)
    (hmn : m + n ≤ 100000) (hbase : base ≤ w.heap.size)
    (h : ∀ v' w', w'.ownsRow base 95 2 v' (m + n) (entCs (K ++ L)) → w.grownBy w' v.ownBlock → wpList Try.prog ops Q rest (a.put o.dst v') w') : wpList Try.prog ops Q (o :: rest) a w := by
  obtain ⟨i0, hi, hz0, hz1, hz2⟩ := info_parts infoE
  rcases A with _ | ad
  · obtain ⟨rfl, rfl⟩ := hnil rfl
    have hL : L = [] := List.length_eq_zero_iff.1 hn
    subst hL
    refine wpList_append_own_none hgd s x 47 ho base 95 i0 2 Try.underlying47 hi v m (entCs K) hs hown hx (h v w ?_ (World.grownBy.refl w _))
    rw [List.append_nil]
    exact hown
  · refine wpList_append_own w hgd s x 47 ho base 95 i0 (.agg #[.string ⟨#[]⟩, .string ⟨#[]⟩]) 2 32 Try.underlying47 hi hz0 hz1 hz2 rfl (by decide) v m (entCs K) hs hown ad n c (entCs L) hx (by rw [entCs_len, hn]) ?_ entCs_one_cell (by unfold maxLen; omega) (by omega) hbase (fun v' w' h1 h2 _ => h v' w' (by rw [entCs_cat]; exact h1) h2)
    intro j u hj
    have hjl : j < (entCs L).length := by
      rcases Nat.lt_or_ge j (entCs L).length with h | h
      · exact h
      · rw [List.getElem?_eq_none h] at hj; cases hj
    rw [entCs_len] at hjl
    obtain ⟨b2, o2, ha, _, hc⟩ := hsrc.get (k := j / 2) (by omega)
    injection ha with ha
    subst ha
    rw [off_add_addr]
    have hat := entCs_at (L := L) (k := j / 2) (by omega)
    rcases Nat.mod_two_eq_zero_or_one j with hm | hm
    · rw [show j / 2 * 2 = j by omega] at hc hat
      rw [hat.1] at hj
      rw [hc.1, ← hj]
    · rw [Nat.add_assoc, show j / 2 * 2 + 1 = j by omega] at hc
      rw [show j / 2 * 2 + 1 = j by omega] at hat
      rw [hat.2] at hj
      rw [hc.2, ← hj]
end Go.Proofs.Ytamgnbjdeoklbaa.Tb
