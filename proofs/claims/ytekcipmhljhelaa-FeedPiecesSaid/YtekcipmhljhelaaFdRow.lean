/- Slices of frames: one that reads as a list of frames (nil let in), one that the call gathered itself. No condition. -/
import Derived.Test.YtekcipmhljhelaaProg
import Derived.Test.YtekcipmhljhelaaBytes
import Derived.Test.YtekcipmhljhelaaFrMath
import Derived.WalkKit
import Derived.Lib.Hide
import Derived.OwnWalk
import Derived.Below
import Derived.Laws.OwnMore
import Derived.Laws.AppendOwnNone
import Derived.Deep.Draws
namespace Go.Proofs.Ytekcipmhljhelaa.Fd
open Go Go.RowKit Fr

theorem infoF : (Try.prog.info? 40).map (fun i => (i.zero, i.size, i.bytes)) = some (some (.agg #[.int .u8 0, .int .u8 0, .int .u32 0, .string ⟨#[]⟩]), 4, 24) := by kernel_rfl
theorem zadd (g n : Nat) : ((⟨g, 0, none⟩ : Addr).add n) = ⟨g, n, none⟩ := by unfold Addr.add; split <;> simp_all
theorem oadd (g o n : Nat) : ((⟨g, o, none⟩ : Addr).add n) = ⟨g, o + n, none⟩ := by unfold Addr.add; split <;> simp_all
/-- A frame's cells. -/
def cellsF (f : Frm) : List Value := [.int .u8 (f.ty : Int), .int .u8 (f.fl : Int), .int .u32 (f.st : Int), .string f.data]
/-- Frames as cells. -/
def frCs : List Frm → List Value
  | [] => []
  | f :: l => .int .u8 (f.ty : Int) :: .int .u8 (f.fl : Int) :: .int .u32 (f.st : Int) :: .string f.data :: frCs l
theorem frCs_cat (a b : List Frm) : frCs (a ++ b) = frCs a ++ frCs b := by
  induction a with
  | nil => rfl
  | cons f a ih => rw [List.cons_append, frCs, frCs, ih]; rfl
theorem frCs_one (f : Frm) : frCs [f] = cellsF f := rfl
theorem frCs_len (L : List Frm) : (frCs L).length = L.length * 4 := by
  induction L with
  | nil => rfl
  | cons e l ih => rw [frCs, List.length_cons, List.length_cons, List.length_cons, List.length_cons, List.length_cons, ih]; omega
/-- The frame at a place; none: an empty one. -/
def frAt (L : List Frm) (k : Nat) : Frm := L.getD k noF
theorem frAt_cons (e : Frm) (l : List Frm) (k : Nat) : frAt (e :: l) (k + 1) = frAt l k := rfl
theorem frCs_at : ∀ {L : List Frm} {k : Nat}, k < L.length → (frCs L)[k * 4]? = some (.int .u8 ((frAt L k).ty : Int)) ∧ (frCs L)[k * 4 + 1]? = some (.int .u8 ((frAt L k).fl : Int)) ∧ (frCs L)[k * 4 + 2]? = some (.int .u32 ((frAt L k).st : Int)) ∧ (frCs L)[k * 4 + 3]? = some (.string (frAt L k).data)
  | [], k, h => absurd h (Nat.not_lt_zero k)
  | e :: l, 0, _ => ⟨rfl, rfl, rfl, rfl⟩
  | e :: l, k + 1, h => by
    have ih := frCs_at (L := l) (k := k) (by rw [List.length_cons] at h; omega)
    rw [frCs, show (k + 1) * 4 = k * 4 + 1 + 1 + 1 + 1 by omega, frAt_cons]
    exact ih
theorem frCs_one_cell {L : List Frm} : ∀ u ∈ frCs L, u.oneCell' = true := by
  induction L with
  | nil => intro u hu; cases hu
  | cons e l ih =>
    intro u hu
    rw [frCs] at hu
    rcases List.mem_cons.1 hu with rfl | hu
    · rfl
    rcases List.mem_cons.1 hu with rfl | hu
    · rfl
    rcases List.mem_cons.1 hu with rfl | hu
    · rfl
    rcases List.mem_cons.1 hu with rfl | hu
    · rfl
    exact ih u hu
/-- A frame's four cells at a place. -/
def At4 (w : World) (b o : Nat) (f : Frm) : Prop := w.cell? ⟨b, o, none⟩ = some (.int .u8 (f.ty : Int)) ∧ w.cell? ⟨b, o + 1, none⟩ = some (.int .u8 (f.fl : Int)) ∧ w.cell? ⟨b, o + 2, none⟩ = some (.int .u32 (f.st : Int)) ∧ w.cell? ⟨b, o + 3, none⟩ = some (.string f.data)
/-- The slice at this address, as long as L, reads as the frames L, below block B. -/
def RdF (w : World) (B : Nat) (A : Option Addr) (L : List Frm) : Prop :=
  0 < L.length → ∃ b o, A = some ⟨b, o, none⟩ ∧ b < B ∧ ∀ k, k < L.length → At4 w b (o + k * 4) (frAt L k)
section
variable {w w' : World} {B B' : Nat} {A : Option Addr} {L : List Frm}
theorem At4.below {b o : Nat} {f : Frm} (h : At4 w b o f) (hB : Below B w w') (hb : b < B) : At4 w' b o f :=
  ⟨(hB.cell (p := ⟨b, o, none⟩) hb).trans h.1, (hB.cell (p := ⟨b, o + 1, none⟩) hb).trans h.2.1, (hB.cell (p := ⟨b, o + 2, none⟩) hb).trans h.2.2.1, (hB.cell (p := ⟨b, o + 3, none⟩) hb).trans h.2.2.2⟩
theorem RdF.void (w : World) (B : Nat) (A : Option Addr) : RdF w B A [] := fun h => absurd h (Nat.lt_irrefl 0)
theorem RdF.get (h : RdF w B A L) {k : Nat} (hk : k < L.length) : ∃ b o, A = some ⟨b, o, none⟩ ∧ b < B ∧ At4 w b (o + k * 4) (frAt L k) := by
  obtain ⟨b, o, e, hb, hc⟩ := h (by omega)
  exact ⟨b, o, e, hb, hc k hk⟩
theorem RdF.on (h : RdF w B A L) (hb : Below B w w') (hB : B ≤ B') : RdF w' B' A L := fun hp => by
  obtain ⟨b, o, e, hlt, hc⟩ := h hp
  exact ⟨b, o, e, by omega, fun k hk => (hc k hk).below hb hlt⟩
/-- It hangs on its own block alone. -/
theorem RdF.kept (h : RdF w B A L) (hk : ∀ b o s, A = some ⟨b, o, s⟩ → w'.heap[b]? = w.heap[b]?) (hB : B ≤ B') : RdF w' B' A L := fun hp => by
  obtain ⟨b, o, e, hlt, hc⟩ := h hp
  have hb := hk b o none e
  refine ⟨b, o, e, by omega, fun k hkl => ?_⟩
  have h4 := hc k hkl
  exact ⟨(World.cell?_of_block (a := ⟨b, _, none⟩) hb).trans h4.1, (World.cell?_of_block (a := ⟨b, _, none⟩) hb).trans h4.2.1, (World.cell?_of_block (a := ⟨b, _, none⟩) hb).trans h4.2.2.1, (World.cell?_of_block (a := ⟨b, _, none⟩) hb).trans h4.2.2.2⟩
end
/-- A row that the call gathered itself reads as its frames. -/
theorem own_rdf {w : World} {base n : Nat} {v : Value} {L : List Frm} (h : w.ownsRow base 40 4 v n (frCs L)) (hn : n = L.length) :
    ∃ A c, v = .slice A n c ∧ RdF w w.heap.size A L ∧ (0 < L.length → ∀ a, A = some a → base ≤ a.block) ∧ (A = none → c = 0 ∧ n = 0) := by
  rcases h.2 with ⟨rfl, h0⟩ | ⟨g, cap, cur, rfl, hb, hg, hcap, _⟩
  · have hl : L.length = 0 := by omega
    subst h0
    exact ⟨none, 0, rfl, fun hp => absurd hp (by omega), fun hp => absurd hp (by omega), fun _ => ⟨rfl, rfl⟩⟩
  · refine ⟨some ⟨g, 0, none⟩, cap, rfl, fun hp => ⟨g, 0, rfl, (h.lt g rfl).2, fun k hk => ?_⟩, fun _ a ha => ?_, fun e => by cases e⟩
    · have hc := frCs_at hk
      have h1 := h.cells (g := g) rfl _ _ hc.1
      have h2 := h.cells (g := g) rfl _ _ hc.2.1
      have h3 := h.cells (g := g) rfl _ _ hc.2.2.1
      have h4 := h.cells (g := g) rfl _ _ hc.2.2.2
      rw [zadd] at h1 h2 h3 h4
      rw [Nat.zero_add]
      exact ⟨h1, h2, h3, h4⟩
    · injection ha with ha
      subst ha
      exact hb
/-- One append of one frame to a row of one's own: what it leaves. -/
theorem own_frm {wr w1 w : World} {g k : Nat} {u v' : Value} {o : Obj} {L : List Frm} {f : Frm} (hO : wr.ownsRow g 40 4 u k (frCs L)) (hB : Below g w wr) (hg : w.heap.size = g)
    (hown : w1.ownsRow g 40 4 v' (k + 1) (frCs L ++ cellsF f)) (hgrow : (wr.alloc o).grownBy w1 u.ownBlock) :
    w1.ownsRow g 40 4 v' (k + 1) (frCs (L ++ [f])) ∧ Below g w w1 := by
  refine ⟨?_, ?_⟩
  · rw [frCs_cat, frCs_one]
    exact hown
  · have hle : g ≤ wr.heap.size := by have := hB.size; omega
    exact (hB.alloc hle o).grown hgrow (by have := (Below.refl 0 wr).alloc (Nat.zero_le _) o; have := this.size; omega) (fun b hb => (hO.lt b hb).1)
theorem own_rest {wr w1 : World} {g n : Nat} {v : Value} {xs : List Value} (h : wr.ownsRow g 40 4 v n xs) (hB : Below wr.heap.size wr w1) : w1.ownsRow g 40 4 v n xs :=
  h.kept (row := none) ⟨hB.os, hB.tape, hB.output, hB.size, fun k hk _ => hB.block k hk⟩ (by cases v.ownBlock <;> simp)
set_option maxRecDepth 100000 in
/-- append(own, xs...) of frames: nil, or at an address. -/
theorem wpList_append_frs {w : World} {ops : Array Oper} {rest : List Oper} {o : Oper} {a : Act} {Q : Exit → Act → World → Prop} (hgd : o.guard = none) (s x : Operand)
    (ho : o.op = .call { callee := .builtin .append, args := #[s, x], argTypes := #[27, 27] })
    (base : Nat) (v : Value) (m : Nat) (K : List Frm) (hs : a.eval s = v) (hown : w.ownsRow base 40 4 v m (frCs K)) (n c : Nat) (A : Option Addr) (L : List Frm) (hx : a.eval x = .slice A n c) (hn : L.length = n) (hnil : A = none → c = 0 ∧ n = 0) (B : Nat) (hsrc : RdF w B A L)
    (hmn : m + n ≤ 1000000) (hbase : base ≤ w.heap.size)
    (h : ∀ v' w', w'.ownsRow base 40 4 v' (m + n) (frCs (K ++ L)) → w.grownBy w' v.ownBlock → wpList Try.prog ops Q rest (a.put o.dst v') w') : wpList Try.prog ops Q (o :: rest) a w := by
  obtain ⟨i0, hi, hz0, hz1, hz2⟩ := info_parts infoF
  rcases A with _ | ad
  · obtain ⟨rfl, rfl⟩ := hnil rfl
    have hL : L = [] := List.length_eq_zero_iff.1 hn
    subst hL
    refine wpList_append_own_none hgd s x 27 ho base 40 i0 4 Try.underlying27 hi v m (frCs K) hs hown hx (h v w ?_ (World.grownBy.refl w _))
    rw [List.append_nil]
    exact hown
  · refine wpList_append_own w hgd s x 27 ho base 40 i0 (.agg #[.int .u8 0, .int .u8 0, .int .u32 0, .string ⟨#[]⟩]) 4 24 Try.underlying27 hi hz0 hz1 hz2 rfl (by decide) v m (frCs K) hs hown ad n c (frCs L) hx (by rw [frCs_len, hn]) ?_ frCs_one_cell (by unfold maxLen; omega) (by omega) hbase (fun v' w' h1 h2 _ => h v' w' (by rw [frCs_cat]; exact h1) h2)
    intro j u hj
    have hjl : j < (frCs L).length := by
      rcases Nat.lt_or_ge j (frCs L).length with h | h
      · exact h
      · rw [List.getElem?_eq_none h] at hj; cases hj
    rw [frCs_len] at hjl
    obtain ⟨b2, o2, ha, _, hc0, hc1, hc2, hc3⟩ := hsrc.get (k := j / 4) (by omega)
    injection ha with ha
    subst ha
    rw [oadd]
    have hat := frCs_at (L := L) (k := j / 4) (by omega)
    rcases (show j % 4 = 0 ∨ j % 4 = 1 ∨ j % 4 = 2 ∨ j % 4 = 3 by omega) with hm | hm | hm | hm
    · rw [show j / 4 * 4 = j by omega] at hc0 hat
      rw [hat.1] at hj
      rw [hc0, ← hj]
    · rw [Nat.add_assoc, show j / 4 * 4 + 1 = j by omega] at hc1
      rw [show j / 4 * 4 + 1 = j by omega] at hat
      rw [hat.2.1] at hj
      rw [hc1, ← hj]
    · rw [Nat.add_assoc, show j / 4 * 4 + 2 = j by omega] at hc2
      rw [show j / 4 * 4 + 2 = j by omega] at hat
      rw [hat.2.2.1] at hj
      rw [hc2, ← hj]
    · rw [Nat.add_assoc, show j / 4 * 4 + 3 = j by omega] at hc3
      rw [show j / 4 * 4 + 3 = j by omega] at hat
      rw [hat.2.2.2] at hj
      rw [hc3, ← hj]
end Go.Proofs.Ytekcipmhljhelaa.Fd
