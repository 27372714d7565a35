/- Slices of texts: one that reads as a list of texts (nil let in), one that the call gathered itself. No condition. -/
import Derived.Test.YtekcipmhljhelaaProg
import Derived.Test.YtekcipmhljhelaaBytes
import Derived.WalkKit
import Derived.Lib.Hide
import Derived.OwnWalk
import Derived.Below
import Derived.Laws.OwnMore
namespace Go.Proofs.Ytekcipmhljhelaa.Strs
open Go Go.RowKit Bytes

theorem info9 : (Try.prog.info? 9).map (fun i => (i.zero, i.size, i.bytes)) = some (some (.string ⟨#[]⟩), 1, 16) := by kernel_rfl
/-- The texts as cells. -/
def strCs (L : List (List UInt8)) : List Value := L.map fun l => Value.string (mk l)
theorem strCs_cat (A B : List (List UInt8)) : strCs (A ++ B) = strCs A ++ strCs B := List.map_append ..
theorem strCs_one (l : List UInt8) : strCs [l] = [.string (mk l)] := rfl
theorem strCs_snoc (L : List (List UInt8)) (o : List UInt8) : strCs (L ++ [o]) = strCs L ++ [.string (mk o)] := by rw [strCs_cat, strCs_one]
theorem strCs_len (L : List (List UInt8)) : (strCs L).length = L.length := List.length_map ..
theorem strCs_at {L : List (List UInt8)} {k : Nat} (h : k < L.length) : (strCs L)[k]? = some (.string (mk (L.getD k []))) := by
  unfold strCs
  rw [List.getElem?_map, List.getElem?_eq_getElem h, List.getD_eq_getElem?_getD, List.getElem?_eq_getElem h]
  rfl
theorem add_block (a : Addr) (n : Nat) : (a.add n).block = a.block := by unfold Addr.add; split <;> rfl
theorem add_two (a : Addr) (i j : Nat) : (a.add i).add j = a.add (i + j) := by
  unfold Addr.add
  by_cases hi : i = 0 <;> by_cases hj : j = 0 <;> simp [hi, hj, Nat.add_assoc]

/-- The slice at this address, as long as L, reads as the texts L, below block B. -/
def RdS (w : World) (B : Nat) (A : Option Addr) (L : List (List UInt8)) : Prop :=
  0 < L.length → ∃ a, A = some a ∧ a.block < B ∧ ∀ k, k < L.length → w.cell? (a.add k) = some (.string (mk (L.getD k [])))
section
variable {w w' : World} {B B' : Nat} {A : Option Addr} {L : List (List UInt8)}
theorem RdS.void (w : World) (B : Nat) (A : Option Addr) : RdS w B A [] := fun h => absurd h (Nat.lt_irrefl 0)
theorem RdS.get (h : RdS w B A L) {k : Nat} (hk : k < L.length) : ∃ a, A = some a ∧ a.block < B ∧ w.cell? (a.add k) = some (.string (mk (L.getD k []))) := by
  obtain ⟨a, e, hb, hc⟩ := h (by omega)
  exact ⟨a, e, hb, hc k hk⟩
theorem RdS.below (h : RdS w B A L) (hb : Below B w w') : RdS w' B A L := fun hp => by
  obtain ⟨a, e, hB, hc⟩ := h hp
  exact ⟨a, e, hB, fun k hk => (hb.cell (by rw [add_block]; exact hB)).trans (hc k hk)⟩
theorem RdS.more (h : RdS w B A L) (hB : B ≤ B') : RdS w B' A L := fun hp => by
  obtain ⟨a, e, hb, hc⟩ := h hp
  exact ⟨a, e, by omega, hc⟩
theorem RdS.on (h : RdS w B A L) (hb : Below B w w') (hB : B ≤ B') : RdS w' B' A L := (h.below hb).more hB
/-- The rest of a slice, from k on. -/
theorem RdS.cut (h : RdS w B A L) {k : Nat} (cap : Nat) (hc : L.length ≤ cap) : RdS w B (if cap = k then A else A.map (·.add k)) (L.drop k) := fun hp => by
  rw [List.length_drop] at hp
  obtain ⟨a, rfl, hb, hcell⟩ := h (by omega)
  rw [if_neg (by omega)]
  refine ⟨a.add k, rfl, by rw [add_block]; exact hb, fun j hj => ?_⟩
  rw [List.length_drop] at hj
  rw [add_two, hcell _ (by omega), List.getD_eq_getElem?_getD, List.getD_eq_getElem?_getD, List.getElem?_drop]
end
theorem own_rds {w : World} {base n : Nat} {e : TypeId} {v : Value} {L : List (List UInt8)} (h : w.ownsRow base e 1 v n (strCs L)) (hn : n = L.length) :
    ∃ A c, v = .slice A n c ∧ n ≤ c ∧ RdS w w.heap.size A L ∧ (0 < L.length → ∀ a, A = some a → base ≤ a.block) := by
  rcases h.2 with ⟨rfl, h0⟩ | ⟨g, cap, cur, rfl, hb, hg, hcap, _⟩
  · have hl : L.length = 0 := by omega
    subst h0
    exact ⟨none, 0, rfl, Nat.le_refl _, fun hp => absurd hp (by omega), fun hp => absurd hp (by omega)⟩
  · refine ⟨some ⟨g, 0, none⟩, cap, rfl, hcap, fun hp => ⟨_, rfl, (h.lt g rfl).2, fun k hk => ?_⟩, fun _ a ha => ?_⟩
    · exact h.cells (g := g) rfl k _ (strCs_at hk)
    · injection ha with ha
      subst ha
      exact hb
/-- One append of one text to a row of one's own: what it leaves. -/
theorem own_str {wr w1 w : World} {g k : Nat} {u v' : Value} {o : Obj} {L : List (List UInt8)} {x : ByteArray} (hO : wr.ownsRow g 9 1 u k (strCs L)) (hB : Below g w wr) (hg : w.heap.size = g)
    (hown : w1.ownsRow g 9 1 v' (k + 1) (strCs L ++ [.string x])) (hgrow : (wr.alloc o).grownBy w1 u.ownBlock) :
    w1.ownsRow g 9 1 v' (k + 1) (strCs (L ++ [x.data.toList])) ∧ Below g w w1 := by
  refine ⟨?_, ?_⟩
  · rw [strCs_cat, strCs_one, mk_data]
    exact hown
  · have hle : g ≤ wr.heap.size := by have := hB.size; omega
    exact (hB.alloc hle o).grown hgrow (by have := (Below.refl 0 wr).alloc (Nat.zero_le _) o; have := this.size; omega) (fun b hb => (hO.lt b hb).1)
end Go.Proofs.Ytekcipmhljhelaa.Strs
