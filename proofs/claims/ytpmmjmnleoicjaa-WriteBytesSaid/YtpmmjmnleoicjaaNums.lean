/- Slices of uint32: one that reads as a list of numbers (nil let in), one that the call gathered itself. No condition. -/
import Derived.Test.YtpmmjmnleoicjaaProg
import Derived.Test.YtpmmjmnleoicjaaStrs
import Derived.WalkKit
import Derived.Lib.Hide
import Derived.OwnWalk
import Derived.Below
import Derived.Laws.OwnMore
namespace Go.Proofs.Ytpmmjmnleoicjaa.Nums
open Go Go.RowKit Strs

theorem info23 : (Try.prog.info? 50).map (fun i => (i.zero, i.size, i.bytes)) = some (some (.int .u32 0), 1, 4) := by kernel_rfl
/-- The numbers as cells. -/
def numCs (L : List Nat) : List Value := L.map fun (n : Nat) => Value.int .u32 (n : Int)
theorem numCs_snoc (L : List Nat) (x : Nat) : numCs (L ++ [x]) = numCs L ++ [.int .u32 (x : Int)] := by unfold numCs; rw [List.map_append]; rfl
theorem numCs_len (L : List Nat) : (numCs L).length = L.length := List.length_map ..
theorem numCs_at {L : List Nat} {k : Nat} (h : k < L.length) : (numCs L)[k]? = some (.int .u32 ((L.getD k 0 : Nat) : Int)) := by
  unfold numCs
  rw [List.getElem?_map, List.getElem?_eq_getElem h, List.getD_eq_getElem?_getD, List.getElem?_eq_getElem h]
  rfl
theorem num_take {L : List Nat} {k : Nat} (h : k < L.length) : L.take (k + 1) = L.take k ++ [L.getD k 0] := by
  rw [List.take_succ_eq_append_getElem h, List.getD_eq_getElem?_getD, List.getElem?_eq_getElem h]
  rfl
theorem num_drop {L : List Nat} {k : Nat} (h : k < L.length) : L.drop k = L.getD k 0 :: L.drop (k + 1) := by
  rw [List.drop_eq_getElem_cons h, List.getD_eq_getElem?_getD, List.getElem?_eq_getElem h]
  rfl

/-- The slice at this address, as long as L, reads as the numbers L, below block B. -/
def RdN (w : World) (B : Nat) (A : Option Addr) (L : List Nat) : Prop :=
  0 < L.length → ∃ a, A = some a ∧ a.block < B ∧ ∀ k, k < L.length → w.cell? (a.add k) = some (.int .u32 ((L.getD k 0 : Nat) : Int))
section
variable {w w' : World} {B B' : Nat} {A : Option Addr} {L : List Nat}
theorem RdN.void (w : World) (B : Nat) (A : Option Addr) : RdN w B A [] := fun h => absurd h (Nat.lt_irrefl 0)
theorem RdN.get (h : RdN w B A L) {k : Nat} (hk : k < L.length) : ∃ a, A = some a ∧ a.block < B ∧ w.cell? (a.add k) = some (.int .u32 ((L.getD k 0 : Nat) : Int)) := by
  obtain ⟨a, e, hb, hc⟩ := h (by omega)
  exact ⟨a, e, hb, hc k hk⟩
theorem RdN.below (h : RdN w B A L) (hb : Below B w w') : RdN w' B A L := fun hp => by
  obtain ⟨a, e, hB, hc⟩ := h hp
  exact ⟨a, e, hB, fun k hk => (hb.cell (by rw [add_block]; exact hB)).trans (hc k hk)⟩
theorem RdN.more (h : RdN w B A L) (hB : B ≤ B') : RdN w B' A L := fun hp => by
  obtain ⟨a, e, hb, hc⟩ := h hp
  exact ⟨a, e, by omega, hc⟩
theorem RdN.on (h : RdN w B A L) (hb : Below B w w') (hB : B ≤ B') : RdN w' B' A L := (h.below hb).more hB
end
theorem own_rdn {w : World} {base n : Nat} {e : TypeId} {v : Value} {L : List Nat} (h : w.ownsRow base e 1 v n (numCs L)) (hn : n = L.length) :
    ∃ A c, v = .slice A n c ∧ n ≤ c ∧ RdN w w.heap.size A L ∧ (0 < L.length → ∀ a, A = some a → base ≤ a.block) := by
  rcases h.2 with ⟨rfl, h0⟩ | ⟨g, cap, cur, rfl, hb, hg, hcap, _⟩
  · have hl : L.length = 0 := by omega
    subst h0
    exact ⟨none, 0, rfl, Nat.le_refl _, fun hp => absurd hp (by omega), fun hp => absurd hp (by omega)⟩
  · refine ⟨some ⟨g, 0, none⟩, cap, rfl, hcap, fun hp => ⟨_, rfl, (h.lt g rfl).2, fun k hk => ?_⟩, fun _ a ha => ?_⟩
    · exact h.cells (g := g) rfl k _ (numCs_at hk)
    · injection ha with ha
      subst ha
      exact hb
end Go.Proofs.Ytpmmjmnleoicjaa.Nums
