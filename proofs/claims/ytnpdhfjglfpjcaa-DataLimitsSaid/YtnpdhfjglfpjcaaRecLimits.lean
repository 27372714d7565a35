/- Rows of one's own beside blocks of other kinds; a row with one cell written over. No condition. -/
import Derived.Test.YtnpdhfjglfpjcaaProg
import Derived.Test.YtnpdhfjglfpjcaaRecLawCopied
import Derived.WalkKit
import Derived.Lib.Hide
import Derived.Deep.Heap
namespace Go.Proofs.Ytnpdhfjglfpjcaa
open Go.RowKit Bytes Strs Nums NameMath RecMath

theorem own_ne {w : World} {base n c : Nat} {e e2 : TypeId} {v : Value} {xs : List Value} {cs : Array Value} {fz : Nat × Nat} (h : w.ownsRow base e 1 v n xs) (hc : w.heap[c]? = some (.cells cs e2 fz)) (he : e ≠ e2) : v.ownBlock ≠ some c := fun hv => by
  rcases h.2 with ⟨rfl, _⟩ | ⟨g, cap, cur, rfl, _, hg, _⟩
  · cases hv
  · injection hv with hv
    have hv' : g = c := hv
    subst hv'
    rw [hc] at hg
    injection hg with hg
    injection hg with _ hg
    exact he hg.symm
theorem own_apart {w : World} {base n b2 n2 : Nat} {e e2 : TypeId} {v v2 : Value} {xs ys : List Value} (h : w.ownsRow base e 1 v n xs) (h2 : w.ownsRow b2 e2 1 v2 n2 ys) (he : e ≠ e2) : v.ownBlock = none ∨ v.ownBlock ≠ v2.ownBlock := by
  rcases h2.2 with ⟨rfl, _⟩ | ⟨g, cap, cur, rfl, _, hg, _⟩
  · cases hv : v.ownBlock with
    | none => exact Or.inl rfl
    | some k => exact Or.inr (fun e => by cases e)
  · exact Or.inr (own_ne h hg he)
theorem own_set_type {w : World} {base n c i : Nat} {e e2 : TypeId} {v u : Value} {xs : List Value} {cs : Array Value} {fz : Nat × Nat} (h : w.ownsRow base e 1 v n xs) (hc : w.heap[c]? = some (.cells cs e2 fz)) (he : e ≠ e2) : (w.setCell ⟨c, i, none⟩ u).ownsRow base e 1 v n xs := by
  refine h.kept (row := some c) ⟨rfl, rfl, rfl, by simp [World.setCell], fun k _ hne => ?_⟩ (Or.inr (own_ne h hc he))
  exact Go.Deep.blk_setCell_other _ _ _ _ (fun e => hne (by rw [e]))
theorem slice_apart {A B : Option Addr} {n c m d : Nat} (h : ∀ a b, A = some a → B = some b → a.block ≠ b.block) : (Value.slice B m d).ownBlock = none ∨ (Value.slice B m d).ownBlock ≠ (Value.slice A n c).ownBlock := by
  cases B with
  | none => exact Or.inl rfl
  | some b =>
    refine Or.inr (fun e => ?_)
    cases A with
    | none => cases e
    | some a =>
      have e' : b.block = a.block := by
        simp only [Value.ownBlock] at e
        injection e
      exact h a b rfl rfl e'.symm
/-- The first cell of a row of numbers written over. -/
theorem rdn_head {w : World} {b n d base m : Nat} {L : List Nat} (h : w.ownsRow base 23 1 (.slice (some ⟨b, 0, none⟩) n d) n (numCs L)) (hn : n = L.length) (hp : 0 < n) : RdN (w.setCell ⟨b, 0, none⟩ (.int .u32 (m : Int))) (w.setCell ⟨b, 0, none⟩ (.int .u32 (m : Int))).heap.size (some ⟨b, 0, none⟩) (m :: L.tail) := fun _ => by
  have hl := (h.lt b rfl).2
  refine ⟨_, rfl, by rw [Go.Deep.nblk_setCell]; exact hl, fun k hk => ?_⟩
  rw [List.length_cons, List.length_tail] at hk
  have ea : ((⟨b, 0, none⟩ : Addr).add k) = ⟨b, k, none⟩ := by unfold Addr.add; split <;> simp_all
  have hck : k < L.length := by omega
  have hc := h.cells (g := b) rfl k _ (numCs_at hck)
  rw [ea] at hc ⊢
  cases k with
  | zero => exact World.cell?_setCell_same _ _ _ hc
  | succ j =>
    rw [World.cell?_setCell_other _ _ _ _ (by intro e; injection e with _ e; cases e), hc]
    congr 2
    rw [List.getD_cons_succ]
    cases L with
    | nil => simp at hck
    | cons a L => rfl
theorem rds_set {w : World} {B : Nat} {A : Option Addr} {L : List (List UInt8)} {p : Addr} {u : Value} (h : RdS w B A L) (hp : ∀ a, A = some a → a.block ≠ p.block) : RdS (w.setCell p u) B A L := fun hl => by
  obtain ⟨a, hA, hb, hc⟩ := h hl
  refine ⟨a, hA, hb, fun k hk => ?_⟩
  rw [World.cell?_setCell_other _ _ _ _ (fun e => hp a hA (by rw [e, add_block]))]
  exact hc k hk
theorem own_addr {w : World} {base n c : Nat} {e : TypeId} {A : Option Addr} {xs : List Value} (h : w.ownsRow base e 1 (.slice A n c) n xs) {b : Nat} (hb : (Value.slice A n c).ownBlock ≠ some b) : ∀ a, A = some a → a.block ≠ b := fun a ha hab => hb (by subst ha; subst hab; rfl)
end Go.Proofs.Ytnpdhfjglfpjcaa
