/- A frame that came in; a slice of settings that came in. No condition. -/
import Derived.Test.YteddepmiejlemaaProg
import Derived.Test.YteddepmiejlemaaFrMath
import Derived.Test.YteddepmiejlemaaFrCame
import Derived.Test.YteddepmiejlemaaFrOpen
import Derived.Deep.Slices
import Derived.Deep.Fields
import Derived.ChangeSame
import Derived.ChangeArms
import Derived.ChangeOld
import Derived.ProofKit
import Derived.OpenShut
import Derived.WalkKit
import Derived.Lib.Hide
import Derived.Below
namespace Go.Proofs.Yteddepmiejlemaa
open Go.ChangeShapes Go.WideShapes Go.ChangeAt Go.Deep Go.RowKit

namespace Fr
/-- A setting: its number, its value. -/
def setAt (L : List (Nat × Nat)) (k : Nat) : Nat × Nat := L.getD k (0, 0)
/-- A slice of settings, below a block. -/
def RdSt (w : World) (B : Nat) (a : Option Addr) (L : List (Nat × Nat)) : Prop :=
  ∀ k, k < L.length → ∃ (b off : Nat), a = some ⟨b, off, none⟩ ∧ b < B ∧ w.cell? ⟨b, off + k * 2, none⟩ = some (.int .u16 ((setAt L k).1 : Int)) ∧ w.cell? ⟨b, off + k * 2 + 1, none⟩ = some (.int .u32 ((setAt L k).2 : Int)) ∧ (setAt L k).1 < 65536 ∧ (setAt L k).2 < 4294967296
theorem RdSt.on {w w' : World} {B B' : Nat} {a : Option Addr} {L : List (Nat × Nat)} (h : RdSt w B a L) (hb : Below B w w') (hB : B ≤ B') : RdSt w' B' a L := fun k hk => by
  obtain ⟨b, off, e, hlt, c0, c1, r⟩ := h k hk
  exact ⟨b, off, e, by omega, (hb.cell (p := ⟨b, off + k * 2, none⟩) hlt).trans c0, (hb.cell (p := ⟨b, off + k * 2 + 1, none⟩) hlt).trans c1, r⟩
theorem rdst_of_trod {H : Type} {enc : TypeId × Value → H} {w : World} {base : Nat} {spare : Nat → Bool} {held : Bool} {fuel : Nat} {a : Option Addr} {len cap : Nat} {x : DataW H × List MemPlace}
    (h : DataW.trod enc Try.prog w base spare held fuel 22 [.slice a len cap] = some x) : len ≤ maxLen ∧ ∃ L : List (Nat × Nat), L.length = len ∧ RdSt w w.heap.size a L := by
  rcases open_slice_sets Try.underlying22 Try.underlying48 (by kernel_rfl) (by kernel_rfl) h with hcs | ⟨ad, l, c, m, hcs, hm, hmx, hf⟩
  · simp at hcs
    obtain ⟨rfl, rfl, rfl⟩ := hcs
    exact ⟨Nat.zero_le _, [], rfl, fun k hk => absurd hk (Nat.not_lt_zero k)⟩
  · simp at hcs
    obtain ⟨rfl, rfl, rfl⟩ := hcs
    refine ⟨hmx, ?_⟩
    have one : ∀ j, j < len → ∃ (e : Nat × Nat) (b off : Nat), ad = ⟨b, off, none⟩ ∧ b < w.heap.size ∧ w.cell? ⟨b, off + j * 2, none⟩ = some (.int .u16 (e.1 : Int)) ∧ w.cell? ⟨b, off + j * 2 + 1, none⟩ = some (.int .u32 (e.2 : Int)) ∧ e.1 < 65536 ∧ e.2 < 4294967296 := fun j hj => by
      obtain ⟨n, hfj⟩ := hf j (by omega)
      obtain ⟨v0, y0, hc0, ht0⟩ := hfj 0 _ rfl
      obtain ⟨v1, y1, hc1, ht1⟩ := hfj 1 _ rfl
      obtain ⟨n0, hn0, _, w0⟩ := DataW.trod_int Try.underlying46 ht0
      obtain ⟨n1, hn1, _, w1⟩ := DataW.trod_int Try.underlying24 ht1
      simp at hn0 hn1
      subst hn0 hn1
      obtain ⟨b, off, spot⟩ := ad
      obtain ⟨n', hf0⟩ := hf 0 (by omega)
      obtain ⟨u0, z0, hu0, _⟩ := hf0 0 _ rfl
      have hspot : spot = none := by simpa [Addr.add] using World.cell?_spot hu0
      clear hu0
      subst hspot
      rw [add_plain] at hc0 hc1
      have b0 := bounds_u16 w0
      have b1 := bounds_u32 w1
      refine ⟨(n0.toNat, n1.toNat), b, off, rfl, World.block_lt_of_cell? _ _ hc0, ?_, ?_, ?_, ?_⟩
      · show _ = some (Value.int .u16 (n0.toNat : Int))
        rw [Int.toNat_of_nonneg b0.1]
        simpa using hc0
      · show _ = some (Value.int .u32 (n1.toNat : Int))
        rw [Int.toNat_of_nonneg b1.1]
        simpa [Nat.add_assoc] using hc1
      · show n0.toNat < 65536; omega
      · show n1.toNat < 4294967296; omega
    obtain ⟨f, hf2⟩ : ∃ f : Nat → Nat × Nat, ∀ j, j < len → ∃ (b off : Nat), ad = ⟨b, off, none⟩ ∧ b < w.heap.size ∧ w.cell? ⟨b, off + j * 2, none⟩ = some (.int .u16 ((f j).1 : Int)) ∧ w.cell? ⟨b, off + j * 2 + 1, none⟩ = some (.int .u32 ((f j).2 : Int)) ∧ (f j).1 < 65536 ∧ (f j).2 < 4294967296 := by
      classical
      exact ⟨fun j => if h : j < len then (one j h).choose else (0, 0), fun j hj => by simp only [hj, dif_pos]; exact (one j hj).choose_spec⟩
    refine ⟨(List.range len).map f, by rw [List.length_map, List.length_range], fun k hk => ?_⟩
    rw [List.length_map, List.length_range] at hk
    have e : setAt ((List.range len).map f) k = f k := by
      unfold setAt
      rw [List.getD_eq_getElem?_getD, List.getElem?_map, List.getElem?_range hk]
      rfl
    rw [e]
    obtain ⟨b, off, h0, r⟩ := hf2 k hk
    exact ⟨b, off, by rw [h0], r⟩
end Fr
end Go.Proofs.Yteddepmiejlemaa
