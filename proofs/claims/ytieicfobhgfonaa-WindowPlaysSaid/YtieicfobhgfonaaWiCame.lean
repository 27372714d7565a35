/- Acts of layer 17 that came in. No condition. -/
import Derived.Test.YtieicfobhgfonaaProg
import Derived.Test.YtieicfobhgfonaaFrOpen
import Derived.Deep.Slices
import Derived.Deep.Fields
import Derived.ChangeSame
import Derived.ChangeArms
import Derived.ChangeOld
import Derived.ProofKit
import Derived.OpenShut
import Derived.WalkKit
import Derived.Lib.Hide
import Derived.Below
namespace Go.Proofs.Ytieicfobhgfonaa
open Go.ChangeShapes Go.WideShapes Go.ChangeAt Go.Deep Go.RowKit

namespace Wi
/-- A call, by its kind. -/
structure Ac where
  kind : Int
  id : Nat
  n : Nat
  want : Int
def noA : Ac := ⟨0, 0, 0, 0⟩
def acAt (L : List Ac) (k : Nat) : Ac := L.getD k noA
/-- Its numbers are what they may be. -/
structure Oka (x : Ac) : Prop where
  k0 : -9223372036854775808 ≤ x.kind
  k1 : x.kind ≤ 9223372036854775807
  i : x.id < 4294967296
  n : x.n < 4294967296
  w0 : -9223372036854775808 ≤ x.want
  w1 : x.want ≤ 9223372036854775807
/-- A slice of acts, below a block. -/
def RdA (w : World) (B : Nat) (a : Option Addr) (L : List Ac) : Prop :=
  ∀ k, k < L.length → ∃ (b off : Nat), a = some ⟨b, off, none⟩ ∧ b < B ∧ (w.cell? ⟨b, off + k * 4, none⟩ = some (.int .i64 (acAt L k).kind) ∧ w.cell? ⟨b, off + k * 4 + 1, none⟩ = some (.int .u32 ((acAt L k).id : Int)) ∧ w.cell? ⟨b, off + k * 4 + 2, none⟩ = some (.int .u32 ((acAt L k).n : Int)) ∧ w.cell? ⟨b, off + k * 4 + 3, none⟩ = some (.int .i64 (acAt L k).want)) ∧ Oka (acAt L k)
theorem RdA.on {w w' : World} {B : Nat} {a : Option Addr} {L : List Ac} (h : RdA w B a L) (hb : Below B w w') : RdA w' B a L := fun k hk => by
  obtain ⟨b, off, e, hlt, ⟨c0, c1, c2, c3⟩, r⟩ := h k hk
  exact ⟨b, off, e, hlt, ⟨(hb.cell (p := ⟨b, off + k * 4, none⟩) hlt).trans c0, (hb.cell (p := ⟨b, off + k * 4 + 1, none⟩) hlt).trans c1, (hb.cell (p := ⟨b, off + k * 4 + 2, none⟩) hlt).trans c2, (hb.cell (p := ⟨b, off + k * 4 + 3, none⟩) hlt).trans c3⟩, r⟩
theorem add_plainW (g o n : Nat) : ((⟨g, o, none⟩ : Addr).add n) = ⟨g, o + n, none⟩ := by unfold Addr.add; split <;> simp_all
theorem rda_of_trod {H : Type} {enc : TypeId × Value → H} {w : World} {base : Nat} {spare : Nat → Bool} {held : Bool} {fuel : Nat} {a : Option Addr} {len cap : Nat} {x : DataW H × List MemPlace}
    (h : DataW.trod enc Try.prog w base spare held fuel 22 [.slice a len cap] = some x) : len ≤ maxLen ∧ ∃ L : List Ac, L.length = len ∧ RdA w w.heap.size a L := by
  rcases Fr.open_slice_sets Try.underlying22 Try.underlying34 (by kernel_rfl) (by kernel_rfl) h with hcs | ⟨ad, l, c, m, hcs, hm, hmx, hf⟩
  · simp at hcs
    obtain ⟨rfl, rfl, rfl⟩ := hcs
    exact ⟨Nat.zero_le _, [], rfl, fun k hk => absurd hk (Nat.not_lt_zero k)⟩
  · simp at hcs
    obtain ⟨rfl, rfl, rfl⟩ := hcs
    refine ⟨hmx, ?_⟩
    have one : ∀ j, j < len → ∃ (e : Ac) (b off : Nat), ad = ⟨b, off, none⟩ ∧ b < w.heap.size ∧ (w.cell? ⟨b, off + j * 4, none⟩ = some (.int .i64 e.kind) ∧ w.cell? ⟨b, off + j * 4 + 1, none⟩ = some (.int .u32 (e.id : Int)) ∧ w.cell? ⟨b, off + j * 4 + 2, none⟩ = some (.int .u32 (e.n : Int)) ∧ w.cell? ⟨b, off + j * 4 + 3, none⟩ = some (.int .i64 e.want)) ∧ Oka e := fun j hj => by
      obtain ⟨n, hfj⟩ := hf j (by omega)
      obtain ⟨v0, y0, hc0, ht0⟩ := hfj 0 _ rfl
      obtain ⟨v1, y1, hc1, ht1⟩ := hfj 1 _ rfl
      obtain ⟨v2, y2, hc2, ht2⟩ := hfj 2 _ rfl
      obtain ⟨v3, y3, hc3, ht3⟩ := hfj 3 _ rfl
      obtain ⟨n0, hn0, _, w0⟩ := DataW.trod_int Try.underlying3 ht0
      obtain ⟨n1, hn1, _, w1⟩ := DataW.trod_int Try.underlying32 ht1
      obtain ⟨n2, hn2, _, w2⟩ := DataW.trod_int Try.underlying32 ht2
      obtain ⟨n3, hn3, _, w3⟩ := DataW.trod_int Try.underlying3 ht3
      simp at hn0 hn1 hn2 hn3
      subst hn0 hn1 hn2 hn3
      obtain ⟨b, off, spot⟩ := ad
      obtain ⟨n', hf0⟩ := hf 0 (by omega)
      obtain ⟨u0, z0, hu0, _⟩ := hf0 0 _ rfl
      have hspot : spot = none := by simpa [Addr.add] using World.cell?_spot hu0
      clear hu0
      subst hspot
      rw [add_plainW] at hc0 hc1 hc2 hc3
      have b0 := bounds_i64 w0
      have b1 := bounds_u32 w1
      have b2 := bounds_u32 w2
      have b3 := bounds_i64 w3
      refine ⟨⟨n0, n1.toNat, n2.toNat, n3⟩, b, off, rfl, World.block_lt_of_cell? _ _ hc0, ⟨?_, ?_, ?_, ?_⟩, ⟨b0.1, b0.2, by show n1.toNat < _; omega, by show n2.toNat < _; omega, b3.1, b3.2⟩⟩
      · simpa using hc0
      · show _ = some (Value.int .u32 (n1.toNat : Int))
        rw [Int.toNat_of_nonneg b1.1]
        simpa [Nat.add_assoc] using hc1
      · show _ = some (Value.int .u32 (n2.toNat : Int))
        rw [Int.toNat_of_nonneg b2.1]
        simpa [Nat.add_assoc] using hc2
      · simpa [Nat.add_assoc] using hc3
    obtain ⟨f, hf2⟩ : ∃ f : Nat → Ac, ∀ j, j < len → ∃ (b off : Nat), ad = ⟨b, off, none⟩ ∧ b < w.heap.size ∧ (w.cell? ⟨b, off + j * 4, none⟩ = some (.int .i64 (f j).kind) ∧ w.cell? ⟨b, off + j * 4 + 1, none⟩ = some (.int .u32 ((f j).id : Int)) ∧ w.cell? ⟨b, off + j * 4 + 2, none⟩ = some (.int .u32 ((f j).n : Int)) ∧ w.cell? ⟨b, off + j * 4 + 3, none⟩ = some (.int .i64 (f j).want)) ∧ Oka (f j) := by
      classical
      exact ⟨fun j => if h : j < len then (one j h).choose else noA, fun j hj => by simp only [hj, dif_pos]; exact (one j hj).choose_spec⟩
    refine ⟨(List.range len).map f, by rw [List.length_map, List.length_range], fun k hk => ?_⟩
    rw [List.length_map, List.length_range] at hk
    have e : acAt ((List.range len).map f) k = f k := by
      unfold acAt
      rw [List.getD_eq_getElem?_getD, List.getElem?_map, List.getElem?_range hk]
      rfl
    rw [e]
    obtain ⟨b, off, h0, r⟩ := hf2 k hk
    exact ⟨b, off, by rw [h0], r⟩
end Wi
end Go.Proofs.Ytieicfobhgfonaa
