/- A slice of frames that came in. No condition. -/
import Derived.Test.YtekcipmhljhelaaProg
import Derived.Test.YtekcipmhljhelaaFrMath
import Derived.Test.YtekcipmhljhelaaFrOpen
import Derived.Test.YtekcipmhljhelaaFdRow
import Derived.Deep.Slices
import Derived.Deep.Fields
import Derived.ChangeSame
import Derived.ChangeArms
import Derived.ChangeOld
import Derived.ProofKit
import Derived.OpenShut
import Derived.WalkKit
import Derived.Lib.Hide
import Derived.Below
namespace Go.Proofs.Ytekcipmhljhelaa
open Go.ChangeShapes Go.WideShapes Go.ChangeAt Go.Deep Go.RowKit

namespace Fd
open Fr
theorem rdf_of_trod {H : Type} {enc : TypeId × Value → H} {w : World} {base : Nat} {spare : Nat → Bool} {held : Bool} {fuel : Nat} {a : Option Addr} {len cap : Nat} {x : DataW H × List MemPlace}
    (h : DataW.trod enc Try.prog w base spare held fuel 27 [.slice a len cap] = some x) : len ≤ maxLen ∧ (a = none → cap = 0 ∧ len = 0) ∧ ∃ L : List Frm, L.length = len ∧ RdF w w.heap.size a L ∧ ∀ k, k < len → Okf (frAt L k) ∧ (frAt L k).data.size ≤ maxLen := by
  rcases open_slice_sets Try.underlying27 Try.underlying40 (by kernel_rfl) (by kernel_rfl) h with hcs | ⟨ad, l, c, m, hcs, hm, hmx, hf⟩
  · simp at hcs
    obtain ⟨rfl, rfl, rfl⟩ := hcs
    exact ⟨Nat.zero_le _, fun _ => ⟨rfl, rfl⟩, [], rfl, RdF.void _ _ _, fun k hk => absurd hk (Nat.not_lt_zero k)⟩
  · simp at hcs
    obtain ⟨rfl, rfl, rfl⟩ := hcs
    refine ⟨hmx, fun e => (by cases e), ?_⟩
    have one : ∀ j, j < len → ∃ (f : Frm) (b off : Nat), ad = ⟨b, off, none⟩ ∧ b < w.heap.size ∧ At4 w b (off + j * 4) f ∧ Okf f ∧ f.data.size ≤ maxLen := fun j hj => by
      obtain ⟨n, hfj⟩ := hf j (by omega)
      obtain ⟨v0, y0, hc0, ht0⟩ := hfj 0 _ rfl
      obtain ⟨v1, y1, hc1, ht1⟩ := hfj 1 _ rfl
      obtain ⟨v2, y2, hc2, ht2⟩ := hfj 2 _ rfl
      obtain ⟨v3, y3, hc3, ht3⟩ := hfj 3 _ rfl
      obtain ⟨n0, hn0, _, w0⟩ := DataW.trod_int Try.underlying5 ht0
      obtain ⟨n1, hn1, _, w1⟩ := DataW.trod_int Try.underlying5 ht1
      obtain ⟨n2, hn2, _, w2⟩ := DataW.trod_int Try.underlying28 ht2
      obtain ⟨x3, hn3, _, h3⟩ := DataW.trod_string Try.underlying9 ht3
      simp at hn0 hn1 hn2 hn3
      subst hn0 hn1 hn2 hn3
      obtain ⟨b, off, spot⟩ := ad
      obtain ⟨n', hf0⟩ := hf 0 (by omega)
      obtain ⟨u0, z0, hu0, _⟩ := hf0 0 _ rfl
      have hspot : spot = none := by simpa [Addr.add] using World.cell?_spot hu0
      clear hu0
      subst hspot
      rw [oadd] at hc0 hc1 hc2 hc3
      have b0 := bounds_u8 w0
      have b1 := bounds_u8 w1
      have b2 := bounds_u32 w2
      refine ⟨⟨n0.toNat, n1.toNat, n2.toNat, x3⟩, b, off, rfl, World.block_lt_of_cell? _ _ hc0, ⟨?_, ?_, ?_, ?_⟩, ⟨?_, ?_, ?_⟩, h3⟩
      · show _ = some (Value.int .u8 (n0.toNat : Int))
        rw [Int.toNat_of_nonneg b0.1]
        simpa using hc0
      · show _ = some (Value.int .u8 (n1.toNat : Int))
        rw [Int.toNat_of_nonneg b1.1]
        simpa [Nat.add_assoc] using hc1
      · show _ = some (Value.int .u32 (n2.toNat : Int))
        rw [Int.toNat_of_nonneg b2.1]
        simpa [Nat.add_assoc] using hc2
      · show _ = some (Value.string x3)
        simpa [Nat.add_assoc] using hc3
      · show n0.toNat < 256; omega
      · show n1.toNat < 256; omega
      · show n2.toNat < 4294967296; omega
    obtain ⟨f, hf2⟩ : ∃ f : Nat → Frm, ∀ j, j < len → ∃ (b off : Nat), ad = ⟨b, off, none⟩ ∧ b < w.heap.size ∧ At4 w b (off + j * 4) (f j) ∧ Okf (f j) ∧ (f j).data.size ≤ maxLen := by
      classical
      exact ⟨fun j => if h : j < len then (one j h).choose else noF, fun j hj => by simp only [hj, dif_pos]; exact (one j hj).choose_spec⟩
    have hat : ∀ k, k < len → frAt ((List.range len).map f) k = f k := fun k hk => by
      unfold frAt
      rw [List.getD_eq_getElem?_getD, List.getElem?_map, List.getElem?_range hk]
      rfl
    refine ⟨(List.range len).map f, by rw [List.length_map, List.length_range], fun hp => ?_, fun k hk => ?_⟩
    · rw [List.length_map, List.length_range] at hp
      obtain ⟨b, off, h0, hb, _⟩ := hf2 0 hp
      refine ⟨b, off, by rw [h0], hb, fun k hk => ?_⟩
      rw [List.length_map, List.length_range] at hk
      rw [hat k hk]
      obtain ⟨b2, off2, h02, _, h4, _⟩ := hf2 k hk
      rw [h0] at h02
      injection h02 with e1 e2
      subst e1 e2
      exact h4
    · rw [hat k hk]
      obtain ⟨_, _, _, _, _, h5⟩ := hf2 k hk
      exact h5
end Fd
end Go.Proofs.Ytekcipmhljhelaa
