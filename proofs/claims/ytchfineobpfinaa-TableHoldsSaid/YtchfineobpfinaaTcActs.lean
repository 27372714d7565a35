/- Acts that came in: what they are in memory; whether they are few. No condition. -/
import Derived.Test.YtchfineobpfinaaProg
import Derived.Test.YtchfineobpfinaaTbMath
import Derived.Test.YtchfineobpfinaaTbMem
import Derived.Test.YtchfineobpfinaaTbLeast
import Derived.Test.YtchfineobpfinaaTbRef
import Derived.Test.YtchfineobpfinaaTcMem
import Derived.Test.YtchfineobpfinaaTcLow
import Derived.Test.YtchfineobpfinaaTcShrink
import Derived.Test.YtchfineobpfinaaTcAdd
import Derived.Deep.Slices
import Derived.Deep.Fields
import Derived.ChangeSame
import Derived.ProofKit
import Derived.OpenShut
import Derived.WalkKit
import Derived.Lib.Hide
import Derived.Outline
import Derived.IntWalk
import Derived.WalkSpells
import Derived.WalkLawsBesides
import Derived.Deep.QuietTactic
import Derived.BigQuiet
import Derived.Below
namespace Go.Proofs.Ytchfineobpfinaa
open Go.ChangeShapes Go.WideShapes Go.Deep Go.RowKit Tb

namespace Tb
section
variable {H : Type} {enc : TypeId × Value → H} {P : Program} {w : World} {base : Nat} {spare : Nat → Bool} {held : Bool}
theorem open_slice_flds {t e : TypeId} {fs : Array Field} {fuel : Nat} {cs : List Value} {x : DataW H × List MemPlace} (ht : P.underlying t = some (.slice e)) (he : P.underlying e = some (.struct fs))
    (hone : oneCellFields P fs = true) (hC : P.cellsOf e = fs.size) (h : DataW.trod enc P w base spare held fuel t cs = some x) :
    cs = [.slice none 0 0] ∨
    ∃ (a : Addr) (len cap m : Nat), cs = [.slice (some a) len cap] ∧ len ≤ m ∧ len ≤ maxLen ∧
      ∀ i, i < m → ∃ (n : Nat), ∀ (j : Nat) (f : Field), fs[j]? = some f → ∃ (v : Value) (y : DataW H × List MemPlace), w.cell? (a.add (i * fs.size + j)) = some v ∧ DataW.trod enc P w base spare held n f.type [v] = some y := by
  rcases open_slice ht h with h0 | ⟨a, len, cap, m, n, D, Pl, hcs, hb, hl, hm, hmm, hx, hi⟩
  · exact .inl h0.1
  · refine .inr ⟨a, len, cap, m, hcs, by rw [hmm]; split <;> omega, by omega, fun i him => ?_⟩
    obtain ⟨cs', hc, ht'⟩ := hi i him
    rw [hC] at hc
    obtain ⟨ys, n', hn', hy, hlen, hyl, hf⟩ := DataW.trod_struct he ht'
    obtain ⟨_, hcl, hat⟩ := World.cells?_some hc
    refine ⟨n', fun j f hj => ?_⟩
    obtain ⟨ho, hk⟩ := hone_of hone j f hj
    have hjl : j < fs.size := (Array.getElem?_eq_some_iff.1 hj).1
    have hcell := hat j hjl
    have hv : cs'[j]? = some (cs'[j]'(by omega)) := List.getElem?_eq_getElem (by omega)
    have h1 := hf j f hj
    rw [ho, hk] at h1
    have hone' : (cs'.drop j).take 1 = [cs'[j]'(by omega)] := by
      rw [List.drop_eq_getElem_cons (by omega)]
      rfl
    rw [hone'] at h1
    have hys : ys[j]? = some (ys[j]'(by omega)) := List.getElem?_eq_getElem (by omega)
    refine ⟨_, _, ?_, h1.trans hys⟩
    rw [← Go.Deep.add_add, hcell, hv]
end
/-- An act: a name, a value, a size. -/
structure ActE where
  name : ByteArray
  val : ByteArray
  most : Int
def actAt (L : List ActE) (k : Nat) : ActE := L.getD k ⟨⟨#[]⟩, ⟨#[]⟩, 0⟩
/-- A slice of acts, below a block. -/
def RdT (w : World) (B : Nat) (a : Option Addr) (n : Nat) (L : List ActE) : Prop :=
  L.length = n ∧ ∀ k, k < n → ∃ (b off : Nat), a = some ⟨b, off, none⟩ ∧ b < B ∧ w.cell? ⟨b, off + k * 3, none⟩ = some (.string (actAt L k).name) ∧ w.cell? ⟨b, off + k * 3 + 1, none⟩ = some (.string (actAt L k).val) ∧ w.cell? ⟨b, off + k * 3 + 2, none⟩ = some (.int .i64 (actAt L k).most) ∧
    -9223372036854775808 ≤ (actAt L k).most ∧ (actAt L k).most ≤ 9223372036854775807 ∧ (actAt L k).name.size ≤ maxLen ∧ (actAt L k).val.size ≤ maxLen
theorem RdT.on {w w' : World} {B B' : Nat} {a : Option Addr} {n : Nat} {L : List ActE} (h : RdT w B a n L) (hb : Below B w w') (hB : B ≤ B') : RdT w' B' a n L :=
  ⟨h.1, fun k hk => by
    obtain ⟨b, off, e, hlt, c0, c1, c2, r⟩ := h.2 k hk
    exact ⟨b, off, e, by omega, (hb.cell (p := ⟨b, off + k * 3, none⟩) hlt).trans c0, (hb.cell (p := ⟨b, off + k * 3 + 1, none⟩) hlt).trans c1, (hb.cell (p := ⟨b, off + k * 3 + 2, none⟩) hlt).trans c2, r⟩⟩
theorem rdt_of_trod {H : Type} {enc : TypeId × Value → H} {w : World} {base : Nat} {spare : Nat → Bool} {held : Bool} {fuel : Nat} {a : Option Addr} {len cap : Nat} {x : DataW H × List MemPlace}
    (h : DataW.trod enc Try.prog w base spare held fuel 22 [.slice a len cap] = some x) : len ≤ maxLen ∧ ∃ L, RdT w w.heap.size a len L := by
  rcases open_slice_flds Try.underlying22 Try.underlying34 (by kernel_rfl) (by kernel_rfl) h with hcs | ⟨ad, l, c, m, hcs, hm, hmx, hf⟩
  · simp at hcs
    obtain ⟨rfl, rfl, rfl⟩ := hcs
    exact ⟨Nat.zero_le _, [], rfl, fun k hk => absurd hk (Nat.not_lt_zero k)⟩
  · simp at hcs
    obtain ⟨rfl, rfl, rfl⟩ := hcs
    refine ⟨hmx, ?_⟩
    have one : ∀ j, j < len → ∃ (e : ActE) (b off : Nat), ad = ⟨b, off, none⟩ ∧ b < w.heap.size ∧ w.cell? ⟨b, off + j * 3, none⟩ = some (.string e.name) ∧ w.cell? ⟨b, off + j * 3 + 1, none⟩ = some (.string e.val) ∧ w.cell? ⟨b, off + j * 3 + 2, none⟩ = some (.int .i64 e.most) ∧ -9223372036854775808 ≤ e.most ∧ e.most ≤ 9223372036854775807 ∧ e.name.size ≤ maxLen ∧ e.val.size ≤ maxLen := fun j hj => by
      obtain ⟨n, hfj⟩ := hf j (by omega)
      obtain ⟨v0, y0, hc0, ht0⟩ := hfj 0 _ rfl
      obtain ⟨v1, y1, hc1, ht1⟩ := hfj 1 _ rfl
      obtain ⟨v2, y2, hc2, ht2⟩ := hfj 2 _ rfl
      obtain ⟨s0, hs0, _, hw0⟩ := DataW.trod_string Try.underlying9 ht0
      obtain ⟨s1, hs1, _, hw1⟩ := DataW.trod_string Try.underlying9 ht1
      obtain ⟨nn, hn, _, hwf⟩ := DataW.trod_int Try.underlying3 ht2
      simp at hs0 hs1 hn
      subst hs0 hs1 hn
      obtain ⟨b, off, spot⟩ := ad
      obtain ⟨n', hf0⟩ := hf 0 (by omega)
      obtain ⟨u0, z0, hu0, _⟩ := hf0 0 _ rfl
      have hspot : spot = none := by simpa [Addr.add] using World.cell?_spot hu0
      clear hu0
      subst hspot
      rw [add_plain] at hc0 hc1 hc2
      have hbd := bounds_i64 hwf
      refine ⟨⟨s0, s1, nn⟩, b, off, rfl, World.block_lt_of_cell? _ _ hc0, ?_, ?_, ?_, hbd.1, hbd.2, ?_, ?_⟩
      · simpa using hc0
      · simpa [Nat.add_assoc] using hc1
      · simpa [Nat.add_assoc] using hc2
      · exact hw0
      · exact hw1
    obtain ⟨f, hf2⟩ : ∃ f : Nat → ActE, ∀ j, j < len → ∃ (b off : Nat), ad = ⟨b, off, none⟩ ∧ b < w.heap.size ∧ w.cell? ⟨b, off + j * 3, none⟩ = some (.string (f j).name) ∧ w.cell? ⟨b, off + j * 3 + 1, none⟩ = some (.string (f j).val) ∧ w.cell? ⟨b, off + j * 3 + 2, none⟩ = some (.int .i64 (f j).most) ∧ -9223372036854775808 ≤ (f j).most ∧ (f j).most ≤ 9223372036854775807 ∧ (f j).name.size ≤ maxLen ∧ (f j).val.size ≤ maxLen := by
      classical
      exact ⟨fun j => if h : j < len then (one j h).choose else ⟨⟨#[]⟩, ⟨#[]⟩, 0⟩, fun j hj => by simp only [hj, dif_pos]; exact (one j hj).choose_spec⟩
    refine ⟨(List.range len).map f, by rw [List.length_map, List.length_range], fun k hk => ?_⟩
    have e : actAt ((List.range len).map f) k = f k := by
      unfold actAt
      rw [List.getD_eq_getElem?_getD, List.getElem?_map, List.getElem?_range hk]
      rfl
    rw [e]
    obtain ⟨b, off, h0, r⟩ := hf2 k hk
    exact ⟨b, off, by rw [h0], r⟩
end Tb
end Go.Proofs.Ytchfineobpfinaa
