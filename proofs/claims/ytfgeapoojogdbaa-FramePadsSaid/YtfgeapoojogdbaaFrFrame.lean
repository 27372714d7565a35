/- A frame that came in; a slice of settings that came in. No condition. -/
import Derived.Test.YtfgeapoojogdbaaProg
import Derived.Test.YtfgeapoojogdbaaFrMath
import Derived.Deep.Slices
import Derived.Deep.Fields
import Derived.ChangeSame
import Derived.ChangeArms
import Derived.ChangeOld
import Derived.ProofKit
import Derived.OpenShut
import Derived.WalkKit
import Derived.Lib.Hide
import Derived.Below
namespace Go.Proofs.Ytfgeapoojogdbaa
open Go.ChangeShapes Go.WideShapes Go.ChangeAt Go.Deep Go.RowKit

namespace Fr
set_option maxRecDepth 100000 in
theorem came_frm {H : Type} {enc : TypeId × Value → H} {w : World} {base : Nat} {spare : Nat → Bool} {held : Bool} {r : Reach} {b0 : Nat} {v : Value} {d : DataW H} {p : List MemPlace}
    (hv : Value.okWide Try.prog w r b0 24 v) (h : DataW.Trod enc Try.prog w base spare held 24 v d p) :
    ∃ f : Frm, v = .agg #[.int .u8 (f.ty : Int), .int .u8 (f.fl : Int), .int .u32 (f.st : Int), .string f.data] ∧ Okf f ∧ f.data.size ≤ maxLen := by
  obtain ⟨cs, rfl, hsz⟩ := okWide_struct Try.underlying24 hv
  obtain ⟨lst⟩ := cs
  match lst, hsz.trans (show Try.prog.cellsOf 24 = 4 by kernel_rfl) with
  | [a0, a1, a2, a3], _ =>
    obtain ⟨fuel, hf⟩ := h
    obtain ⟨xs, n, _, hx, _, hlen, hg⟩ := DataW.trod_struct Try.underlying24 hf
    match xs, hlen with
    | [y0, y1, y2, y3], _ =>
      have cs1 : Try.prog.cellsOf 5 = 1 := by kernel_rfl
      have cs2 : Try.prog.cellsOf 22 = 1 := by kernel_rfl
      have cs3 : Try.prog.cellsOf 9 = 1 := by kernel_rfl
      have g0 : DataW.trod enc Try.prog w base spare held n 5 [a0] = some y0 := by simpa [Value.cells, cs1] using hg 0 _ rfl
      have g1 : DataW.trod enc Try.prog w base spare held n 5 [a1] = some y1 := by simpa [Value.cells, cs1] using hg 1 _ rfl
      have g2 : DataW.trod enc Try.prog w base spare held n 22 [a2] = some y2 := by simpa [Value.cells, cs1, cs2] using hg 2 _ rfl
      have g3 : DataW.trod enc Try.prog w base spare held n 9 [a3] = some y3 := by simpa [Value.cells, cs1, cs2, cs3] using hg 3 _ rfl
      obtain ⟨n0, e0, _, w0⟩ := DataW.trod_int Try.underlying5 g0
      obtain ⟨n1, e1, _, w1⟩ := DataW.trod_int Try.underlying5 g1
      obtain ⟨n2, e2, _, w2⟩ := DataW.trod_int Try.underlying22 g2
      obtain ⟨x, e3, _, h3⟩ := DataW.trod_string Try.underlying9 g3
      injection e0 with e0
      injection e1 with e1
      injection e2 with e2
      injection e3 with e3
      subst e0 e1 e2 e3
      have b0 := bounds_u8 w0
      have b1 := bounds_u8 w1
      have b2 := bounds_u32 w2
      refine ⟨⟨n0.toNat, n1.toNat, n2.toNat, x⟩, ?_, ⟨?_, ?_, ?_⟩, h3⟩
      · show Value.agg #[.int .u8 n0, .int .u8 n1, .int .u32 n2, .string x] = .agg #[.int .u8 (n0.toNat : Int), .int .u8 (n1.toNat : Int), .int .u32 (n2.toNat : Int), .string x]
        rw [Int.toNat_of_nonneg b0.1, Int.toNat_of_nonneg b1.1, Int.toNat_of_nonneg b2.1]
      · show n0.toNat < 256; omega
      · show n1.toNat < 256; omega
      · show n2.toNat < 4294967296; omega
section
variable {H : Type} {enc : TypeId × Value → H} {P : Program} {w : World} {base : Nat} {spare : Nat → Bool} {held : Bool}
theorem open_slice_sets {t e : TypeId} {fs : Array Field} {fuel : Nat} {cs : List Value} {x : DataW H × List MemPlace} (ht : P.underlying t = some (.slice e)) (he : P.underlying e = some (.struct fs))
    (hone : oneCellFields P fs = true) (hC : P.cellsOf e = fs.size) (h : DataW.trod enc P w base spare held fuel t cs = some x) :
    cs = [.slice none 0 0] ∨
    ∃ (a : Addr) (len cap m : Nat), cs = [.slice (some a) len cap] ∧ len ≤ m ∧ len ≤ maxLen ∧
      ∀ i, i < m → ∃ (n : Nat), ∀ (j : Nat) (f : Field), fs[j]? = some f → ∃ (v : Value) (y : DataW H × List MemPlace), w.cell? (a.add (i * fs.size + j)) = some v ∧ DataW.trod enc P w base spare held n f.type [v] = some y := by
  rcases open_slice ht h with h0 | ⟨a, len, cap, m, n, D, Pl, hcs, hb, hl, hm, hmm, hx, hi⟩
  · exact .inl h0.1
  · refine .inr ⟨a, len, cap, m, hcs, by rw [hmm]; split <;> omega, by omega, fun i him => ?_⟩
    obtain ⟨cs', hc, ht'⟩ := hi i him
    rw [hC] at hc
    obtain ⟨ys, n', hn', hy, hlen, hyl, hf⟩ := DataW.trod_struct he ht'
    obtain ⟨_, hcl, hat⟩ := World.cells?_some hc
    refine ⟨n', fun j f hj => ?_⟩
    obtain ⟨ho, hk⟩ := hone_of hone j f hj
    have hjl : j < fs.size := (Array.getElem?_eq_some_iff.1 hj).1
    have hcell := hat j hjl
    have hv : cs'[j]? = some (cs'[j]'(by omega)) := List.getElem?_eq_getElem (by omega)
    have h1 := hf j f hj
    rw [ho, hk] at h1
    have hone' : (cs'.drop j).take 1 = [cs'[j]'(by omega)] := by
      rw [List.drop_eq_getElem_cons (by omega)]
      rfl
    rw [hone'] at h1
    have hys : ys[j]? = some (ys[j]'(by omega)) := List.getElem?_eq_getElem (by omega)
    refine ⟨_, _, ?_, h1.trans hys⟩
    rw [← Go.Deep.add_add, hcell, hv]
end
/-- A setting: its number, its value. -/
def setAt (L : List (Nat × Nat)) (k : Nat) : Nat × Nat := L.getD k (0, 0)
/-- A slice of settings, below a block. -/
def RdSt (w : World) (B : Nat) (a : Option Addr) (L : List (Nat × Nat)) : Prop :=
  ∀ k, k < L.length → ∃ (b off : Nat), a = some ⟨b, off, none⟩ ∧ b < B ∧ w.cell? ⟨b, off + k * 2, none⟩ = some (.int .u16 ((setAt L k).1 : Int)) ∧ w.cell? ⟨b, off + k * 2 + 1, none⟩ = some (.int .u32 ((setAt L k).2 : Int)) ∧ (setAt L k).1 < 65536 ∧ (setAt L k).2 < 4294967296
theorem RdSt.on {w w' : World} {B B' : Nat} {a : Option Addr} {L : List (Nat × Nat)} (h : RdSt w B a L) (hb : Below B w w') (hB : B ≤ B') : RdSt w' B' a L := fun k hk => by
  obtain ⟨b, off, e, hlt, c0, c1, r⟩ := h k hk
  exact ⟨b, off, e, by omega, (hb.cell (p := ⟨b, off + k * 2, none⟩) hlt).trans c0, (hb.cell (p := ⟨b, off + k * 2 + 1, none⟩) hlt).trans c1, r⟩
theorem rdst_of_trod {H : Type} {enc : TypeId × Value → H} {w : World} {base : Nat} {spare : Nat → Bool} {held : Bool} {fuel : Nat} {a : Option Addr} {len cap : Nat} {x : DataW H × List MemPlace}
    (h : DataW.trod enc Try.prog w base spare held fuel 42 [.slice a len cap] = some x) : len ≤ maxLen ∧ ∃ L : List (Nat × Nat), L.length = len ∧ RdSt w w.heap.size a L := by
  rcases open_slice_sets Try.underlying42 Try.underlying47 (by kernel_rfl) (by kernel_rfl) h with hcs | ⟨ad, l, c, m, hcs, hm, hmx, hf⟩
  · simp at hcs
    obtain ⟨rfl, rfl, rfl⟩ := hcs
    exact ⟨Nat.zero_le _, [], rfl, fun k hk => absurd hk (Nat.not_lt_zero k)⟩
  · simp at hcs
    obtain ⟨rfl, rfl, rfl⟩ := hcs
    refine ⟨hmx, ?_⟩
    have one : ∀ j, j < len → ∃ (e : Nat × Nat) (b off : Nat), ad = ⟨b, off, none⟩ ∧ b < w.heap.size ∧ w.cell? ⟨b, off + j * 2, none⟩ = some (.int .u16 (e.1 : Int)) ∧ w.cell? ⟨b, off + j * 2 + 1, none⟩ = some (.int .u32 (e.2 : Int)) ∧ e.1 < 65536 ∧ e.2 < 4294967296 := fun j hj => by
      obtain ⟨n, hfj⟩ := hf j (by omega)
      obtain ⟨v0, y0, hc0, ht0⟩ := hfj 0 _ rfl
      obtain ⟨v1, y1, hc1, ht1⟩ := hfj 1 _ rfl
      obtain ⟨n0, hn0, _, w0⟩ := DataW.trod_int Try.underlying45 ht0
      obtain ⟨n1, hn1, _, w1⟩ := DataW.trod_int Try.underlying22 ht1
      simp at hn0 hn1
      subst hn0 hn1
      obtain ⟨b, off, spot⟩ := ad
      obtain ⟨n', hf0⟩ := hf 0 (by omega)
      obtain ⟨u0, z0, hu0, _⟩ := hf0 0 _ rfl
      have hspot : spot = none := by simpa [Addr.add] using World.cell?_spot hu0
      clear hu0
      subst hspot
      rw [add_plain] at hc0 hc1
      have b0 := bounds_u16 w0
      have b1 := bounds_u32 w1
      refine ⟨(n0.toNat, n1.toNat), b, off, rfl, World.block_lt_of_cell? _ _ hc0, ?_, ?_, ?_, ?_⟩
      · show _ = some (Value.int .u16 (n0.toNat : Int))
        rw [Int.toNat_of_nonneg b0.1]
        simpa using hc0
      · show _ = some (Value.int .u32 (n1.toNat : Int))
        rw [Int.toNat_of_nonneg b1.1]
        simpa [Nat.add_assoc] using hc1
      · show n0.toNat < 65536; omega
      · show n1.toNat < 4294967296; omega
    obtain ⟨f, hf2⟩ : ∃ f : Nat → Nat × Nat, ∀ j, j < len → ∃ (b off : Nat), ad = ⟨b, off, none⟩ ∧ b < w.heap.size ∧ w.cell? ⟨b, off + j * 2, none⟩ = some (.int .u16 ((f j).1 : Int)) ∧ w.cell? ⟨b, off + j * 2 + 1, none⟩ = some (.int .u32 ((f j).2 : Int)) ∧ (f j).1 < 65536 ∧ (f j).2 < 4294967296 := by
      classical
      exact ⟨fun j => if h : j < len then (one j h).choose else (0, 0), fun j hj => by simp only [hj, dif_pos]; exact (one j hj).choose_spec⟩
    refine ⟨(List.range len).map f, by rw [List.length_map, List.length_range], fun k hk => ?_⟩
    rw [List.length_map, List.length_range] at hk
    have e : setAt ((List.range len).map f) k = f k := by
      unfold setAt
      rw [List.getD_eq_getElem?_getD, List.getElem?_map, List.getElem?_range hk]
      rfl
    rw [e]
    obtain ⟨b, off, h0, r⟩ := hf2 k hk
    exact ⟨b, off, by rw [h0], r⟩
end Fr
end Go.Proofs.Ytfgeapoojogdbaa
