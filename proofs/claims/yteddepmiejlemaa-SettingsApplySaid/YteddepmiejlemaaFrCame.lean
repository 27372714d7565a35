/- A frame that came in. No condition. -/
import Derived.Test.YteddepmiejlemaaProg
import Derived.Test.YteddepmiejlemaaFrMath
import Derived.Deep.Slices
import Derived.Deep.Fields
import Derived.ChangeSame
import Derived.ChangeArms
import Derived.ChangeOld
import Derived.ProofKit
import Derived.OpenShut
import Derived.WalkKit
import Derived.Lib.Hide
import Derived.Below
namespace Go.Proofs.Yteddepmiejlemaa
open Go.ChangeShapes Go.WideShapes Go.ChangeAt Go.Deep Go.RowKit

namespace Fr
set_option maxRecDepth 100000 in
theorem came_frm {H : Type} {enc : TypeId × Value → H} {w : World} {base : Nat} {spare : Nat → Bool} {held : Bool} {r : Reach} {b0 : Nat} {v : Value} {d : DataW H} {p : List MemPlace}
    (hv : Value.okWide Try.prog w r b0 41 v) (h : DataW.Trod enc Try.prog w base spare held 41 v d p) :
    ∃ f : Frm, v = .agg #[.int .u8 (f.ty : Int), .int .u8 (f.fl : Int), .int .u32 (f.st : Int), .string f.data] ∧ Okf f ∧ f.data.size ≤ maxLen := by
  obtain ⟨cs, rfl, hsz⟩ := okWide_struct Try.underlying41 hv
  obtain ⟨lst⟩ := cs
  match lst, hsz.trans (show Try.prog.cellsOf 41 = 4 by kernel_rfl) with
  | [a0, a1, a2, a3], _ =>
    obtain ⟨fuel, hf⟩ := h
    obtain ⟨xs, n, _, hx, _, hlen, hg⟩ := DataW.trod_struct Try.underlying41 hf
    match xs, hlen with
    | [y0, y1, y2, y3], _ =>
      have cs1 : Try.prog.cellsOf 5 = 1 := by kernel_rfl
      have cs2 : Try.prog.cellsOf 24 = 1 := by kernel_rfl
      have cs3 : Try.prog.cellsOf 9 = 1 := by kernel_rfl
      have g0 : DataW.trod enc Try.prog w base spare held n 5 [a0] = some y0 := by simpa [Value.cells, cs1] using hg 0 _ rfl
      have g1 : DataW.trod enc Try.prog w base spare held n 5 [a1] = some y1 := by simpa [Value.cells, cs1] using hg 1 _ rfl
      have g2 : DataW.trod enc Try.prog w base spare held n 24 [a2] = some y2 := by simpa [Value.cells, cs1, cs2] using hg 2 _ rfl
      have g3 : DataW.trod enc Try.prog w base spare held n 9 [a3] = some y3 := by simpa [Value.cells, cs1, cs2, cs3] using hg 3 _ rfl
      obtain ⟨n0, e0, _, w0⟩ := DataW.trod_int Try.underlying5 g0
      obtain ⟨n1, e1, _, w1⟩ := DataW.trod_int Try.underlying5 g1
      obtain ⟨n2, e2, _, w2⟩ := DataW.trod_int Try.underlying24 g2
      obtain ⟨x, e3, _, h3⟩ := DataW.trod_string Try.underlying9 g3
      injection e0 with e0
      injection e1 with e1
      injection e2 with e2
      injection e3 with e3
      subst e0 e1 e2 e3
      have b0 := bounds_u8 w0
      have b1 := bounds_u8 w1
      have b2 := bounds_u32 w2
      refine ⟨⟨n0.toNat, n1.toNat, n2.toNat, x⟩, ?_, ⟨?_, ?_, ?_⟩, h3⟩
      · show Value.agg #[.int .u8 n0, .int .u8 n1, .int .u32 n2, .string x] = .agg #[.int .u8 (n0.toNat : Int), .int .u8 (n1.toNat : Int), .int .u32 (n2.toNat : Int), .string x]
        rw [Int.toNat_of_nonneg b0.1, Int.toNat_of_nonneg b1.1, Int.toNat_of_nonneg b2.1]
      · show n0.toNat < 256; omega
      · show n1.toNat < 256; omega
      · show n2.toNat < 4294967296; omega
end Fr
end Go.Proofs.Yteddepmiejlemaa
