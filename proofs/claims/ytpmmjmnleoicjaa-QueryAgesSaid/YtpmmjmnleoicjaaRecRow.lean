/- Records in rows of one's own: their cells, and the rows within. No condition. -/
import Derived.Test.YtpmmjmnleoicjaaProg
import Derived.Test.YtpmmjmnleoicjaaBytes
import Derived.Test.YtpmmjmnleoicjaaStrs
import Derived.Test.YtpmmjmnleoicjaaNums
import Derived.Test.YtpmmjmnleoicjaaRecMath
import Derived.Test.YtpmmjmnleoicjaaKept
import Derived.Test.YtpmmjmnleoicjaaOwnRow
import Derived.WalkKit
import Derived.Lib.Hide
namespace Go.Proofs.Ytpmmjmnleoicjaa
open Go Go.RowKit Bytes Strs Nums RecMath

theorem info_rec : (Try.prog.info? 60).map (fun i => (i.zero, i.size, i.bytes)) = some (some (.agg #[.string ⟨#[]⟩, .int .u16 0, .int .u16 0, .int .u32 0, .slice none 0 0, .slice none 0 0, .slice none 0 0]), 7, 96) := by kernel_rfl
/-- A record's cells, with its three lists. -/
def recV (R : Rec) (v1 v2 v3 : Value) : List Value := [.string (mk R.name), .int .u16 R.kind, .int .u16 R.cls, .int .u32 R.ttl, v1, v2, v3]
/-- A record's lists are these rows. -/
structure RecIn (w : World) (g : Nat) (R : Rec) (v1 v2 v3 : Value) : Prop where
  o1 : w.ownsRow g 9 1 v1 R.names.length (strCs R.names)
  o2 : w.ownsRow g 50 1 v2 R.nums.length (numCs R.nums)
  o3 : w.ownsRow g 9 1 v3 R.texts.length (strCs R.texts)
abbrev RecZ := Rec × Value × Value × Value
def recCs (Z : List RecZ) : List Value := Z.flatMap fun z => recV z.1 z.2.1 z.2.2.1 z.2.2.2
theorem recCs_snoc (Z : List RecZ) (R : Rec) (v1 v2 v3 : Value) : recCs (Z ++ [(R, v1, v2, v3)]) = recCs Z ++ recV R v1 v2 v3 := by unfold recCs; rw [List.flatMap_append]; simp
/-- The row v is the records L. -/
def RowRecs (w : World) (g : Nat) (v : Value) (L : List Rec) : Prop :=
  ∃ Z : List RecZ, Z.map (·.1) = L ∧ w.ownsRow g 60 7 v L.length (recCs Z) ∧ ∀ z ∈ Z, RecIn w g z.1 z.2.1 z.2.2.1 z.2.2.2
section
variable {w w' w0 : World} {g g' r : Nat} {R : Rec} {v v1 v2 v3 : Value} {L : List Rec} {a s : ByteArray} {p : Int} {k : Nat}
theorem RecIn.low (h : RecIn w g R v1 v2 v3) (hg : g' ≤ g) : RecIn w g' R v1 v2 v3 := ⟨row_low h.o1 hg, row_low h.o2 hg, row_low h.o3 hg⟩
theorem RecIn.below (h : RecIn w g R v1 v2 v3) (hB : Below w.heap.size w w') : RecIn w' g R v1 v2 v3 := ⟨row_below h.o1 hB, row_below h.o2 hB, row_below h.o3 hB⟩
theorem RecIn.rdr (h : RecIn w g R v1 v2 v3) (hd : RdrAt w r a s p k) (hg : w.grownBy w' (some r)) : RecIn w' g R v1 v2 v3 :=
  ⟨row_rdr hd h.o1 hg (by decide), row_rdr hd h.o2 hg (by decide), row_rdr hd h.o3 hg (by decide)⟩
theorem RecIn.block {e2 : TypeId} {cs : Array Value} {fz : Nat × Nat} (h : RecIn w g R v1 v2 v3) (hb : w.heap[r]? = some (.cells cs e2 fz)) (hg : w.grownBy w' (some r)) (h9 : 9 ≠ e2) (h43 : 50 ≠ e2) : RecIn w' g R v1 v2 v3 :=
  ⟨h.o1.kept hg (row_ne hb h.o1 h9), h.o2.kept hg (row_ne hb h.o2 h43), h.o3.kept hg (row_ne hb h.o3 h9)⟩
theorem RecIn.row {n : Nat} {xs : List Value} {q size : Nat} {e2 : TypeId} (h : RecIn w g R v1 v2 v3) (h2 : w.ownsRow q e2 size v n xs) (hA : Below w.heap.size w w0) (hg : w0.grownBy w' v.ownBlock) (h9 : e2 ≠ 9) (h43 : e2 ≠ 50) : RecIn w' g R v1 v2 v3 :=
  ⟨row_row h.o1 h2 h9 hA hg, row_row h.o2 h2 h43 hA hg, row_row h.o3 h2 h9 hA hg⟩
theorem RowRecs.nil (w : World) (g : Nat) : RowRecs w g (.slice none 0 0) [] := ⟨[], rfl, World.ownsRow_nil _ _ _ _, fun _ h => by cases h⟩
theorem RowRecs.low (h : RowRecs w g v L) (hg : g' ≤ g) : RowRecs w g' v L := by
  obtain ⟨Z, h1, h2, h3⟩ := h
  exact ⟨Z, h1, row_low h2 hg, fun z hz => (h3 z hz).low hg⟩
theorem RowRecs.below (h : RowRecs w g v L) (hB : Below w.heap.size w w') : RowRecs w' g v L := by
  obtain ⟨Z, h1, h2, h3⟩ := h
  exact ⟨Z, h1, row_below h2 hB, fun z hz => (h3 z hz).below hB⟩
theorem RowRecs.rdr (h : RowRecs w g v L) (hd : RdrAt w r a s p k) (hg : w.grownBy w' (some r)) : RowRecs w' g v L := by
  obtain ⟨Z, h1, h2, h3⟩ := h
  exact ⟨Z, h1, row_rdr hd h2 hg (by decide), fun z hz => (h3 z hz).rdr hd hg⟩
theorem RowRecs.block {e2 : TypeId} {cs : Array Value} {fz : Nat × Nat} (h : RowRecs w g v L) (hb : w.heap[r]? = some (.cells cs e2 fz)) (hg : w.grownBy w' (some r)) (h9 : 9 ≠ e2) (h43 : 50 ≠ e2) (h47 : 60 ≠ e2) : RowRecs w' g v L := by
  obtain ⟨Z, h1, h2, h3⟩ := h
  exact ⟨Z, h1, h2.kept hg (row_ne hb h2 h47), fun z hz => (h3 z hz).block hb hg h9 h43⟩
theorem RowRecs.drewN (h : RowRecs w g v L) (n : Nat) : RowRecs (w.drewN n) g v L := h.below ⟨rfl, rfl, rfl, Nat.le_refl _, fun _ _ => rfl⟩
theorem RowRecs.slice (h : RowRecs w g v L) : ∃ A m c, v = .slice A m c := by
  obtain ⟨Z, h1, h2, h3⟩ := h
  exact row_slice h2
/-- One more record. -/
theorem RowRecs.snoc {v' : Value} {o : Obj} (h : RowRecs w g v L) (hr : RecIn w g R v1 v2 v3) (Z : List RecZ) (h1 : Z.map (·.1) = L) (h2 : w.ownsRow g 60 7 v L.length (recCs Z)) (h3 : ∀ z ∈ Z, RecIn w g z.1 z.2.1 z.2.2.1 z.2.2.2)
    (hown : w'.ownsRow g 60 7 v' (L.length + 1) (recCs Z ++ recV R v1 v2 v3)) (hgrow : (w.alloc o).grownBy w' v.ownBlock) : RowRecs w' g v' (L ++ [R]) := by
  have _ := h
  have hA : Below w.heap.size w (w.alloc o) := (Below.refl _ _).alloc (Nat.le_refl _) _
  refine ⟨Z ++ [(R, v1, v2, v3)], by rw [List.map_append, h1]; rfl, ?_, fun z hz => ?_⟩
  · rw [recCs_snoc, List.length_append]
    exact hown
  · rcases List.mem_append.1 hz with hz | hz
    · exact (h3 z hz).row h2 hA hgrow (by decide) (by decide)
    · rw [List.mem_singleton] at hz
      subst hz
      exact hr.row h2 hA hgrow (by decide) (by decide)
end
end Go.Proofs.Ytpmmjmnleoicjaa
