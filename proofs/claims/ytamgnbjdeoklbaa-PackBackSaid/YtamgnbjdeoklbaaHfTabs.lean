/- Rows of cells told by a function; the zero values of layer 10's book. No condition. -/
import Derived.Test.YtamgnbjdeoklbaaProg
import Derived.Test.YtamgnbjdeoklbaaBytes
import Derived.Test.YtamgnbjdeoklbaaHfTab
import Derived.WalkKit
import Derived.Lib.Hide
import Derived.Laws.Rows
namespace Go.Proofs.Ytamgnbjdeoklbaa.Hf
open Go Go.RowKit Bytes

/-- n cells. -/
def tab (n : Nat) (f : Nat → Value) : Array Value := ((List.range n).map f).toArray
theorem tab_size (n : Nat) (f : Nat → Value) : (tab n f).size = n := by simp [tab]
theorem tab_get {n j : Nat} (f : Nat → Value) (h : j < n) : (tab n f)[j]? = some (f j) := by simp [tab, h]
def upd (f : Nat → Value) (j : Nat) (v : Value) : Nat → Value := fun i => if i = j then v else f i
theorem upd_same (f : Nat → Value) (j : Nat) (v : Value) : upd f j v j = v := if_pos rfl
theorem upd_ne (f : Nat → Value) {i j : Nat} (v : Value) (h : i ≠ j) : upd f j v i = f i := if_neg h
theorem tab_set (n j : Nat) (f : Nat → Value) (v : Value) : (tab n f).setIfInBounds j v = tab n (upd f j v) := by
  apply Array.ext
  · simp [tab]
  · intro i h1 h2
    simp only [tab, upd, List.setIfInBounds_toArray, List.getElem_toArray, List.getElem_set, List.getElem_map, List.getElem_range]
    by_cases e : j = i
    · rw [if_pos e, if_pos e.symm]
    · rw [if_neg e, if_neg (fun h => e h.symm)]
theorem tab_congr {n : Nat} {f g : Nat → Value} (h : ∀ i, i < n → f i = g i) : tab n f = tab n g := by
  unfold tab
  congr 1
  exact List.map_congr_left fun i hi => h i (List.mem_range.1 hi)
def cu (n : Nat) : Value := .int .u32 (n : Int)
def ci (n : Nat) : Value := .int .i64 (n : Int)
/-- An empty book. -/
def bookZ (i : Nat) : Value := if i < 514 then (if i % 2 = 0 then cu 0 else ci 0) else if i < 771 then ci 0 else cu 0
theorem book_info : (Try.prog.info? 148).map (fun i => (i.zero, i.size)) = some (some (.agg (tab 833 bookZ)), 833) := by kernel_rfl
theorem lens_info : (Try.prog.info? 146).map (fun i => (i.zero, i.size)) = some (some (.agg (tab 31 fun _ => cu 0)), 31) := by kernel_rfl
theorem code_info : (Try.prog.info? 143).map (fun i => (i.zero, i.size)) = some (some (.agg #[cu 0, ci 0]), 2) := by kernel_rfl
theorem zero_of {t : TypeId} {z : Value} {n : Nat} (h : (Try.prog.info? t).map (fun i => (i.zero, i.size)) = some (some z, n)) (w : World) : (zeroValue t).run Try.prog w = .ok z w := by
  cases hi : Try.prog.info? t with
  | none => rw [hi] at h; cases h
  | some i =>
    rw [hi] at h
    simp only [Option.map_some, Option.some.injEq, Prod.mk.injEq] at h
    simp [zeroValue, typeInfo, hi, h.1]
theorem size_of {t : TypeId} {z : Value} {n : Nat} (h : (Try.prog.info? t).map (fun i => (i.zero, i.size)) = some (some z, n)) : (Try.prog.info? t).map (·.size) = some n := by
  cases hi : Try.prog.info? t with
  | none => rw [hi] at h; cases h
  | some i =>
    rw [hi] at h
    simp only [Option.map_some, Option.some.injEq, Prod.mk.injEq] at h
    simp [h.2]
end Go.Proofs.Ytamgnbjdeoklbaa.Hf
