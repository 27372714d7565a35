/- The contract of layer 1's awake: it answers true, and makes memory of its own alone. No condition. -/
import Derived.Test.YtlhodiblkinglaaProg
import Derived.Test.YtlhodiblkinglaaNumMath
import Derived.Test.YtlhodiblkinglaaNumSat
import Derived.Test.YtlhodiblkinglaaNumGet
import Derived.Test.YtlhodiblkinglaaNumPut
import Derived.WalkKit
import Derived.Lib.Hide
import Derived.Lib.SlBytesRow
import Derived.Outline
import Derived.IntWalk
import Derived.WalkSpells
namespace Go.Proofs.Ytlhodiblkinglaa
open Go.RowKit NumMath

/-- Bytes as a string. -/
def strOf (l : List UInt8) : ByteArray := ⟨l.toArray⟩
theorem strOf_size (l : List UInt8) : (strOf l).size = l.length := by simp [strOf, ByteArray.size]
theorem strOf_list (l : List UInt8) : (strOf l).data.toList = l := by simp [strOf]
/-- A whole block of bytes, as a string. -/
theorem conv_block {W : World} {g n : Nat} {l : List UInt8} (h : W.heap[g]? = some (.cells (Lib.byteCells l).toArray 5 (0, 0))) (hn : n = l.length) :
    (convert 22 9 (.slice (some ⟨g, 0, none⟩) n n)).run Try.prog W = .ok (.string (strOf l)) W := by
  have hb : Lib.Bytes W g 0 (strOf l) := by
    intro i hi
    rw [strOf_size] at hi
    rw [Nat.zero_add, cell_of_row W g i _ _ _ h]
    simp [Lib.byteCells, hi, strOf]
    rfl
  have := Lib.run_convert_whole (P := Try.prog) W 22 5 9 Try.underlying22 Try.underlying5 Try.underlying9 g 0 (strOf l) hb n
  rwa [strOf_size, ← hn] at this

theorem awake_get1 (w : World) : Calls Try.prog 10 #[.string ⟨#[1, 2]⟩, .int .i64 0, .int .i64 2] w fun e w' => e = .returned (.tuple #[.int .u64 258, .bool true]) ∧ w = w' :=
  get_yes ⟨#[1, 2]⟩ 0 2 w (by decide) (by decide) (by decide) (by decide)
theorem awake_get2 (w : World) : Calls Try.prog 10 #[.string ⟨#[1, 2]⟩, .int .i64 1, .int .i64 2] w fun e w' => e = .returned (.tuple #[.int .u64 0, .bool false]) ∧ w = w' :=
  get_no ⟨#[1, 2]⟩ 1 2 w (by decide) (by decide) (by decide) (by decide) (by decide) (.inr (.inr (by decide)))
theorem awake_put (w : World) : Calls Try.prog 9 #[.slice none 0 0, .int .u64 258, .int .i64 3] w fun e w' => e = .returned (.slice (some ⟨w.heap.size, 0, none⟩) 3 3) ∧ Below w.heap.size w w' ∧ w.heap.size < w'.heap.size ∧ w'.heap[w.heap.size]? = some (.cells (Lib.byteCells [0, 1, 2]).toArray 5 (0, 0)) :=
  put_any none 0 [] 258 3 w (by decide) (fun h => absurd h (by decide)) (by decide)

theorem awake_add32 (w : World) : Calls Try.prog 11 #[.int .u32 4294967295, .int .u32 1] w fun e w' => e = .returned (.int .u32 4294967295) ∧ w = w' :=
  add32_any 4294967295 1 w (by decide) (by decide) (by decide) (by decide)
theorem awake_add64 (w : World) : Calls Try.prog 13 #[.int .u64 2, .int .u64 3] w fun e w' => e = .returned (.int .u64 5) ∧ w = w' :=
  add64_any 2 3 w (by decide) (by decide) (by decide) (by decide)
theorem awake_mul64 (w : World) : Calls Try.prog 15 #[.int .u64 4, .int .u64 5] w fun e w' => e = .returned (.int .u64 20) ∧ w = w' :=
  mul64_any 4 5 w (by decide) (by decide) (by decide) (by decide)

set_option maxHeartbeats 400000 in
theorem awake_any (w : World) : Calls Try.prog 8 #[] w fun e w' => e = .returned (.bool true) ∧ Below w.heap.size w w' := by
  go_enter Try.func8, Try.ntmps8
  go_wp2_with fail
  refine (awake_get1 _).mono ?_
  rintro e w' ⟨rfl, rfl⟩
  go_wp2_with fail
  refine (awake_get2 _).mono ?_
  rintro e w' ⟨rfl, rfl⟩
  go_wp2_with fail
  refine (awake_put _).mono ?_
  rintro e w1 ⟨rfl, hB, hS, hg⟩
  have hconv : (convert 22 9 (.slice (some ⟨w.heap.size, 0, none⟩) 3 3)).run Try.prog w1 = .ok (.string ⟨#[0, 1, 2]⟩) w1 := conv_block (n := 3) hg rfl
  clear hg
  go_wp2_with fail
  refine (awake_add32 _).mono ?_
  rintro e w' ⟨rfl, rfl⟩
  go_wp2_with fail
  refine (awake_add64 _).mono ?_
  rintro e w' ⟨rfl, rfl⟩
  go_wp2_with fail
  refine (awake_mul64 _).mono ?_
  rintro e w' ⟨rfl, rfl⟩
  go_wp2_with fail
  go_ret
  exact ⟨rfl, hB⟩
end Go.Proofs.Ytlhodiblkinglaa
