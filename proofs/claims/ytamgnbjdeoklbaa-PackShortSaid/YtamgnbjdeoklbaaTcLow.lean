/- Contracts of the program's small calls on tables: Most, Size, Len, last, an entry's size and its copy. For texts of at most 10^6 bytes. -/
import Derived.Test.YtamgnbjdeoklbaaProg
import Derived.Test.YtamgnbjdeoklbaaTbMath
import Derived.Test.YtamgnbjdeoklbaaTbMem
import Derived.Test.YtamgnbjdeoklbaaTbLeast
import Derived.Test.YtamgnbjdeoklbaaTbRef
import Derived.Test.YtamgnbjdeoklbaaTcMem
import Derived.Test.YtamgnbjdeoklbaaClone
import Derived.WalkKit
import Derived.Lib.Hide
import Derived.Outline
import Derived.IntWalk
import Derived.WalkSpells
import Derived.WalkLawsBesides
import Derived.Deep.QuietTactic
import Derived.BigQuiet
import Derived.Laws.Rows
import Derived.Deep.RegionLaw
namespace Go.Proofs.Ytamgnbjdeoklbaa
open Go.RowKit Tb

namespace Tb
/-- A table's block and its row. -/
def TRaw (w : World) (g b : Nat) (M S : Int) (ao : Option Addr) (off c : Nat) (L : List Ent) : Prop :=
  w.heap[g]? = some (.cells #[.int .i64 M, .int .i64 S, .slice ao L.length c] 80 (0, 0)) ∧ Row w b ao off L.length c L ∧ (c = 0 → b = g) ∧ (0 < c → b ≠ g)
theorem three_cells {w : World} {g : Nat} {a b c : Value} {t : TypeId} (h : w.heap[g]? = some (.cells #[a, b, c] t (0, 0))) :
    w.cell? ⟨g, 0, none⟩ = some a ∧ w.cell? ⟨g, 1, none⟩ = some b ∧ w.cell? ⟨g, 2, none⟩ = some c ∧ w.frozen? ⟨g, 0, none⟩ = false ∧ w.frozen? ⟨g, 1, none⟩ = false ∧ w.frozen? ⟨g, 2, none⟩ = false :=
  ⟨cell_of_row _ _ _ _ _ _ h, cell_of_row _ _ _ _ _ _ h, cell_of_row _ _ _ _ _ _ h, frozen_of_row _ _ _ _ _ h, frozen_of_row _ _ _ _ _ h, frozen_of_row _ _ _ _ _ h⟩
theorem set3_0 {w : World} {g : Nat} {a b c y : Value} {t : TypeId} (h : w.heap[g]? = some (.cells #[a, b, c] t (0, 0))) : (w.setCell ⟨g, 0, none⟩ y).heap[g]? = some (.cells #[y, b, c] t (0, 0)) := heap_setCell_same _ g 0 _ _ y h
theorem set3_1 {w : World} {g : Nat} {a b c y : Value} {t : TypeId} (h : w.heap[g]? = some (.cells #[a, b, c] t (0, 0))) : (w.setCell ⟨g, 1, none⟩ y).heap[g]? = some (.cells #[a, y, c] t (0, 0)) := heap_setCell_same _ g 1 _ _ y h
theorem set3_2 {w : World} {g : Nat} {a b c y : Value} {t : TypeId} (h : w.heap[g]? = some (.cells #[a, b, c] t (0, 0))) : (w.setCell ⟨g, 2, none⟩ y).heap[g]? = some (.cells #[a, b, y] t (0, 0)) := heap_setCell_same _ g 2 _ _ y h
theorem TRaw.kept {w w' : World} {g b : Nat} {M S : Int} {ao : Option Addr} {off c : Nat} {L : List Ent} (h : TRaw w g b M S ao off c L) (hs : w.heap.size ≤ w'.heap.size) (hg : w'.heap[g]? = w.heap[g]?) (hb : b < w.heap.size → w'.heap[b]? = w.heap[b]?) : TRaw w' g b M S ao off c L :=
  ⟨hg.trans h.1, h.2.1.kept hs hb, h.2.2⟩
theorem TRaw.below {w w' : World} {g b : Nat} {M S : Int} {ao : Option Addr} {off c : Nat} {L : List Ent} (h : TRaw w g b M S ao off c L) (hB : Below w.heap.size w w') : TRaw w' g b M S ao off c L :=
  h.kept hB.size (hB.block g (world_lt h.1)) (hB.block b)
end Tb

theorem most_is (g : Nat) (a b c : Value) (t : TypeId) (w : World) (h : Hid (w.heap[g]? = some (.cells #[a, b, c] t (0, 0)))) :
    Calls Try.prog 18 #[.pointer (some ⟨g, 0, none⟩)] w fun e w' => e = .returned a ∧ w' = w := by
  obtain ⟨a1, a2, a3, _⟩ := three_cells h.out
  go_enter Try.func18, Try.ntmps18
  go_wp2_with fail
  go_ret
  exact ⟨rfl, rfl⟩
theorem size_is (g : Nat) (a b c : Value) (t : TypeId) (w : World) (h : Hid (w.heap[g]? = some (.cells #[a, b, c] t (0, 0)))) :
    Calls Try.prog 17 #[.pointer (some ⟨g, 0, none⟩)] w fun e w' => e = .returned b ∧ w' = w := by
  obtain ⟨a1, a2, a3, _⟩ := three_cells h.out
  go_enter Try.func17, Try.ntmps17
  go_wp2_with fail
  go_ret
  exact ⟨rfl, rfl⟩
theorem len_is (g : Nat) (a b : Value) (ao : Option Addr) (n c : Nat) (t : TypeId) (w : World) (h : Hid (w.heap[g]? = some (.cells #[a, b, .slice ao n c] t (0, 0)))) :
    Calls Try.prog 16 #[.pointer (some ⟨g, 0, none⟩)] w fun e w' => e = .returned (.int .i64 (n : Int)) ∧ w' = w := by
  obtain ⟨a1, a2, a3, _⟩ := three_cells h.out
  go_enter Try.func16, Try.ntmps16
  go_wp2_with fail
  go_ret
  exact ⟨rfl, rfl⟩
theorem last_is (g : Nat) (a b : Value) (ao : Option Addr) (n c : Nat) (t : TypeId) (w : World) (h : Hid (w.heap[g]? = some (.cells #[a, b, .slice ao n c] t (0, 0)))) (hn : n ≤ 100000) :
    Calls Try.prog 33 #[.pointer (some ⟨g, 0, none⟩)] w fun e w' => e = .returned (.int .i64 (61 + (n : Int))) ∧ w' = w := by
  obtain ⟨a1, a2, a3, _⟩ := three_cells h.out
  have e1 : IntKind.i64.wrap (61 + (n : Int)) = 61 + (n : Int) := by rw [IntKind.wrap_i64]; omega
  go_enter Try.func33, Try.ntmps33
  go_wp2_with fail
  go_ret
  exact ⟨rfl, rfl⟩
theorem entsize_is (x y : ByteArray) (w : World) (hx : x.size ≤ 1000000) (hy : y.size ≤ 1000000) :
    Calls Try.prog 57 #[.agg #[.string x, .string y]] w fun e w' => e = .returned (.int .i64 ((x.size + y.size + 32 : Nat) : Int)) ∧ Below w.heap.size w w' := by
  obtain ⟨a1, a2, _, _⟩ := two_cells (heap_alloc_new w (.cells #[.string x, .string y] 82))
  have hB := (Below.refl w.heap.size w).alloc (Nat.le_refl _) (.cells #[.string x, .string y] 82)
  have e1 : IntKind.i64.wrap ((x.size : Int) + (y.size : Int)) = (x.size : Int) + (y.size : Int) := by rw [IntKind.wrap_i64]; omega
  have e2 : IntKind.i64.wrap ((x.size : Int) + (y.size : Int) + 32) = ((x.size + y.size + 32 : Nat) : Int) := by rw [IntKind.wrap_i64]; omega
  go_enter Try.func57, Try.ntmps57
  go_wp2_with fail
  go_ret
  exact ⟨rfl, hB⟩
theorem entInfoP : (Try.prog.info? 82).map (·.size) = some 2 := by kernel_rfl

/-- What apart's calls keep. -/
def ApS (x y : ByteArray) (g : Nat) (w w' : World) : Prop := w'.heap[g]? = some (.cells #[.string x, .string y] 82 (0, 0)) ∧ w'.heap[g + 1]? = some (.cells #[.string ⟨#[]⟩, .string ⟨#[]⟩] 82 (0, 0)) ∧ Below g w w'
theorem clone_ap (x y z : ByteArray) (g : Nat) (w w1 : World) (hz : z.size ≤ 1000000) (h : ApS x y g w w1) :
    Calls Try.prog 52 #[.string z] w1 fun e w' => e = .returned (.string z) ∧ w'.cell? ⟨g, 0, none⟩ = some (.string x) ∧ w'.cell? ⟨g, 1, none⟩ = some (.string y) ∧ w'.cell? ⟨g + 1, 0, none⟩ = some (.string ⟨#[]⟩) ∧ w'.cell? ⟨g + 1, 1, none⟩ = some (.string ⟨#[]⟩) ∧ w'.frozen? ⟨g + 1, 0, none⟩ = false ∧ w'.frozen? ⟨g + 1, 1, none⟩ = false ∧ ApS x y g w w' :=
  (clone_any z w1 hz).mono fun e w' ⟨he, hB⟩ => by
    have h1 := (hB.block g (world_lt h.1)).trans h.1
    have h2 := (hB.block (g + 1) (world_lt h.2.1)).trans h.2.1
    obtain ⟨a1, a2, _, _⟩ := two_cells h1
    obtain ⟨b1, b2, b3, b4⟩ := two_cells h2
    exact ⟨he, a1, a2, b1, b2, b3, b4, h1, h2, h.2.2.trans (hB.mono (Nat.le_of_lt (world_lt h.1)))⟩

set_option maxHeartbeats 2000000 in
set_option maxRecDepth 100000 in
theorem apart_is (x y : ByteArray) (w : World) (hx : x.size ≤ 1000000) (hy : y.size ≤ 1000000) :
    Calls Try.prog 35 #[.agg #[.string x, .string y]] w fun e w' => e = .returned (.agg #[.string x, .string y]) ∧ Below w.heap.size w w' := by
  have K0 := heap_alloc2_old w (.cells #[.string x, .string y] 82) (.cells #[.string ⟨#[]⟩, .string ⟨#[]⟩] 82)
  have K1 := heap_alloc2_new w (.cells #[.string x, .string y] 82) (.cells #[.string ⟨#[]⟩, .string ⟨#[]⟩] 82)
  have HB0 := ((Below.refl w.heap.size w).alloc (Nat.le_refl _) (.cells #[.string x, .string y] 82)).alloc (by simp) (.cells #[.string ⟨#[]⟩, .string ⟨#[]⟩] 82)
  go_enter Try.func35, Try.ntmps35
  go_wp2_with fail
  generalize ((w.alloc (.cells #[.string x, .string y] 82)).alloc (.cells #[.string ⟨#[]⟩, .string ⟨#[]⟩] 82)) = W at *
  have HS0 : Hid (∀ q, ApS x y w.heap.size w (W.drewN q)) := Lib.hid fun q => ⟨K0, K1, below_drewN HB0 q⟩
  have S0 : ApS x y w.heap.size w W := HS0.out 0
  have S1 : ApS x y w.heap.size w W.drew := HS0.out 1
  obtain ⟨a1, a2, _, _⟩ := two_cells K0
  obtain ⟨b1, b2, b3, b4⟩ := two_cells K1
  clear K0 K1 HB0
  go_region_law (first | (go_simp; go_at_call 52; (with_reducible refine (clone_ap x y x w.heap.size w _ hx ?_).mono ?_); (assumption); rintro e w5 ⟨rfl, c0, c1, r0, r1, r2, r3, hS5⟩) | (go_simp; go_at_call 52; (with_reducible refine (clone_ap x y y w.heap.size w _ hy ?_).mono ?_); (assumption); rintro e w6 ⟨rfl, d0, d1, s0, s1, s2, s3, hS6⟩))
  all_goals go_wp2_with fail
  all_goals first
    | exact bodyPost_ret (v := .agg #[.string x, .string y]) (results_cell_row rfl _ _ (w.heap.size + 1) 82 #[.string x, .string y] (0, 0) _ rfl (two_set hS6.2.1) Try.underlying82 rfl entInfoP) rfl ⟨rfl, (hS6.2.2.setCell (p := ⟨w.heap.size + 1, 0, none⟩) (Nat.le_succ _) _).setCell (p := ⟨w.heap.size + 1, 1, none⟩) (Nat.le_succ _) _⟩
    | exact bodyPost_ret (v := .agg #[.string x, .string y]) (results_cell_row rfl _ _ (w.heap.size + 1) 82 #[.string x, .string y] (0, 0) _ rfl (two_set hS5.2.1) Try.underlying82 rfl entInfoP) rfl ⟨rfl, (hS5.2.2.setCell (p := ⟨w.heap.size + 1, 0, none⟩) (Nat.le_succ _) _).setCell (p := ⟨w.heap.size + 1, 1, none⟩) (Nat.le_succ _) _⟩
end Go.Proofs.Ytamgnbjdeoklbaa
