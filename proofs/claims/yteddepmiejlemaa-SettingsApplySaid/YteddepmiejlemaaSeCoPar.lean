/- The code's Parse of layer 16. For texts of at most 10^6 bytes. -/
import Derived.Test.YteddepmiejlemaaProg
import Derived.Test.YteddepmiejlemaaBytes
import Derived.Test.YteddepmiejlemaaNumBe
import Derived.Test.YteddepmiejlemaaNumGet
import Derived.Test.YteddepmiejlemaaFrMath
import Derived.Test.YteddepmiejlemaaFrMake
import Derived.Test.YteddepmiejlemaaFrFrame
import Derived.Test.YteddepmiejlemaaFrSets
import Derived.Test.YteddepmiejlemaaSePar
import Derived.WalkKit
import Derived.Lib.Hide
import Derived.Laws.Rows
import Derived.Laws.MakeOwn
import Derived.Outline
import Derived.IntWalk
import Derived.WalkSpells
import Derived.WalkLawsBesides
import Derived.LoopTactic
import Derived.Deep.CutRange
namespace Go.Proofs.Yteddepmiejlemaa
open Go Go.RowKit Bytes Fr Se
set_option linter.unusedVariables false

namespace Se
theorem sets_length (n : Nat) : ∀ l : List UInt8, l.length ≤ n → (sets l).length = l.length / 6 := by
  induction n with
  | zero => intro l h; rw [sets_short (by omega)]; simp; omega
  | succ n ih =>
    intro l h
    by_cases h6 : 6 ≤ l.length
    · rw [sets_step h6, List.length_cons, ih (l.drop 6) (by rw [List.length_drop]; omega), List.length_drop]
      omega
    · rw [sets_short (by omega)]
      simp
      omega
theorem sets_drop : ∀ (k : Nat) (l : List UInt8), (sets l).drop k = sets (l.drop (k * 6))
  | 0, l => by rw [Nat.zero_mul]; rfl
  | k + 1, l => by
    by_cases h6 : 6 ≤ l.length
    · rw [sets_step h6, List.drop_succ_cons, sets_drop k, List.drop_drop]
      congr 2
      omega
    · rw [sets_short (by omega), sets_short (by rw [List.length_drop]; omega)]
      rfl
theorem sets_get {s : ByteArray} {k : Nat} (h : k * 6 + 6 ≤ s.size) : setAt (sets s.data.toList) k = (gN s (k * 6) 2, gN s (k * 6 + 2) 4) := by
  have h1 := sets_drop k s.data.toList
  rw [sets_at h] at h1
  unfold setAt
  rw [List.getD_eq_getElem?_getD, ← Nat.add_zero k, ← List.getElem?_drop, h1]
  rfl
/-- A row of n settings of which the first k are laid. -/
def RowP (w : World) (g n k : Nat) (L : List (Nat × Nat)) : Prop :=
  ∃ M : Array Value, M.size = n * 2 ∧ (∀ j, j < k → M[j * 2]? = some (.int .u16 ((setAt L j).1 : Int)) ∧ M[j * 2 + 1]? = some (.int .u32 ((setAt L j).2 : Int))) ∧ w.heap[g]? = some (.cells M 48 (0, 0))
theorem RowP.at_ {w : World} {g n k : Nat} {L : List (Nat × Nat)} (h : RowP w g n k L) (hk : k < n) : (∃ x, w.cell? ⟨g, k * 2, none⟩ = some x) ∧ (∃ x, w.cell? ⟨g, k * 2 + 1, none⟩ = some x) ∧ w.frozen? ⟨g, k * 2, none⟩ = false ∧ w.frozen? ⟨g, k * 2 + 1, none⟩ = false := by
  obtain ⟨M, hM, hc, hh⟩ := h
  refine ⟨⟨M[k * 2]'(by omega), cell_of_row _ _ _ _ _ _ hh |>.trans (Array.getElem?_eq_getElem (by omega))⟩, ⟨M[k * 2 + 1]'(by omega), cell_of_row _ _ _ _ _ _ hh |>.trans (Array.getElem?_eq_getElem (by omega))⟩, ?_, ?_⟩ <;> simp [World.frozen?, hh]
theorem RowP.put {w : World} {g n k : Nat} {L : List (Nat × Nat)} (h : RowP w g n k L) (hk : k < n) :
    RowP ((w.setCell ⟨g, k * 2, none⟩ (.int .u16 ((setAt L k).1 : Int))).setCell ⟨g, k * 2 + 1, none⟩ (.int .u32 ((setAt L k).2 : Int))) g n (k + 1) L := by
  obtain ⟨M, hM, hc, hh⟩ := h
  have h1 : (w.setCell ⟨g, k * 2, none⟩ (.int .u16 ((setAt L k).1 : Int))).heap[g]? = some (.cells (M.setIfInBounds (k * 2) (.int .u16 ((setAt L k).1 : Int))) 48 (0, 0)) := heap_setCell_same _ _ _ _ _ _ hh
  have h2 : ((w.setCell ⟨g, k * 2, none⟩ (.int .u16 ((setAt L k).1 : Int))).setCell ⟨g, k * 2 + 1, none⟩ (.int .u32 ((setAt L k).2 : Int))).heap[g]? = some (.cells ((M.setIfInBounds (k * 2) (.int .u16 ((setAt L k).1 : Int))).setIfInBounds (k * 2 + 1) (.int .u32 ((setAt L k).2 : Int))) 48 (0, 0)) := heap_setCell_same _ _ _ _ _ _ h1
  refine ⟨_, ?_, fun j hj => ?_, h2⟩
  · rw [Array.size_setIfInBounds, Array.size_setIfInBounds, hM]
  · rcases Nat.lt_or_ge j k with hlt | hge
    · obtain ⟨c0, c1⟩ := hc j hlt
      rw [Array.getElem?_setIfInBounds_ne (by omega), Array.getElem?_setIfInBounds_ne (by omega), Array.getElem?_setIfInBounds_ne (by omega), Array.getElem?_setIfInBounds_ne (by omega)]
      exact ⟨c0, c1⟩
    · have : j = k := by omega
      subst this
      constructor
      · rw [Array.getElem?_setIfInBounds_ne (by omega), Array.getElem?_setIfInBounds_self_of_lt (by omega)]
      · rw [Array.getElem?_setIfInBounds_self_of_lt (by rw [Array.size_setIfInBounds]; omega)]
theorem RowP.rd {w : World} {g n : Nat} {L : List (Nat × Nat)} (h : RowP w g n n L) (hL : L.length = n) (hb : ∀ j, j < L.length → (setAt L j).1 < 65536 ∧ (setAt L j).2 < 4294967296) : RdSt w w.heap.size (some ⟨g, 0, none⟩) L := fun k hk => by
  obtain ⟨M, hM, hc, hh⟩ := h
  obtain ⟨c0, c1⟩ := hc k (by omega)
  refine ⟨g, 0, rfl, ?_, ?_, ?_, hb k hk⟩
  · rcases Nat.lt_or_ge g w.heap.size with h | h
    · exact h
    · rw [Array.getElem?_eq_none h] at hh; cases hh
  · rw [Nat.zero_add]; exact (cell_of_row _ _ _ _ _ _ hh).trans c0
  · rw [Nat.zero_add]; exact (cell_of_row _ _ _ _ _ _ hh).trans c1
end Se

theorem se_make (n : Nat) (hn : n ≤ 1000000) (w : World) : (Instr.makeSlice 22 (.int .i64 (n : Int)) (.int .i64 (n : Int))).run Try.prog w = .ok (.slice (some ⟨w.heap.size, 0, none⟩) n n) (w.alloc (.cells (madeCells #[.int .u16 0, .int .u32 0] (n * 2)) 48)) := by
  obtain ⟨i0, hi, hz0, hz1, hz2⟩ := info_parts infoS
  have := run_make (P := Try.prog) w 22 48 i0 _ Try.underlying22 hi hz0 .i64 .i64 n n (by omega) (Int.le_refl _) (by rw [hz2]; omega) (by omega)
  rw [hz1, Int.toNat_natCast] at this
  exact this

set_option maxHeartbeats 8000000 in
set_option maxRecDepth 100000 in
theorem cpar_is (s : ByteArray) (L : List (Nat × Nat)) (w : World) (hs : s.size ≤ 1000000) (hL : Hid (sets s.data.toList = L)) :
    Calls Try.prog 15 #[.string s] w fun e w' => ∃ (A : Option Addr) (n cp : Nat), e = .returned (.slice A n cp) ∧ Hid (RdSt w' w'.heap.size A L) ∧ Hid (L.length = n) ∧ Below w.heap.size w w' := by
  obtain ⟨n, hn⟩ : ∃ n, s.size / 6 = n := ⟨_, rfl⟩
  have hLn : L.length = n := by rw [← hL.out, sets_length _ _ (Nat.le_refl _), size_l]; exact hn
  have HLN := Lib.hid hLn
  have hmk := se_make n (by omega)
  have hq : (s.size : Int) / 6 = (n : Int) := by omega
  obtain ⟨g, hg⟩ : ∃ g, w.heap.size = g := ⟨_, rfl⟩
  obtain ⟨V, hV⟩ : ∃ W, w.alloc (.cells (madeCells #[.int .u16 0, .int .u32 0] (n * 2)) 48) = W := ⟨_, rfl⟩
  have HR0 : Hid (RowP V g n 0 L) := Lib.hid ⟨madeCells #[.int .u16 0, .int .u32 0] (n * 2), size_madeCells _ _, fun j hj => absurd hj (Nat.not_lt_zero j), by rw [← hV, ← hg]; exact heap_alloc_new w _⟩
  have HB0 : Hid (Below g w V) := Lib.hid (by rw [← hV, ← hg]; exact (Below.refl _ w).alloc (Nat.le_refl _) _)
  have hn6 : n * 6 ≤ s.size := by omega
  have hmk0 := hmk w
  rw [hV, hg] at hmk0
  have G := Lib.hid hg
  clear hmk hg hV hLn hn
  go_enter Try.func15, Try.ntmps15
  go_wp2_with (first | rw [hmk0] | fail)
  go_loopw [15, 4, 5, 6, 7, 8] (fun i _ _ _ _ _ wr => ∃ k : Nat, k ≤ n ∧ i = .int .i64 (k : Int) ∧ Hid (RowP wr g n k L) ∧ Hid (Below g w wr)) (fun i _ _ _ _ _ _ => n - (intOf i).toNat)
  case atStart => exact ⟨0, Nat.zero_le _, rfl, HR0, HB0⟩
  case round =>
    obtain ⟨k, hk, rfl, hRw, hBw⟩ := hrel
    by_cases hlt : k < n
    · have hki : (k : Int) < (n : Int) := by omega
      have hk0 : (0 : Int) ≤ (k : Int) := by omega
      have hk6 : k * 6 + 6 ≤ s.size := by omega
      have hget := sets_get hk6
      rw [hL.out] at hget
      have hb2 := gN_lt s (k * 6) 2
      have hb4 := gN_lt s (k * 6 + 2) 4
      obtain ⟨p, hp⟩ : ∃ p, gN s (k * 6) 2 = p := ⟨_, rfl⟩
      obtain ⟨q, hq⟩ : ∃ q, gN s (k * 6 + 2) 4 = q := ⟨_, rfl⟩
      rw [hp, hq] at hget
      rw [hp] at hb2
      rw [hq] at hb4
      have hb2 : p < 65536 := hb2
      have hb4 : q < 4294967296 := hb4
      have HP1 : Hid (∀ v, Calls Try.prog 21 #[.string s, .int .i64 ((k : Int) * 6), .int .i64 2] v fun e w' => e = .returned (.tuple #[.int .u64 (p : Int), .bool true]) ∧ v = w') := Lib.hid (fun v => by have h := get_yes s (k * 6) 2 v (by unfold maxLen; omega) (by decide) (by decide) (by omega); rw [show ((k * 6 : Nat) : Int) = (k : Int) * 6 by omega] at h; rw [← hp]; exact h)
      have HP2 : Hid (∀ v, Calls Try.prog 21 #[.string s, .int .i64 ((k : Int) * 6 + 2), .int .i64 4] v fun e w' => e = .returned (.tuple #[.int .u64 (q : Int), .bool true]) ∧ v = w') := Lib.hid (fun v => by have h := get_yes s (k * 6 + 2) 4 v (by unfold maxLen; omega) (by decide) (by decide) (by omega); rw [show ((k * 6 + 2 : Nat) : Int) = (k : Int) * 6 + 2 by omega] at h; rw [← hq]; exact h)
      have eu2 : IntKind.u16.wrap (p : Int) = (p : Int) := by rw [IntKind.wrap_u16]; omega
      have eu4 : (q : Int) % 4294967296 = (q : Int) := by omega
      obtain ⟨⟨x0, c0⟩, ⟨x1, c1⟩, z0, z1⟩ := hRw.out.at_ hlt
      have HN := hRw.out.put hlt
      rw [hget] at HN
      have HN := Lib.hid HN
      have HBN := Lib.hid ((hBw.out.setCell (p := ⟨g, k * 2, none⟩) (Nat.le_refl _) (.int .u16 (p : Int))).setCell (p := ⟨g, k * 2 + 1, none⟩) (Nat.le_refl _) (.int .u32 (q : Int)))
      have hof := zadd g (k * 2)
      clear hget hp hq hk6 hRw hBw
      go_wp2_with fail
      refine (HP1.out _).mono ?_
      rintro e1 w1 ⟨rfl, rfl⟩
      go_wp2_with fail
      refine (HP2.out _).mono ?_
      rintro e1 w1 ⟨rfl, rfl⟩
      go_wp2_with fail
      go_roundw
      case rel => exact ⟨k + 1, by omega, by go_num, HN, HBN⟩
      case measure => simp [intOf]; omega
    · have hkn : k = n := by omega
      subst hkn
      have hend : ¬ (k : Int) < (k : Int) := by omega
      go_wp2_with fail
      go_ret
      exact ⟨_, _, ⟨_, rfl⟩, Lib.hid (hRw.out.rd HLN.out (fun j hj => by
        have hj6 : j * 6 + 6 ≤ s.size := by have := HLN.out; omega
        have hget := sets_get hj6
        rw [hL.out] at hget
        rw [hget]
        exact ⟨gN_lt s (j * 6) 2, gN_lt s (j * 6 + 2) 4⟩)), HLN, by rw [G.out]; exact hBw.out⟩
end Go.Proofs.Yteddepmiejlemaa
