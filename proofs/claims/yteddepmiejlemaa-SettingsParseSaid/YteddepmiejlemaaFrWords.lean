/- The code's words of layer 14: numbers as bytes, four each. For 1 to 1000 numbers. -/
import Derived.Test.YteddepmiejlemaaProg
import Derived.Test.YteddepmiejlemaaBytes
import Derived.Test.YteddepmiejlemaaNumBe
import Derived.Test.YteddepmiejlemaaNumPut
import Derived.Test.YteddepmiejlemaaFrMath
import Derived.Test.YteddepmiejlemaaFrRow
import Derived.WalkKit
import Derived.Lib.Hide
import Derived.Laws.Rows
import Derived.Outline
import Derived.IntWalk
import Derived.WalkSpells
import Derived.WalkLawsBesides
import Derived.LoopTactic
namespace Go.Proofs.Yteddepmiejlemaa
open Go Go.RowKit Bytes Fr

namespace Fr
/-- Numbers' bytes. -/
def wordsB : List Nat → List UInt8
  | [] => []
  | x :: L => beTail x 4 ++ wordsB L
theorem wordsB_cat : ∀ (A : List Nat) (x : Nat), wordsB (A ++ [x]) = wordsB A ++ beTail x 4
  | [], x => by simp [wordsB]
  | a :: A, x => by rw [List.cons_append, wordsB, wordsB_cat A x, wordsB, List.append_assoc]
theorem wordsB_len : ∀ L : List Nat, (wordsB L).length = 4 * L.length
  | [] => rfl
  | x :: L => by rw [wordsB, List.length_append, beTail_length, wordsB_len L, List.length_cons]; omega
theorem wordsB_one (x : Nat) : wordsB [x] = beTail x 4 := by simp [wordsB]
theorem wordsB_two (x y : Nat) : wordsB [x, y] = beTail x 4 ++ beTail y 4 := by simp [wordsB]
/-- What stands between rounds. -/
def WRel (w : World) (a : Option Addr) (l : List UInt8) : Prop := RdB w w.heap.size a l ∧ (l ≠ [] → ∃ g, a = some ⟨g, 0, none⟩ ∧ w.heap[g]? = some (.cells (Lib.byteCells l).toArray 5 (0, 0)))
theorem wrel_nil (w : World) : WRel w none [] := ⟨fun h => absurd h (by simp), fun h => absurd rfl h⟩
theorem wrel_row {w : World} {g : Nat} {l : List UInt8} (h : w.heap[g]? = some (.cells (Lib.byteCells l).toArray 5 (0, 0))) (hg : g < w.heap.size) : WRel w (some ⟨g, 0, none⟩) l :=
  ⟨rdB_row h rfl hg, fun _ => ⟨g, rfl, h⟩⟩
end Fr

set_option maxHeartbeats 8000000 in
set_option maxRecDepth 100000 in
theorem cwords_is (A n cp : Nat) (L : List Nat) (r : ByteArray) (w : World) (hn : Hid (L.length = n)) (hn0 : 1 ≤ n) (hn1 : n ≤ 1000) (hb : ∀ j, L.getD j 0 < 4294967296) (hA : A < w.heap.size) (hr : Hid (mk (wordsB L) = r))
    (hc : Hid (∀ j, j < n → w.cell? ⟨A, j, none⟩ = some (.int .u32 (L.getD j 0 : Int)))) :
    Calls Try.prog 26 #[.slice (some ⟨A, 0, none⟩) n cp] w fun e w' => e = .returned (.string r) ∧ Below w.heap.size w w' := by
  have HB := Lib.hid hb
  clear hb
  go_enter Try.func26, Try.ntmps26
  go_wp2_with fail
  go_loopw [3, 5, 8] (fun b _ i wr => ∃ (k m : Nat) (a : Option Addr), k ≤ n ∧ i = .int .i64 (k : Int) ∧ b = .slice a m m ∧ Hid (m = (wordsB (L.take k)).length) ∧ Hid (WRel wr a (wordsB (L.take k))) ∧ Hid (Below w.heap.size w wr)) (fun _ _ i _ => n - (intOf i).toNat)
  case atStart => exact ⟨0, 0, none, Nat.zero_le _, rfl, rfl, Lib.hid rfl, Lib.hid (wrel_nil _), Lib.hid (Below.refl _ w)⟩
  case round =>
    obtain ⟨k, m, a, hk, rfl, rfl, hm, hW, hBw⟩ := hrel
    by_cases hlt : k < n
    · have hki : (k : Int) < (n : Int) := by omega
      have hcell : wr.cell? ⟨A, k, none⟩ = some (.int .u32 (L.getD k 0 : Int)) := (hBw.out.cell (p := ⟨A, k, none⟩) hA).trans (hc.out k hlt)
      obtain ⟨x, hx⟩ : ∃ x, L.getD k 0 = x := ⟨_, rfl⟩
      have hxb : x < 4294967296 := by rw [← hx]; exact HB.out k
      have hcat : wordsB (L.take (k + 1)) = wordsB (L.take k) ++ beTail x 4 := by
        rw [← wordsB_cat, ← hx]
        congr 1
        have hkl : k < L.length := by rw [hn.out]; exact hlt
        rw [List.take_succ_eq_append_getElem hkl, List.getD_eq_getElem?_getD, List.getElem?_eq_getElem hkl]
        rfl
      have hml : (wordsB (L.take k)).length ≤ 4000 := by rw [wordsB_len, List.length_take]; omega
      have hput := put_any a m (wordsB (L.take k)) x 4 wr (by decide) hW.out.1 (by omega)
      rw [← hm.out] at hput
      have HP := Lib.hid hput
      have HC := Lib.hid hcat
      have hm0 := hm.out
      have HML : Hid (m + 4 = (wordsB (L.take (k + 1))).length) := Lib.hid (by rw [hcat, List.length_append, beTail_length, hm0])
      rw [hx] at hcell
      have ewx : IntKind.u64.wrap (x : Int) = (x : Int) := by rw [IntKind.wrap_u64]; omega
      clear hx hcat hput hm0 hml hm
      go_wp2_with fail
      refine HP.out.mono ?_
      rintro e w2 ⟨rfl, hB2, hs2, hrow⟩
      have HB2 := Lib.hid (hBw.out.trans (hB2.mono hBw.out.size))
      have HW2 : Hid (WRel w2 (some ⟨wr.heap.size, 0, none⟩) (wordsB (L.take (k + 1)))) := Lib.hid (by rw [HC.out]; exact wrel_row hrow hs2)
      clear hB2 hs2 hrow
      go_wp2_with fail
      go_roundw
      case rel => exact ⟨k + 1, m + 4, _, by omega, by go_num, rfl, HML, HW2, HB2⟩
      case measure => simp [intOf]; omega
    · have hkn : k = n := by omega
      subst hkn
      have hl0 : L.take L.length = L := List.take_length
      have ht : L.take k = L := by rw [← hn.out]; exact hl0
      have hw2 := hW.out
      have hm2 := hm.out
      rw [ht] at hw2 hm2
      have hne : wordsB L ≠ [] := fun e => by
        have := congrArg List.length e
        rw [wordsB_len, hn.out, List.length_nil] at this
        omega
      obtain ⟨g, rfl, hrow⟩ := hw2.2 hne
      have hcv := conv_row (n := m) hrow hm2.symm
      rw [hr.out] at hcv
      clear hw2 hm2 ht hl0 hlt hrow hne
      go_wp2_with fail
      go_ret
      exact ⟨rfl, hBw.out⟩
end Go.Proofs.Yteddepmiejlemaa
