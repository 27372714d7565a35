/- The contract of the document's Codes: the codes of all signs, made in order of their lengths. No condition. -/
import Derived.Test.YtaoomjbkfcbfpaaProg
import Derived.Test.YtaoomjbkfcbfpaaBytes
import Derived.Test.YtaoomjbkfcbfpaaHfOrd
import Derived.Test.YtaoomjbkfcbfpaaHfTabs
import Derived.Test.YtaoomjbkfcbfpaaHfLow
import Derived.WalkKit
import Derived.Lib.Hide
import Derived.Outline
import Derived.IntWalk
import Derived.WalkSpells
import Derived.WalkLawsBesides
import Derived.Laws.MakeOwn
namespace Go.Proofs.Ytaoomjbkfcbfpaa
open Go.RowKit Bytes Hf

namespace Hf
theorem info25 : (Try.prog.info? 74).map (fun i => (i.zero, i.size, i.bytes)) = some (some (.int .u64 0), 1, 8) := by kernel_rfl
/-- The cells while the signs P are laid. -/
def celP (P : List Nat) (i : Nat) : Value := .int .u64 ((laid P).getD i 0 : Int)
theorem celP_snoc (P : List Nat) {s : Nat} (h : s < 257) : tab 257 (upd (celP P) s (.int .u64 (cd s : Int))) = tab 257 (celP (P ++ [s])) := by
  apply tab_congr
  intro i hi
  unfold celP
  rw [laid_snoc, List.getD_eq_getElem?_getD (l := (laid P).set s (cd s)), List.getElem?_set]
  by_cases e : s = i
  · subst e
    rw [upd_same, if_pos rfl, if_pos (by rw [laid_len]; exact h)]
    rfl
  · rw [upd_ne _ _ (fun h => e h.symm), if_neg e, List.getD_eq_getElem?_getD]
theorem made_cells : madeCells (Value.int .u64 0).cells 257 = tab 257 (celP []) := by kernel_rfl
/-- The codes' row. -/
structure CdB (g : Nat) (w w' : World) (f : Nat → Value) : Prop where
  below : Below g w w'
  row : w'.heap[g]? = some (.cells (tab 257 f) 74 (0, 0))
theorem CdB.set {g : Nat} {w w' : World} {P : List Nat} (h : CdB g w w' (celP P)) {s : Nat} (hs : s < 257) : CdB g w (w'.setCell ⟨g, s, none⟩ (.int .u64 (cd s : Int))) (celP (P ++ [s])) :=
  ⟨h.below.setCell (Nat.le_refl _) _, by rw [heap_setCell_same _ _ _ _ _ _ h.row, tab_set, celP_snoc P hs]⟩
theorem make_codes (W : World) : (Instr.makeSlice 100 (.int .i64 257) (.int .i64 257)).run Try.prog W = .ok (.slice (some ⟨W.heap.size, 0, none⟩) 257 257) (W.alloc (.cells (tab 257 (celP [])) 74)) := by
  obtain ⟨i0, hi, hz0, hz1, hz2⟩ := info_parts info25
  have h := run_make (P := Try.prog) W 100 74 i0 (.int .u64 0) Try.underlying100 hi hz0 .i64 .i64 257 257 (by omega) (by omega) (by rw [hz2]; omega) (by omega)
  rw [hz1] at h
  rw [← made_cells]
  simpa using h
theorem todo_over : todo 31 0 = [] := by decide +kernel
theorem todo_up {n : Nat} (h : n ≤ 30) : todo n 257 = todo (n + 1) 0 := by
  rcases Nat.lt_or_ge n 30 with h1 | h1
  · exact todo_next h1
  · rw [show n = 30 by omega, todo_end, todo_over]
theorem cdB_all {g : Nat} {w w' : World} {P : List Nat} (h : CdB g w w' (celP P)) (hP : P ++ todo 31 0 = ord) : w'.heap[g]? = some (.cells (tab 257 fun i => .int .u64 (cd i : Int)) 74 (0, 0)) := by
  rw [todo_over, List.append_nil] at hP
  rw [h.row, hP]
  have : tab 257 (celP ord) = tab 257 fun i => .int .u64 (cd i : Int) := by
    apply tab_congr
    intro i _
    unfold celP
    rw [laid_all]
    rfl
  rw [this]
end Hf

set_option maxHeartbeats 4000000 in
set_option maxRecDepth 100000 in
theorem refCodes_is (w : World) :
    Calls Try.prog 57 #[] w fun e w' => e = .returned (.slice (some ⟨w.heap.size, 0, none⟩) 257 257) ∧ w'.heap[w.heap.size]? = some (.cells (tab 257 fun i => .int .u64 (cd i : Int)) 74 (0, 0)) ∧ Below w.heap.size w w' := by
  have hmk := make_codes
  have H0 := Lib.hid (show CdB w.heap.size w (w.alloc (.cells (tab 257 (celP [])) 74)) (celP []) from ⟨(Below.refl _ w).alloc (Nat.le_refl _) _, heap_alloc_new w _⟩)
  obtain ⟨c0, hc0⟩ : ∃ c0, tab 257 (celP []) = c0 := ⟨_, rfl⟩
  rw [hc0] at hmk H0
  clear hc0
  go_enter Try.func57, Try.ntmps57
  go_wp2_with fail
  go_loopw [2, 3, 4, 5] (fun c l b n wr => ∃ (P : List Nat) (N : Nat), 5 ≤ N ∧ N ≤ 31 ∧ c = .int .u64 (lastC P : Int) ∧ l = .int .i64 (lastL P : Int) ∧ b = .bool P.isEmpty ∧ n = .int .i64 (N : Int) ∧ Hid (P ++ todo N 0 = ord) ∧ Hid (CdB w.heap.size w wr (celP P))) (fun _ _ _ n _ => 31 - (intOf n).toNat)
  case atStart => exact ⟨[], 5, by omega, by omega, rfl, rfl, rfl, rfl, Lib.hid todo_all, H0⟩
  clear H0 hmk
  case round =>
    obtain ⟨P, N, h5, h31, rfl, rfl, rfl, rfl, hP, hC⟩ := hrel
    by_cases hlt : N ≤ 30
    · have hdN : decide ((N : Int) ≤ 30) = true := by rw [decide_eq_true_eq]; omega
      go_wp2_with fail
      obtain ⟨wo, rfl⟩ : ∃ wo : World, wo = wr := ⟨_, rfl⟩
      go_loopw [2, 3, 4, 6] (fun c l b n wi => ∃ (P : List Nat) (a : Nat), a ≤ 257 ∧ c = .int .u64 (lastC P : Int) ∧ l = .int .i64 (lastL P : Int) ∧ b = .bool P.isEmpty ∧ n = .int .i64 (a : Int) ∧ Hid (P ++ todo N a = ord) ∧ Hid (CdB w.heap.size w wi (celP P))) (fun _ _ _ n _ => 257 - (intOf n).toNat)
      case atStart => exact ⟨P, 0, by omega, rfl, rfl, rfl, rfl, hP, hC⟩
      clear hP hC
      case round =>
        obtain ⟨P, a, ha, rfl, rfl, rfl, rfl, hP, hC⟩ := hrel
        by_cases hat : a < 257
        · by_cases hno : len a = N
          · by_cases hemp : P = []
            · have hP2 := Lib.hid (show (P ++ [a]) ++ todo N (a + 1) = ord by rw [List.append_assoc]; show P ++ (a :: todo N (a + 1)) = ord; rw [← todo_yes hat hno]; exact hP.out)
              have hpa := hP.out
              rw [todo_yes hat hno] at hpa
              subst hemp
              have hcd : lastL [] ≤ N ∧ 0 * 2 ^ (N - lastL []) = cd a := by
                have := first_code hpa
                rw [← hno]
                exact ⟨Nat.le_of_eq this.1, by rw [Nat.zero_mul]; exact this.2⟩
              have hz0 : (lastC [] : Int) = (0 : Nat) := rfl
              obtain ⟨z, hz⟩ : ∃ z, 0 = z := ⟨_, rfl⟩
              rw [hz] at hcd hz0
              have hzz : (0 : Int) = (z : Int) := by omega
              clear hz
              have hbd := (len_bd hat).2.2.1
              have hl30 := (len_bd hat).2.1
              have hcdb : cd a < 1073741824 := Nat.lt_of_lt_of_le hbd (Nat.pow_le_pow_right (by decide) hl30)
              obtain ⟨L, hL⟩ : ∃ L, lastL [] = L := ⟨_, rfl⟩
              rw [hL] at hcd
              have hC2 := Lib.hid (hC.out.set hat)
              have hx1 : wr.cell? ⟨w.heap.size, a, none⟩ = some (celP [] a) := by rw [cell_of_row _ _ _ _ _ _ hC.out.row, tab_get _ hat]
              have hx2 : wr.frozen? ⟨w.heap.size, a, none⟩ = false := frozen_of_row _ _ _ _ _ hC.out.row
              have heq : ((N : Int) != (N : Int)) = false := bne_self_eq_false _
              have HCD := Lib.hid hcd.2
              have hLN := hcd.1
              have hcN : len a = N := hno
              clear hpa hP hcd hbd hl30 hC
              have RL := refLength_is a wr hat
              rw [hno] at RL
              go_wp2_with fail
              refine RL.mono ?_
              rintro e w' ⟨rfl, rfl⟩
              go_wp2_with fail
              go_loop [2, 3] (fun c l => ∃ (j y : Nat), L + j ≤ N ∧ c = .int .u64 (y : Int) ∧ l = .int .i64 ((L + j : Nat) : Int) ∧ Hid (z * 2 ^ j = y)) (fun _ l => N - (intOf l).toNat)
              case atStart => exact ⟨0, z, by omega, rfl, rfl, Lib.hid (Nat.mul_one z)⟩
              case round =>
                obtain ⟨j, y, hj, rfl, rfl, hy⟩ := hrel
                by_cases hjn : L + j < N
                · have hyb : y * 2 ≤ cd a := by
                    rw [← HCD.out, ← hy.out, Nat.mul_assoc, ← Nat.pow_succ]
                    exact Nat.mul_le_mul_left _ (Nat.pow_le_pow_right (by decide) (by omega))
                  have e1 : IntKind.u64.wrap ((y : Int) * 2) = ((y * 2 : Nat) : Int) := by rw [IntKind.wrap_u64]; omega
                  have HY := Lib.hid (show z * 2 ^ (j + 1) = y * 2 by rw [← hy.out, Nat.pow_succ, Nat.mul_assoc])
                  go_wp2_with fail
                  go_round
                  case rel => exact ⟨j + 1, y * 2, by omega, rfl, rfl, HY⟩
                  case measure => simp [intOf]; omega
                · have e : j = N - L := by omega
                  subst e
                  have hyc : y = cd a := by rw [← hy.out]; exact HCD.out
                  subst hyc
                  go_wp2_with fail
                  go_roundw
                  case rel =>
                    exact ⟨[] ++ [a], a + 1, by omega, by rw [lastC_snoc], by rw [lastL_snoc, hcN]; congr 1; omega, by simp, rfl, hP2, hC2⟩
                  case measure => simp [intOf]; omega
            · have hP2 := Lib.hid (show (P ++ [a]) ++ todo N (a + 1) = ord by rw [List.append_assoc]; show P ++ (a :: todo N (a + 1)) = ord; rw [← todo_yes hat hno]; exact hP.out)
              have hpa := hP.out
              rw [todo_yes hat hno] at hpa
              have hcd : lastL P ≤ N ∧ (lastC P + 1) * 2 ^ (N - lastL P) = cd a := by
                have := next_code hpa hemp
                rw [← hno]
                exact ⟨this.1, this.2.1⟩
              have hzb := (next_code hpa hemp).2.2
              obtain ⟨z, hz⟩ : ∃ z, lastC P + 1 = z := ⟨_, rfl⟩
              rw [hz] at hcd
              have hz0 : IntKind.u64.wrap ((lastC P : Int) + 1) = (z : Int) := by rw [IntKind.wrap_u64]; omega
              clear hzb
              have hpe : P.isEmpty = false := by cases P with
                | nil => exact absurd rfl hemp
                | cons p P => rfl
              have hbd := (len_bd hat).2.2.1
              have hl30 := (len_bd hat).2.1
              have hcdb : cd a < 1073741824 := Nat.lt_of_lt_of_le hbd (Nat.pow_le_pow_right (by decide) hl30)
              obtain ⟨L, hL⟩ : ∃ L, lastL P = L := ⟨_, rfl⟩
              rw [hL] at hcd
              have hC2 := Lib.hid (hC.out.set hat)
              have hx1 : wr.cell? ⟨w.heap.size, a, none⟩ = some (celP P a) := by rw [cell_of_row _ _ _ _ _ _ hC.out.row, tab_get _ hat]
              have hx2 : wr.frozen? ⟨w.heap.size, a, none⟩ = false := frozen_of_row _ _ _ _ _ hC.out.row
              have heq : ((N : Int) != (N : Int)) = false := bne_self_eq_false _
              have HCD := Lib.hid hcd.2
              have hLN := hcd.1
              have hcN : len a = N := hno
              clear hpa hP hcd hbd hl30 hC
              have RL := refLength_is a wr hat
              rw [hno] at RL
              go_wp2_with fail
              refine RL.mono ?_
              rintro e w' ⟨rfl, rfl⟩
              go_wp2_with fail
              go_loop [2, 3] (fun c l => ∃ (j y : Nat), L + j ≤ N ∧ c = .int .u64 (y : Int) ∧ l = .int .i64 ((L + j : Nat) : Int) ∧ Hid (z * 2 ^ j = y)) (fun _ l => N - (intOf l).toNat)
              case atStart => exact ⟨0, z, by omega, rfl, rfl, Lib.hid (Nat.mul_one z)⟩
              case round =>
                obtain ⟨j, y, hj, rfl, rfl, hy⟩ := hrel
                by_cases hjn : L + j < N
                · have hyb : y * 2 ≤ cd a := by
                    rw [← HCD.out, ← hy.out, Nat.mul_assoc, ← Nat.pow_succ]
                    exact Nat.mul_le_mul_left _ (Nat.pow_le_pow_right (by decide) (by omega))
                  have e1 : IntKind.u64.wrap ((y : Int) * 2) = ((y * 2 : Nat) : Int) := by rw [IntKind.wrap_u64]; omega
                  have HY := Lib.hid (show z * 2 ^ (j + 1) = y * 2 by rw [← hy.out, Nat.pow_succ, Nat.mul_assoc])
                  go_wp2_with fail
                  go_round
                  case rel => exact ⟨j + 1, y * 2, by omega, rfl, rfl, HY⟩
                  case measure => simp [intOf]; omega
                · have e : j = N - L := by omega
                  subst e
                  have hyc : y = cd a := by rw [← hy.out]; exact HCD.out
                  subst hyc
                  go_wp2_with fail
                  go_roundw
                  case rel =>
                    exact ⟨P ++ [a], a + 1, by omega, by rw [lastC_snoc], by rw [lastL_snoc, hcN]; congr 1; omega, by simp, rfl, hP2, hC2⟩
                  case measure => simp [intOf]; omega
          · have hP2 := Lib.hid (show P ++ todo N (a + 1) = ord by rw [← todo_no hat hno]; exact hP.out)
            have hne : ((len a : Int) != (N : Int)) = true := by rw [bne_iff_ne]; omega
            go_wp2_with fail
            refine (refLength_is a _ hat).mono ?_
            rintro e w' ⟨rfl, rfl⟩
            go_wp2_with fail
            go_roundw
            case rel =>
              exact ⟨P, a + 1, by omega, rfl, rfl, rfl, rfl, hP2, hC⟩
            case measure => simp [intOf]; omega
        · have e : a = 257 := by omega
          subst e
          have hP2 := Lib.hid (show P ++ todo (N + 1) 0 = ord by rw [← todo_up hlt]; exact hP.out)
          go_wp2_with fail
          go_roundw
          case rel => exact ⟨P, N + 1, by omega, by omega, rfl, rfl, rfl, rfl, hP2, hC⟩
          case measure => simp [intOf]; omega
    · have e : N = 31 := by omega
      subst e
      go_wp2_with fail
      go_ret
      exact ⟨rfl, cdB_all hC.out hP.out, hC.out.below⟩
end Go.Proofs.Ytaoomjbkfcbfpaa
