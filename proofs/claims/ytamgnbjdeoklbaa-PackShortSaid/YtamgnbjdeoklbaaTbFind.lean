/- The contract of the document's Find. For tables of at most 30000 entries. -/
import Derived.Test.YtamgnbjdeoklbaaProg
import Derived.Test.YtamgnbjdeoklbaaTbMath
import Derived.Test.YtamgnbjdeoklbaaTbMem
import Derived.Test.YtamgnbjdeoklbaaTbRef
import Derived.Test.YtamgnbjdeoklbaaTbFix
import Derived.Test.YtamgnbjdeoklbaaTbLeast
import Derived.Test.YtamgnbjdeoklbaaTbAll
import Derived.Test.YtamgnbjdeoklbaaTbAt
import Derived.WalkKit
import Derived.Lib.Hide
import Derived.Lib.Strings
import Derived.Outline
import Derived.IntWalk
import Derived.WalkSpells
import Derived.WalkLawsBesides
namespace Go.Proofs.Ytamgnbjdeoklbaa
open Go.RowKit Tb

namespace Tb
theorem txt_eq (s t : ByteArray) : (s.toList == t.toList) = decide (s = t) := by
  rw [Lib.toList_data, Lib.toList_data]
  by_cases h : s = t
  · subst h; simp
  · have : s.data.toList ≠ t.data.toList := fun e => h (ByteArray.ext (Array.toList_inj.1 e))
    rw [decide_eq_false h]
    exact beq_eq_false_iff_ne.2 this
theorem findW_step {n v : ByteArray} {l : List Ent} {j : Nat} {X : Option Nat} (h : findW n v (l.drop j) j = X) (hj : j < l.length) : (if (entAt l j).1 = n ∧ (entAt l j).2 = v then some (j + 1) else findW n v (l.drop (j + 1)) (j + 1)) = X := by
  rw [entAt_drop hj, findW] at h
  exact h
theorem findN_step {n : ByteArray} {l : List Ent} {j : Nat} {X : Option Nat} (h : findN n (l.drop j) j = X) (hj : j < l.length) : (if (entAt l j).1 = n then some (j + 1) else findN n (l.drop (j + 1)) (j + 1)) = X := by
  rw [entAt_drop hj, findN] at h
  exact h
end Tb

set_option maxHeartbeats 4000000 in
set_option maxRecDepth 100000 in
theorem refFind_is (M : Int) (A : Option Addr) (n c : Nat) (L : List Ent) (x y : ByteArray) (r : Nat) (q : Bool) (w : World) (h : Hid (TabE w w.heap.size A n c L)) (hL : Hid (L.length = n)) (hb : n ≤ 30000) (hR : Hid (findT x y (fixedT ++ L) = (r, q))) :
    Calls Try.prog 39 #[.agg #[.int .i64 M, .slice A n c], .string x, .string y] w fun e w' => e = .returned (.tuple #[.int .i64 (r : Int), .bool q]) ∧ Below w.heap.size w w' := by
  have hlen : (fixedT ++ L).length = 61 + n := by rw [List.length_append, hL.out]; rfl
  obtain ⟨l, hl⟩ : ∃ l, fixedT ++ L = l := ⟨_, rfl⟩
  rw [hl] at hlen hR
  have HLN := Lib.hid hlen
  have K0 := heap_alloc_new w (.cells #[.int .i64 M, .slice A n c] 49)
  obtain ⟨a1, a2, a3, a4⟩ := two_cells K0
  have HB0 := Lib.hid ((Below.refl w.heap.size w).alloc (Nat.le_refl _) (.cells #[.int .i64 M, .slice A n c] 49))
  have HLL := Lib.hid hl
  clear K0 hlen hl
  go_enter Try.func39, Try.ntmps39
  go_wp2_with fail
  generalize (w.alloc (.cells #[.int .i64 M, .slice A n c] 49)) = W at *
  refine (all_is M A n c L W (Lib.hid (h.out.on HB0.out HB0.out.size)) hb).mono ?_
  rintro e w3 ⟨g, cap, rfl, hrd0, hB⟩
  rw [HLL.out] at hrd0
  have hrd := Lib.hid hrd0
  have HN3 := Lib.hid (HB0.out.trans (hB.mono HB0.out.size))
  obtain ⟨X, hX⟩ : ∃ X, findW x y l 0 = X := ⟨_, rfl⟩
  obtain ⟨Y, hY⟩ : ∃ Y, findN x l 0 = Y := ⟨_, rfl⟩
  have hRR := hR.out
  unfold findT at hRR
  rw [hX, hY] at hRR
  have HRR := Lib.hid hRR
  have HX0 := Lib.hid hX
  have HY0 := Lib.hid hY
  clear hrd0 hB hX hY hRR a1 a2 a3 a4
  go_wp2_with fail
  go_loop [9] (fun i => ∃ j : Nat, j ≤ 61 + n ∧ i = .int .i64 (j : Int) ∧ Hid (findW x y (l.drop j) j = X)) (fun i => 61 + n - (intOf i).toNat)
  case atStart => exact ⟨0, by omega, rfl, HX0⟩
  case round =>
    obtain ⟨j, hj, rfl, hF⟩ := hrel
    by_cases hlt : j < 61 + n
    · have hjl : j < l.length := by rw [HLN.out]; exact hlt
      obtain ⟨b5, o5, hA5, _, hc1, hc2⟩ := hrd.out.get hjl
      injection hA5 with hA5
      injection hA5 with e1 e2
      subst e1 e2
      rw [Nat.zero_add] at hc1 hc2
      have hF1 := findW_step hF.out hjl
      obtain ⟨e, he⟩ : ∃ e, entAt l j = e := ⟨_, rfl⟩
      rw [he] at hc1 hc2 hF1
      obtain ⟨nm, vl⟩ := e
      have hj1 : (0 : Int) ≤ (j : Int) := by omega
      have hj2 : (j : Int) < 61 + (n : Int) := by omega
      have ew : IntKind.i64.wrap ((j : Int) + 1) = ((j + 1 : Nat) : Int) := by rw [IntKind.wrap_i64]; omega
      have g1 := txt_eq nm x
      have g2 := txt_eq vl y
      clear hjl he hF
      by_cases h1 : nm = x
      · rw [decide_eq_true h1] at g1
        by_cases h2 : vl = y
        · rw [decide_eq_true h2] at g2
          rw [if_pos ⟨h1, h2⟩] at hF1
          have hr := HRR.out
          rw [← hF1] at hr
          injection hr with hr hq
          subst hr hq
          clear hF1 h1 h2
          go_wp2_with fail
          go_ret2
          exact ⟨rfl, HN3.out⟩
        · rw [decide_eq_false h2] at g2
          rw [if_neg (fun h => h2 h.2)] at hF1
          have HF1 := Lib.hid hF1
          clear hF1 h1 h2
          go_wp2_with fail
          go_round
          case rel => exact ⟨j + 1, by omega, rfl, HF1⟩
          case measure => simp [intOf] <;> omega
      · rw [decide_eq_false h1] at g1
        rw [if_neg (fun h => h1 h.1)] at hF1
        have HF1 := Lib.hid hF1
        clear hF1 h1
        go_wp2_with fail
        go_round
        case rel => exact ⟨j + 1, by omega, rfl, HF1⟩
        case measure => simp [intOf] <;> omega
    · have hXn : X = none := by
        rw [← hF.out, List.drop_of_length_le (by rw [HLN.out]; omega)]
        rfl
      have hr := HRR.out
      rw [hXn] at hr
      have HR2 := Lib.hid hr
      have hdj : decide ((j : Int) < 61 + (n : Int)) = false := by rw [decide_eq_false_iff_not]; omega
      clear hF hr hXn
      go_wp2_with fail
      go_loop [10] (fun i => ∃ j : Nat, j ≤ 61 + n ∧ i = .int .i64 (j : Int) ∧ Hid (findN x (l.drop j) j = Y)) (fun i => 61 + n - (intOf i).toNat)
      case atStart => exact ⟨0, by omega, rfl, HY0⟩
      case round =>
        obtain ⟨j, hj, rfl, hF⟩ := hrel
        by_cases hlt : j < 61 + n
        · have hjl : j < l.length := by rw [HLN.out]; exact hlt
          obtain ⟨b5, o5, hA5, _, hc1, hc2⟩ := hrd.out.get hjl
          injection hA5 with hA5
          injection hA5 with e1 e2
          subst e1 e2
          rw [Nat.zero_add] at hc1 hc2
          have hF1 := findN_step hF.out hjl
          obtain ⟨e, he⟩ : ∃ e, entAt l j = e := ⟨_, rfl⟩
          rw [he] at hc1 hc2 hF1
          obtain ⟨nm, vl⟩ := e
          have hj1 : (0 : Int) ≤ (j : Int) := by omega
          have hj2 : (j : Int) < 61 + (n : Int) := by omega
          have ew : IntKind.i64.wrap ((j : Int) + 1) = ((j + 1 : Nat) : Int) := by rw [IntKind.wrap_i64]; omega
          have g1 := txt_eq nm x
          clear hjl he hF
          by_cases h1 : nm = x
          · rw [decide_eq_true h1] at g1
            rw [if_pos h1] at hF1
            have hr := HR2.out
            rw [← hF1] at hr
            injection hr with hr hq
            subst hr hq
            clear hF1 h1
            go_wp2_with fail
            go_ret2
            exact ⟨rfl, HN3.out⟩
          · rw [decide_eq_false h1] at g1
            rw [if_neg h1] at hF1
            have HF1 := Lib.hid hF1
            clear hF1 h1
            go_wp2_with fail
            go_round
            case rel => exact ⟨j + 1, by omega, rfl, HF1⟩
            case measure => simp [intOf] <;> omega
        · have hYn : Y = none := by
            rw [← hF.out, List.drop_of_length_le (by rw [HLN.out]; omega)]
            rfl
          have hr := HR2.out
          rw [hYn] at hr
          injection hr with hr hq
          subst hr hq
          clear hF hYn
          go_wp2_with fail
          go_ret2
          exact ⟨rfl, HN3.out⟩
end Go.Proofs.Ytamgnbjdeoklbaa
