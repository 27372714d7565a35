/- The contracts of rdata's Shape and of the document's Shape. No condition. -/
import Derived.Test.YtpmmjmnleoicjaaProg
import Derived.Test.YtpmmjmnleoicjaaRecMath
import Derived.WalkKit
import Derived.Lib.Hide
import Derived.Outline
import Derived.IntWalk
import Derived.WalkSpells
namespace Go.Proofs.Ytpmmjmnleoicjaa
open Go.RowKit Bytes RecMath

theorem int_ne {k n : Nat} (h : k ≠ n) : ((k : Int) == (n : Int)) = false := beq_eq_false_iff_ne.2 (by omega)
theorem int_eq {k n : Nat} (h : k = n) : ((k : Int) == (n : Int)) = true := beq_iff_eq.2 (by omega)
theorem int_nne {k n : Nat} (h : k ≠ n) : ((k : Int) != (n : Int)) = true := bne_iff_ne.2 (by omega)
theorem int_neq {k n : Nat} (h : k = n) : ((k : Int) != (n : Int)) = false := bne_eq_false_iff_eq.2 (by omega)

set_option maxHeartbeats 1000000 in
theorem shape_is (k a b c : Nat) (w : World) (ha : Hid (shA k = a)) (hb : Hid (shB k = b)) (hc : Hid (shC k = c)) :
    Calls Try.prog 106 #[.int .u16 k] w fun e w' => e = .returned (.tuple #[.int .i64 a, .int .i64 b, .int .i64 c]) ∧ w = w' := by
  have ha' := ha.out
  have hb' := hb.out
  have hc' := hc.out
  unfold shA at ha'
  unfold shB at hb'
  unfold shC at hc'
  clear ha hb hc
  by_cases h2 : k = 2
  · subst h2; simp at ha' hb' hc'; subst ha'; subst hb'; subst hc'
    go_enter Try.func106, Try.ntmps106
    go_wp2
    go_ret3
    exact ⟨rfl, rfl⟩
  by_cases h5 : k = 5
  · subst h5; simp at ha' hb' hc'; subst ha'; subst hb'; subst hc'
    go_enter Try.func106, Try.ntmps106
    go_wp2
    go_ret3
    exact ⟨rfl, rfl⟩
  by_cases h12 : k = 12
  · subst h12; simp at ha' hb' hc'; subst ha'; subst hb'; subst hc'
    go_enter Try.func106, Try.ntmps106
    go_wp2
    go_ret3
    exact ⟨rfl, rfl⟩
  by_cases h6 : k = 6
  · subst h6; simp at ha' hb' hc'; subst ha'; subst hb'; subst hc'
    go_enter Try.func106, Try.ntmps106
    go_wp2
    go_ret3
    exact ⟨rfl, rfl⟩
  by_cases h15 : k = 15
  · subst h15; simp at ha' hb' hc'; subst ha'; subst hb'; subst hc'
    go_enter Try.func106, Try.ntmps106
    go_wp2
    go_ret3
    exact ⟨rfl, rfl⟩
  by_cases h33 : k = 33
  · subst h33; simp at ha' hb' hc'; subst ha'; subst hb'; subst hc'
    go_enter Try.func106, Try.ntmps106
    go_wp2
    go_ret3
    exact ⟨rfl, rfl⟩
  · simp only [h2, h5, h12, h6, h15, h33, or_self, if_false] at ha' hb' hc'
    subst ha'; subst hb'; subst hc'
    have g2 : ((k : Int) == 2) = false := int_ne h2
    have g5 : ((k : Int) == 5) = false := int_ne h5
    have g12 : ((k : Int) == 12) = false := int_ne h12
    have g6 : ((k : Int) == 6) = false := int_ne h6
    have g15 : ((k : Int) == 15) = false := int_ne h15
    have g33 : ((k : Int) == 33) = false := int_ne h33
    clear h2 h5 h12 h6 h15 h33
    go_enter Try.func106, Try.ntmps106
    go_wp2
    go_ret3
    exact ⟨rfl, rfl⟩

set_option maxHeartbeats 1000000 in
theorem refShape_is (k a b c : Nat) (w : World) (ha : Hid (shA k = a)) (hb : Hid (shB k = b)) (hc : Hid (shC k = c)) :
    Calls Try.prog 118 #[.int .u16 k] w fun e w' => e = .returned (.tuple #[.int .i64 a, .int .i64 b, .int .i64 c]) ∧ w = w' := by
  have ha' := ha.out
  have hb' := hb.out
  have hc' := hc.out
  unfold shA at ha'
  unfold shB at hb'
  unfold shC at hc'
  clear ha hb hc
  by_cases h2 : k = 2
  · subst h2; simp at ha' hb' hc'; subst ha'; subst hb'; subst hc'
    go_enter Try.func118, Try.ntmps118
    go_wp2
    go_ret3
    exact ⟨rfl, rfl⟩
  by_cases h5 : k = 5
  · subst h5; simp at ha' hb' hc'; subst ha'; subst hb'; subst hc'
    go_enter Try.func118, Try.ntmps118
    go_wp2
    go_ret3
    exact ⟨rfl, rfl⟩
  by_cases h12 : k = 12
  · subst h12; simp at ha' hb' hc'; subst ha'; subst hb'; subst hc'
    go_enter Try.func118, Try.ntmps118
    go_wp2
    go_ret3
    exact ⟨rfl, rfl⟩
  by_cases h6 : k = 6
  · subst h6; simp at ha' hb' hc'; subst ha'; subst hb'; subst hc'
    go_enter Try.func118, Try.ntmps118
    go_wp2
    go_ret3
    exact ⟨rfl, rfl⟩
  by_cases h15 : k = 15
  · subst h15; simp at ha' hb' hc'; subst ha'; subst hb'; subst hc'
    go_enter Try.func118, Try.ntmps118
    go_wp2
    go_ret3
    exact ⟨rfl, rfl⟩
  by_cases h33 : k = 33
  · subst h33; simp at ha' hb' hc'; subst ha'; subst hb'; subst hc'
    go_enter Try.func118, Try.ntmps118
    go_wp2
    go_ret3
    exact ⟨rfl, rfl⟩
  · simp only [h2, h5, h12, h6, h15, h33, or_self, if_false] at ha' hb' hc'
    subst ha'; subst hb'; subst hc'
    have g2 : ((k : Int) == 2) = false := int_ne h2
    have g5 : ((k : Int) == 5) = false := int_ne h5
    have g12 : ((k : Int) == 12) = false := int_ne h12
    have g6 : ((k : Int) == 6) = false := int_ne h6
    have g15 : ((k : Int) == 15) = false := int_ne h15
    have g33 : ((k : Int) == 33) = false := int_ne h33
    clear h2 h5 h12 h6 h15 h33
    go_enter Try.func118, Try.ntmps118
    go_wp2
    go_ret3
    exact ⟨rfl, rfl⟩
end Go.Proofs.Ytpmmjmnleoicjaa
