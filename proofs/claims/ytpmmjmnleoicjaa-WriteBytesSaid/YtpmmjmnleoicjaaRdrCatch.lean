/- The contract of dnsread's caught: the error that a reading gave up with, or none. No condition. -/
import Derived.Test.YtpmmjmnleoicjaaProg
import Derived.Test.YtpmmjmnleoicjaaRdr
import Derived.WalkKit
import Derived.Lib.Hide
import Derived.Laws.Rows
import Derived.Outline
import Derived.IntWalk
import Derived.WalkSpells
import Derived.WalkLawsBesides
import Derived.Defers
import Derived.Recover
namespace Go.Proofs.Ytpmmjmnleoicjaa
open Go.RowKit

theorem assert_hit (v : Value) (w : World) : (Instr.typeAssert (.iface 30 v) 20 30 false).run Try.prog w = .ok v w := by kernel_rfl

theorem catch_panicking (q : Addr) (k : Nat) (x : Value) (w : World) (hc : w.cell? q = some x) (hz : w.frozen? q = false) :
    CallsD Try.prog 95 #[.pointer (some q)] (.panicking [{ v := .iface 30 (.int .i64 k), recovered := false }]) w fun e u' w' =>
      e = .returned (.tuple #[]) ∧ u' = .panicking [{ v := .iface 30 (.int .i64 k), recovered := true }] ∧ w' = w.setCell q (.int .i64 k) := by
  refine callsD_of_wpS Try.func95 rfl fun c₀ cs hu => ?_
  apply wpS_seq
  apply wpS_region
  simp [wpOpsS, go_sem, recoverD, hu, Try.ntmps95, Exit.thenS]
  apply wpS_seq
  apply wpS_region
  simp [wpOpsS, go_sem, Exit.thenS]
  refine wpS_cond (t := true) rfl ?_
  simp only [if_true]
  apply wpS_region
  simp [wpOpsS, go_sem, assert_hit, hc, hz, bodyPostS, results, Try.results95]

theorem catch_idle (q : Addr) (w : World) :
    CallsD Try.prog 95 #[.pointer (some q)] .returning w fun e u' w' => e = .returned (.tuple #[]) ∧ u' = .returning ∧ w' = w := by
  refine callsD_of_wpS Try.func95 rfl fun c₀ cs hu => ?_
  apply wpS_seq
  apply wpS_region
  simp [wpOpsS, go_sem, recoverD, hu, Try.ntmps95, Exit.thenS]
  apply wpS_seq
  apply wpS_region
  simp [wpOpsS, go_sem, Exit.thenS]
  refine wpS_cond (t := false) rfl ?_
  apply wpS_of_wp
  go_wp2_with fail
  simp [bodyPostS, results, Try.results95]
  cases c₀
  simp at hu
  subst hu
  rfl

theorem caught_noRead (k : Nat) (cap : Array Value) (Q : World → Prop) (w : World)
    (hc : Calls Try.prog 55 cap (w.alloc (.cells #[.int .i64 0] 30)) fun e w' => e = gave k ∧ w'.heap[w.heap.size]? = some (.cells #[.int .i64 0] 30 (0, 0)) ∧ Q w') :
    Calls Try.prog 54 #[.func (.func 55) #[] cap] w fun e w' => e = .returned (.int .i64 k) ∧ ∃ w1, Q w1 ∧ w' = w1.setCell ⟨w.heap.size, 0, none⟩ (.int .i64 k) := by
  have hmf : ∀ (fn : Fn) (first cap : Array Value) (w : World), (Instr.makeFunc fn first cap).run Try.prog w = .ok (.func fn first cap) w := fun _ _ _ _ => rfl
  have HC := Lib.hid hc; clear hc
  go_enter_defers Try.func54, Try.ntmps54
  go_wp2_with fail
  refine HC.out.mono ?_
  rintro e w1 ⟨rfl, hblk, hQ⟩
  have hcb := cell_of_row w1 _ 0 _ _ _ hblk
  have hzb : w1.frozen? ⟨w.heap.size, 0, none⟩ = false := by simp [World.frozen?, hblk]
  have HQ := Lib.hid hQ; clear hQ hblk
  go_wp2_with fail
  refine leaves_cons (f := 95) (args := #[.pointer (some ⟨w.heap.size, 0, none⟩)]) (by simp) (by simp [go_sem]) ?_
  refine (catch_panicking ⟨w.heap.size, 0, none⟩ k _ _ hcb hzb).mono ?_
  rintro e u' w'' ⟨rfl, rfl, rfl⟩
  simp [Leaves, settle, results, Try.results54, go_sem, hcb]
  exact ⟨w1, HQ.out, rfl⟩

theorem caught_yesRead (cap : Array Value) (Q : World → Prop) (w : World)
    (hc : Calls Try.prog 55 cap (w.alloc (.cells #[.int .i64 0] 30)) fun e w' => e = .returned (.tuple #[]) ∧ w'.heap[w.heap.size]? = some (.cells #[.int .i64 0] 30 (0, 0)) ∧ Q w') :
    Calls Try.prog 54 #[.func (.func 55) #[] cap] w fun e w' => e = .returned (.int .i64 0) ∧ ∃ w1, Q w1 ∧ w' = w1.setCell ⟨w.heap.size, 0, none⟩ (.int .i64 0) := by
  have hmf : ∀ (fn : Fn) (first cap : Array Value) (w : World), (Instr.makeFunc fn first cap).run Try.prog w = .ok (.func fn first cap) w := fun _ _ _ _ => rfl
  have HC := Lib.hid hc; clear hc
  go_enter_defers Try.func54, Try.ntmps54
  go_wp2_with fail
  refine HC.out.mono ?_
  rintro e w1 ⟨rfl, hblk, hQ⟩
  have hcb := cell_of_row w1 _ 0 _ _ _ hblk
  have hzb : w1.frozen? ⟨w.heap.size, 0, none⟩ = false := by simp [World.frozen?, hblk]
  have HQ := Lib.hid hQ; clear hQ hblk
  go_wp2_with fail
  refine leaves_cons (f := 95) (args := #[.pointer (some ⟨w.heap.size, 0, none⟩)]) (by simp) (by simp [go_sem]) ?_
  refine (catch_idle ⟨w.heap.size, 0, none⟩ _).mono ?_
  rintro e u' w'' ⟨rfl, rfl, rfl⟩
  simp [Leaves, settle, results, Try.results54, go_sem, hcb]
  exact ⟨w1, HQ.out, rfl⟩
end Go.Proofs.Ytpmmjmnleoicjaa
