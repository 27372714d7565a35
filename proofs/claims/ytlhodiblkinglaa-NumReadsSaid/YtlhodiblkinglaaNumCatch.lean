/- The contracts of num's reader where it gives up, and of the deferred closure that recovers that. For texts of at most 2^47 - 4096 bytes. -/
import Derived.Test.YtlhodiblkinglaaProg
import Derived.Test.YtlhodiblkinglaaNumRead
import Derived.WalkKit
import Derived.Lib.Hide
import Derived.Laws.Rows
import Derived.Outline
import Derived.IntWalk
import Derived.WalkSpells
import Derived.WalkLawsBesides
import Derived.Deep.QuietTactic
import Derived.BigQuiet
import Derived.Deep.RegionHeld3
import Derived.Deep.Draws
import Derived.Defers
import Derived.Recover
namespace Go.Proofs.Ytlhodiblkinglaa
open Go.RowKit NumMath

theorem quiet_left {P : Program} {f : FuncId} {args : Array Value} {w : World} {n : Nat} {v : Value}
    (h : Calls P f args (w.drewN n) fun e w' => e = .returned v ∧ w.drewN n = w') : Calls P f args (w.drewN n) fun e w'' => e = .returned v ∧ ∃ m, w'' = w.drewN m :=
  h.mono fun _ _ ⟨he, hm⟩ => ⟨he, n, hm.symm⟩

/-- The panic of a reader that gives up. -/
abbrev gaveUp : Ending := .panicked [{ v := .iface 54 (.int .i64 2), recovered := false }]

theorem get_rdr (s : ByteArray) (r p n : Nat) (w : World) (h : RdrAt w r s p) (hs : s.size ≤ 140737488351232) (hn1 : 1 ≤ n) (hn : n ≤ 8) (hi : p + n ≤ s.size) :
    Calls Try.prog 10 #[.string s, .int .i64 p, .int .i64 n] w fun e w' => e = .returned (.tuple #[.int .u64 (be ((s.data.toList.drop p).take n) : Nat), .bool true]) ∧ w'.cell? ⟨r, 0, none⟩ = some (.string s) ∧ w'.cell? ⟨r, 1, none⟩ = some (.int .i64 p) ∧ Hid (RdrAt w' r s p) ∧ Hid (w = w') :=
  (get_yes s p n w (by unfold maxLen; omega) hn1 hn hi).mono fun _ _ ⟨he, hw⟩ => by subst hw; exact ⟨he, h.c0, h.c1, h, rfl⟩

theorem num_yes (s : ByteArray) (r p n : Nat) (w : World) (h : RdrAt w r s p) (hn1 : 1 ≤ n) (hn : n ≤ 8) (hp : p + n ≤ s.size) (hs : s.size ≤ 140737488351232) :
    Calls Try.prog 28 #[.pointer (some ⟨r, 0, none⟩), .int .i64 n] w fun e w' => e = .returned (.int .u64 (be ((s.data.toList.drop p).take n) : Nat)) ∧ RdrAt w' r s (p + n) ∧ w.grownBy w' (some r) := by
  have h0 := h.c0
  have h1 := h.c1
  have H := Lib.hid h
  clear h
  go_enter Try.func28, Try.ntmps28
  go_wp2_with fail
  go_region_held3 (fun w' => w'.cell? ⟨r, 0, none⟩ = some (.string s) ∧ w'.cell? ⟨r, 1, none⟩ = some (.int .i64 p)) (go_keep)
    (first | (go_at_call 10; refine (get_rdr s r p n _ ?_ hs hn1 hn hp).mono ?_; exact H.out; rintro e w1 ⟨rfl, hk0, hk1, hK, hB⟩))
  have hfz := hK.out.f1 1
  have hK2 := Lib.hid (hK.out.set (p + n))
  go_wp2_with fail
  go_ret
  refine ⟨rfl, ?_, ?_⟩
  · have := hK2.out; rwa [Int.natCast_add] at this
  · have hB' : Below w.heap.size w w1 := by
      have := hB.out
      subst this
      exact (Below.refl _ w).drew
    exact only_setCell (g := r) (only_of_below hB' _) (p := ⟨r, 1, none⟩) (.inl rfl) _

theorem num_no (s : ByteArray) (r p : Nat) (n : Int) (w : World) (h : RdrAt w r s p) (hs : s.size ≤ 140737488351232) (hp : p ≤ s.size) (hz1 : -9223372036854775808 ≤ n) (hz : n ≤ 9223372036854775807)
    (hno : n < 1 ∨ 8 < n ∨ holdsB s.size p n = false) :
    Calls Try.prog 28 #[.pointer (some ⟨r, 0, none⟩), .int .i64 n] w fun e w' => e = gaveUp ∧ ∃ m, w' = w.drewN m := by
  have h0 := h.c0
  have h1 := h.c1
  clear h
  have HN := Lib.hid hno; clear hno
  go_enter Try.func28, Try.ntmps28
  go_wp2_with fail
  go_quiet ((go_at_call 10; exact quiet_left (get_no s p n _ (by unfold maxLen; omega) hz1 hz (by omega) (by omega) HN.out)))
  go_wp2_with fail
  exact ⟨rfl, rfl, _, rfl⟩

theorem text_no (s : ByteArray) (r p : Nat) (n : Int) (w : World) (h : RdrAt w r s p) (hs : s.size ≤ 140737488351232) (hp : p ≤ s.size) (hz1 : -9223372036854775808 ≤ n) (hz : n ≤ 9223372036854775807)
    (hno : holdsB s.size p n = false) :
    Calls Try.prog 24 #[.pointer (some ⟨r, 0, none⟩), .int .i64 n] w fun e w' => e = gaveUp ∧ ∃ m, w' = w.drewN m := by
  have h0 := h.c0
  have h1 := h.c1
  clear h
  have HN := Lib.hid hno; clear hno
  go_enter Try.func24, Try.ntmps24
  go_wp2_with fail
  go_quiet ((go_at_call 23; exact quiet_left (part_no s p n _ (by unfold maxLen; omega) hz1 hz (by omega) (by omega) HN.out)))
  go_wp2_with fail
  exact ⟨rfl, rfl, _, rfl⟩

theorem assert_hit (v : Value) (w : World) : (Instr.typeAssert (.iface 54 v) 20 54 true).run Try.prog w = .ok (.tuple #[v, .bool true]) w := by kernel_rfl
theorem assert_nil (w : World) : (Instr.typeAssert .nilIface 20 54 true).run Try.prog w = .ok (.tuple #[.int .i64 0, .bool false]) w := by kernel_rfl

theorem catch_panicking (q : Addr) (x : Bool) (w : World) (hc : w.cell? q = some (.bool x)) (hz : w.frozen? q = false) :
    CallsD Try.prog 27 #[.pointer (some q)] (.panicking [{ v := .iface 54 (.int .i64 2), recovered := false }]) w fun e u' w' =>
      e = .returned (.tuple #[]) ∧ u' = .panicking [{ v := .iface 54 (.int .i64 2), recovered := true }] ∧ w' = w.setCell q (.bool true) := by
  refine callsD_of_wpS Try.func27 rfl fun c₀ cs hu => ?_
  apply wpS_seq
  apply wpS_region
  simp [wpOpsS, go_sem, recoverD, hu, Try.ntmps27, Exit.thenS, assert_hit]
  apply wpS_region
  simp [wpOpsS, go_sem, hc, hz, bodyPostS, results, Try.results27]

theorem catch_idle (q : Addr) (x : Bool) (w : World) (hc : w.cell? q = some (.bool x)) (hz : w.frozen? q = false) :
    CallsD Try.prog 27 #[.pointer (some q)] .returning w fun e u' w' => e = .returned (.tuple #[]) ∧ u' = .returning ∧ w' = w.setCell q (.bool false) := by
  refine callsD_of_wpS Try.func27 rfl fun c₀ cs hu => ?_
  apply wpS_seq
  apply wpS_region
  simp [wpOpsS, go_sem, recoverD, hu, Try.ntmps27, Exit.thenS, assert_nil]
  apply wpS_region
  simp [wpOpsS, go_sem, hc, hz, bodyPostS, results, Try.results27]
  cases c₀
  simp at hu
  subst hu
  rfl
end Go.Proofs.Ytlhodiblkinglaa
