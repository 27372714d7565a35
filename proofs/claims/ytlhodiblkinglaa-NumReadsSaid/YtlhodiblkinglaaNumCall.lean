/- The contracts of the law's call of a reader: with what it is handed, and where the reader gives up, which is recovered. For texts of at most 2^47 - 4096 bytes. -/
import Derived.Test.YtlhodiblkinglaaProg
import Derived.Test.YtlhodiblkinglaaNumRead
import Derived.Test.YtlhodiblkinglaaNumCatch
import Derived.WalkKit
import Derived.Lib.Hide
import Derived.Laws.Rows
import Derived.Outline
import Derived.IntWalk
import Derived.WalkSpells
import Derived.WalkLawsBesides
import Derived.Deep.QuietTactic
import Derived.BigQuiet
import Derived.Deep.RegionHeld3
import Derived.Deep.Draws
import Derived.Defers
import Derived.Recover
namespace Go.Proofs.Ytlhodiblkinglaa
open Go.RowKit NumMath

theorem grown_block {a b : World} {r k : Nat} (h : a.grownBy b (some r)) (hk : k < a.heap.size) (hne : k ≠ r) : b.heap[k]? = a.heap[k]? :=
  h.block k hk (fun e => by injection e with e; exact hne e)
theorem grown_drewN {a w : World} {row : Option Nat} (h : a.grownBy w row) (n : Nat) : a.grownBy (w.drewN n) row := ⟨h.os, h.tape, h.output, h.size, h.block⟩
theorem grown_trans {a b c : World} {r : Nat} (h : a.grownBy b (some r)) (k : b.grownBy c (some r)) : a.grownBy c (some r) :=
  ⟨k.os.trans h.os, k.tape.trans h.tape, k.output.trans h.output, Nat.le_trans h.size k.size, fun i hi hne => (k.block i (Nat.lt_of_lt_of_le hi h.size) hne).trans (h.block i hi hne)⟩

theorem RdrAt.far {W : World} {r : Nat} {s : ByteArray} {p : Nat} (h : RdrAt W r s p) {q : Addr} (hq : r ≠ q.block) (v : Value) : RdrAt (W.setCell q v) r s p := (Below.heap_setCell W q v r hq).trans h

/-- The world in which the reader is asked: two new blocks, the act's and the one of the answer 'gave'. -/
theorem asked_facts (w : World) (r p : Nat) (s : ByteArray) (b : Bool) (n : Int) (h : RdrAt w r s p) :
    RdrAt ((w.alloc (.cells #[.bool b, .int .i64 n] 38)).alloc (.cells #[.bool false] 4)) r s p ∧
    w.grownBy ((w.alloc (.cells #[.bool b, .int .i64 n] 38)).alloc (.cells #[.bool false] 4)) (some r) := by
  have hB : Below w.heap.size w ((w.alloc (.cells #[.bool b, .int .i64 n] 38)).alloc (.cells #[.bool false] 4)) := ((Below.refl _ _).alloc (Nat.le_refl _) _).alloc (by simp) _
  exact ⟨h.below hB h.lt, only_of_below hB _⟩

theorem call_num_no (s : ByteArray) (r p : Nat) (n : Int) (w : World) (h : RdrAt w r s p) (hs : s.size ≤ 140737488351232) (hp : p ≤ s.size) (hz1 : -9223372036854775808 ≤ n) (hz : n ≤ 9223372036854775807)
    (hno : n < 1 ∨ 8 < n ∨ holdsB s.size p n = false) :
    Calls Try.prog 18 #[.pointer (some ⟨r, 0, none⟩), .agg #[.bool true, .int .i64 n]] w fun e w' => e = .returned (.tuple #[.int .u64 0, .string ⟨#[]⟩, .bool true]) ∧ RdrAt w' r s p ∧ w.grownBy w' (some r) := by
  have hmf : ∀ (fn : Fn) (first cap : Array Value) (w : World), (Instr.makeFunc fn first cap).run Try.prog w = .ok (.func fn first cap) w := fun _ _ _ _ => rfl
  have HF := Lib.hid (asked_facts w r p s true n h)
  have hrlt := h.lt
  clear h
  have HN := Lib.hid hno; clear hno
  go_enter_defers Try.func18, Try.ntmps18
  go_wp2_with fail
  refine (num_no s r p n _ HF.out.1 hs hp hz1 hz HN.out).mono ?_
  rintro e w2 ⟨rfl, m, rfl⟩
  go_wp2_with fail
  refine leaves_cons (f := 27) (args := #[.pointer (some ⟨w.heap.size + 1, 0, none⟩)]) (by simp) (by simp [go_sem]) ?_
  refine (catch_panicking ⟨w.heap.size + 1, 0, none⟩ false _ ?_ ?_).mono ?_
  · simp [go_sem]
  · simp [go_sem]
  rintro e u' w'' ⟨rfl, rfl, rfl⟩
  have HE : Hid (RdrAt _ r s p ∧ w.grownBy _ (some r)) := ⟨(HF.out.1.drewN m).far (q := ⟨w.heap.size + 1, 0, none⟩) (by simp; omega) (.bool true), only_setCell (grown_drewN HF.out.2 m) (p := ⟨w.heap.size + 1, 0, none⟩) (.inr (by simp)) (.bool true)⟩
  simp [Leaves, settle, results, Try.results18, go_sem]
  exact HE.out
theorem call_text_no (s : ByteArray) (r p : Nat) (n : Int) (w : World) (h : RdrAt w r s p) (hs : s.size ≤ 140737488351232) (hp : p ≤ s.size) (hz1 : -9223372036854775808 ≤ n) (hz : n ≤ 9223372036854775807)
    (hno : holdsB s.size p n = false) :
    Calls Try.prog 18 #[.pointer (some ⟨r, 0, none⟩), .agg #[.bool false, .int .i64 n]] w fun e w' => e = .returned (.tuple #[.int .u64 0, .string ⟨#[]⟩, .bool true]) ∧ RdrAt w' r s p ∧ w.grownBy w' (some r) := by
  have hmf : ∀ (fn : Fn) (first cap : Array Value) (w : World), (Instr.makeFunc fn first cap).run Try.prog w = .ok (.func fn first cap) w := fun _ _ _ _ => rfl
  have HF := Lib.hid (asked_facts w r p s false n h)
  have hrlt := h.lt
  clear h
  have HN := Lib.hid hno; clear hno
  go_enter_defers Try.func18, Try.ntmps18
  go_wp2_with fail
  refine (text_no s r p n _ HF.out.1 hs hp hz1 hz HN.out).mono ?_
  rintro e w2 ⟨rfl, m, rfl⟩
  go_wp2_with fail
  refine leaves_cons (f := 27) (args := #[.pointer (some ⟨w.heap.size + 1, 0, none⟩)]) (by simp) (by simp [go_sem]) ?_
  refine (catch_panicking ⟨w.heap.size + 1, 0, none⟩ false _ ?_ ?_).mono ?_
  · simp [go_sem]
  · simp [go_sem]
  rintro e u' w'' ⟨rfl, rfl, rfl⟩
  have HE : Hid (RdrAt _ r s p ∧ w.grownBy _ (some r)) := ⟨(HF.out.1.drewN m).far (q := ⟨w.heap.size + 1, 0, none⟩) (by simp; omega) (.bool true), only_setCell (grown_drewN HF.out.2 m) (p := ⟨w.heap.size + 1, 0, none⟩) (.inr (by simp)) (.bool true)⟩
  simp [Leaves, settle, results, Try.results18, go_sem]
  exact HE.out
theorem call_num_yes (s : ByteArray) (r p n : Nat) (w : World) (h : RdrAt w r s p) (hs : s.size ≤ 140737488351232) (hn1 : 1 ≤ n) (hn : n ≤ 8) (hp : p + n ≤ s.size) :
    Calls Try.prog 18 #[.pointer (some ⟨r, 0, none⟩), .agg #[.bool true, .int .i64 n]] w fun e w' => e = .returned (.tuple #[.int .u64 (be ((s.data.toList.drop p).take n) : Nat), .string ⟨#[]⟩, .bool false]) ∧ RdrAt w' r s (p + n) ∧ w.grownBy w' (some r) := by
  have hmf : ∀ (fn : Fn) (first cap : Array Value) (w : World), (Instr.makeFunc fn first cap).run Try.prog w = .ok (.func fn first cap) w := fun _ _ _ _ => rfl
  have HF := Lib.hid (asked_facts w r p s true n h)
  have hrlt := h.lt
  clear h
  go_enter_defers Try.func18, Try.ntmps18
  go_wp2_with fail
  refine (num_yes s r p n _ HF.out.1 hn1 hn hp hs).mono ?_
  rintro e w2 ⟨rfl, hR2, hG2⟩
  have hblk : w2.heap[w.heap.size + 1]? = some (.cells #[.bool false] 4 (0, 0)) := by
    rw [grown_block hG2 (by simp) (by omega)]
    have := heap_alloc_new (w.alloc (.cells #[.bool true, .int .i64 n] 38)) (.cells #[.bool false] 4)
    simpa using this
  have hcb : w2.cell? ⟨w.heap.size + 1, 0, none⟩ = some (.bool false) := cell_of_row w2 _ 0 _ _ _ hblk
  have hzb : w2.frozen? ⟨w.heap.size + 1, 0, none⟩ = false := by simp [World.frozen?, hblk]
  have hszB : w.heap.size + 1 < w2.heap.size := by
    have := hG2.size
    simp at this
    omega
  have HE : Hid (RdrAt ((w2.setCell ⟨w.heap.size + 1, 0, none⟩ (.bool false)).setCell ⟨w.heap.size + 1, 0, none⟩ (.bool false)) r s (p + n) ∧ w.grownBy ((w2.setCell ⟨w.heap.size + 1, 0, none⟩ (.bool false)).setCell ⟨w.heap.size + 1, 0, none⟩ (.bool false)) (some r)) :=
    ⟨(hR2.far (q := ⟨w.heap.size + 1, 0, none⟩) (by simp; omega) (.bool false)).far (q := ⟨w.heap.size + 1, 0, none⟩) (by simp; omega) (.bool false),
     only_setCell (only_setCell (grown_trans HF.out.2 hG2) (p := ⟨w.heap.size + 1, 0, none⟩) (.inr (by simp)) (.bool false)) (p := ⟨w.heap.size + 1, 0, none⟩) (.inr (by simp)) (.bool false)⟩
  clear hblk hR2 hG2
  have HC := Lib.hid hcb
  have HZ := Lib.hid hzb
  go_wp2_with fail
  refine leaves_cons (f := 27) (args := #[.pointer (some ⟨w.heap.size + 1, 0, none⟩)]) (by simp) (by simp [go_sem]) ?_
  refine (catch_idle ⟨w.heap.size + 1, 0, none⟩ false _ ?_ ?_).mono ?_
  · exact World.cell?_setCell_same _ _ _ HC.out
  · rw [World.frozen?_setCell]; exact HZ.out
  rintro e u' w'' ⟨rfl, rfl, rfl⟩
  simp [Leaves, settle, results, Try.results18, go_sem, hcb]
  exact HE.out

theorem call_text_yes (s : ByteArray) (r p n : Nat) (w : World) (h : RdrAt w r s p) (hs : s.size ≤ 140737488351232) (hp : p + n ≤ s.size) :
    Calls Try.prog 18 #[.pointer (some ⟨r, 0, none⟩), .agg #[.bool false, .int .i64 n]] w fun e w' => e = .returned (.tuple #[.int .u64 0, .string (s.extract p (p + n)), .bool false]) ∧ RdrAt w' r s (p + n) ∧ w.grownBy w' (some r) := by
  have hmf : ∀ (fn : Fn) (first cap : Array Value) (w : World), (Instr.makeFunc fn first cap).run Try.prog w = .ok (.func fn first cap) w := fun _ _ _ _ => rfl
  have HF := Lib.hid (asked_facts w r p s false n h)
  have hrlt := h.lt
  clear h
  go_enter_defers Try.func18, Try.ntmps18
  go_wp2_with fail
  refine (text_yes s r p n _ HF.out.1 hp hs).mono ?_
  rintro e w2 ⟨rfl, hR2, hG2⟩
  have hblk : w2.heap[w.heap.size + 1]? = some (.cells #[.bool false] 4 (0, 0)) := by
    rw [grown_block hG2 (by simp) (by omega)]
    have := heap_alloc_new (w.alloc (.cells #[.bool false, .int .i64 n] 38)) (.cells #[.bool false] 4)
    simpa using this
  have hcb : w2.cell? ⟨w.heap.size + 1, 0, none⟩ = some (.bool false) := cell_of_row w2 _ 0 _ _ _ hblk
  have hzb : w2.frozen? ⟨w.heap.size + 1, 0, none⟩ = false := by simp [World.frozen?, hblk]
  have hszB : w.heap.size + 1 < w2.heap.size := by
    have := hG2.size
    simp at this
    omega
  have HE : Hid (RdrAt ((w2.setCell ⟨w.heap.size + 1, 0, none⟩ (.bool false)).setCell ⟨w.heap.size + 1, 0, none⟩ (.bool false)) r s (p + n) ∧ w.grownBy ((w2.setCell ⟨w.heap.size + 1, 0, none⟩ (.bool false)).setCell ⟨w.heap.size + 1, 0, none⟩ (.bool false)) (some r)) :=
    ⟨(hR2.far (q := ⟨w.heap.size + 1, 0, none⟩) (by simp; omega) (.bool false)).far (q := ⟨w.heap.size + 1, 0, none⟩) (by simp; omega) (.bool false),
     only_setCell (only_setCell (grown_trans HF.out.2 hG2) (p := ⟨w.heap.size + 1, 0, none⟩) (.inr (by simp)) (.bool false)) (p := ⟨w.heap.size + 1, 0, none⟩) (.inr (by simp)) (.bool false)⟩
  clear hblk hR2 hG2
  have HC := Lib.hid hcb
  have HZ := Lib.hid hzb
  go_wp2_with fail
  refine leaves_cons (f := 27) (args := #[.pointer (some ⟨w.heap.size + 1, 0, none⟩)]) (by simp) (by simp [go_sem]) ?_
  refine (catch_idle ⟨w.heap.size + 1, 0, none⟩ false _ ?_ ?_).mono ?_
  · exact World.cell?_setCell_same _ _ _ HC.out
  · rw [World.frozen?_setCell]; exact HZ.out
  rintro e u' w'' ⟨rfl, rfl, rfl⟩
  simp [Leaves, settle, results, Try.results18, go_sem, hcb]
  exact HE.out

end Go.Proofs.Ytlhodiblkinglaa
