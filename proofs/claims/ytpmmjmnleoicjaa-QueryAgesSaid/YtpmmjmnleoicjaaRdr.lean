/- The contracts of a message's reader: the next number, the next bytes, what is left. For texts of at most 10^6 bytes. -/
import Derived.Test.YtpmmjmnleoicjaaProg
import Derived.Test.YtpmmjmnleoicjaaNumGet
import Derived.Test.YtpmmjmnleoicjaaNumPart
import Derived.Test.YtpmmjmnleoicjaaGrown
import Derived.Test.YtpmmjmnleoicjaaQuiet
import Derived.WalkKit
import Derived.Lib.Hide
import Derived.Laws.Rows
import Derived.Outline
import Derived.IntWalk
import Derived.WalkSpells
import Derived.WalkLawsBesides
import Derived.Deep.QuietTactic
import Derived.BigQuiet
import Derived.Deep.RegionHeld3
import Derived.Deep.Draws
import Derived.Defers
import Derived.Recover
namespace Go.Proofs.Ytpmmjmnleoicjaa
open Go.RowKit NumMath

/-- A reader of a message: the message, that up to where the reading ends, the place, what is told where bytes are lacking. -/
def RdrAt (W : World) (r : Nat) (a s : ByteArray) (p : Int) (k : Nat) : Prop := W.heap[r]? = some (.cells #[.string a, .string s, .int .i64 p, .int .i64 k] 91 (0, 0))
section
variable {W W' : World} {r B : Nat} {a s : ByteArray} {p : Int} {k : Nat}
theorem RdrAt.c0 (h : RdrAt W r a s p k) : W.cell? ⟨r, 0, none⟩ = some (.string a) := cell_of_row W r 0 _ _ _ h
theorem RdrAt.c1 (h : RdrAt W r a s p k) : W.cell? ⟨r, 1, none⟩ = some (.string s) := cell_of_row W r 1 _ _ _ h
theorem RdrAt.c2 (h : RdrAt W r a s p k) : W.cell? ⟨r, 2, none⟩ = some (.int .i64 p) := cell_of_row W r 2 _ _ _ h
theorem RdrAt.c3 (h : RdrAt W r a s p k) : W.cell? ⟨r, 3, none⟩ = some (.int .i64 k) := cell_of_row W r 3 _ _ _ h
theorem RdrAt.f2 (h : RdrAt W r a s p k) (i : Nat) : W.frozen? ⟨r, i, none⟩ = false := by
  unfold RdrAt at h
  simp [World.frozen?, h]
theorem RdrAt.lt (h : RdrAt W r a s p k) : r < W.heap.size := by
  rcases Nat.lt_or_ge r W.heap.size with hlt | hge
  · exact hlt
  · unfold RdrAt at h; rw [Array.getElem?_eq_none hge] at h; cases h
theorem RdrAt.drewN (h : RdrAt W r a s p k) (n : Nat) : RdrAt (W.drewN n) r a s p k := h
theorem RdrAt.drew (h : RdrAt W r a s p k) : RdrAt W.drew r a s p k := h
theorem RdrAt.below (h : RdrAt W r a s p k) (hb : Below B W W') (hr : r < B) : RdrAt W' r a s p k := (hb.block r hr).trans h
theorem RdrAt.held (h : RdrAt W r a s p k) (hb : Below W.heap.size W W') : RdrAt W' r a s p k := h.below hb h.lt
theorem RdrAt.set (h : RdrAt W r a s p k) (q : Int) : RdrAt (W.setCell ⟨r, 2, none⟩ (.int .i64 q)) r a s q k := by
  unfold RdrAt at h ⊢
  simp [World.setCell, Array.getElem?_modify, h]
theorem RdrAt.far (h : RdrAt W r a s p k) {q : Addr} (hq : r ≠ q.block) (v : Value) : RdrAt (W.setCell q v) r a s p k := (Below.heap_setCell W q v r hq).trans h
theorem RdrAt.other (h : RdrAt W r a s p k) {q : Nat} (hg : W.grownBy W' (some q)) (hq : r ≠ q) : RdrAt W' r a s p k := (grown_block hg h.lt hq).trans h
end

/-- A reading that gives up with an error. -/
abbrev gave (k : Nat) : Ending := .panicked [{ v := .iface 30 (.int .i64 k), recovered := false }]

theorem be_take_lt4 (l : List UInt8) (n : Nat) (hn : n ≤ 4) : be (l.take n) < 4294967296 := by
  have h1 := be_lt (l.take n)
  have h2 : (l.take n).length ≤ 4 := by rw [List.length_take]; omega
  have h3 : 256 ^ (l.take n).length ≤ 256 ^ 4 := Nat.pow_le_pow_right (by omega) h2
  omega

theorem number_yes (a s : ByteArray) (r p n k x : Nat) (w : World) (h : RdrAt w r a s p k) (hn1 : 1 ≤ n) (hn : n ≤ 4) (hp : p + n ≤ s.size) (hs : s.size ≤ 1000000) (hx : Hid (be ((s.data.toList.drop p).take n) = x)) :
    Calls Try.prog 96 #[.pointer (some ⟨r, 0, none⟩), .int .i64 n] w fun e w' => e = .returned (.int .u32 x) ∧ RdrAt w' r a s (p + n) k ∧ w.grownBy w' (some r) := by
  have h1 := h.c1
  have h2 := h.c2
  have hf := h.f2 2
  have H := Lib.hid h
  clear h
  have hxl : x < 4294967296 := by rw [← hx.out]; exact be_take_lt4 _ _ hn
  have hget := fun m : Nat => get_yes s p n (w.drewN m) (by unfold maxLen; omega) hn1 (by omega) hp
  rw [hx.out] at hget
  have HG := Lib.hid hget
  clear hget
  go_enter Try.func96, Try.ntmps96
  go_wp2_with fail
  go_quiet ((go_at_call 120; exact quiet_left (HG.out _)))
  go_wp2_with fail
  go_ret
  refine ⟨rfl, ?_, ?_⟩
  · exact (H.out.drewN _).set _
  · exact only_setCell (g := r) (grown_drewN (grown_refl w _) _) (p := ⟨r, 2, none⟩) (.inl rfl) _

theorem number_no (a s : ByteArray) (r k : Nat) (p : Int) (n : Nat) (w : World) (h : RdrAt w r a s p k) (hs : s.size ≤ 1000000) (hn : n ≤ 4) (ha1 : -9223372036854775808 ≤ p) (ha : p ≤ 9223372036854775807)
    (hno : Hid (holdsB s.size p n = false)) :
    Calls Try.prog 96 #[.pointer (some ⟨r, 0, none⟩), .int .i64 n] w fun e w' => e = gave k ∧ ∃ m, w' = w.drewN m := by
  have h1 := h.c1
  have h2 := h.c2
  have h3 := h.c3
  clear h
  go_enter Try.func96, Try.ntmps96
  go_wp2_with fail
  go_quiet ((go_at_call 120; exact quiet_left (get_no s p n _ (by unfold maxLen; omega) (by omega) (by omega) (by omega) (by omega) (.inr (.inr hno.out)))))
  go_wp2_with fail
  exact ⟨rfl, rfl, _, rfl⟩
end Go.Proofs.Ytpmmjmnleoicjaa
