/- The contract of a message's reader: a reader of a record's data. For texts of at most 10^6 bytes. -/
import Derived.Test.YtngbifdenbfepaaProg
import Derived.Test.YtngbifdenbfepaaBytes
import Derived.Test.YtngbifdenbfepaaNmMath
import Derived.Test.YtngbifdenbfepaaKept
import Derived.Test.YtngbifdenbfepaaRdr
import Derived.Test.YtngbifdenbfepaaRdrText
import Derived.Test.YtngbifdenbfepaaRdrSkip
import Derived.WalkKit
import Derived.Lib.Hide
import Derived.Laws.Rows
import Derived.Outline
import Derived.IntWalk
import Derived.WalkSpells
import Derived.WalkLawsBesides
import Derived.RegionTactic
import Derived.ChangeAlike
namespace Go.Proofs.Ytngbifdenbfepaa
open Go.RowKit NumMath NmMath Bytes

/-- A reader of the bytes up to t's end came back; the first reader stands behind these. -/
def SubEnd (w : World) (r p n : Nat) (s t : ByteArray) (e : Ending) (w' : World) : Prop :=
  ∃ q, e = .returned (.pointer (some ⟨q, 0, none⟩)) ∧ w.heap.size ≤ q ∧ RdrAt w' q s t (p : Int) 50 ∧ RdrAt w' r s s ((p + n : Nat) : Int) 2 ∧ w.grownBy w' (some r)

set_option maxHeartbeats 1000000 in
theorem data_yes (s t : ByteArray) (r p n : Nat) (w : World) (h : RdrAt w r s s p 2) (hp : p + n ≤ s.size) (hs : s.size ≤ 1000000) (ht : Hid (s.extract 0 (p + n) = t)) :
    Calls Try.prog 44 #[.pointer (some ⟨r, 0, none⟩), .int .i64 n] w (SubEnd w r p n s t) := by
  have h2 := h.c2
  have HS := Lib.hid (skip_yes s s r p n 2 w h hp hs)
  clear h
  obtain ⟨z, hz⟩ : ∃ z, p + n = z := ⟨_, rfl⟩
  have HZ := Lib.hid hz
  rw [hz] at HS ht hp
  clear hz
  go_enter Try.func44, Try.ntmps44
  go_wp2_with fail
  refine HS.out.mono ?_
  rintro e w1 ⟨rfl, hD, hG⟩
  have k0 := hD.c0
  have k2 := hD.c2
  have HD := Lib.hid hD
  have HG := Lib.hid hG
  have htt := ht.out
  have hzi : (z : Int) ≤ s.size := by omega
  clear hD hG HS h2
  go_wp2_with fail
  go_region
  go_wp2_with fail
  go_ret
  refine ⟨w1.heap.size, rfl, HG.out.size, ?_, ?_, ?_⟩
  · exact heap_alloc_new w1 _
  · rw [HZ.out]
    exact (HD.out.held ((Below.refl _ _).alloc (Nat.le_refl _) _)).drew
  · have := HG.out
    exact ⟨this.os, this.tape, this.output, by have := this.size; simp; omega, fun i hi hne => (Below.heap_alloc w1 _ i (Nat.lt_of_lt_of_le hi this.size)).trans (this.block i hi hne)⟩

theorem data_no (s : ByteArray) (r p n : Nat) (w : World) (h : RdrAt w r s s p 2) (hp : p ≤ s.size) (hn : s.size < p + n) (hs : s.size ≤ 1000000) :
    Calls Try.prog 44 #[.pointer (some ⟨r, 0, none⟩), .int .i64 n] w fun e w' => e = gave 2 ∧ w.grownBy w' (some r) := by
  have h2 := h.c2
  have HS := Lib.hid (skip_no s s r p n 2 w h hp hn hs)
  clear h
  go_enter Try.func44, Try.ntmps44
  go_wp2_with fail
  refine HS.out.mono ?_
  rintro e w1 ⟨rfl, m, rfl⟩
  go_wp2_with fail
  exact ⟨rfl, rfl, grown_drewN (grown_refl _ _) m⟩
end Go.Proofs.Ytngbifdenbfepaa
