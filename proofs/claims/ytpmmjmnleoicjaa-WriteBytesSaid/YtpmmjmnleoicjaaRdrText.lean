/- The contracts of a message's reader: the next bytes, what is left, the next text behind its length. For texts of at most 10^6 bytes. -/
import Derived.Test.YtpmmjmnleoicjaaProg
import Derived.Test.YtpmmjmnleoicjaaRdr
import Derived.WalkKit
import Derived.Lib.Hide
import Derived.Laws.Rows
import Derived.Outline
import Derived.IntWalk
import Derived.WalkSpells
import Derived.WalkLawsBesides
import Derived.Deep.QuietTactic
import Derived.BigQuiet
import Derived.Deep.RegionHeld3
import Derived.Deep.Draws
import Derived.Defers
import Derived.Recover
namespace Go.Proofs.Ytpmmjmnleoicjaa
open Go.RowKit NumMath

theorem part_rdr (a s t : ByteArray) (r p n k : Nat) (w : World) (h : RdrAt w r a s p k) (hs : s.size ≤ 1000000) (hi : p + n ≤ s.size) (ht : Hid (s.extract p (p + n) = t)) :
    Calls Try.prog 153 #[.string s, .int .i64 p, .int .i64 n] w fun e w' => e = .returned (.tuple #[.string t, .bool true]) ∧ w'.cell? ⟨r, 1, none⟩ = some (.string s) ∧ w'.cell? ⟨r, 2, none⟩ = some (.int .i64 p) ∧ Hid (RdrAt w' r a s p k) ∧ Below w.heap.size w w' :=
  (part_yes s p n w hs hi).mono fun _ _ ⟨he, hB⟩ => ⟨by rw [he, ht.out], (h.held hB).c1, (h.held hB).c2, h.held hB, hB⟩

theorem text_yes (a s t : ByteArray) (r p n k : Nat) (w : World) (h : RdrAt w r a s p k) (hp : p + n ≤ s.size) (hs : s.size ≤ 1000000) (ht : Hid (s.extract p (p + n) = t)) :
    Calls Try.prog 148 #[.pointer (some ⟨r, 0, none⟩), .int .i64 n] w fun e w' => e = .returned (.string t) ∧ RdrAt w' r a s (p + n) k ∧ w.grownBy w' (some r) := by
  have h1 := h.c1
  have h2 := h.c2
  have H := Lib.hid h
  clear h
  go_enter Try.func148, Try.ntmps148
  go_wp2_with fail
  go_region_held3 (fun w' => w'.cell? ⟨r, 1, none⟩ = some (.string s) ∧ w'.cell? ⟨r, 2, none⟩ = some (.int .i64 p)) (go_keep)
    (first | (go_at_call 153; refine (part_rdr a s t r p n k _ ?_ hs hp ht).mono ?_; exact H.out; rintro e w1 ⟨rfl, hk1, hk2, hK, hB⟩))
  have hfz := hK.out.f2 2
  have hK2 := Lib.hid (hK.out.set (p + n))
  go_wp2_with fail
  go_ret
  refine ⟨rfl, hK2.out, ?_⟩
  have hB' : Below w.heap.size w w1 := ((Below.refl _ w).drew).trans hB
  exact only_setCell (g := r) (only_of_below hB' _) (p := ⟨r, 2, none⟩) (.inl rfl) _

theorem text_no (a s : ByteArray) (r k : Nat) (p : Int) (n : Nat) (w : World) (h : RdrAt w r a s p k) (hs : s.size ≤ 1000000) (hn : n ≤ 1000000) (ha1 : -9223372036854775808 ≤ p) (ha : p ≤ 9223372036854775807)
    (hno : Hid (holdsB s.size p n = false)) :
    Calls Try.prog 148 #[.pointer (some ⟨r, 0, none⟩), .int .i64 n] w fun e w' => e = gave k ∧ ∃ m, w' = w.drewN m := by
  have h1 := h.c1
  have h2 := h.c2
  have h3 := h.c3
  clear h
  go_enter Try.func148, Try.ntmps148
  go_wp2_with fail
  go_quiet ((go_at_call 153; exact quiet_left (part_no s p n _ hs (by omega) (by omega) (by omega) (by omega) hno.out)))
  go_wp2_with fail
  exact ⟨rfl, rfl, _, rfl⟩

theorem left_any (a s : ByteArray) (r p k : Nat) (w : World) (h : RdrAt w r a s p k) (hp : p ≤ s.size) (hs : s.size ≤ 1000000) :
    Calls Try.prog 101 #[.pointer (some ⟨r, 0, none⟩)] w fun e w' => e = .returned (.int .i64 ((s.size : Int) - p)) ∧ ∃ n, w' = w.drewN n := by
  have h1 := h.c1
  have h2 := h.c2
  clear h
  go_enter Try.func101, Try.ntmps101
  go_wp2_with fail
  go_quiet (fail)
  go_wp2_with fail
  go_ret
  exact ⟨rfl, _, rfl⟩
end Go.Proofs.Ytpmmjmnleoicjaa
