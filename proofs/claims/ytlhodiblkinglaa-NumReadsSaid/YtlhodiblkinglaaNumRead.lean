/- The contracts of num's Part and of its reader: New, At, Left, Text and Num. For texts of at most 2^47 - 4096 bytes. -/
import Derived.Test.YtlhodiblkinglaaProg
import Derived.Test.YtlhodiblkinglaaNumMath
import Derived.Test.YtlhodiblkinglaaNumSat
import Derived.Test.YtlhodiblkinglaaNumGet
import Derived.Test.YtlhodiblkinglaaNumPut
import Derived.Test.YtlhodiblkinglaaShelf
import Derived.WalkKit
import Derived.Lib.Hide
import Derived.Laws.Rows
import Derived.Outline
import Derived.IntWalk
import Derived.WalkSpells
import Derived.WalkLawsBesides
import Derived.Deep.QuietTactic
import Derived.BigQuiet
import Derived.Deep.RegionHeld3
import Derived.Deep.Draws
namespace Go.Proofs.Ytlhodiblkinglaa
open Go.RowKit NumMath

theorem clone_any (s : ByteArray) (w : World) (hs : s.size ≤ 140737488351232) :
    Calls Try.prog 29 #[.string s] w fun e w' => e = .returned (.string s) ∧ Below w.heap.size w w' := by
  go_enter Try.func29, Try.ntmps29
  go_wp2_with fail
  refine (Try.stringslite_Clone s _ (by omega)).mono ?_
  rintro e w1 ⟨rfl, hB⟩
  go_wp2_with fail
  go_ret
  exact ⟨rfl, hB⟩

theorem part_no (s : ByteArray) (at_ size : Int) (w : World) (hs : s.size ≤ maxLen) (hz1 : -9223372036854775808 ≤ size) (hz : size ≤ 9223372036854775807) (ha1 : -9223372036854775808 ≤ at_) (ha : at_ ≤ 9223372036854775807)
    (h3 : holdsB s.size at_ size = false) :
    Calls Try.prog 23 #[.string s, .int .i64 at_, .int .i64 size] w fun e w' => e = .returned (.tuple #[.string ⟨#[]⟩, .bool false]) ∧ w = w' := by
  have H := Lib.hid h3; clear h3
  go_enter Try.func23, Try.ntmps23
  go_wp2_with fail
  refine (holds_any s at_ size _ hs hz1 hz ha1 ha).mono ?_
  rw [H.out]
  rintro e w' ⟨rfl, rfl⟩
  go_wp2_with fail
  go_ret2
  exact ⟨rfl, rfl⟩

theorem part_yes (s : ByteArray) (i n : Nat) (w : World) (hs : s.size ≤ 140737488351232) (hi : i + n ≤ s.size) :
    Calls Try.prog 23 #[.string s, .int .i64 i, .int .i64 n] w fun e w' => e = .returned (.tuple #[.string (s.extract i (i + n)), .bool true]) ∧ Below w.heap.size w w' := by
  have h3 : holdsB s.size i n = true := by simp [holdsB]; omega
  have H := Lib.hid h3; clear h3
  have h0 : (0 : Int) ≤ i := by omega
  have h1 : (0 : Int) ≤ n := by omega
  have h4 : (i : Int) + n ≤ s.size := by omega
  go_enter Try.func23, Try.ntmps23
  go_wp2_with fail
  refine (holds_any s i n _ (by unfold maxLen; omega) (by omega) (by omega) (by omega) (by omega)).mono ?_
  rw [H.out]
  rintro e w' ⟨rfl, rfl⟩
  go_wp2_with fail
  refine (clone_any _ _ (by simp only [ByteArray.size_extract]; omega)).mono ?_
  rintro e w1 ⟨rfl, hB⟩
  go_wp2_with fail
  go_ret2
  exact ⟨rfl, hB⟩

/-- A reader of the text s at a place. -/
def RdrAt (W : World) (r : Nat) (s : ByteArray) (at_ : Nat) : Prop := W.heap[r]? = some (.cells #[.string s, .int .i64 at_] 53 (0, 0))
theorem RdrAt.c0 {W : World} {r : Nat} {s : ByteArray} {p : Nat} (h : RdrAt W r s p) : W.cell? ⟨r, 0, none⟩ = some (.string s) := cell_of_row W r 0 _ _ _ h
theorem RdrAt.c1 {W : World} {r : Nat} {s : ByteArray} {p : Nat} (h : RdrAt W r s p) : W.cell? ⟨r, 1, none⟩ = some (.int .i64 p) := cell_of_row W r 1 _ _ _ h
theorem RdrAt.f1 {W : World} {r : Nat} {s : ByteArray} {p : Nat} (h : RdrAt W r s p) (i : Nat) : W.frozen? ⟨r, i, none⟩ = false := by
  unfold RdrAt at h
  simp [World.frozen?, h]
theorem RdrAt.lt {W : World} {r : Nat} {s : ByteArray} {p : Nat} (h : RdrAt W r s p) : r < W.heap.size := by
  rcases Nat.lt_or_ge r W.heap.size with hlt | hge
  · exact hlt
  · unfold RdrAt at h; rw [Array.getElem?_eq_none hge] at h; cases h
theorem RdrAt.drewN {W : World} {r : Nat} {s : ByteArray} {p : Nat} (h : RdrAt W r s p) (n : Nat) : RdrAt (W.drewN n) r s p := h
theorem RdrAt.below {W W' : World} {B r : Nat} {s : ByteArray} {p : Nat} (h : RdrAt W r s p) (hb : Below B W W') (hr : r < B) : RdrAt W' r s p := (hb.block r hr).trans h
theorem RdrAt.set {W : World} {r : Nat} {s : ByteArray} {p : Nat} (h : RdrAt W r s p) (q : Nat) : RdrAt (W.setCell ⟨r, 1, none⟩ (.int .i64 q)) r s q := by
  unfold RdrAt at h ⊢
  simp [World.setCell, Array.getElem?_modify, h]

theorem only_setCell {a w : World} {g : Nat} (h : a.grownBy w (some g)) {p : Addr} (hp : p.block = g ∨ a.heap.size ≤ p.block) (u : Value) : a.grownBy (w.setCell p u) (some g) :=
  ⟨h.os, h.tape, h.output, by simpa [World.setCell] using h.size, fun i hi hne => (Below.heap_setCell w p u i (by
    rintro rfl
    rcases hp with hp | hp
    · exact hne (by rw [hp])
    · omega)).trans (h.block i hi hne)⟩
theorem only_of_below {a w : World} (h : Below a.heap.size a w) (row : Option Nat) : a.grownBy w row := ⟨h.os, h.tape, h.output, h.size, fun i hi _ => h.block i hi⟩

theorem new_any (s : ByteArray) (w : World) :
    Calls Try.prog 17 #[.string s] w fun e w' => e = .returned (.pointer (some ⟨w.heap.size, 0, none⟩)) ∧ Below w.heap.size w w' ∧ RdrAt w' w.heap.size s 0 := by
  go_enter Try.func17, Try.ntmps17
  go_wp2_with fail
  go_ret
  exact ⟨rfl, (Below.refl _ _).alloc (Nat.le_refl _) _, heap_alloc_new w _⟩

theorem at_any (s : ByteArray) (r p : Nat) (w : World) (h : RdrAt w r s p) :
    Calls Try.prog 21 #[.pointer (some ⟨r, 0, none⟩)] w fun e w' => e = .returned (.int .i64 p) ∧ w = w' := by
  have h0 := h.c0
  have h1 := h.c1
  clear h
  go_enter Try.func21, Try.ntmps21
  go_wp2_with fail
  go_ret
  exact ⟨rfl, rfl⟩

theorem left_any (s : ByteArray) (r p : Nat) (w : World) (h : RdrAt w r s p) (hp : p ≤ s.size) (hs : s.size ≤ 140737488351232) :
    Calls Try.prog 22 #[.pointer (some ⟨r, 0, none⟩)] w fun e w' => e = .returned (.int .i64 ((s.size : Int) - p)) ∧ ∃ n, w' = w.drewN n := by
  have h0 := h.c0
  have h1 := h.c1
  clear h
  go_enter Try.func22, Try.ntmps22
  go_wp2_with fail
  go_quiet (fail)
  go_wp2_with fail
  go_ret
  exact ⟨rfl, _, rfl⟩

theorem part_rdr (s : ByteArray) (r p n : Nat) (w : World) (h : RdrAt w r s p) (hs : s.size ≤ 140737488351232) (hi : p + n ≤ s.size) :
    Calls Try.prog 23 #[.string s, .int .i64 p, .int .i64 n] w fun e w' => e = .returned (.tuple #[.string (s.extract p (p + n)), .bool true]) ∧ w'.cell? ⟨r, 0, none⟩ = some (.string s) ∧ w'.cell? ⟨r, 1, none⟩ = some (.int .i64 p) ∧ Hid (RdrAt w' r s p) ∧ Below w.heap.size w w' :=
  (part_yes s p n w hs hi).mono fun _ _ ⟨he, hB⟩ => ⟨he, (h.below hB h.lt).c0, (h.below hB h.lt).c1, h.below hB h.lt, hB⟩

theorem text_yes (s : ByteArray) (r p n : Nat) (w : World) (h : RdrAt w r s p) (hp : p + n ≤ s.size) (hs : s.size ≤ 140737488351232) :
    Calls Try.prog 24 #[.pointer (some ⟨r, 0, none⟩), .int .i64 n] w fun e w' => e = .returned (.string (s.extract p (p + n))) ∧ RdrAt w' r s (p + n) ∧ w.grownBy w' (some r) := by
  have h0 := h.c0
  have h1 := h.c1
  have H := Lib.hid h
  clear h
  go_enter Try.func24, Try.ntmps24
  go_wp2_with fail
  go_region_held3 (fun w' => w'.cell? ⟨r, 0, none⟩ = some (.string s) ∧ w'.cell? ⟨r, 1, none⟩ = some (.int .i64 p)) (go_keep)
    (first | (go_at_call 23; refine (part_rdr s r p n _ ?_ hs hp).mono ?_; exact H.out; rintro e w1 ⟨rfl, hk0, hk1, hK, hB⟩))
  have hfz := hK.out.f1 1
  have hK2 := Lib.hid (hK.out.set (p + n))
  go_wp2_with fail
  go_ret
  refine ⟨rfl, ?_, ?_⟩
  · have := hK2.out; rwa [Int.natCast_add] at this
  · have hB' : Below w.heap.size w w1 := ((Below.refl _ w).drew).trans hB
    exact only_setCell (g := r) (only_of_below hB' _) (p := ⟨r, 1, none⟩) (.inl rfl) _
end Go.Proofs.Ytlhodiblkinglaa
