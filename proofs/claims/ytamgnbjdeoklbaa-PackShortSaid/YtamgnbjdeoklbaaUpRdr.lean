/- The contracts of a header block's reader: the next integer, the next text, an index's entry. For blocks of at most 10^6 bytes. -/
import Derived.Test.YtamgnbjdeoklbaaProg
import Derived.Test.YtamgnbjdeoklbaaBytes
import Derived.Test.YtamgnbjdeoklbaaGrown
import Derived.Test.YtamgnbjdeoklbaaQuiet
import Derived.Test.YtamgnbjdeoklbaaPfGet
import Derived.Test.YtamgnbjdeoklbaaTcLow
import Derived.Test.YtamgnbjdeoklbaaUpMath
import Derived.WalkKit
import Derived.Lib.Hide
import Derived.Laws.Rows
import Derived.Outline
import Derived.IntWalk
import Derived.WalkSpells
import Derived.WalkLawsBesides
import Derived.Deep.QuietTactic
import Derived.BigQuiet
import Derived.Deep.RegionHeld3
import Derived.Deep.Draws
namespace Go.Proofs.Ytamgnbjdeoklbaa
open Go.RowKit Bytes Tb Up

/-- A block's reader: the block, the place, the table. -/
def RdAt (W : World) (r g : Nat) (s : ByteArray) (p : Nat) : Prop := W.heap[r]? = some (.cells #[.string s, .int .i64 (p : Int), .pointer (some ⟨g, 0, none⟩)] 67 (0, 0))
section
variable {W W' : World} {r g : Nat} {s : ByteArray} {p : Nat}
theorem RdAt.c0 (h : RdAt W r g s p) : W.cell? ⟨r, 0, none⟩ = some (.string s) := cell_of_row W r 0 _ _ _ h
theorem RdAt.c1 (h : RdAt W r g s p) : W.cell? ⟨r, 1, none⟩ = some (.int .i64 (p : Int)) := cell_of_row W r 1 _ _ _ h
theorem RdAt.c2 (h : RdAt W r g s p) : W.cell? ⟨r, 2, none⟩ = some (.pointer (some ⟨g, 0, none⟩)) := cell_of_row W r 2 _ _ _ h
theorem RdAt.fz (h : RdAt W r g s p) (i : Nat) : W.frozen? ⟨r, i, none⟩ = false := by
  unfold RdAt at h
  simp [World.frozen?, h]
theorem RdAt.lt (h : RdAt W r g s p) : r < W.heap.size := world_lt h
theorem RdAt.drewN (h : RdAt W r g s p) (n : Nat) : RdAt (W.drewN n) r g s p := h
theorem RdAt.drew (h : RdAt W r g s p) : RdAt W.drew r g s p := h
theorem RdAt.held (h : RdAt W r g s p) (hb : Below W.heap.size W W') : RdAt W' r g s p := (hb.block r h.lt).trans h
theorem RdAt.set (h : RdAt W r g s p) (q : Nat) : RdAt (W.setCell ⟨r, 1, none⟩ (.int .i64 (q : Int))) r g s q := set3_1 h
theorem RdAt.far (h : RdAt W r g s p) {q : Addr} (hq : r ≠ q.block) (v : Value) : RdAt (W.setCell q v) r g s p := (Below.heap_setCell W q v r hq).trans h
end
/-- A reading that gives up with an error. -/
abbrev gave (k : Nat) : Ending := .panicked [{ v := .iface 34 (.int .i64 k), recovered := false }]
/-- An integer came, or the reading gave up. -/
def NumEnd (w : World) (r g : Nat) (s : ByteArray) : Except Nat (Nat × Nat) → Ending → World → Prop
  | .error x, e, w' => e = gave x ∧ w.grownBy w' (some r)
  | .ok (m, q), e, w' => e = .returned (.int .u64 (m : Int)) ∧ RdAt w' r g s q ∧ w.grownBy w' (some r)

theorem num_getZ {l : List UInt8} {p : Nat} {b : Int} {m q c : Nat} (h : Pf.getZ l p b = (m, q, c)) : num l p b = if c = 0 then .ok (m, q) else .error c := by
  unfold Pf.getZ at h
  rw [if_neg (by omega), Int.toNat_natCast] at h
  unfold num
  rw [h]

theorem integer_any (r g : Nat) (s : ByteArray) (p : Nat) (b : Int) (R : Except Nat (Nat × Nat)) (w : World) (h : RdAt w r g s p) (hs : s.size ≤ 1000000) (hp : p ≤ s.size) (hb1 : 1 ≤ b) (hb2 : b ≤ 8) (hR : Hid (num s.data.toList p b = R)) :
    Calls Try.prog 58 #[.pointer (some ⟨r, 0, none⟩), .int .i64 b] w (NumEnd w r g s R) := by
  obtain ⟨m, q, c, hz⟩ : ∃ m q c, Pf.getZ s.data.toList p b = (m, q, c) := ⟨_, _, _, rfl⟩
  have hnum := num_getZ hz
  rw [hR.out] at hnum
  have HN := Lib.hid hnum
  have h0 := h.c0
  have h1 := h.c1
  have hf := h.fz 1
  have H := Lib.hid h
  have hget := fun n : Nat => get_is s (p : Int) b m q c (w.drewN n) hs (by omega) (by omega) (by omega) (by omega) (Lib.hid hz)
  have HG := Lib.hid hget
  clear h hz hnum hget hR
  by_cases hc : c = 0
  · subst hc
    have hRe : R = .ok (m, q) := HN.out
    rw [hRe]
    go_enter Try.func58, Try.ntmps58
    go_wp2_with fail
    go_quiet ((go_at_call 69; exact quiet_left (HG.out _)))
    go_wp2_with fail
    go_ret
    refine ⟨rfl, ?_, ?_⟩
    · exact (H.out.drewN _).set _
    · exact only_setCell (g := r) (grown_drewN (grown_refl w _) _) (p := ⟨r, 1, none⟩) (.inl rfl) _
  · have hRe : R = .error c := by rw [HN.out, if_neg hc]
    have hcz : ((c : Int) == 0) = false := beq_eq_false_iff_ne.2 (by omega)
    rw [hRe]
    go_enter Try.func58, Try.ntmps58
    go_wp2_with fail
    go_quiet ((go_at_call 69; exact quiet_left (HG.out _)))
    go_wp2_with fail
    exact ⟨rfl, rfl, grown_drewN (grown_refl w _) _⟩
end Go.Proofs.Ytamgnbjdeoklbaa
