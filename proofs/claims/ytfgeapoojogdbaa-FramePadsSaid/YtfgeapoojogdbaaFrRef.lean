/- The document's small parts of layer 14: a number that is there, a flag, whether a frame depends on itself, what stands ahead of headers' content. For payloads of at most 10^6 bytes. -/
import Derived.Test.YtfgeapoojogdbaaProg
import Derived.Test.YtfgeapoojogdbaaBytes
import Derived.Test.YtfgeapoojogdbaaNumBe
import Derived.Test.YtfgeapoojogdbaaQuiet
import Derived.Test.YtfgeapoojogdbaaNumRefGet
import Derived.Test.YtfgeapoojogdbaaFrMath
import Derived.WalkKit
import Derived.Lib.Hide
import Derived.Laws.Rows
import Derived.Outline
import Derived.IntWalk
import Derived.WalkSpells
import Derived.WalkLawsBesides
import Derived.Deep.QuietTactic
import Derived.BigQuiet
import Derived.Deep.CutRange
namespace Go.Proofs.Ytfgeapoojogdbaa
open Go Go.RowKit Bytes Fr

namespace Fr
/-- A frame's box. -/
def BoxF (w : World) (X : Nat) (f : Frm) : Prop := w.heap[X]? = some (.cells #[.int .u8 (f.ty : Int), .int .u8 (f.fl : Int), .int .u32 (f.st : Int), .string f.data] 24 (0, 0))
section
variable {w w' : World} {X : Nat} {f : Frm}
theorem BoxF.lt (h : BoxF w X f) : X < w.heap.size := by
  rcases Nat.lt_or_ge X w.heap.size with h1 | h1
  · exact h1
  · unfold BoxF at h; rw [Array.getElem?_eq_none h1] at h; cases h
theorem BoxF.below (h : BoxF w X f) (hB : Below w.heap.size w w') : BoxF w' X f := (hB.block X h.lt).trans h
theorem BoxF.c (h : BoxF w X f) : w.cell? ⟨X, 0, none⟩ = some (.int .u8 (f.ty : Int)) ∧ w.cell? ⟨X, 1, none⟩ = some (.int .u8 (f.fl : Int)) ∧ w.cell? ⟨X, 2, none⟩ = some (.int .u32 (f.st : Int)) ∧ w.cell? ⟨X, 3, none⟩ = some (.string f.data) := by
  unfold BoxF at h
  simp [World.cell?, h]
theorem boxF_new (w : World) (f : Frm) : BoxF (w.alloc (.cells #[.int .u8 (f.ty : Int), .int .u8 (f.fl : Int), .int .u32 (f.st : Int), .string f.data] 24)) w.heap.size f ∧ Below w.heap.size w (w.alloc (.cells #[.int .u8 (f.ty : Int), .int .u8 (f.fl : Int), .int .u32 (f.st : Int), .string f.data] 24)) :=
  ⟨heap_alloc_new w _, (Below.refl _ w).alloc (Nat.le_refl _) _⟩
end
end Fr

theorem fget_is (s : ByteArray) (i n R : Nat) (w : World) (hs : s.size ≤ 1000000) (h1 : 1 ≤ n) (h4 : n ≤ 4) (hi : i + n ≤ s.size) (hR : Hid (gN s i n = R)) :
    Calls Try.prog 24 #[.string s, .int .i64 (i : Int), .int .i64 (n : Int)] w fun e w' => e = .returned (.int .i64 (R : Int)) ∧ w = w' := by
  have hlt : R < 4294967296 := by
    rw [← hR.out]
    exact Nat.lt_of_lt_of_le (gN_lt s i n) (Nat.le_trans (Nat.pow_le_pow_right (by omega) h4) (by decide))
  have HG := Lib.hid (rget_at s i n w (by unfold maxLen; omega) h1 (by omega) hi)
  rw [show be ((s.data.toList.drop i).take n) = R from hR.out] at HG
  have ew : IntKind.i64.wrap (R : Int) = (R : Int) := by rw [IntKind.wrap_i64]; omega
  clear hR
  go_enter Try.func24, Try.ntmps24
  go_wp2_with fail
  refine HG.out.mono ?_
  rintro e w' ⟨rfl, rfl⟩
  go_wp2_with fail
  go_ret
  exact ⟨rfl, rfl⟩
theorem fflag_is (f : Frm) (b : Nat) (q : Bool) (w : World) (hf : Okf f) (hb : 0 < b) (hb2 : b ≤ 255) (hq : Hid (flagF f b = q)) :
    Calls Try.prog 28 #[.agg #[.int .u8 (f.ty : Int), .int .u8 (f.fl : Int), .int .u32 (f.st : Int), .string f.data], .int .i64 (b : Int)] w fun e w' => e = .returned (.bool q) ∧ Below w.heap.size w w' := by
  obtain ⟨hX, hB⟩ := boxF_new w f
  obtain ⟨a0, a1, a2, a3⟩ := hX.c
  have HB := Lib.hid hB
  have hfl := hf.fl
  obtain ⟨z, hz⟩ : ∃ z, f.fl / b = z := ⟨_, rfl⟩
  have hzi : (f.fl : Int) / (b : Int) = (z : Int) := by rw [← hz]; exact (Int.natCast_ediv ..).symm
  have hzb : z ≤ 255 := by rw [← hz]; exact Nat.le_trans (Nat.div_le_self ..) (by omega)
  have hqz := hq.out
  unfold flagF at hqz
  rw [hz] at hqz
  have HQ := Lib.hid hqz
  have ew : IntKind.i64.wrap (f.fl : Int) = (f.fl : Int) := by rw [IntKind.wrap_i64]; omega
  have hbi : ((b : Int) == 0) = false := beq_eq_false_iff_ne.2 (by omega)
  have hbn : (b : Int) ≠ 0 := by omega
  have hzq : ((z : Int) % 2 == 1) = q := by
    rw [← hqz, Bool.eq_iff_iff, beq_iff_eq, decide_eq_true_iff]
    omega
  clear hX hB hq hz hqz
  go_enter Try.func28, Try.ntmps28
  go_wp2_with fail
  go_ret
  exact ⟨rfl, HB.out⟩
set_option maxHeartbeats 4000000 in
set_option maxRecDepth 100000 in
theorem fself_is (f : Frm) (i : Nat) (q : Bool) (w : World) (hf : Okf f) (hs : f.data.size ≤ 1000000) (hi : i + 4 ≤ f.data.size) (hq : Hid (selfF f i = q)) :
    Calls Try.prog 30 #[.agg #[.int .u8 (f.ty : Int), .int .u8 (f.fl : Int), .int .u32 (f.st : Int), .string f.data], .int .i64 (i : Int)] w fun e w' => e = .returned (.bool q) ∧ Below w.heap.size w w' := by
  obtain ⟨hX, hB⟩ := boxF_new w f
  obtain ⟨a0, a1, a2, a3⟩ := hX.c
  have HB := Lib.hid hB
  have hst := hf.st
  obtain ⟨R, hR⟩ : ∃ R, gN f.data i 4 = R := ⟨_, rfl⟩
  obtain ⟨M, hM⟩ : ∃ M, R % 2147483648 = M := ⟨_, rfl⟩
  have hMb : M < 2147483648 := by omega
  have hqm := hq.out
  unfold selfF at hqm
  rw [hR, hM] at hqm
  have ht : (R : Int).tmod 2147483648 = (M : Int) := by rw [Int.tmod_eq_emod_of_nonneg (by omega)]; omega
  have ht2 : (R : Int) % 2147483648 = (M : Int) := by omega
  have ew : IntKind.u32.wrap (M : Int) = (M : Int) := by rw [IntKind.wrap_u32]; omega
  have hzq : ((M : Int) == (f.st : Int)) = q := by
    rw [← hqm, Bool.eq_iff_iff, beq_iff_eq, decide_eq_true_iff]
    omega
  have HG := Lib.hid (fun W : World => fget_is f.data i 4 R W hs (by decide) (by decide) hi (Lib.hid hR))
  clear hX hB hq hqm hR hM
  go_enter Try.func30, Try.ntmps30
  go_upto_region 1 with fail
  generalize w.alloc (.cells #[.int .u8 (f.ty : Int), .int .u8 (f.fl : Int), .int .u32 (f.st : Int), .string f.data] 24) = W at *
  go_quiet ((go_at_call 24; exact quiet_left (HG.out _)))
  go_wp2_with fail
  go_ret
  exact ⟨rfl, HB.out.trans ⟨rfl, rfl, rfl, Nat.le_refl _, fun _ _ => rfl⟩⟩
set_option maxHeartbeats 4000000 in
set_option maxRecDepth 100000 in
theorem fahead_is (f : Frm) (k : Nat) (w : World) (hf : Okf f) (hk : Hid (aheadF f = k)) :
    Calls Try.prog 34 #[.agg #[.int .u8 (f.ty : Int), .int .u8 (f.fl : Int), .int .u32 (f.st : Int), .string f.data]] w fun e w' => e = .returned (.int .i64 (k : Int)) ∧ Below w.heap.size w w' := by
  obtain ⟨hX, hB⟩ := boxF_new w f
  obtain ⟨q8, h8⟩ : ∃ q, flagF f 8 = q := ⟨_, rfl⟩
  obtain ⟨q32, h32⟩ : ∃ q, flagF f 32 = q := ⟨_, rfl⟩
  have hk2 := hk.out
  unfold aheadF at hk2
  rw [h8, h32] at hk2
  have H8 := Lib.hid h8
  have H32 := Lib.hid h32
  have HX := Lib.hid hX
  have HB := Lib.hid hB
  have hty := hf.ty
  clear hX hB h8 h32 hk
  obtain ⟨a0, a1, a2, a3⟩ := HX.out.c
  go_enter Try.func34, Try.ntmps34
  go_upto_region 2 with fail
  generalize w.alloc (.cells #[.int .u8 (f.ty : Int), .int .u8 (f.fl : Int), .int .u32 (f.st : Int), .string f.data] 24) = W at *
  go_wp2_with fail
  refine (fflag_is f 8 q8 W hf (by decide) (by decide) H8).mono ?_
  rintro e w1 ⟨rfl, hB1⟩
  have HX1 := Lib.hid (HX.out.below hB1)
  have HB1 := Lib.hid (HB.out.trans (hB1.mono HB.out.size))
  clear hB1 a0 a1 a2 a3
  obtain ⟨a0, a1, a2, a3⟩ := HX1.out.c
  by_cases ht : f.ty = 1
  · have ht1 : ((f.ty : Int) == 1) = true := beq_iff_eq.2 (by omega)
    have ht2 : decide ((f.ty : Int) = 1) = true := decide_eq_true (by omega)
    cases q8 <;> cases q32
    all_goals
      simp [ht] at hk2
      subst hk2
      clear ht hty
      go_wp2_with fail
      refine (fflag_is f 32 _ w1 hf (by decide) (by decide) H32).mono ?_
      rintro e w2 ⟨rfl, hB2⟩
      have HB2 := Lib.hid (HB1.out.trans (hB2.mono HB1.out.size))
      clear hB2
      go_wp2_with fail
      go_ret
      exact ⟨rfl, HB2.out⟩
  · have ht1 : ((f.ty : Int) == 1) = false := beq_eq_false_iff_ne.2 (by omega)
    have ht2 : decide ((f.ty : Int) = 1) = false := decide_eq_false (by omega)
    cases q8
    all_goals
      simp [ht] at hk2
      subst hk2
      clear ht hty
      go_wp2_with fail
      go_ret
      exact ⟨rfl, HB1.out⟩
end Go.Proofs.Ytfgeapoojogdbaa
