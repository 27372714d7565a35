/- What is wrong with a frame, asked as the code asks it, is what is wrong with it. No program. -/
import Derived.Test.YtfgeapoojogdbaaProg
import Derived.Test.YtfgeapoojogdbaaBytes
import Derived.Test.YtfgeapoojogdbaaNumBe
import Derived.Test.YtfgeapoojogdbaaFrMath
import Derived.Test.YtfgeapoojogdbaaFrLow
namespace Go.Proofs.Ytfgeapoojogdbaa.Fr
open Go Bytes
set_option linter.unusedSimpArgs false

def misB (f : Frm) : Bool :=
  if f.ty = 4 ∨ f.ty = 6 ∨ f.ty = 7 then decide (f.st ≠ 0)
  else if f.ty = 5 then true
  else if f.ty ≤ 3 ∨ f.ty = 9 then decide (f.st = 0) else false
def sizB (f : Frm) : Bool :=
  if f.ty ≤ 1 then decide (f.data.size < ahC f)
  else if f.ty = 3 ∨ f.ty = 8 then decide (f.data.size ≠ 4)
  else if f.ty = 4 then (if flagF f 1 = true then decide (f.data.size ≠ 0) else decide (f.data.size % 6 ≠ 0))
  else if f.ty = 6 then decide (f.data.size ≠ 8)
  else if f.ty = 7 then decide (f.data.size < 8) else false
def filB (f : Frm) : Bool :=
  if f.ty ≤ 1 then decide (f.data.size - ahC f < beC f)
  else if f.ty = 8 then decide (f.st = 0) && decide (gN f.data 0 4 % 2147483648 = 0) else false
def conC (f : Frm) : Nat := if misB f = true then 1 else if sizB f = true then 6 else if filB f = true then 1 else 0
def strC (f : Frm) : Nat :=
  if f.ty = 2 ∧ f.data.size ≠ 5 then 6
  else if priB f = true ∧ gN f.data (ahC f - 5) 4 % 2147483648 = f.st then 1
  else if f.ty = 8 ∧ gN f.data 0 4 % 2147483648 = 0 then 1 else 0
theorem ahC_01 {f : Frm} (h : f.ty ≤ 1) : ahC f = aheadF f := by
  unfold ahC aheadF padB priB
  have h2 : f.ty ≠ 2 := by omega
  rw [decide_eq_true h, decide_eq_false h2, Bool.true_and, Bool.false_or]
  congr 1
  by_cases h1 : f.ty = 1
  · rw [decide_eq_true h1, Bool.true_and]
    simp [h1]
  · rw [decide_eq_false h1, Bool.false_and]
    simp [h1]
theorem beC_01 {f : Frm} (h : f.ty ≤ 1) : beC f = padF f := by
  unfold beC padF padB
  rw [decide_eq_true h, Bool.true_and]
set_option maxHeartbeats 4000000 in
theorem wrong_by (f : Frm) : wrongF f = if conC f ≠ 0 then (2, conC f) else if strC f ≠ 0 then (1, strC f) else (0, 0) := by
  obtain ⟨g, hg⟩ : ∃ g, gN f.data 0 4 % 2147483648 = g := ⟨_, rfl⟩
  obtain ⟨n, hn⟩ : ∃ n, f.data.size = n := ⟨_, rfl⟩
  obtain ⟨b0, hb0⟩ : ∃ b, bN f.data 0 = b := ⟨_, rfl⟩
  rcases (show f.ty = 0 ∨ f.ty = 1 ∨ f.ty = 2 ∨ f.ty = 3 ∨ f.ty = 4 ∨ f.ty = 5 ∨ f.ty = 6 ∨ f.ty = 7 ∨ f.ty = 8 ∨ f.ty = 9 ∨ 9 < f.ty by omega) with ht | ht | ht | ht | ht | ht | ht | ht | ht | ht | ht
  · have ha := ahC_01 (f := f) (by omega)
    have hb := beC_01 (f := f) (by omega)
    have hw : wrongF f = if f.st = 0 then (2, 1) else if flagF f 8 = true ∧ f.data.size = 0 then (2, 6) else if flagF f 8 = true ∧ f.data.size ≤ bN f.data 0 then (2, 1) else (0, 0) := by unfold wrongF; rw [ht]; rfl
    rw [hw]
    unfold conC strC misB sizB filB priB
    rw [ha, hb]
    unfold aheadF padF
    rw [hn, hb0]
    by_cases h8 : flagF f 8 = true <;> by_cases hs : f.st = 0
    · simp [ht, h8, hs]
    · rcases Nat.eq_zero_or_pos n with h0 | h0
      · simp [ht, h8, hs, h0]
      · have e1 : ¬ n < 1 := by omega
        have e2 : n ≠ 0 := by omega
        by_cases h1 : n ≤ b0
        · have e3 : n - 1 < b0 := by omega
          simp [ht, h8, hs, e1, e2, e3, h1]
        · have e3 : ¬ n - 1 < b0 := by omega
          simp [ht, h8, hs, e1, e2, e3, h1]
    · simp [ht, h8, hs]
    · simp [ht, h8, hs]
  · have ha := ahC_01 (f := f) (by omega)
    have hb := beC_01 (f := f) (by omega)
    have hw : wrongF f = headsF f := by unfold wrongF; rw [ht]; rfl
    rw [hw]
    unfold headsF conC strC misB sizB filB priB selfF
    rw [ha, hb]
    unfold padF
    obtain ⟨k, hk⟩ : ∃ k, aheadF f = k := ⟨_, rfl⟩
    obtain ⟨q, hq⟩ : ∃ q, gN f.data (k - 5) 4 % 2147483648 = q := ⟨_, rfl⟩
    rw [hn, hb0, hk, hq]
    by_cases hs : f.st = 0
    · simp [ht, hs]
    · by_cases h1 : n < k
      · simp [ht, hs, h1]
      · by_cases h2 : n - k < b0
        · by_cases h8 : flagF f 8 = true <;> by_cases h32 : flagF f 32 = true <;> by_cases h3 : q = f.st <;> simp [ht, h8, h32, hs, h1, h2, h3]
        · by_cases h8 : flagF f 8 = true <;> by_cases h32 : flagF f 32 = true <;> by_cases h3 : q = f.st <;> simp [ht, h8, h32, hs, h1, h2, h3]
  · have hw : wrongF f = if f.st = 0 then (2, 1) else if f.data.size ≠ 5 then (1, 6) else if selfF f 0 = true then (1, 1) else (0, 0) := by unfold wrongF; rw [ht]; rfl
    rw [hw]
    have ha : ahC f = 5 := by unfold ahC padB priB; simp [ht]
    unfold conC strC misB sizB filB priB selfF
    rw [ha, hg, hn]
    by_cases hs : f.st = 0 <;> by_cases h5 : n = 5 <;> by_cases h3 : g = f.st <;> simp [ht, hs, h5, hg, h3]
  · unfold wrongF conC strC misB sizB filB priB
    by_cases hs : f.st = 0 <;> by_cases h1 : n = 4 <;> simp [ht, hn, hs, h1]
  · unfold wrongF conC strC misB sizB filB priB
    by_cases hs : f.st = 0 <;> by_cases hf : flagF f 1 = true <;> by_cases h0 : n = 0 <;> by_cases h1 : n % 6 = 0 <;> simp [ht, hn, hs, hf, h0, h1]
  · unfold wrongF conC strC misB sizB filB priB
    simp [ht]
  · unfold wrongF conC strC misB sizB filB priB
    by_cases hs : f.st = 0 <;> by_cases h1 : n = 8 <;> simp [ht, hn, hs, h1]
  · unfold wrongF conC strC misB sizB filB priB
    by_cases hs : f.st = 0 <;> by_cases h1 : n < 8 <;> simp [ht, hn, hs, h1]
  · unfold wrongF conC strC misB sizB filB priB
    by_cases hs : f.st = 0 <;> by_cases h1 : n = 4 <;> by_cases h2 : g = 0 <;> simp [ht, hn, hg, hs, h1, h2]
  · unfold wrongF conC strC misB sizB filB priB
    by_cases hs : f.st = 0 <;> simp [ht, hs]
  · have hw : wrongF f = (0, 0) := by
      unfold wrongF
      split <;> first | rfl | omega
    rw [hw]
    unfold conC strC misB sizB filB priB
    have t0 : ¬ f.ty ≤ 1 := by omega
    have t1 : f.ty ≠ 1 := by omega
    have t2 : f.ty ≠ 2 := by omega
    have t3 : f.ty ≠ 3 := by omega
    have t33 : ¬ f.ty ≤ 3 := by omega
    have t4 : f.ty ≠ 4 := by omega
    have t5 : f.ty ≠ 5 := by omega
    have t6 : f.ty ≠ 6 := by omega
    have t7 : f.ty ≠ 7 := by omega
    have t8 : f.ty ≠ 8 := by omega
    have t9 : f.ty ≠ 9 := by omega
    simp [t0, t1, t2, t3, t33, t4, t5, t6, t7, t8, t9]
theorem con_size {f : Frm} (h2 : sizB f = false) (ht : f.ty = 8) : f.data.size = 4 := by
  unfold sizB at h2
  simp [ht] at h2
  exact h2
theorem siz_ahead {f : Frm} (h2 : sizB f = false) (ht : f.ty ≤ 1) : ahC f ≤ f.data.size := by
  unfold sizB at h2
  rw [if_pos ht] at h2
  exact Nat.le_of_not_lt (of_decide_eq_false h2)
theorem siz_pad {f : Frm} (h2 : sizB f = false) (hp : padB f = true) : 0 < f.data.size := by
  have ht : f.ty ≤ 1 := by
    unfold padB at hp
    rw [Bool.and_eq_true, decide_eq_true_iff] at hp
    exact hp.1
  have := siz_ahead h2 ht
  unfold ahC at this
  rw [hp] at this
  simp only [if_true] at this
  omega
theorem con_zero {f : Frm} (h : conC f = 0) : misB f = false ∧ sizB f = false ∧ filB f = false := by
  unfold conC at h
  split at h
  · cases h
  · split at h
    · cases h
    · split at h
      · cases h
      · simp_all
theorem con_le (f : Frm) : conC f ≤ 6 := by unfold conC; (repeat' split) <;> omega
theorem str_le (f : Frm) : strC f ≤ 6 := by unfold strC; (repeat' split) <;> omega
end Go.Proofs.Ytfgeapoojogdbaa.Fr
