/- Plain arithmetic of layer 1: sums and products that stay at the greatest number. No condition. -/
namespace Go.Proofs.Yteddepmiejlemaa.NumMath

/-- The greatest of 64 bits. -/
def top64 : Int := 18446744073709551615
def sat64 (x : Int) : Int := if 18446744073709551615 < x then 18446744073709551615 else x
def sat32 (x : Int) : Int := if 4294967295 < x then 4294967295 else x

theorem sat64_bd {x : Int} (h : 0 ≤ x) : 0 ≤ sat64 x ∧ sat64 x ≤ 18446744073709551615 := by
  unfold sat64; split <;> omega
theorem sat64_of_le {x : Int} (h : x ≤ 18446744073709551615) : sat64 x = x := by
  unfold sat64; rw [if_neg (by omega)]
theorem sat64_of_lt {x : Int} (h : 18446744073709551615 < x) : sat64 x = 18446744073709551615 := by
  unfold sat64; rw [if_pos h]
theorem sat64_of_ge {x : Int} (h : 18446744073709551615 ≤ x) : sat64 x = 18446744073709551615 := by
  unfold sat64; split <;> omega
theorem sat64_mono {x y : Int} (h : x ≤ y) : sat64 x ≤ sat64 y := by
  unfold sat64; split <;> split <;> omega
theorem sat32_bd {x : Int} (h : 0 ≤ x) : 0 ≤ sat32 x ∧ sat32 x ≤ 4294967295 := by
  unfold sat32; split <;> omega
theorem sat64_add (x y : Int) (hy : 0 ≤ y) : sat64 (sat64 x + y) = sat64 (x + y) := by
  unfold sat64
  by_cases h1 : 18446744073709551615 < x
  · rw [if_pos h1, if_pos (show 18446744073709551615 < x + y by omega)]; split <;> omega
  · rw [if_neg h1]

/-- One round of the product by sums, with a further one behind it. -/
theorem round_more (o a b : Int) (ho : 0 ≤ o) (ha : 0 ≤ a) (hb : 1 ≤ b / 2) :
    sat64 ((if b % 2 = 1 then sat64 (o + a) else o) + sat64 (a + a) * (b / 2)) = sat64 (o + a * b) := by
  obtain ⟨q, hq⟩ : ∃ q, q = b / 2 := ⟨_, rfl⟩
  have hr : b % 2 = 0 ∨ b % 2 = 1 := by omega
  rw [← hq] at hb ⊢
  have e : a * b = (a + a) * q + a * (b % 2) := by
    have h : b = 2 * q + b % 2 := by omega
    have h2 : a * (2 * q) = (a + a) * q := by rw [← Int.mul_assoc, Int.mul_comm a 2, Int.two_mul]
    calc a * b = a * (2 * q + b % 2) := by rw [← h]
      _ = (a + a) * q + a * (b % 2) := by rw [Int.mul_add, h2]
  rw [e]
  have hpos : 0 ≤ (a + a) * q := Int.mul_nonneg (by omega) (by omega)
  have hle : a + a ≤ (a + a) * q := by
    have := Int.mul_le_mul_of_nonneg_left hb (show 0 ≤ a + a by omega)
    simpa using this
  by_cases hs : 18446744073709551615 < a + a
  · rw [sat64_of_lt hs]
    have h1 : (18446744073709551615 : Int) ≤ 18446744073709551615 * q := by omega
    rcases hr with h0 | h0
    · rw [h0, if_neg (by omega), sat64_of_ge (by omega), sat64_of_ge (by omega)]
    · rw [h0, if_pos rfl]
      have := (sat64_bd (show 0 ≤ o + a by omega)).1
      rw [sat64_of_ge (by omega), sat64_of_ge (by omega)]
  · rw [sat64_of_le (show a + a ≤ _ by omega)]
    rcases hr with h0 | h0
    · rw [h0, if_neg (by omega)]; simp
    · rw [h0, if_pos rfl, sat64_add _ _ hpos]
      congr 1; omega

/-- The last round. -/
theorem round_last (o a b : Int) (hb1 : 0 < b) (hb : b / 2 = 0) :
    (if b % 2 = 1 then sat64 (o + a) else o) = sat64 (o + a * b) := by
  have h : b = 1 := by omega
  subst h
  simp
end Go.Proofs.Yteddepmiejlemaa.NumMath
