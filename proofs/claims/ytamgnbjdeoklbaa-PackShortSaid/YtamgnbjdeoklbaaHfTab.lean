/- The tables of the Huffman code of layer 10: lengths and codes of the signs, and what holds of them, looked up in the kernel. No program. -/
namespace Go.Proofs.Ytamgnbjdeoklbaa.Hf

/-- The length of each sign. -/
def lens : List Nat := [13, 23, 28, 28, 28, 28, 28, 28, 28, 24, 30, 28, 28, 30, 28, 28, 28, 28, 28, 28, 28, 28, 30, 28, 28, 28, 28, 28, 28, 28, 28, 28, 6, 10, 10, 12, 13, 6, 8, 11, 10, 10, 8, 11, 8, 6, 6, 6, 5, 5, 5, 6, 6, 6, 6, 6, 6, 6, 7, 8, 15, 6, 12, 10, 13, 6, 7, 7, 7, 7, 7, 7, 7, 7, 7, 7, 7, 7, 7, 7, 7, 7, 7, 7, 7, 7, 7, 7, 8, 7, 8, 13, 19, 13, 14, 6, 15, 5, 6, 5, 6, 5, 6, 6, 6, 5, 7, 7, 6, 6, 6, 5, 6, 7, 6, 5, 5, 6, 7, 7, 7, 7, 7, 15, 11, 14, 13, 28, 20, 22, 20, 20, 22, 22, 22, 23, 22, 23, 23, 23, 23, 23, 24, 23, 24, 24, 22, 23, 24, 23, 23, 23, 23, 21, 22, 23, 22, 23, 23, 24, 22, 21, 20, 22, 22, 23, 23, 21, 23, 22, 22, 24, 21, 22, 23, 23, 21, 21, 22, 21, 23, 22, 23, 23, 20, 22, 22, 22, 23, 22, 22, 23, 26, 26, 20, 19, 22, 23, 22, 25, 26, 26, 26, 27, 27, 26, 24, 25, 19, 21, 26, 27, 27, 26, 27, 24, 21, 21, 26, 26, 28, 27, 27, 27, 20, 24, 20, 21, 22, 21, 21, 23, 22, 22, 25, 25, 24, 24, 26, 23, 26, 27, 26, 26, 27, 27, 27, 27, 27, 28, 27, 27, 27, 27, 27, 26, 30]
/-- The code of each sign. -/
def cds : List Nat := [8184, 8388568, 268435426, 268435427, 268435428, 268435429, 268435430, 268435431, 268435432, 16777194, 1073741820, 268435433, 268435434, 1073741821, 268435435, 268435436, 268435437, 268435438, 268435439, 268435440, 268435441, 268435442, 1073741822, 268435443, 268435444, 268435445, 268435446, 268435447, 268435448, 268435449, 268435450, 268435451, 20, 1016, 1017, 4090, 8185, 21, 248, 2042, 1018, 1019, 249, 2043, 250, 22, 23, 24, 0, 1, 2, 25, 26, 27, 28, 29, 30, 31, 92, 251, 32764, 32, 4091, 1020, 8186, 33, 93, 94, 95, 96, 97, 98, 99, 100, 101, 102, 103, 104, 105, 106, 107, 108, 109, 110, 111, 112, 113, 114, 252, 115, 253, 8187, 524272, 8188, 16380, 34, 32765, 3, 35, 4, 36, 5, 37, 38, 39, 6, 116, 117, 40, 41, 42, 7, 43, 118, 44, 8, 9, 45, 119, 120, 121, 122, 123, 32766, 2044, 16381, 8189, 268435452, 1048550, 4194258, 1048551, 1048552, 4194259, 4194260, 4194261, 8388569, 4194262, 8388570, 8388571, 8388572, 8388573, 8388574, 16777195, 8388575, 16777196, 16777197, 4194263, 8388576, 16777198, 8388577, 8388578, 8388579, 8388580, 2097116, 4194264, 8388581, 4194265, 8388582, 8388583, 16777199, 4194266, 2097117, 1048553, 4194267, 4194268, 8388584, 8388585, 2097118, 8388586, 4194269, 4194270, 16777200, 2097119, 4194271, 8388587, 8388588, 2097120, 2097121, 4194272, 2097122, 8388589, 4194273, 8388590, 8388591, 1048554, 4194274, 4194275, 4194276, 8388592, 4194277, 4194278, 8388593, 67108832, 67108833, 1048555, 524273, 4194279, 8388594, 4194280, 33554412, 67108834, 67108835, 67108836, 134217694, 134217695, 67108837, 16777201, 33554413, 524274, 2097123, 67108838, 134217696, 134217697, 67108839, 134217698, 16777202, 2097124, 2097125, 67108840, 67108841, 268435453, 134217699, 134217700, 134217701, 1048556, 16777203, 1048557, 2097126, 4194281, 2097127, 2097128, 8388595, 4194282, 4194283, 33554414, 33554415, 16777204, 16777205, 67108842, 8388596, 67108843, 134217702, 67108844, 67108845, 134217703, 134217704, 134217705, 134217706, 134217707, 268435454, 134217708, 134217709, 134217710, 134217711, 134217712, 67108846, 1073741823]
/-- The signs in order of their lengths. -/
def ord : List Nat := [48, 49, 50, 97, 99, 101, 105, 111, 115, 116, 32, 37, 45, 46, 47, 51, 52, 53, 54, 55, 56, 57, 61, 65, 95, 98, 100, 102, 103, 104, 108, 109, 110, 112, 114, 117, 58, 66, 67, 68, 69, 70, 71, 72, 73, 74, 75, 76, 77, 78, 79, 80, 81, 82, 83, 84, 85, 86, 87, 89, 106, 107, 113, 118, 119, 120, 121, 122, 38, 42, 44, 59, 88, 90, 33, 34, 40, 41, 63, 39, 43, 124, 35, 62, 0, 36, 64, 91, 93, 126, 94, 125, 60, 96, 123, 92, 195, 208, 128, 130, 131, 162, 184, 194, 224, 226, 153, 161, 167, 172, 176, 177, 179, 209, 216, 217, 227, 229, 230, 129, 132, 133, 134, 136, 146, 154, 156, 160, 163, 164, 169, 170, 173, 178, 181, 185, 186, 187, 189, 190, 196, 198, 228, 232, 233, 1, 135, 137, 138, 139, 140, 141, 143, 147, 149, 150, 151, 152, 155, 157, 158, 165, 166, 168, 174, 175, 180, 182, 183, 188, 191, 197, 231, 239, 9, 142, 144, 145, 148, 159, 171, 206, 215, 225, 236, 237, 199, 207, 234, 235, 192, 193, 200, 201, 202, 205, 210, 213, 218, 219, 238, 240, 242, 243, 255, 203, 204, 211, 212, 214, 221, 222, 223, 241, 244, 245, 246, 247, 248, 250, 251, 252, 253, 254, 2, 3, 4, 5, 6, 7, 8, 11, 12, 14, 15, 16, 17, 18, 19, 20, 21, 23, 24, 25, 26, 27, 28, 29, 30, 31, 127, 220, 249, 10, 13, 22, 256]
/-- The first code of each length. -/
def firsts : List Nat := [0, 0, 0, 0, 0, 0, 20, 92, 248, 508, 1016, 2042, 4090, 8184, 16380, 32764, 65534, 131068, 262136, 524272, 1048550, 2097116, 4194258, 8388568, 16777194, 33554412, 67108832, 134217694, 268435426, 536870910, 1073741820]
/-- How many signs have that length. -/
def counts : List Nat := [0, 0, 0, 0, 0, 10, 26, 32, 6, 0, 5, 3, 2, 6, 2, 3, 0, 0, 0, 3, 8, 13, 26, 29, 12, 4, 15, 19, 29, 0, 4]
/-- How many signs are shorter. -/
def offs : List Nat := [0, 0, 0, 0, 0, 0, 10, 36, 68, 74, 74, 79, 82, 84, 90, 92, 95, 95, 95, 95, 98, 106, 119, 145, 174, 186, 190, 205, 224, 253, 253]
def len (s : Nat) : Nat := lens.getD s 0
def cd (s : Nat) : Nat := cds.getD s 0
/-- The sign that has this code of so many bits. -/
def look (c n : Nat) : Option Nat :=
  if firsts.getD n 0 ≤ c ∧ c < firsts.getD n 0 + counts.getD n 0 then some (ord.getD (offs.getD n 0 + (c - firsts.getD n 0)) 0) else none

theorem all_lt {p : Nat → Bool} {n : Nat} (h : (List.range n).all p = true) (s : Nat) (hs : s < n) : p s = true := List.all_eq_true.1 h s (List.mem_range.2 hs)
theorem len_chk : ((List.range 257).all fun s => decide (5 ≤ len s) && decide (len s ≤ 30) && decide (cd s < 2 ^ len s) && decide (look (cd s) (len s) = some s)) = true := by decide +kernel
theorem len_bd {s : Nat} (h : s < 257) : 5 ≤ len s ∧ len s ≤ 30 ∧ cd s < 2 ^ len s ∧ look (cd s) (len s) = some s := by
  have := all_lt len_chk s h
  simp only [Bool.and_eq_true, decide_eq_true_eq] at this
  exact ⟨this.1.1.1, this.1.1.2, this.1.2, this.2⟩
theorem pre_chk : ((List.range 257).all fun s => (List.range 30).all fun m => decide (m = 0) || decide (len s ≤ m) || decide (look (cd s / 2 ^ m) (len s - m) = none)) = true := by decide +kernel
/-- No code is the beginning of another one. -/
theorem pre_none {s m : Nat} (h : s < 257) (h1 : 1 ≤ m) (h2 : m < len s) : look (cd s / 2 ^ m) (len s - m) = none := by
  have hb := (len_bd h).2.1
  have := all_lt (all_lt pre_chk s h) m (by omega)
  simp only [Bool.or_eq_true, decide_eq_true_eq] at this
  rcases this with (h3 | h3) | h3
  · omega
  · omega
  · exact h3
theorem look_chk : ((List.range 31).all fun n => (List.range (counts.getD n 0)).all fun i => decide (ord.getD (offs.getD n 0 + i) 0 < 257) && decide (cd (ord.getD (offs.getD n 0 + i) 0) = firsts.getD n 0 + i) && decide (len (ord.getD (offs.getD n 0 + i) 0) = n)) = true := by decide +kernel
theorem counts_top {n : Nat} (h : 30 < n) : counts.getD n 0 = 0 := by
  rw [List.getD_eq_getElem?_getD, List.getElem?_eq_none (by show counts.length ≤ n; exact h)]
  rfl
theorem look_some {c n s : Nat} (h : look c n = some s) : s < 257 ∧ cd s = c ∧ len s = n := by
  unfold look at h
  split at h
  · rename_i hc
    injection h with h
    have hn : n < 31 := by
      rcases Nat.lt_or_ge n 31 with h1 | h1
      · exact h1
      · have := counts_top (n := n) (by omega)
        omega
    have := all_lt (all_lt look_chk n hn) (c - firsts.getD n 0) (by omega)
    simp only [Bool.and_eq_true, decide_eq_true_eq] at this
    rw [h] at this
    exact ⟨this.1.1, by rw [this.1.2]; omega, this.2⟩
  · cases h
theorem look_iff {c n s : Nat} (h : s < 257) : look c n = some s ↔ cd s = c ∧ len s = n := by
  constructor
  · intro h1
    exact (look_some h1).2
  · rintro ⟨rfl, rfl⟩
    exact (len_bd h).2.2.2
/-- Unlike signs have unlike codes, and none begins another one: told by shifts. -/
theorem free {i k : Nat} (hi : i < 257) (hk : k < i) : ¬ (len k ≤ len i ∧ cd i / 2 ^ (len i - len k) = cd k) ∧ ¬ (len i < len k ∧ cd k / 2 ^ (len k - len i) = cd i) := by
  have bi := len_bd hi
  have bk := len_bd (show k < 257 by omega)
  constructor
  · rintro ⟨h1, h2⟩
    rcases Nat.lt_or_ge (len k) (len i) with h3 | h3
    · have := pre_none hi (m := len i - len k) (by omega) (by omega)
      rw [h2, show len i - (len i - len k) = len k by omega, bk.2.2.2] at this
      cases this
    · have e : len i = len k := by omega
      rw [e, Nat.sub_self, Nat.pow_zero, Nat.div_one] at h2
      have h4 := bi.2.2.2
      rw [h2, e, bk.2.2.2] at h4
      injection h4 with h4
      omega
  · rintro ⟨h1, h2⟩
    have := pre_none (show k < 257 by omega) (m := len k - len i) (by omega) (by omega)
    rw [h2, show len k - (len k - len i) = len i by omega, bi.2.2.2] at this
    cases this
/-- What the signs up to one take of all there is. -/
def sumTo : Nat → Nat
  | 0 => 0
  | n + 1 => sumTo n + 2 ^ (30 - len n)
theorem sum_all : sumTo 257 = 1073741824 := by decide +kernel
theorem sumTo_mono : ∀ {n m : Nat}, n ≤ m → sumTo n ≤ sumTo m
  | n, 0, h => by rw [show n = 0 by omega]; exact Nat.le_refl _
  | n, m + 1, h => by
    rcases Nat.lt_or_ge n (m + 1) with h1 | h1
    · have h2 := sumTo_mono (show n ≤ m by omega)
      have h3 : sumTo (m + 1) = sumTo m + 2 ^ (30 - len m) := rfl
      generalize 2 ^ (30 - len m) = z at h3
      omega
    · rw [show n = m + 1 by omega]
      exact Nat.le_refl _
theorem ones_chk : ((List.range 8).all fun k => decide (look (2 ^ k - 1) k = none)) = true := by decide +kernel
theorem ones_none {k : Nat} (h : k ≤ 7) : look (2 ^ k - 1) k = none := by
  have := all_lt ones_chk k (by omega)
  simpa using this
/-- One behind the last code of so many bits. -/
def topOf (n : Nat) : Nat := firsts.getD n 0 + counts.getD n 0
theorem top_chk : ((List.range 30).all fun n => decide (firsts.getD (n + 1) 0 = 2 * topOf n)) = true := by decide +kernel
theorem top_next {n : Nat} (h : n < 30) : firsts.getD (n + 1) 0 = 2 * topOf n := by
  have := all_lt top_chk n h
  simpa using this
theorem top_30 : topOf 30 = 2 ^ 30 := by decide +kernel
end Go.Proofs.Ytamgnbjdeoklbaa.Hf
