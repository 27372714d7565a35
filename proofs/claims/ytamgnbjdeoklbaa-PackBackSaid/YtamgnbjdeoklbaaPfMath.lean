/- Integers with a prefix, as mathematics: the bytes behind the first one, what is put, what is got. No program. -/
import Derived.Lib.BitFns
namespace Go.Proofs.Ytamgnbjdeoklbaa.Pf

/-- The bytes behind the first one. -/
def gs (n : Nat) : List UInt8 := if n < 128 then [UInt8.ofNat n] else UInt8.ofNat (128 + n % 128) :: gs (n / 128)
  termination_by n
  decreasing_by omega
theorem gs_lt {n : Nat} (h : n < 128) : gs n = [UInt8.ofNat n] := by rw [gs, if_pos h]
theorem gs_ge {n : Nat} (h : 128 ≤ n) : gs n = UInt8.ofNat (128 + n % 128) :: gs (n / 128) := by rw [gs, if_neg (by omega)]
theorem gs_pos (n : Nat) : 1 ≤ (gs n).length := by
  by_cases h : n < 128
  · rw [gs_lt h]; exact Nat.le_refl _
  · rw [gs_ge (by omega), List.length_cons]; omega
theorem gs_one {n : Nat} (h : (gs n).length = 1) : n < 128 := by
  rcases Nat.lt_or_ge n 128 with h1 | h1
  · exact h1
  · rw [gs_ge h1, List.length_cons] at h
    have := gs_pos (n / 128)
    omega
theorem gs_mono : ∀ (n m : Nat), n ≤ m → (gs n).length ≤ (gs m).length := by
  intro n
  induction n using Nat.strongRecOn with
  | ind n ih =>
    intro m h
    by_cases h1 : n < 128
    · rw [gs_lt h1]; exact gs_pos m
    · rw [gs_ge (show 128 ≤ n by omega), gs_ge (show 128 ≤ m by omega), List.length_cons, List.length_cons]
      have := ih (n / 128) (by omega) (m / 128) (by omega)
      omega
theorem gs_few : ∀ (k n : Nat), n < 128 ^ (k + 1) → (gs n).length ≤ k + 1
  | 0, n, h => by rw [gs_lt (by omega)]; exact Nat.le_refl _
  | k + 1, n, h => by
    by_cases h1 : n < 128
    · rw [gs_lt h1]; simp
    · rw [gs_ge (by omega), List.length_cons]
      have := gs_few k (n / 128) (by rw [Nat.pow_succ] at h; omega)
      omega
theorem gs_many : ∀ (k n : Nat), 128 ^ k ≤ n → k + 1 ≤ (gs n).length
  | 0, n, _ => gs_pos n
  | k + 1, n, h => by
    rw [Nat.pow_succ] at h
    have h2 : 0 < 128 ^ k := Nat.pow_pos (by decide)
    rw [gs_ge (by omega), List.length_cons]
    have := gs_many k (n / 128) (by omega)
    omega
theorem bl_zero (f : Nat) : Lib.bitLenAux f 0 = 0 := by cases f <;> simp [Lib.bitLenAux]
theorem bl_bounds : ∀ (f x : Nat), x < 2 ^ f → x ≠ 0 → 1 ≤ Lib.bitLenAux f x ∧ 2 ^ (Lib.bitLenAux f x - 1) ≤ x ∧ x < 2 ^ Lib.bitLenAux f x
  | 0, x, h, h0 => by simp at h; omega
  | f + 1, x, h, h0 => by
    rw [Lib.bitLenAux, if_neg h0]
    by_cases h2 : x / 2 = 0
    · have : x = 1 := by omega
      subst this
      rw [h2, bl_zero]
      decide
    · have ⟨a, b, c⟩ := bl_bounds f (x / 2) (by rw [Nat.pow_succ] at h; omega) h2
      generalize Lib.bitLenAux f (x / 2) = L at a b c ⊢
      obtain ⟨k, rfl⟩ : ∃ k, L = k + 1 := ⟨L - 1, by omega⟩
      rw [Nat.add_sub_cancel] at b
      rw [show 1 + (k + 1) - 1 = k + 1 by omega, show 1 + (k + 1) = k + 1 + 1 by omega, Nat.pow_succ 2 (k + 1), Nat.pow_succ]
      rw [Nat.pow_succ] at c
      omega
theorem or_one (n : Nat) : n ||| 1 = n / 2 * 2 + 1 := by
  have h1 : n ||| 1 = n / 2 * 2 ||| (n % 2 ||| 1) := by
    have h := Nat.shiftLeft_add_eq_or_of_lt (i := 1) (b := n % 2) (by omega) (n / 2)
    rw [Nat.shiftLeft_eq, Nat.pow_one] at h
    rw [← Nat.or_assoc, ← h]
    congr 1
    omega
  have h2 : n % 2 ||| 1 = 1 := by
    rcases Nat.mod_two_eq_zero_or_one n with h | h <;> rw [h] <;> rfl
  have h := Nat.shiftLeft_add_eq_or_of_lt (i := 1) (b := 1) (by omega) (n / 2)
  rw [Nat.shiftLeft_eq, Nat.pow_one] at h
  rw [h1, h2, ← h]
/-- How many bytes follow: as many as seven bits each take, of the number with its lowest bit laid. -/
theorem gs_len {n : Nat} (h : n < 18446744073709551616) : ((gs n).length : Int) = ((Lib.bitLen (n ||| 1) : Int) + 6) / 7 ∧ 1 ≤ Lib.bitLen (n ||| 1) ∧ Lib.bitLen (n ||| 1) ≤ 64 := by
  have hx := or_one n
  generalize n ||| 1 = x at *
  have ⟨a, b, c⟩ := bl_bounds 64 x (by omega) (by omega)
  have d := Lib.bitLen_le x 64 (by omega) (by omega)
  change 1 ≤ Lib.bitLen x at a
  change 2 ^ (Lib.bitLen x - 1) ≤ x at b
  change x < 2 ^ Lib.bitLen x at c
  generalize Lib.bitLen x = L at *
  refine ⟨?_, a, d⟩
  obtain ⟨G, hG⟩ : ∃ G, (L + 6) / 7 = G + 1 := ⟨(L + 6) / 7 - 1, by omega⟩
  have h7 : ∀ k, (2 : Nat) ^ (7 * k) = 128 ^ k := fun k => by rw [Nat.pow_mul]
  have up : n < 128 ^ (G + 1) := by
    rw [← h7]
    have : 2 ^ L ≤ 2 ^ (7 * (G + 1)) := Nat.pow_le_pow_right (by omega) (by omega)
    omega
  have lo : 128 ^ G ≤ x := by
    rw [← h7]
    have : 2 ^ (7 * G) ≤ 2 ^ (L - 1) := Nat.pow_le_pow_right (by omega) (by omega)
    omega
  have e : (gs n).length = G + 1 := by
    have h1 := gs_few G n up
    cases G with
    | zero => have := gs_pos n; omega
    | succ G =>
      have h2 := gs_many (G + 1) n (by rw [Nat.pow_succ] at lo ⊢; omega)
      omega
  omega

/-- How many bits: 1 to 8. -/
def kOf (b : Int) : Nat := (min (max b 1) 8).toNat
/-- 2^N - 1. -/
def fullN (b : Int) : Nat := 2 ^ kOf b - 1
def isF (f : Nat) : Prop := f = 1 ∨ f = 3 ∨ f = 7 ∨ f = 15 ∨ f = 31 ∨ f = 63 ∨ f = 127 ∨ f = 255
theorem kOf_bd (b : Int) : 1 ≤ kOf b ∧ kOf b ≤ 8 := by unfold kOf; omega
theorem fullN_is (b : Int) : isF (fullN b) := by
  have h := kOf_bd b
  unfold fullN
  generalize kOf b = k at *
  have : k = 1 ∨ k = 2 ∨ k = 3 ∨ k = 4 ∨ k = 5 ∨ k = 6 ∨ k = 7 ∨ k = 8 := by omega
  rcases this with rfl | rfl | rfl | rfl | rfl | rfl | rfl | rfl <;> (unfold isF; decide)
theorem isF_bd {f : Nat} (h : isF f) : 1 ≤ f ∧ f ≤ 255 := by unfold isF at h; omega

/-- What is put. -/
def putL (f first n : Nat) : List UInt8 :=
  if n < f then [UInt8.ofNat (first / (f + 1) * (f + 1) + n)] else UInt8.ofNat (first / (f + 1) * (f + 1) + f) :: gs (n - f)
/-- What is got of the bytes behind the first one: at most j of them are left, u is the next one's unit. -/
def gt : Nat → List UInt8 → Nat → Nat → Nat → Nat × Nat × Nat
  | 0, _, _, _, _ => (0, 0, 90)
  | _ + 1, [], _, _, _ => (0, 0, 2)
  | j + 1, c :: r, p, u, n =>
    if 4294967295 < n + c.toNat % 128 * u then (0, 0, 90) else if c.toNat < 128 then (n + c.toNat % 128 * u, p + 1, 0) else gt j r (p + 1) (u * 128) (n + c.toNat % 128 * u)
/-- What is got at a place. -/
def getM (l : List UInt8) (p f : Nat) : Nat × Nat × Nat :=
  match l.drop p with
  | [] => (0, 0, 2)
  | c :: r => if c.toNat % (f + 1) < f then (c.toNat % (f + 1), p + 1, 0) else gt 5 r (p + 1) 1 f
def getZ (l : List UInt8) (p b : Int) : Nat × Nat × Nat := if p < 0 then (0, 0, 2) else getM l p.toNat (fullN b)

theorem nat_of {n : Nat} (h : n < 256) : (UInt8.ofNat n).toNat = n := by
  rw [UInt8.toNat_ofNat']
  exact Nat.mod_eq_of_lt h
theorem putL_pos (f first n : Nat) : 1 ≤ (putL f first n).length := by
  unfold putL
  split <;> simp
theorem first_mod {f first n : Nat} (hf : isF f) (h : first < 256) (hn : n ≤ f) : (UInt8.ofNat (first / (f + 1) * (f + 1) + n)).toNat % (f + 1) = n ∧ first / (f + 1) * (f + 1) + n < 256 := by
  have h1 : first / (f + 1) * (f + 1) + n < 256 := by
    unfold isF at hf
    rcases hf with rfl | rfl | rfl | rfl | rfl | rfl | rfl | rfl <;> omega
  refine ⟨?_, h1⟩
  rw [nat_of h1, Nat.mul_comm, Nat.mul_add_mod]
  exact Nat.mod_eq_of_lt (by omega)

/-- What was laid behind the first byte is got. -/
theorem gt_back : ∀ (j m : Nat) (more : List UInt8) (p u n : Nat), m < 128 ^ j → n + m * u ≤ 4294967295 → gt j (gs m ++ more) p u n = (n + m * u, p + (gs m).length, 0) ∨ (j = 0)
  | 0, _, _, _, _, _, _, _ => .inr rfl
  | j + 1, m, more, p, u, n, hm, hs => by
    left
    by_cases h : m < 128
    · rw [gs_lt h, List.singleton_append]
      unfold gt
      rw [nat_of (by omega), Nat.mod_eq_of_lt h, if_neg (by omega), if_pos h]
      rfl
    · have e : m * u = m % 128 * u + m / 128 * (u * 128) := by
        have h3 : m = m % 128 + m / 128 * 128 := by omega
        have h4 : m / 128 * (u * 128) = m / 128 * 128 * u := by rw [Nat.mul_comm u 128, Nat.mul_assoc]
        rw [h4, ← Nat.add_mul, ← h3]
      rw [gs_ge (by omega), List.cons_append]
      unfold gt
      rw [nat_of (by omega), show (128 + m % 128) % 128 = m % 128 by omega, if_neg (by omega), if_neg (by omega)]
      have hj := gt_back j (m / 128) more (p + 1) (u * 128) (n + m % 128 * u) (by rw [Nat.pow_succ] at hm; omega) (by omega)
      rcases hj with hj | hj
      · rw [hj, List.length_cons]
        congr 1
        · omega
        · congr 1; omega
      · subst hj
        omega
/-- A greater number than may be is refused. -/
theorem gt_over : ∀ (j m : Nat) (more : List UInt8) (p u n : Nat), 4294967295 < n + m * u → gt j (gs m ++ more) p u n = (0, 0, 90)
  | 0, _, _, _, _, _, _ => by unfold gt; rfl
  | j + 1, m, more, p, u, n, hs => by
    by_cases h : m < 128
    · rw [gs_lt h, List.singleton_append]
      unfold gt
      rw [nat_of (by omega), Nat.mod_eq_of_lt h, if_pos (by omega)]
    · have e : m * u = m % 128 * u + m / 128 * (u * 128) := by
        have h3 : m = m % 128 + m / 128 * 128 := by omega
        have h4 : m / 128 * (u * 128) = m / 128 * 128 * u := by rw [Nat.mul_comm u 128, Nat.mul_assoc]
        rw [h4, ← Nat.add_mul, ← h3]
      rw [gs_ge (by omega), List.cons_append]
      unfold gt
      rw [nat_of (by omega), show (128 + m % 128) % 128 = m % 128 by omega]
      by_cases h2 : 4294967295 < n + m % 128 * u
      · rw [if_pos h2]
      · rw [if_neg h2, if_neg (by omega)]
        exact gt_over j (m / 128) more (p + 1) (u * 128) (n + m % 128 * u) (by omega)
/-- Cut off, it is too short. -/
theorem gt_cut : ∀ (j m p u n : Nat), m < 128 ^ j → n + m * u ≤ 4294967295 → gt j (gs m).dropLast p u n = (0, 0, 2) ∨ j = 0
  | 0, _, _, _, _, _, _ => .inr rfl
  | j + 1, m, p, u, n, hm, hs => by
    left
    by_cases h : m < 128
    · rw [gs_lt h]
      rfl
    · have e : m * u = m % 128 * u + m / 128 * (u * 128) := by
        have h3 : m = m % 128 + m / 128 * 128 := by omega
        have h4 : m / 128 * (u * 128) = m / 128 * 128 * u := by rw [Nat.mul_comm u 128, Nat.mul_assoc]
        rw [h4, ← Nat.add_mul, ← h3]
      have hne : gs (m / 128) ≠ [] := fun h0 => by have := gs_pos (m / 128); rw [h0] at this; exact absurd this (by decide)
      rw [gs_ge (by omega), List.dropLast_cons_of_ne_nil hne]
      unfold gt
      rw [nat_of (by omega), show (128 + m % 128) % 128 = m % 128 by omega, if_neg (by omega), if_neg (by omega)]
      have hj := gt_cut j (m / 128) (p + 1) (u * 128) (n + m % 128 * u) (by rw [Nat.pow_succ] at hm; omega) (by omega)
      rcases hj with hj | hj
      · exact hj
      · subst hj
        omega
theorem get_back {f first n : Nat} (a more : List UInt8) (hf : isF f) (h : first < 256) (hn : n ≤ 4294967295) :
    getM (a ++ putL f first n ++ more) a.length f = (n, (a ++ putL f first n).length, 0) := by
  unfold getM
  rw [List.append_assoc, List.drop_left, List.length_append]
  unfold putL
  by_cases h1 : n < f
  · rw [if_pos h1, List.singleton_append]
    show (if _ then _ else _) = _
    rw [(first_mod hf h (by omega)).1, if_pos h1]
    rfl
  · rw [if_neg h1, List.cons_append]
    show (if _ then _ else _) = _
    rw [(first_mod hf h (Nat.le_refl f)).1, if_neg (Nat.lt_irrefl f)]
    have hb := isF_bd hf
    rcases gt_back 5 (n - f) more (a.length + 1) 1 f (by omega) (by omega) with e | e
    · rw [e, List.length_cons]
      congr 1
      · omega
      · congr 1; omega
    · cases e
theorem get_over {f first n : Nat} (a more : List UInt8) (hf : isF f) (h : first < 256) (hn : 4294967295 < n) :
    getM (a ++ putL f first n ++ more) a.length f = (0, 0, 90) := by
  have hb := isF_bd hf
  unfold getM
  rw [List.append_assoc, List.drop_left]
  unfold putL
  rw [if_neg (show ¬ n < f by omega), List.cons_append]
  show (if _ then _ else _) = _
  rw [(first_mod hf h (Nat.le_refl f)).1, if_neg (Nat.lt_irrefl f)]
  exact gt_over 5 (n - f) more (a.length + 1) 1 f (by omega)
theorem get_cut {f first n : Nat} (a : List UInt8) (hf : isF f) (h : first < 256) (hn : n ≤ 4294967295) :
    getM (a ++ (putL f first n).dropLast) a.length f = (0, 0, 2) := by
  have hb := isF_bd hf
  unfold getM
  rw [List.drop_left]
  unfold putL
  by_cases h1 : n < f
  · rw [if_pos h1]
    rfl
  · have hne : gs (n - f) ≠ [] := fun h0 => by have := gs_pos (n - f); rw [h0] at this; exact absurd this (by decide)
    rw [if_neg h1, List.dropLast_cons_of_ne_nil hne]
    show (if _ then _ else _) = _
    rw [(first_mod hf h (Nat.le_refl f)).1, if_neg (Nat.lt_irrefl f)]
    rcases gt_cut 5 (n - f) (a.length + 1) 1 f (by omega) (by omega) with e | e
    · exact e
    · cases e
/-- What is got was laid by as few bytes, or by fewer. -/
theorem gt_least : ∀ (j : Nat) (l : List UInt8) (p u n m q e : Nat), gt j l p u n = (m, q, e) → (e ≠ 0 → m = 0 ∧ q = 0) ∧
    (e = 0 → ∃ v, m = n + v * u ∧ p + (gs v).length ≤ q ∧ q ≤ p + l.length ∧ (p + (gs v).length = q → gs v = l.take (q - p)))
  | 0, _, _, _, _, _, _, _, h => by
    unfold gt at h
    injection h with h1 h2; injection h2 with h2 h3
    exact ⟨fun _ => ⟨h1.symm, h2.symm⟩, fun h0 => by omega⟩
  | _ + 1, [], _, _, _, _, _, _, h => by
    unfold gt at h
    injection h with h1 h2; injection h2 with h2 h3
    exact ⟨fun _ => ⟨h1.symm, h2.symm⟩, fun h0 => by omega⟩
  | j + 1, c :: r, p, u, n, m, q, e, h => by
    have hc := c.toNat_lt
    have hc2 : UInt8.ofNat c.toNat = c := UInt8.ofNat_toNat
    unfold gt at h
    by_cases h1 : 4294967295 < n + c.toNat % 128 * u
    · rw [if_pos h1] at h
      injection h with h1 h2; injection h2 with h2 h3
      exact ⟨fun _ => ⟨h1.symm, h2.symm⟩, fun h0 => by omega⟩
    · rw [if_neg h1] at h
      by_cases h2 : c.toNat < 128
      · rw [if_pos h2] at h
        injection h with h3 h4; injection h4 with h4 h5
        refine ⟨fun h0 => absurd h5.symm h0, fun _ => ⟨c.toNat, ?_, ?_, ?_, ?_⟩⟩
        · rw [← h3, Nat.mod_eq_of_lt h2]
        · rw [gs_lt h2, ← h4]; exact Nat.le_refl _
        · rw [← h4, List.length_cons]; omega
        · intro _
          rw [gs_lt h2, hc2, ← h4, Nat.add_sub_cancel_left]
          rfl
      · rw [if_neg h2] at h
        have ⟨i1, i2⟩ := gt_least j r (p + 1) (u * 128) _ m q e h
        refine ⟨i1, fun h0 => ?_⟩
        obtain ⟨v, e1, e2, e3, e4⟩ := i2 h0
        have hv := gs_pos v
        refine ⟨c.toNat % 128 + v * 128, ?_, ?_, ?_, ?_⟩
        · rw [e1, Nat.add_mul, Nat.mul_comm u 128, Nat.mul_assoc]; omega
        · by_cases hv0 : v = 0
          · subst hv0
            rw [gs_lt (by omega), List.length_singleton]; omega
          · rw [gs_ge (by omega), List.length_cons, show (c.toNat % 128 + v * 128) / 128 = v by omega]; omega
        · rw [List.length_cons]; omega
        · intro h5
          by_cases hv0 : v = 0
          · subst hv0
            rw [gs_lt (by omega), List.length_singleton] at h5
            omega
          · rw [gs_ge (by omega), List.length_cons, show (c.toNat % 128 + v * 128) / 128 = v by omega] at h5
            rw [gs_ge (by omega), show (c.toNat % 128 + v * 128) / 128 = v by omega, show 128 + (c.toNat % 128 + v * 128) % 128 = c.toNat by omega, hc2, e4 (by omega), show q - p = q - (p + 1) + 1 by omega, List.take_succ_cons]
theorem get_least {f : Nat} {l : List UInt8} {m q e : Nat} (h : getM l 0 f = (m, q, e)) : (e ≠ 0 → m = 0 ∧ q = 0) ∧
    (e = 0 → ∃ c r, l = c :: r ∧ (putL f c.toNat m).length ≤ q ∧ q ≤ l.length ∧ ((putL f c.toNat m).length = q → putL f c.toNat m = l.take q)) := by
  unfold getM at h
  rw [List.drop_zero] at h
  rcases l with _ | ⟨c, r⟩
  · injection h with h1 h2; injection h2 with h2 h3
    exact ⟨fun _ => ⟨h1.symm, h2.symm⟩, fun h0 => by omega⟩
  · have hc := c.toNat_lt
    have hc2 : UInt8.ofNat c.toNat = c := UInt8.ofNat_toNat
    have hdm := Nat.div_add_mod' c.toNat (f + 1)
    change (if _ then _ else _) = _ at h
    by_cases h1 : c.toNat % (f + 1) < f
    · rw [if_pos h1] at h
      injection h with h3 h4; injection h4 with h4 h5
      refine ⟨fun h0 => absurd h5.symm h0, fun _ => ⟨c, r, rfl, ?_⟩⟩
      unfold putL
      rw [← h3, if_pos h1, ← h4, hdm, hc2]
      exact ⟨Nat.le_refl _, by rw [List.length_cons]; omega, fun _ => rfl⟩
    · rw [if_neg h1] at h
      have ⟨i1, i2⟩ := gt_least 5 r (0 + 1) 1 f m q e h
      refine ⟨i1, fun h0 => ⟨c, r, rfl, ?_⟩⟩
      obtain ⟨v, e1, e2, e3, e4⟩ := i2 h0
      have hlt : c.toNat % (f + 1) < f + 1 := Nat.mod_lt _ (by omega)
      have hcf : c.toNat % (f + 1) = f := by omega
      rw [hcf] at hdm
      unfold putL
      rw [if_neg (by omega), hdm, hc2, show m - f = v by omega, List.length_cons, List.length_cons]
      refine ⟨by omega, by omega, fun h5 => ?_⟩
      rw [e4 (by omega), show q = q - (0 + 1) + 1 by omega, List.take_succ_cons]
      rfl
theorem gt_le : ∀ (j : Nat) (l : List UInt8) (p u n m q : Nat), gt j l p u n = (m, q, 0) → m ≤ 4294967295
  | 0, _, _, _, _, _, _, h => by
    unfold gt at h
    injection h with h1 h2; injection h2 with h2 h3
    omega
  | _ + 1, [], _, _, _, _, _, h => by
    unfold gt at h
    injection h with h1 h2; injection h2 with h2 h3
    omega
  | j + 1, c :: r, p, u, n, m, q, h => by
    unfold gt at h
    by_cases h1 : 4294967295 < n + c.toNat % 128 * u
    · rw [if_pos h1] at h
      injection h with h1 h2; injection h2 with h2 h3
      omega
    · rw [if_neg h1] at h
      by_cases h2 : c.toNat < 128
      · rw [if_pos h2] at h
        injection h with h3 h4
        omega
      · rw [if_neg h2] at h
        exact gt_le j r _ _ _ m q h
theorem getM_le {f p : Nat} {l : List UInt8} {m q : Nat} (h : getM l p f = (m, q, 0)) : m ≤ 4294967295 := by
  unfold getM at h
  split at h
  · injection h with h1 h2
    omega
  · rename_i c r _
    have hc := c.toNat_lt
    by_cases h1 : c.toNat % (f + 1) < f
    · rw [if_pos h1] at h
      injection h with h1 h2
      have := Nat.mod_le c.toNat (f + 1)
      omega
    · rw [if_neg h1] at h
      exact gt_le 5 r _ _ _ m q h
/-- How long it is. -/
theorem putL_len (f n : Nat) : (putL f 0 n).length = if n < f then 1 else (gs (n - f)).length + 1 := by
  unfold putL
  split <;> rfl
theorem len_mono {f n m : Nat} (h : n ≤ m) : (putL f 0 n).length ≤ (putL f 0 m).length := by
  rw [putL_len, putL_len]
  have := gs_mono (n - f) (m - f) (by omega)
  have h1 := gs_pos (m - f)
  split <;> split <;> omega
theorem len_bits {f g n : Nat} (h : f ≤ g) : (putL g 0 n).length ≤ (putL f 0 n).length := by
  rw [putL_len, putL_len]
  have := gs_mono (n - g) (n - f) (by omega)
  have h1 := gs_pos (n - f)
  split <;> split <;> omega
theorem len_one {f n : Nat} : (putL f 0 n).length = 1 ↔ n < f := by
  rw [putL_len]
  have h1 := gs_pos (n - f)
  split <;> omega
theorem putL_few (f first n : Nat) (h : n < 18446744073709551616) : (putL f first n).length ≤ 11 := by
  unfold putL
  have h1 := gs_few 9 (n - f) (by omega)
  split
  · simp
  · rw [List.length_cons]; omega
end Go.Proofs.Ytamgnbjdeoklbaa.Pf
