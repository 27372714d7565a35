/- The Huffman code of layer 10 as mathematics: bits, what is encoded, what is decoded; both are one to one. No program. -/
import Derived.Test.YtamgnbjdeoklbaaHfTab
namespace Go.Proofs.Ytamgnbjdeoklbaa.Hf

/-- The lowest k bits of a number, the highest first. -/
def bits (n : Nat) : Nat → List Bool
  | 0 => []
  | k + 1 => (n / 2 ^ k % 2 == 1) :: bits n k
theorem bits_len (n : Nat) : ∀ k, (bits n k).length = k
  | 0 => rfl
  | k + 1 => by rw [bits, List.length_cons, bits_len n k]
/-- One bit as a number. -/
def bn (b : Bool) : Nat := if b then 1 else 0
theorem bn_le (b : Bool) : bn b ≤ 1 := by cases b <;> decide
theorem bits_snoc (c : Nat) (b : Bool) : ∀ n, bits (2 * c + bn b) (n + 1) = bits c n ++ [b]
  | 0 => by
    have : (2 * c + bn b) / 2 ^ 0 % 2 = bn b := by have := bn_le b; rw [Nat.pow_zero, Nat.div_one]; omega
    show ((2 * c + bn b) / 2 ^ 0 % 2 == 1) :: [] = [b]
    rw [this]
    cases b <;> rfl
  | n + 1 => by
    have hb := bn_le b
    have e : (2 * c + bn b) / 2 ^ (n + 1) = c / 2 ^ n := by
      rw [Nat.pow_succ, Nat.mul_comm (2 ^ n) 2, ← Nat.div_div_eq_div_mul]
      congr 1
      omega
    rw [bits, e, bits_snoc c b n]
    rfl
theorem bits_inj : ∀ (k a b : Nat), a < 2 ^ k → b < 2 ^ k → bits a k = bits b k → a = b
  | 0, a, b, ha, hb, _ => by
    rw [Nat.pow_zero] at ha hb
    omega
  | k + 1, a, b, ha, hb, h => by
    rw [show a = 2 * (a / 2) + bn (a % 2 == 1) by rcases Nat.mod_two_eq_zero_or_one a with e | e <;> rw [e] <;> simp [bn] <;> omega, show b = 2 * (b / 2) + bn (b % 2 == 1) by rcases Nat.mod_two_eq_zero_or_one b with e | e <;> rw [e] <;> simp [bn] <;> omega] at h ⊢
    rw [bits_snoc, bits_snoc] at h
    have h1 := List.append_inj h (by rw [bits_len, bits_len])
    have h2 := bits_inj k _ _ (by rw [Nat.pow_succ] at ha; omega) (by rw [Nat.pow_succ] at hb; omega) h1.1
    have h3 : (a % 2 == 1) = (b % 2 == 1) := by
      have := h1.2
      injection this
    rw [h2, h3]

/-- The codes of the bytes, one behind the other. -/
def encB : List UInt8 → List Bool
  | [] => []
  | x :: l => bits (cd x.toNat) (len x.toNat) ++ encB l
theorem encB_cat (a b : List UInt8) : encB (a ++ b) = encB a ++ encB b := by
  induction a with
  | nil => rfl
  | cons x a ih => rw [List.cons_append, encB, encB, ih, List.append_assoc]
theorem byte_lt (x : UInt8) : x.toNat < 257 := by have := x.toNat_lt; omega
theorem encB_len (l : List UInt8) : 5 * l.length ≤ (encB l).length ∧ (encB l).length ≤ 30 * l.length := by
  induction l with
  | nil => exact ⟨Nat.le_refl _, Nat.le_refl _⟩
  | cons x l ih =>
    have := len_bd (byte_lt x)
    rw [encB, List.length_append, bits_len, List.length_cons]
    omega
/-- Bits as bytes: h of the next byte's are there, as the number x; the last byte is filled up with 1. -/
def pack (x h : Nat) : List Bool → List UInt8
  | [] => if h = 0 then [] else [UInt8.ofNat (x * 2 ^ (8 - h) + (2 ^ (8 - h) - 1))]
  | b :: r => if h = 7 then UInt8.ofNat (2 * x + bn b) :: pack 0 0 r else pack (2 * x + bn b) (h + 1) r
/-- Bytes as bits. -/
def bitsOf : List UInt8 → List Bool
  | [] => []
  | x :: l => bits x.toNat 8 ++ bitsOf l
theorem bitsOf_len (l : List UInt8) : (bitsOf l).length = 8 * l.length := by
  induction l with
  | nil => rfl
  | cons x l ih => rw [bitsOf, List.length_append, bits_len, ih, List.length_cons]; omega
theorem bitsOf_cat (a b : List UInt8) : bitsOf (a ++ b) = bitsOf a ++ bitsOf b := by
  induction a with
  | nil => rfl
  | cons x a ih => rw [List.cons_append, bitsOf, bitsOf, ih, List.append_assoc]
theorem bitsOf_inj : ∀ (a b : List UInt8), bitsOf a = bitsOf b → a = b
  | [], [], _ => rfl
  | [], y :: b, h => by have := congrArg List.length h; rw [bitsOf_len, bitsOf_len, List.length_cons, List.length_nil] at this; omega
  | x :: a, [], h => by have := congrArg List.length h; rw [bitsOf_len, bitsOf_len, List.length_cons, List.length_nil] at this; omega
  | x :: a, y :: b, h => by
    rw [bitsOf, bitsOf] at h
    have h1 := List.append_inj h (by rw [bits_len, bits_len])
    rw [bitsOf_inj a b h1.2, UInt8.toNat_inj.1 (bits_inj 8 _ _ x.toNat_lt y.toNat_lt h1.1)]
def ones (k : Nat) : List Bool := List.replicate k true
theorem ones_bits : ∀ k, bits (2 ^ k - 1) k = ones k
  | 0 => rfl
  | k + 1 => by
    have hp : 0 < 2 ^ k := Nat.pow_pos (by decide)
    have e : 2 ^ (k + 1) - 1 = 2 * (2 ^ k - 1) + bn true := by
      rw [Nat.pow_succ]
      show _ = 2 * (2 ^ k - 1) + 1
      omega
    rw [e, bits_snoc, ones_bits k]
    show List.replicate k true ++ [true] = List.replicate (k + 1) true
    rw [List.replicate_succ']
theorem ones_add (a b : Nat) : ones a ++ ones b = ones (a + b) := by
  unfold ones
  rw [List.replicate_append_replicate]
theorem bits_ones (x h : Nat) : ∀ k, bits (x * 2 ^ k + (2 ^ k - 1)) (h + k) = bits x h ++ ones k
  | 0 => by
    show bits (x * 1 + 0) h = bits x h ++ []
    rw [Nat.mul_one, List.append_nil]
    rfl
  | k + 1 => by
    have hp : 0 < 2 ^ k := Nat.pow_pos (by decide)
    have e : x * 2 ^ (k + 1) + (2 ^ (k + 1) - 1) = 2 * (x * 2 ^ k + (2 ^ k - 1)) + bn true := by
      rw [Nat.pow_succ, ← Nat.mul_assoc]
      show _ = 2 * (x * 2 ^ k + (2 ^ k - 1)) + 1
      omega
    rw [e, show h + (k + 1) = h + k + 1 by omega, bits_snoc, bits_ones x h k, List.append_assoc]
    show _ ++ (List.replicate k true ++ [true]) = _ ++ List.replicate (k + 1) true
    rw [List.replicate_succ']
/-- How many bits of 1 fill the last byte up. -/
def fill (n : Nat) : Nat := (8 - n % 8) % 8
theorem bitsOf_pack : ∀ (B : List Bool) (x h : Nat), x < 2 ^ h → h ≤ 7 → bitsOf (pack x h B) = bits x h ++ B ++ ones (fill (h + B.length))
  | [], x, h, hx, hh => by
    rw [pack, List.length_nil, Nat.add_zero, List.append_nil]
    by_cases h0 : h = 0
    · rw [if_pos h0]
      subst h0
      rfl
    · have hf : fill h = 8 - h := by unfold fill; omega
      rw [if_neg h0, hf, bitsOf, bitsOf, List.append_nil, ← bits_ones]
      have hp : 2 ^ h * 2 ^ (8 - h) = 256 := by rw [← Nat.pow_add, show h + (8 - h) = 8 by omega]
      have hq : (x + 1) * 2 ^ (8 - h) ≤ 2 ^ h * 2 ^ (8 - h) := Nat.mul_le_mul_right _ hx
      rw [hp, Nat.add_mul, Nat.one_mul] at hq
      have hp0 : 0 < 2 ^ (8 - h) := Nat.pow_pos (by decide)
      rw [UInt8.toNat_ofNat', Nat.mod_eq_of_lt (by omega), show h + (8 - h) = 8 by omega]
  | b :: r, x, h, hx, hh => by
    have hb := bn_le b
    have hx2 : 2 * x + bn b < 2 ^ (h + 1) := by rw [Nat.pow_succ]; omega
    rw [pack]
    by_cases h7 : h = 7
    · subst h7
      rw [if_pos rfl, bitsOf, bitsOf_pack r 0 0 (by decide) (by decide), UInt8.toNat_ofNat', Nat.mod_eq_of_lt hx2, bits_snoc, show bits 0 0 = [] from rfl, List.nil_append, List.length_cons]
      rw [show fill (7 + (r.length + 1)) = fill (0 + r.length) by unfold fill; omega]
      simp only [List.append_assoc, List.cons_append, List.nil_append]
    · rw [if_neg h7, bitsOf_pack r (2 * x + bn b) (h + 1) hx2 (by omega), bits_snoc, List.length_cons, show h + 1 + r.length = h + (r.length + 1) by omega]
      simp only [List.append_assoc, List.cons_append, List.nil_append]
/-- What is encoded. -/
def enc (l : List UInt8) : List UInt8 := pack 0 0 (encB l)
theorem bitsOf_enc (l : List UInt8) : bitsOf (enc l) = encB l ++ ones (fill (encB l).length) := by
  unfold enc
  rw [bitsOf_pack _ 0 0 (by decide) (by decide), Nat.zero_add]
  rfl
theorem enc_len (l : List UInt8) : (enc l).length = ((encB l).length + 7) / 8 := by
  have h := congrArg List.length (bitsOf_enc l)
  rw [bitsOf_len, List.length_append] at h
  unfold ones fill at h
  rw [List.length_replicate] at h
  omega
/-- What is decoded: c is what was read of the next code, n bits of it. -/
def dec (c n : Nat) : List Bool → Option (List UInt8)
  | [] => if n ≤ 7 ∧ c = 2 ^ n - 1 then some [] else none
  | b :: r =>
    if n = 30 then none
    else match look (2 * c + bn b) (n + 1) with
      | some s => if s = 256 then none else (dec 0 0 r).map (UInt8.ofNat s :: ·)
      | none => dec (2 * c + bn b) (n + 1) r
theorem bits_top (c m : Nat) : 2 * (c / 2 ^ (m + 1)) + bn (c / 2 ^ m % 2 == 1) = c / 2 ^ m := by
  have e : c / 2 ^ (m + 1) = c / 2 ^ m / 2 := by rw [Nat.pow_succ, ← Nat.div_div_eq_div_mul]
  rw [e]
  rcases Nat.mod_two_eq_zero_or_one (c / 2 ^ m) with h | h
  · have : bn (c / 2 ^ m % 2 == 1) = 0 := by rw [h]; rfl
    omega
  · have : bn (c / 2 ^ m % 2 == 1) = 1 := by rw [h]; rfl
    omega
/-- A sign's code is read as the sign; the end's as none. -/
theorem dec_code {s : Nat} (hs : s < 257) (R : List Bool) : ∀ m, m + 1 ≤ len s → dec (cd s / 2 ^ (m + 1)) (len s - (m + 1)) (bits (cd s) (m + 1) ++ R) = if s = 256 then none else (dec 0 0 R).map (UInt8.ofNat s :: ·)
  | 0, hm => by
    have hb := len_bd hs
    rw [bits, List.cons_append, dec, bits_top, if_neg (by omega), Nat.pow_zero, Nat.div_one, show len s - (0 + 1) + 1 = len s by omega, hb.2.2.2]
    rfl
  | m + 1, hm => by
    have hb := len_bd hs
    rw [bits, List.cons_append, dec, bits_top, if_neg (by omega), show len s - (m + 1 + 1) + 1 = len s - (m + 1) by omega, pre_none hs (by omega) (by omega)]
    exact dec_code hs R m (by omega)
theorem dec_sign {s : Nat} (hs : s < 257) (R : List Bool) : dec 0 0 (bits (cd s) (len s) ++ R) = if s = 256 then none else (dec 0 0 R).map (UInt8.ofNat s :: ·) := by
  have hb := len_bd hs
  have h := dec_code hs R (len s - 1) (by omega)
  rw [show len s - 1 + 1 = len s by omega, Nat.sub_self, Nat.div_eq_of_lt hb.2.2.1] at h
  exact h
theorem dec_enc (l : List UInt8) (R : List Bool) : dec 0 0 (encB l ++ R) = (dec 0 0 R).map (l ++ ·) := by
  induction l with
  | nil =>
    show dec 0 0 R = _
    cases dec 0 0 R <;> rfl
  | cons x l ih =>
    have hx := x.toNat_lt
    rw [encB, List.append_assoc, dec_sign (byte_lt x), if_neg (by omega), ih, UInt8.ofNat_toNat]
    cases dec 0 0 R <;> rfl
theorem dec_ones : ∀ k, k ≤ 7 → dec 0 0 (ones k) = some [] := by
  intro k hk
  have : ((List.range 8).all fun k => dec 0 0 (ones k) == some []) = true := by decide +kernel
  exact eq_of_beq (all_lt this k (by omega))
theorem dec_many : ∀ k, 8 ≤ k → k ≤ 15 → dec 0 0 (ones k) = none := by
  intro k hk h2
  have : ((List.range 8).all fun k => dec 0 0 (ones (k + 8)) == none) = true := by decide +kernel
  have h := eq_of_beq (all_lt this (k - 8) (by omega))
  rw [show k - 8 + 8 = k by omega] at h
  exact h
/-- What is decoded of a text of bytes. -/
def decode (t : List UInt8) : Option (List UInt8) := dec 0 0 (bitsOf t)
theorem decode_enc (l : List UInt8) : decode (enc l) = some l := by
  unfold decode
  rw [bitsOf_enc, dec_enc, dec_ones _ (by unfold fill; omega)]
  show some (l ++ []) = _
  rw [List.append_nil]
theorem decode_more (l : List UInt8) : decode (enc l ++ [255]) = none := by
  unfold decode
  rw [bitsOf_cat, bitsOf_enc, show bitsOf [255] = ones 8 by decide +kernel, List.append_assoc, ones_add, dec_enc, dec_many _ (by omega) (by unfold fill; omega)]
  rfl
theorem dec_back : ∀ (B : List Bool) (c n : Nat) (out : List UInt8), dec c n B = some out → ∃ k, k ≤ 7 ∧ bits c n ++ B = encB out ++ ones k
  | [], c, n, out, h => by
    rw [dec] at h
    split at h
    · rename_i hc
      injection h with h
      subst h
      refine ⟨n, hc.1, ?_⟩
      rw [hc.2, ones_bits, List.append_nil]
      rfl
    · cases h
  | b :: r, c, n, out, h => by
    rw [dec] at h
    split at h
    · cases h
    · split at h
      · rename_i s hs
        have hl := look_some hs
        split at h
        · cases h
        · rename_i h256
          cases hd : dec 0 0 r with
          | none => rw [hd] at h; cases h
          | some o =>
            rw [hd] at h
            injection h with h
            subst h
            obtain ⟨k, hk, e⟩ := dec_back r 0 0 o hd
            refine ⟨k, hk, ?_⟩
            have e2 : r = encB o ++ ones k := e
            have e3 : bits c n ++ b :: r = bits (2 * c + bn b) (n + 1) ++ r := by rw [bits_snoc, List.append_assoc, List.singleton_append]
            rw [e3, encB, UInt8.toNat_ofNat', Nat.mod_eq_of_lt (show s < 2 ^ 8 by omega), hl.2.1, hl.2.2, e2, List.append_assoc]
      · obtain ⟨k, hk, e⟩ := dec_back r _ _ out h
        refine ⟨k, hk, ?_⟩
        rw [← e, bits_snoc, List.append_assoc, List.singleton_append]
theorem enc_decode {t y : List UInt8} (h : decode t = some y) : enc y = t := by
  obtain ⟨k, hk, e⟩ := dec_back _ _ _ _ h
  apply bitsOf_inj
  have e2 : bitsOf t = encB y ++ ones k := e
  have hl := congrArg List.length e2
  unfold ones at hl
  rw [bitsOf_len, List.length_append, List.length_replicate] at hl
  rw [bitsOf_enc, e2, show fill (encB y).length = k by unfold fill; omega]
/-- How many bytes. -/
def sizeE (l : List UInt8) : Nat := ((encB l).length + 7) / 8
theorem sizes (a b : List UInt8) : sizeE (a ++ b) ≤ sizeE a + sizeE b ∧ sizeE a + sizeE b ≤ sizeE (a ++ b) + 1 ∧ sizeE a ≤ sizeE (a ++ b) ∧ sizeE b ≤ sizeE (a ++ b) ∧ sizeE a ≤ 4 * a.length ∧ 5 * a.length ≤ 8 * sizeE a := by
  have h := encB_len a
  unfold sizeE
  rw [encB_cat, List.length_append]
  omega
/-- What was read of a code that isn't whole: it lies behind all codes of so many bits; so it has fewer than 30. -/
def Part (c n : Nat) : Prop := topOf n ≤ c ∧ c < 2 ^ n ∧ n < 30
theorem part_zero : Part 0 0 := by unfold Part; decide +kernel
theorem part_next {c n : Nat} {b : Bool} (h : Part c n) (hl : look (2 * c + bn b) (n + 1) = none) : Part (2 * c + bn b) (n + 1) := by
  obtain ⟨h1, h2, h3⟩ := h
  have hb := bn_le b
  have hn := top_next h3
  have h4 : topOf (n + 1) ≤ 2 * c + bn b := by
    unfold look at hl
    split at hl
    · cases hl
    · unfold topOf
      omega
  have h5 : 2 * c + bn b < 2 ^ (n + 1) := by rw [Nat.pow_succ]; omega
  refine ⟨h4, h5, ?_⟩
  rcases Nat.lt_or_ge (n + 1) 30 with h6 | h6
  · exact h6
  · have e : n + 1 = 30 := by omega
    rw [e] at h4 h5
    rw [top_30] at h4
    omega
end Go.Proofs.Ytamgnbjdeoklbaa.Hf
