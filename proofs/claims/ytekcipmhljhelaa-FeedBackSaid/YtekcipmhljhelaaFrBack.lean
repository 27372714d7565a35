/- Frames as mathematics: what was printed is parsed; what is parsed was printed, but for one bit. No program. -/
import Derived.Test.YtekcipmhljhelaaProg
import Derived.Test.YtekcipmhljhelaaBytes
import Derived.Test.YtekcipmhljhelaaNumBe
import Derived.Test.YtekcipmhljhelaaFrMath
namespace Go.Proofs.Ytekcipmhljhelaa.Fr
open Go Bytes

theorem u8_to (c : UInt8) : UInt8.ofNat c.toNat = c := by
  apply UInt8.toNat_inj.1
  rw [UInt8.toNat_ofNat']
  exact Nat.mod_eq_of_lt c.toNat_lt
theorem to_u8 {n : Nat} (h : n < 256) : (UInt8.ofNat n).toNat = n := by
  rw [UInt8.toNat_ofNat']
  exact Nat.mod_eq_of_lt h
theorem beTail_add (a n : Nat) : ∀ j, ∀ k, j ≤ k → beTail (a * 256 ^ k + n) j = beTail n j
  | 0, _, _ => rfl
  | j + 1, k, h => by
    rw [beTail, beTail, beTail_add a n j k (by omega)]
    congr 1
    obtain ⟨d, rfl⟩ : ∃ d, k = j + 1 + d := ⟨k - (j + 1), by omega⟩
    have e : a * 256 ^ (j + 1 + d) + n = n + (256 ^ j) * (256 * (a * 256 ^ d)) := by
      rw [show j + 1 + d = j + (1 + d) by omega, Nat.pow_add, Nat.pow_add, Nat.pow_one]
      rw [Nat.add_comm]
      congr 1
      rw [Nat.mul_left_comm a, Nat.mul_left_comm a]
    rw [e, Nat.add_mul_div_left _ _ (Nat.pow_pos (by decide))]
    apply UInt8.toNat_inj.1
    rw [UInt8.toNat_ofNat', UInt8.toNat_ofNat']
    have e8 : (2 : Nat) ^ 8 = 256 := rfl
    rw [e8]
    omega
/-- A number's bytes are the bytes that it was read of. -/
theorem beTail_of : ∀ l : List UInt8, beTail (be l) l.length = l
  | [] => rfl
  | c :: l => by
    rw [be_cons, List.length_cons, beTail, beTail_add _ _ _ _ (Nat.le_refl _), beTail_of l]
    congr 1
    have h := be_lt l
    rw [Nat.mul_comm, Nat.add_comm, Nat.add_mul_div_left _ _ (Nat.pow_pos (by decide)), Nat.div_eq_of_lt h, Nat.zero_add, u8_to]
theorem mid_take (A X B : List UInt8) : ((A ++ X ++ B).drop A.length).take X.length = X := by
  rw [List.append_assoc, List.drop_left, List.take_left]
theorem gN_mid {A X B : List UInt8} {i n : Nat} (hi : A.length = i) (hn : X.length = n) : gN (mk (A ++ X ++ B)) i n = be X := by
  unfold gN
  rw [mk_list, ← hi, ← hn, mid_take]
theorem headF_len (f : Frm) : (headF f).length = 9 := by
  unfold headF
  simp only [List.length_append, beTail_length, List.length_cons, List.length_nil]
theorem nine (l : List UInt8) (h : 9 ≤ l.length) : ∃ x0 x1 x2 x3 x4 x5 x6 x7 x8 r, l = x0 :: x1 :: x2 :: x3 :: x4 :: x5 :: x6 :: x7 :: x8 :: r := by
  rcases l with _ | ⟨x0, _ | ⟨x1, _ | ⟨x2, _ | ⟨x3, _ | ⟨x4, _ | ⟨x5, _ | ⟨x6, _ | ⟨x7, _ | ⟨x8, r⟩⟩⟩⟩⟩⟩⟩⟩⟩
  all_goals first
    | exact ⟨_, _, _, _, _, _, _, _, _, _, rfl⟩
    | (simp only [List.length_cons, List.length_nil] at h; omega)
/-- The nine bytes, told apart. -/
theorem head_len (f : Frm) (h : f.data.size ≤ 16384) (M : List UInt8) : gN (mk (headF f ++ M)) 0 3 = f.data.size := by
  unfold headF
  rw [show beTail f.data.size 3 ++ ([UInt8.ofNat f.ty, UInt8.ofNat f.fl] ++ beTail f.st 4) ++ M = [] ++ beTail f.data.size 3 ++ ([UInt8.ofNat f.ty, UInt8.ofNat f.fl] ++ beTail f.st 4 ++ M) by simp [List.append_assoc]]
  rw [gN_mid (A := []) (i := 0) rfl (beTail_length _ _), be_beTail]
  exact Nat.mod_eq_of_lt (by omega)
theorem head_st (f : Frm) (h : f.st ≤ 2147483647) (M : List UInt8) : gN (mk (headF f ++ M)) 5 4 % 2147483648 = f.st := by
  unfold headF
  rw [show beTail f.data.size 3 ++ ([UInt8.ofNat f.ty, UInt8.ofNat f.fl] ++ beTail f.st 4) ++ M = (beTail f.data.size 3 ++ [UInt8.ofNat f.ty, UInt8.ofNat f.fl]) ++ beTail f.st 4 ++ M by simp [List.append_assoc]]
  rw [gN_mid (by rw [List.length_append, beTail_length]; rfl) (beTail_length _ _), be_beTail]
  omega
theorem head_ty (f : Frm) (hf : Okf f) (M : List UInt8) : bN (mk (headF f ++ M)) 3 = f.ty ∧ bN (mk (headF f ++ M)) 4 = f.fl := by
  unfold bN headF
  rw [mk_list]
  have h3 : (beTail f.data.size 3).length = 3 := beTail_length _ _
  obtain ⟨x0, x1, x2, hx⟩ : ∃ x0 x1 x2, beTail f.data.size 3 = [x0, x1, x2] := by
    rw [beTail, beTail, beTail, beTail]
    exact ⟨_, _, _, rfl⟩
  rw [hx]
  exact ⟨to_u8 hf.ty, to_u8 hf.fl⟩
/-- What was printed is parsed, whatever stands behind it. -/
theorem back_parse {f : Frm} {l : List UInt8} (hf : Okf f) (h : printF f = (l, 0)) (M : List UInt8) : parseF (mk (l ++ M)) = (f, l.length, 0) ∧ l.length = 9 + f.data.size ∧ f.data.size ≤ 16384 := by
  unfold printF at h
  by_cases h1 : 2147483647 < f.st
  · rw [if_pos h1] at h; injection h with _ h; exact absurd h (by decide)
  rw [if_neg h1] at h
  by_cases h2 : 16384 < f.data.size
  · rw [if_pos h2] at h; injection h with _ h; exact absurd h (by decide)
  rw [if_neg h2] at h
  injection h with h _
  subst h
  have hd : f.data.data.toList.length = f.data.size := size_l _
  have hl : (headF f ++ f.data.data.toList).length = 9 + f.data.size := by rw [List.length_append, headF_len, hd]
  refine ⟨?_, hl, by omega⟩
  have e : headF f ++ f.data.data.toList ++ M = headF f ++ (f.data.data.toList ++ M) := List.append_assoc _ _ _
  have hsz : (mk (headF f ++ f.data.data.toList ++ M)).size = 9 + f.data.size + M.length := by rw [mk_size, List.length_append, hl]
  unfold parseF
  rw [if_neg (by rw [hsz]; omega), hsz, e, head_len f (by omega), if_neg (by omega), if_neg (by omega), head_st f (by omega), (head_ty f hf _).1, (head_ty f hf _).2]
  have hx : (mk (headF f ++ (f.data.data.toList ++ M))).extract 9 (9 + f.data.size) = f.data := by
    apply list_inj
    rw [extract_list, mk_list, ← e, List.take_left' hl, List.drop_left' (headF_len f)]
  rw [hx, hl]
/-- Cut off by one byte, it is none. -/
theorem back_cut {f : Frm} {l : List UInt8} (h : printF f = (l, 0)) (hl : l.length = 9 + f.data.size) (hd : f.data.size ≤ 16384) : parseF (mk (l.take (l.length - 1))) = (noF, 0, 2) := by
  unfold printF at h
  by_cases h1 : 2147483647 < f.st
  · rw [if_pos h1] at h; injection h with _ h; exact absurd h (by decide)
  rw [if_neg h1, if_neg (by omega)] at h
  injection h with h _
  have hz : (mk (l.take (l.length - 1))).size = 8 + f.data.size := by rw [mk_size, List.length_take]; omega
  unfold parseF
  by_cases h0 : f.data.size = 0
  · rw [if_pos (by rw [hz]; omega)]
  · have e : l.take (l.length - 1) = headF f ++ (l.take (l.length - 1)).drop 9 := by
      have : (l.take (l.length - 1)).take 9 = headF f := by
        rw [List.take_take, Nat.min_eq_left (by omega), ← h, List.take_left' (headF_len f)]
      rw [← this, List.take_append_drop]
    have hg : gN (mk (l.take (l.length - 1))) 0 3 = f.data.size := by
      rw [e]
      exact head_len f hd _
    rw [if_neg (by rw [hz]; omega), hg, if_neg (by omega), if_pos (by rw [hz]; omega)]
theorem parse_none {s : ByteArray} {g : Frm} {n c : Nat} (h : parseF s = (g, n, c)) (hc : c ≠ 0) : n = 0 := by
  unfold parseF at h
  split at h
  · injection h with _ h; injection h with h _; exact h.symm
  · split at h
    · injection h with _ h; injection h with h _; exact h.symm
    · split at h
      · injection h with _ h; injection h with h _; exact h.symm
      · injection h with _ h; injection h with _ h; exact absurd h.symm hc
/-- What is parsed was printed, but for the stream's highest bit. -/
theorem back_print {s : ByteArray} {g : Frm} {n : Nat} (h : parseF s = (g, n, 0)) : Okf g ∧ g.data.size ≤ 16384 ∧ ∃ l, printF g = (l, 0) ∧ l.length = n ∧ 9 ≤ n ∧ n ≤ s.size ∧ l.take 5 = s.data.toList.take 5 ∧ l.drop 6 = (s.data.toList.take n).drop 6 ∧ (l.getD 5 0).toNat % 128 = bN s 5 % 128 := by
  unfold parseF at h
  split at h
  · injection h with _ h; injection h with _ h; exact absurd h (by decide)
  · split at h
    · injection h with _ h; injection h with _ h; exact absurd h (by decide)
    · split at h
      · injection h with _ h; injection h with _ h; exact absurd h (by decide)
      · rename_i h9 hbig hsh
        injection h with hg h
        injection h with hn _
        have hsl : s.data.toList.length = s.size := size_l s
        obtain ⟨m, hm⟩ : ∃ m, gN s 0 3 = m := ⟨_, rfl⟩
        rw [hm] at hg hn hbig hsh
        have hds : g.data.size = m := by rw [← hg]; show (s.extract 9 (9 + m)).size = m; rw [ByteArray.size_extract]; omega
        have hdl : g.data.data.toList = (s.data.toList.take (9 + m)).drop 9 := by rw [← hg]; exact extract_list _ _ _
        have hst : g.st = gN s 5 4 % 2147483648 := by rw [← hg]
        have hst2 : g.st < 2147483648 := by omega
        have hty : g.ty = bN s 3 := by rw [← hg]
        have hfl : g.fl = bN s 4 := by rw [← hg]
        refine ⟨⟨by rw [hty]; exact bN_lt _ _, by rw [hfl]; exact bN_lt _ _, by omega⟩, by omega, headF g ++ g.data.data.toList, ?_, ?_, by omega, by omega, ?_⟩
        · unfold printF
          rw [if_neg (by omega), if_neg (by omega)]
        · rw [List.length_append, headF_len, size_l, hds, hn]
        · obtain ⟨x0, x1, x2, x3, x4, x5, x6, x7, x8, r, hl⟩ := nine s.data.toList (by omega)
          have e3 : beTail g.data.size 3 = [x0, x1, x2] := by
            rw [hds, ← hm]
            unfold gN
            rw [hl]
            exact beTail_of [x0, x1, x2]
          have et : UInt8.ofNat g.ty = x3 := by rw [hty]; unfold bN; rw [hl]; exact u8_to x3
          have ef : UInt8.ofNat g.fl = x4 := by rw [hfl]; unfold bN; rw [hl]; exact u8_to x4
          have hb := be_cons x5 [x6, x7, x8]
          have hb2 := be_lt [x6, x7, x8]
          have hx5 := x5.toNat_lt
          have hg5 : gN s 5 4 = be [x5, x6, x7, x8] := by unfold gN; rw [hl]; rfl
          have p3 : (256 : Nat) ^ ([x6, x7, x8] : List UInt8).length = 16777216 := by simp
          rw [p3] at hb hb2
          have hgs : g.st = x5.toNat % 128 * 256 ^ 3 + be [x6, x7, x8] := by
            rw [hst, hg5, hb]
            have : (256 : Nat) ^ 3 = 16777216 := by simp
            omega
          have e4 : beTail g.st 4 = UInt8.ofNat (x5.toNat % 128) :: [x6, x7, x8] := by
            rw [hgs, beTail, beTail_add _ _ 3 3 (Nat.le_refl _)]
            congr 1
            · congr 1
              have : (256 : Nat) ^ 3 = 16777216 := by simp
              omega
            · exact beTail_of [x6, x7, x8]
          have hh : headF g = [x0, x1, x2, x3, x4, UInt8.ofNat (x5.toNat % 128), x6, x7, x8] := by
            unfold headF
            rw [e3, et, ef, e4]
            rfl
          rw [hh, hdl, hl]
          refine ⟨rfl, ?_, ?_⟩
          · rw [← hn, show 9 + m = m + 9 by omega]
            rfl
          · have hb5 : bN s 5 = x5.toNat := by unfold bN; rw [hl]; rfl
            rw [hb5]
            show (UInt8.ofNat (x5.toNat % 128)).toNat % 128 = _
            rw [to_u8 (by omega)]
            omega
end Go.Proofs.Ytekcipmhljhelaa.Fr
