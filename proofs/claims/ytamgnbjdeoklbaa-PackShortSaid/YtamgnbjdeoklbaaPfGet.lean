/- The contracts of prefix's Get, and of the document's: the integer that stands at a place. For texts of at most 10^6 bytes. -/
import Derived.Test.YtamgnbjdeoklbaaProg
import Derived.Test.YtamgnbjdeoklbaaBytes
import Derived.Test.YtamgnbjdeoklbaaPfMath
import Derived.Test.YtamgnbjdeoklbaaPfFull
import Derived.WalkKit
import Derived.Lib.Hide
import Derived.Laws.Bits64b
import Derived.Laws.BitsAllLaws
import Derived.Outline
import Derived.IntWalk
import Derived.WalkSpells
namespace Go.Proofs.Ytamgnbjdeoklbaa
open Go.RowKit Bytes Pf

theorem and_full {f : Nat} (hf : isF f) (c : Nat) (hc : c < 256) : bits .and .u64 (c : Int) (f : Int) = ((c % (f + 1) : Nat) : Int) := by
  have hb := isF_bd hf
  rw [bits_and_u64_nat _ _ (by omega) (by omega)]
  have h : ∃ k, f = 2 ^ k - 1 ∧ f + 1 = 2 ^ k := by
    unfold isF at hf
    rcases hf with rfl | rfl | rfl | rfl | rfl | rfl | rfl | rfl
    · exact ⟨1, rfl, rfl⟩
    · exact ⟨2, rfl, rfl⟩
    · exact ⟨3, rfl, rfl⟩
    · exact ⟨4, rfl, rfl⟩
    · exact ⟨5, rfl, rfl⟩
    · exact ⟨6, rfl, rfl⟩
    · exact ⟨7, rfl, rfl⟩
    · exact ⟨8, rfl, rfl⟩
  obtain ⟨k, h1, h2⟩ := h
  rw [h2, h1, Nat.and_two_pow_sub_one_eq_mod]
theorem and_127 (c : Nat) (hc : c < 256) : bits .andNot .u8 (c : Int) 128 = ((c % 128 : Nat) : Int) := by
  have h := u8_andNot_nat c 128 hc (by omega)
  have e : c &&& (255 - 128) = c % 128 := Nat.and_two_pow_sub_one_eq_mod c 7
  rw [e] at h
  exact h
/-- The first byte. -/
theorem getM_one {l : List UInt8} {p f : Nat} (h : p < l.length) : getM l p f = if (l.getD p 0).toNat % (f + 1) < f then ((l.getD p 0).toNat % (f + 1), p + 1, 0) else gt 5 (l.drop (p + 1)) (p + 1) 1 f := by
  unfold getM
  rw [drop_cons h]
theorem getM_none {l : List UInt8} {p f : Nat} (h : l.length ≤ p) : getM l p f = (0, 0, 2) := by
  unfold getM
  rw [List.drop_eq_nil_of_le h]
theorem gt_none {l : List UInt8} {j p u n : Nat} (h : l.length ≤ p) : gt (j + 1) (l.drop p) p u n = (0, 0, 2) := by
  rw [List.drop_eq_nil_of_le h]
  rfl
theorem gt_one {l : List UInt8} {j p u n : Nat} (h : p < l.length) : gt (j + 1) (l.drop p) p u n =
    if 4294967295 < n + (l.getD p 0).toNat % 128 * u then (0, 0, 90) else if (l.getD p 0).toNat < 128 then (n + (l.getD p 0).toNat % 128 * u, p + 1, 0) else gt j (l.drop (p + 1)) (p + 1) (u * 128) (n + (l.getD p 0).toNat % 128 * u) := by
  rw [drop_cons h]
  rfl

theorem ret3_eq {a a' b b' c : Int} (h1 : a = a') (h2 : b = b') : Ending.returned (.tuple #[.int .u64 a, .int .i64 b, .int .i64 c]) = Ending.returned (.tuple #[.int .u64 a', .int .i64 b', .int .i64 c]) := by rw [h1, h2]

set_option maxHeartbeats 4000000 in
set_option maxRecDepth 100000 in
theorem get_is (s : ByteArray) (p b : Int) (m q c : Nat) (w : World) (hs : s.size ≤ 1000000) (h1 : -9223372036854775808 ≤ p) (h2 : p ≤ 9223372036854775807) (h3 : -9223372036854775808 ≤ b) (h4 : b ≤ 9223372036854775807) (h : Hid (getZ s.data.toList p b = (m, q, c))) :
    Calls Try.prog 69 #[.string s, .int .i64 p, .int .i64 b] w fun e w' => e = .returned (.tuple #[.int .u64 m, .int .i64 q, .int .i64 c]) ∧ w = w' := by
  have hh := h.out
  clear h
  unfold getZ at hh
  by_cases hp : p < 0
  · rw [if_pos hp] at hh
    injection hh with e1 e2; injection e2 with e2 e3
    subst e1 e2 e3
    go_enter Try.func69, Try.ntmps69
    go_wp2_with fail
    go_ret3
    exact ⟨rfl, rfl⟩
  rw [if_neg hp] at hh
  obtain ⟨i, rfl⟩ := Int.eq_ofNat_of_zero_le (show 0 ≤ p by omega)
  rw [Int.toNat_natCast] at hh
  by_cases hi : s.size ≤ i
  · rw [getM_none (by rw [← Lib.size_eq]; exact hi)] at hh
    injection hh with e1 e2; injection e2 with e2 e3
    subst e1 e2 e3
    go_enter Try.func69, Try.ntmps69
    go_wp2_with fail
    go_ret3
    exact ⟨rfl, rfl⟩
  have hi2 : i < s.size := by omega
  have hF := fullN_is b
  obtain ⟨f, hf⟩ : ∃ f, fullN b = f := ⟨_, rfl⟩
  rw [hf] at hh hF
  have HF := Lib.hid hf
  have hfb := isF_bd hF
  rw [getM_one (by rw [← Lib.size_eq]; exact hi2)] at hh
  have hx0 := getD_byte hi2
  generalize hx1 : s.data.toList.getD i 0 = x at hx0 hh
  have hx : s[i]'hi2 = x := hx0.symm
  have hxb := x.toNat_lt
  have ha := and_full hF x.toNat hxb
  obtain ⟨y, hy⟩ : ∃ y, x.toNat % (f + 1) = y := ⟨_, rfl⟩
  have hyf : y ≤ f := by rw [← hy]; have := Nat.mod_lt x.toNat (show 0 < f + 1 by omega); omega
  rw [hy] at ha hh
  clear hx0 hx1 hy hf
  have HH := Lib.hid hh; clear hh
  have hin : ¬ ((s.size : Int) ≤ i) := by omega
  have hw : IntKind.u64.wrap (x.toNat : Int) = (x.toNat : Int) := by rw [IntKind.wrap_u64]; omega
  have hdi : decide ((s.size : Int) ≤ i) = false := decide_eq_false hin
  by_cases hyf2 : y < f
  · have hr := HH.out
    rw [if_pos hyf2] at hr
    injection hr with e1 e2; injection e2 with e2 e3
    subst e1 e2 e3
    clear HH
    go_enter Try.func69, Try.ntmps69
    go_wp2_with fail
    refine (full_is b f _ h3 h4 HF).mono ?_
    rintro e w' ⟨rfl, rfl⟩
    go_wp2_with fail
    go_ret3
    exact ⟨rfl, rfl⟩
  obtain rfl : y = f := by omega
  have hr := HH.out
  rw [if_neg hyf2] at hr
  have HR := Lib.hid hr
  clear HH hr
  go_enter Try.func69, Try.ntmps69
  go_wp2_with fail
  refine (full_is b y _ h3 h4 HF).mono ?_
  rintro e w' ⟨rfl, rfl⟩
  go_wp2_with fail
  go_loop [6, 7, 10, 11, 35] (fun n t _ _ r => ∃ (j z : Nat), r = .int .i64 j ∧ j ≤ 5 ∧ n = .int .u64 z ∧ z ≤ 4294967295 ∧ t = .int .i64 (i + 1 + j : Nat) ∧ i + 1 + j ≤ s.size ∧ Hid (gt (5 - j) (s.data.toList.drop (i + 1 + j)) (i + 1 + j) (128 ^ j) z = (m, q, c))) (fun _ _ _ _ r => 5 - (intOf r).toNat)
  case atStart => exact ⟨0, y, rfl, by omega, rfl, by omega, by go_num, by omega, HR⟩
  case round =>
    obtain ⟨j, z, rfl, hj, rfl, hz, rfl, his, hG⟩ := hrel
    by_cases hj5 : j < 5
    · by_cases hend : s.size ≤ i + 1 + j
      · have hr := hG.out
        rw [show 5 - j = 4 - j + 1 by omega, gt_none (by rw [← Lib.size_eq]; exact hend)] at hr
        injection hr with e1 e2; injection e2 with e2 e3
        subst e1 e2 e3
        clear hG
        have hj5' : (j : Int) < 5 := by omega
        have hq : (((i + 1 + j : Nat) : Int) == (s.size : Int)) = true := beq_iff_eq.2 (by omega)
        go_wp2_with fail
        go_ret3
        exact ⟨rfl, rfl⟩
      · have hlt : i + 1 + j < s.size := by omega
        have hr := hG.out
        rw [show 5 - j = 4 - j + 1 by omega, gt_one (by rw [← Lib.size_eq]; exact hlt)] at hr
        have hx0 := getD_byte hlt
        generalize hx1 : s.data.toList.getD (i + 1 + j) 0 = k at hx0 hr
        have hk : s[i + 1 + j]'hlt = k := hx0.symm
        have hkb := k.toNat_lt
        have hnd := and_127 k.toNat hkb
        obtain ⟨y2, hy2⟩ : ∃ y2, k.toNat % 128 = y2 := ⟨_, rfl⟩
        have hy2b : y2 < 128 := by omega
        rw [hy2] at hnd hr
        have hwk : IntKind.u64.wrap (k.toNat : Int) = (k.toNat : Int) := by rw [IntKind.wrap_u64]; omega
        have hwy : IntKind.u64.wrap (y2 : Int) = (y2 : Int) := by rw [IntKind.wrap_u64]; omega
        have hj5' : (j : Int) < 5 := by omega
        have hq : (((i + 1 + j : Nat) : Int) == (s.size : Int)) = false := beq_eq_false_iff_ne.2 (by omega)
        clear hG hx0 hx1 hy2 hx
        have hjc : j = 0 ∨ j = 1 ∨ j = 2 ∨ j = 3 ∨ j = 4 := by omega
        rcases hjc with rfl | rfl | rfl | rfl | rfl
        · change (if 4294967295 < z + y2 * 1 then (0, 0, 90) else if k.toNat < 128 then (z + y2 * 1, i + 1 + 0 + 1, 0) else gt 4 (s.data.toList.drop (i + 1 + 1)) (i + 1 + 1) (128 ^ 1) (z + y2 * 1)) = _ at hr
          by_cases ho : 4294967295 < z + y2 * 1
          · rw [if_pos ho] at hr
            injection hr with e1 e2; injection e2 with e2 e3
            subst e1 e2 e3
            go_wp2_with fail
            go_ret3
            exact ⟨rfl, rfl⟩
          · rw [if_neg ho] at hr
            by_cases hk2 : k.toNat < 128
            · rw [if_pos hk2] at hr
              injection hr with e1 e2; injection e2 with e2 e3
              subst e1 e2 e3
              go_wp2_with fail
              go_ret3
              exact ⟨ret3_eq (by omega) (by omega), rfl⟩
            · rw [if_neg hk2] at hr
              have HR := Lib.hid hr
              clear hr
              go_wp2_with fail
              go_round
              case rel => exact ⟨1, z + y2 * 1, by go_num, by omega, by go_num, by omega, by go_num, by omega, HR⟩
              case measure => simp [intOf]
        · change (if 4294967295 < z + y2 * 128 then (0, 0, 90) else if k.toNat < 128 then (z + y2 * 128, i + 1 + 1 + 1, 0) else gt 3 (s.data.toList.drop (i + 1 + 2)) (i + 1 + 2) (128 ^ 2) (z + y2 * 128)) = _ at hr
          by_cases ho : 4294967295 < z + y2 * 128
          · rw [if_pos ho] at hr
            injection hr with e1 e2; injection e2 with e2 e3
            subst e1 e2 e3
            go_wp2_with fail
            go_ret3
            exact ⟨rfl, rfl⟩
          · rw [if_neg ho] at hr
            by_cases hk2 : k.toNat < 128
            · rw [if_pos hk2] at hr
              injection hr with e1 e2; injection e2 with e2 e3
              subst e1 e2 e3
              go_wp2_with fail
              go_ret3
              exact ⟨ret3_eq (by omega) (by omega), rfl⟩
            · rw [if_neg hk2] at hr
              have HR := Lib.hid hr
              clear hr
              go_wp2_with fail
              go_round
              case rel => exact ⟨2, z + y2 * 128, by go_num, by omega, by go_num, by omega, by go_num, by omega, HR⟩
              case measure => simp [intOf]
        · change (if 4294967295 < z + y2 * 16384 then (0, 0, 90) else if k.toNat < 128 then (z + y2 * 16384, i + 1 + 2 + 1, 0) else gt 2 (s.data.toList.drop (i + 1 + 3)) (i + 1 + 3) (128 ^ 3) (z + y2 * 16384)) = _ at hr
          by_cases ho : 4294967295 < z + y2 * 16384
          · rw [if_pos ho] at hr
            injection hr with e1 e2; injection e2 with e2 e3
            subst e1 e2 e3
            go_wp2_with fail
            go_ret3
            exact ⟨rfl, rfl⟩
          · rw [if_neg ho] at hr
            by_cases hk2 : k.toNat < 128
            · rw [if_pos hk2] at hr
              injection hr with e1 e2; injection e2 with e2 e3
              subst e1 e2 e3
              go_wp2_with fail
              go_ret3
              exact ⟨ret3_eq (by omega) (by omega), rfl⟩
            · rw [if_neg hk2] at hr
              have HR := Lib.hid hr
              clear hr
              go_wp2_with fail
              go_round
              case rel => exact ⟨3, z + y2 * 16384, by go_num, by omega, by go_num, by omega, by go_num, by omega, HR⟩
              case measure => simp [intOf]
        · change (if 4294967295 < z + y2 * 2097152 then (0, 0, 90) else if k.toNat < 128 then (z + y2 * 2097152, i + 1 + 3 + 1, 0) else gt 1 (s.data.toList.drop (i + 1 + 4)) (i + 1 + 4) (128 ^ 4) (z + y2 * 2097152)) = _ at hr
          by_cases ho : 4294967295 < z + y2 * 2097152
          · rw [if_pos ho] at hr
            injection hr with e1 e2; injection e2 with e2 e3
            subst e1 e2 e3
            go_wp2_with fail
            go_ret3
            exact ⟨rfl, rfl⟩
          · rw [if_neg ho] at hr
            by_cases hk2 : k.toNat < 128
            · rw [if_pos hk2] at hr
              injection hr with e1 e2; injection e2 with e2 e3
              subst e1 e2 e3
              go_wp2_with fail
              go_ret3
              exact ⟨ret3_eq (by omega) (by omega), rfl⟩
            · rw [if_neg hk2] at hr
              have HR := Lib.hid hr
              clear hr
              go_wp2_with fail
              go_round
              case rel => exact ⟨4, z + y2 * 2097152, by go_num, by omega, by go_num, by omega, by go_num, by omega, HR⟩
              case measure => simp [intOf]
        · change (if 4294967295 < z + y2 * 268435456 then (0, 0, 90) else if k.toNat < 128 then (z + y2 * 268435456, i + 1 + 4 + 1, 0) else gt 0 (s.data.toList.drop (i + 1 + 5)) (i + 1 + 5) (128 ^ 5) (z + y2 * 268435456)) = _ at hr
          by_cases ho : 4294967295 < z + y2 * 268435456
          · rw [if_pos ho] at hr
            injection hr with e1 e2; injection e2 with e2 e3
            subst e1 e2 e3
            go_wp2_with fail
            go_ret3
            exact ⟨rfl, rfl⟩
          · rw [if_neg ho] at hr
            by_cases hk2 : k.toNat < 128
            · rw [if_pos hk2] at hr
              injection hr with e1 e2; injection e2 with e2 e3
              subst e1 e2 e3
              go_wp2_with fail
              go_ret3
              exact ⟨ret3_eq (by omega) (by omega), rfl⟩
            · rw [if_neg hk2] at hr
              have HR := Lib.hid hr
              clear hr
              go_wp2_with fail
              go_round
              case rel => exact ⟨5, z + y2 * 268435456, by go_num, by omega, by go_num, by omega, by go_num, by omega, HR⟩
              case measure => simp [intOf]
    · obtain rfl : j = 5 := by omega
      have hr := hG.out
      change (0, 0, 90) = _ at hr
      injection hr with e1 e2; injection e2 with e2 e3
      subst e1 e2 e3
      clear hG
      go_wp2_with fail
      go_ret3
      exact ⟨rfl, rfl⟩

end Go.Proofs.Ytamgnbjdeoklbaa
