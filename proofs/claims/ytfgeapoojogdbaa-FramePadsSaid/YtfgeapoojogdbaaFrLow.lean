/- The code's small parts of layer 14: what a frame's flags tell, what stands ahead of a content and behind it, a number without its highest bit. For payloads of at most 10^6 bytes. -/
import Derived.Test.YtfgeapoojogdbaaProg
import Derived.Test.YtfgeapoojogdbaaBytes
import Derived.Test.YtfgeapoojogdbaaNumBe
import Derived.Test.YtfgeapoojogdbaaNumGet
import Derived.Test.YtfgeapoojogdbaaFrMath
import Derived.Test.YtfgeapoojogdbaaFrRef
import Derived.WalkKit
import Derived.Lib.Hide
import Derived.Laws.Rows
import Derived.Outline
import Derived.IntWalk
import Derived.WalkSpells
import Derived.WalkLawsBesides
import Derived.Deep.CutRange
namespace Go.Proofs.Ytfgeapoojogdbaa
open Go Go.RowKit Bytes Fr

namespace Fr
theorem ofInt32_nat {a : Nat} (ha : a < 4294967296) : (BitVec.ofInt 32 (a : Int)).toNat = a := by
  rw [BitVec.ofInt_natCast, BitVec.toNat_ofNat]
  omega
theorem and32 {a b : Nat} (ha : a < 4294967296) (hb : b < 4294967296) : bits .and .u32 (a : Int) (b : Int) = ((a &&& b : Nat) : Int) := by
  have hx : a &&& b ≤ a := Nat.and_le_left
  show IntKind.u32.wrap ((BitVec.ofInt 32 (a : Int) &&& BitVec.ofInt 32 (b : Int)).toNat : Int) = _
  rw [BitVec.toNat_and, ofInt32_nat ha, ofInt32_nat hb, IntKind.wrap_u32]
  omega
/-- A number without its highest bit. -/
theorem and31 (n m : Nat) (hn : n < 4294967296) (hm : n % 2147483648 = m) : bits .and .u32 (n : Int) 2147483647 = (m : Int) := by
  rw [← hm]
  have h := and32 (b := 2147483647) hn (by omega)
  rw [show ((2147483647 : Nat) : Int) = 2147483647 from rfl] at h
  rw [h]
  congr 1
  have := Nat.and_two_pow_sub_one_eq_mod n 31
  simpa using this
theorem flag_key : ([1, 8, 32].all fun b => (List.range 256).all fun n => (bits .and .u8 ((n : Nat) : Int) ((b : Nat) : Int) != 0) == decide (n / b % 2 = 1)) = true := by kernel_rfl
theorem flag_and (f : Frm) (b : Nat) (q : Bool) (hf : Okf f) (hb : b = 1 ∨ b = 8 ∨ b = 32) (hq : flagF f b = q) : (bits .and .u8 (f.fl : Int) (b : Int) != 0) = q := by
  rw [← hq]
  unfold flagF
  have h1 := List.all_eq_true.1 flag_key b (by rcases hb with rfl | rfl | rfl <;> simp)
  have h2 := List.all_eq_true.1 h1 f.fl (List.mem_range.2 hf.fl)
  exact eq_of_beq h2
def padB (f : Frm) : Bool := decide (f.ty ≤ 1) && flagF f 8
def priB (f : Frm) : Bool := decide (f.ty = 2) || (decide (f.ty = 1) && flagF f 32)
def ahC (f : Frm) : Nat := (if padB f = true then 1 else 0) + (if priB f = true then 5 else 0)
def beC (f : Frm) : Nat := if padB f = true then bN f.data 0 else 0
theorem ahC_le (f : Frm) : ahC f ≤ 6 := by unfold ahC; split <;> split <;> omega
end Fr

set_option maxHeartbeats 4000000 in
set_option maxRecDepth 100000 in
theorem cpad_is (f : Frm) (q : Bool) (w : World) (hf : Okf f) (hq : Hid (padB f = q)) :
    Calls Try.prog 47 #[.agg #[.int .u8 (f.ty : Int), .int .u8 (f.fl : Int), .int .u32 (f.st : Int), .string f.data]] w fun e w' => e = .returned (.bool q) ∧ Below w.heap.size w w' := by
  obtain ⟨hX, hB⟩ := boxF_new w f
  obtain ⟨a0, a1, a2, a3⟩ := hX.c
  have HB := Lib.hid hB
  have hty := hf.ty
  have hfl := hf.fl
  have hqq := hq.out
  unfold padB at hqq
  have hz := flag_and f 8 _ hf (.inr (.inl rfl)) rfl
  obtain ⟨z, hzz⟩ : ∃ z, bits .and .u8 (f.fl : Int) 8 = z := ⟨_, rfl⟩
  rw [show ((8 : Nat) : Int) = 8 from rfl, hzz] at hz
  clear hX hB hq
  rcases (show f.ty = 0 ∨ f.ty = 1 ∨ 1 < f.ty by omega) with ht | ht | ht
  · have t0 : ((f.ty : Int) == 0) = true := beq_iff_eq.2 (by omega)
    rw [decide_eq_true (by omega), Bool.true_and] at hqq
    rw [hqq] at hz
    clear ht hty hqq
    go_enter Try.func47, Try.ntmps47
    go_wp2_with fail
    go_ret
    exact ⟨rfl, HB.out⟩
  · have t0 : ((f.ty : Int) == 0) = false := beq_eq_false_iff_ne.2 (by omega)
    have t1 : ((f.ty : Int) == 1) = true := beq_iff_eq.2 (by omega)
    rw [decide_eq_true (by omega), Bool.true_and] at hqq
    rw [hqq] at hz
    clear ht hty hqq
    go_enter Try.func47, Try.ntmps47
    go_wp2_with fail
    go_ret
    exact ⟨rfl, HB.out⟩
  · have t0 : ((f.ty : Int) == 0) = false := beq_eq_false_iff_ne.2 (by omega)
    have t1 : ((f.ty : Int) == 1) = false := beq_eq_false_iff_ne.2 (by omega)
    rw [decide_eq_false (by omega), Bool.false_and] at hqq
    subst hqq
    clear ht hty hz
    go_enter Try.func47, Try.ntmps47
    go_wp2_with fail
    go_ret
    exact ⟨rfl, HB.out⟩

set_option maxHeartbeats 4000000 in
set_option maxRecDepth 100000 in
theorem cpri_is (f : Frm) (q : Bool) (w : World) (hf : Okf f) (hq : Hid (priB f = q)) :
    Calls Try.prog 45 #[.agg #[.int .u8 (f.ty : Int), .int .u8 (f.fl : Int), .int .u32 (f.st : Int), .string f.data]] w fun e w' => e = .returned (.bool q) ∧ Below w.heap.size w w' := by
  obtain ⟨hX, hB⟩ := boxF_new w f
  obtain ⟨a0, a1, a2, a3⟩ := hX.c
  have HB := Lib.hid hB
  have hty := hf.ty
  have hfl := hf.fl
  have hqq := hq.out
  unfold priB at hqq
  have hz := flag_and f 32 _ hf (.inr (.inr rfl)) rfl
  obtain ⟨z, hzz⟩ : ∃ z, bits .and .u8 (f.fl : Int) 32 = z := ⟨_, rfl⟩
  rw [show ((32 : Nat) : Int) = 32 from rfl, hzz] at hz
  clear hX hB hq
  rcases (show f.ty = 1 ∨ f.ty = 2 ∨ (f.ty ≠ 1 ∧ f.ty ≠ 2) by omega) with ht | ht | ht
  · have t1 : ((f.ty : Int) == 1) = true := beq_iff_eq.2 (by omega)
    rw [decide_eq_false (by omega), decide_eq_true (by omega), Bool.false_or, Bool.true_and] at hqq
    rw [hqq] at hz
    clear ht hty hqq
    go_enter Try.func45, Try.ntmps45
    go_wp2_with fail
    go_ret
    exact ⟨rfl, HB.out⟩
  · have t1 : ((f.ty : Int) == 1) = false := beq_eq_false_iff_ne.2 (by omega)
    have t2 : ((f.ty : Int) == 2) = true := beq_iff_eq.2 (by omega)
    rw [decide_eq_true (by omega), Bool.true_or] at hqq
    subst hqq
    clear ht hty hz
    go_enter Try.func45, Try.ntmps45
    go_wp2_with fail
    go_ret
    exact ⟨rfl, HB.out⟩
  · have t1 : ((f.ty : Int) == 1) = false := beq_eq_false_iff_ne.2 (by omega)
    have t2 : ((f.ty : Int) == 2) = false := beq_eq_false_iff_ne.2 (by omega)
    rw [decide_eq_false (by omega), decide_eq_false (by omega)] at hqq
    subst hqq
    clear ht hty hz
    go_enter Try.func45, Try.ntmps45
    go_wp2_with fail
    go_ret
    exact ⟨rfl, HB.out⟩

set_option maxHeartbeats 4000000 in
set_option maxRecDepth 100000 in
theorem cahead_is (f : Frm) (k : Nat) (w : World) (hf : Okf f) (hk : Hid (ahC f = k)) :
    Calls Try.prog 32 #[.agg #[.int .u8 (f.ty : Int), .int .u8 (f.fl : Int), .int .u32 (f.st : Int), .string f.data]] w fun e w' => e = .returned (.int .i64 (k : Int)) ∧ Below w.heap.size w w' := by
  obtain ⟨hX, hB⟩ := boxF_new w f
  have HX := Lib.hid hX
  have HB := Lib.hid hB
  obtain ⟨p, hp⟩ : ∃ p, padB f = p := ⟨_, rfl⟩
  obtain ⟨r, hr⟩ : ∃ r, priB f = r := ⟨_, rfl⟩
  have hkk := hk.out
  unfold ahC at hkk
  rw [hp, hr] at hkk
  have HP := Lib.hid hp
  have HR := Lib.hid hr
  clear hX hB hk hp hr
  obtain ⟨a0, a1, a2, a3⟩ := HX.out.c
  go_enter Try.func32, Try.ntmps32
  go_upto_region 1 with fail
  generalize w.alloc (.cells #[.int .u8 (f.ty : Int), .int .u8 (f.fl : Int), .int .u32 (f.st : Int), .string f.data] 24) = W at *
  go_wp2_with fail
  refine (cpad_is f p W hf HP).mono ?_
  rintro e w1 ⟨rfl, hB1⟩
  have HX1 := Lib.hid (HX.out.below hB1)
  have HB1 := Lib.hid (HB.out.trans (hB1.mono HB.out.size))
  clear hB1 a0 a1 a2 a3
  obtain ⟨a0, a1, a2, a3⟩ := HX1.out.c
  cases p <;> cases r
  all_goals
    simp at hkk
    subst hkk
    go_wp2_with fail
    refine (cpri_is f _ w1 hf HR).mono ?_
    rintro e w2 ⟨rfl, hB2⟩
    have HB2 := Lib.hid (HB1.out.trans (hB2.mono HB1.out.size))
    clear hB2
    go_wp2_with fail
    go_ret
    exact ⟨rfl, HB2.out⟩

set_option maxHeartbeats 4000000 in
set_option maxRecDepth 100000 in
theorem cbehind_is (f : Frm) (k : Nat) (w : World) (hf : Okf f) (h0 : padB f = true → 0 < f.data.size) (hk : Hid (beC f = k)) :
    Calls Try.prog 33 #[.agg #[.int .u8 (f.ty : Int), .int .u8 (f.fl : Int), .int .u32 (f.st : Int), .string f.data]] w fun e w' => e = .returned (.int .i64 (k : Int)) ∧ Below w.heap.size w w' := by
  obtain ⟨hX, hB⟩ := boxF_new w f
  have HX := Lib.hid hX
  have HB := Lib.hid hB
  obtain ⟨p, hp⟩ : ∃ p, padB f = p := ⟨_, rfl⟩
  have hkk := hk.out
  unfold beC at hkk
  rw [hp] at hkk h0
  have HP := Lib.hid hp
  clear hX hB hk hp
  obtain ⟨a0, a1, a2, a3⟩ := HX.out.c
  go_enter Try.func33, Try.ntmps33
  go_upto_region 1 with fail
  generalize w.alloc (.cells #[.int .u8 (f.ty : Int), .int .u8 (f.fl : Int), .int .u32 (f.st : Int), .string f.data] 24) = W at *
  go_wp2_with fail
  refine (cpad_is f p W hf HP).mono ?_
  rintro e w1 ⟨rfl, hB1⟩
  have HX1 := Lib.hid (HX.out.below hB1)
  have HB1 := Lib.hid (HB.out.trans (hB1.mono HB.out.size))
  clear hB1 a0 a1 a2 a3
  obtain ⟨a0, a1, a2, a3⟩ := HX1.out.c
  cases p with
  | true =>
    have hp := h0 rfl
    rw [if_pos rfl, bN_at hp] at hkk
    have hpi : (0 : Int) < (f.data.size : Int) := by omega
    obtain ⟨y, hy⟩ : ∃ y, f.data[0] = y := ⟨_, rfl⟩
    rw [hy] at hkk
    subst hkk
    have ewy : IntKind.i64.wrap (y.toNat : Int) = (y.toNat : Int) := by rw [IntKind.wrap_i64]; have := y.toNat_lt; omega
    clear h0
    go_wp2_with fail
    go_ret
    exact ⟨rfl, HB1.out⟩
  | false =>
    rw [if_neg (by decide)] at hkk
    subst hkk
    go_wp2_with fail
    go_ret
    exact ⟨rfl, HB1.out⟩

set_option maxHeartbeats 4000000 in
set_option maxRecDepth 100000 in
theorem cword_is (s : ByteArray) (i M : Nat) (w : World) (hs : s.size ≤ 1000000) (hi : i + 4 ≤ s.size) (hM : Hid (gN s i 4 % 2147483648 = M)) :
    Calls Try.prog 23 #[.string s, .int .i64 (i : Int)] w fun e w' => e = .returned (.int .u32 (M : Int)) ∧ w = w' := by
  obtain ⟨R, hR⟩ : ∃ R, gN s i 4 = R := ⟨_, rfl⟩
  have hRb : R < 4294967296 := by rw [← hR]; exact gN_lt s i 4
  have HG := Lib.hid (get_yes s i 4 w (by unfold maxLen; omega) (by decide) (by decide) hi)
  rw [show be ((s.data.toList.drop i).take 4) = R from hR] at HG
  have hmm := hM.out
  rw [hR] at hmm
  have hA := and31 R M hRb hmm
  have ew : IntKind.u32.wrap (R : Int) = (R : Int) := by rw [IntKind.wrap_u32]; omega
  clear hR hM
  go_enter Try.func23, Try.ntmps23
  go_wp2_with fail
  refine HG.out.mono ?_
  rintro e w' ⟨rfl, rfl⟩
  go_wp2_with fail
  go_ret
  exact ⟨rfl, rfl⟩
end Go.Proofs.Ytfgeapoojogdbaa
