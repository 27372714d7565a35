/- The document's Parse of layer 14. For texts of at most 10^6 bytes. -/
import Derived.Test.YtekcipmhljhelaaProg
import Derived.Test.YtekcipmhljhelaaBytes
import Derived.Test.YtekcipmhljhelaaNumBe
import Derived.Test.YtekcipmhljhelaaQuiet
import Derived.Test.YtekcipmhljhelaaFrMath
import Derived.Test.YtekcipmhljhelaaFrBox
import Derived.WalkKit
import Derived.Lib.Hide
import Derived.Laws.Rows
import Derived.Outline
import Derived.IntWalk
import Derived.WalkSpells
import Derived.WalkLawsBesides
import Derived.Deep.CutRange
import Derived.Deep.RegionWith
import Derived.Deep.RegionLaw
namespace Go.Proofs.Ytekcipmhljhelaa
open Go Go.RowKit Bytes Fr

theorem frInfo : (Try.prog.info? 40).map (·.size) = some 4 := by kernel_rfl
/-- A frame as a value. -/
def frV (f : Frm) : Value := .agg #[.int .u8 (f.ty : Int), .int .u8 (f.fl : Int), .int .u32 (f.st : Int), .string f.data]
set_option maxHeartbeats 8000000 in
set_option maxRecDepth 100000 in
theorem fparse_is (s : ByteArray) (f : Frm) (n c : Nat) (w : World) (hs : s.size ≤ 1000000) (hr : Hid (parseF s = (f, n, c))) :
    Calls Try.prog 20 #[.string s] w fun e w' => e = .returned (.tuple #[frV f, .int .i64 (n : Int), .int .i64 (c : Int)]) ∧ Below w.heap.size w w' := by
  have hrr := hr.out
  unfold parseF at hrr
  have HB := Lib.hid ((Below.refl _ w).alloc (Nat.le_refl _) (.cells #[.int .u8 0, .int .u8 0, .int .u32 0, .string ⟨#[]⟩] 40))
  have hX := heap_alloc_new w (.cells #[.int .u8 0, .int .u8 0, .int .u32 0, .string ⟨#[]⟩] 40)
  have HX := Lib.hid hX
  clear hr hX
  by_cases h9 : s.size < 9
  · rw [if_pos h9] at hrr
    injection hrr with e1 e2
    injection e2 with e2 e3
    subst e1 e2 e3
    have h9i : (s.size : Int) < 9 := by omega
    clear h9
    go_enter Try.func20, Try.ntmps20
    go_wp2_with fail
    refine bodyPost_ret (v := .tuple #[.agg #[.int .u8 0, .int .u8 0, .int .u32 0, .string ⟨#[]⟩], .int .i64 0, .int .i64 2]) (by simp [results, Try.results20, go_sem]) rfl ⟨rfl, HB.out⟩
  have h9i : ¬ ((s.size : Int) < 9) := by omega
  have h9d : decide ((s.size : Int) < 9) = false := decide_eq_false h9i
  rw [if_neg h9] at hrr
  obtain ⟨m, hm⟩ : ∃ m, gN s 0 3 = m := ⟨_, rfl⟩
  have HM := Lib.hid hm
  have hmb : m < 16777216 := by rw [← hm]; exact gN_lt s 0 3
  rw [hm] at hrr
  have h03 : 0 + 3 ≤ s.size := by omega
  have HG3 := Lib.hid (fun W : World => fget_is s 0 3 m W hs (by decide) (by decide) h03 HM)
  have ews : IntKind.i64.wrap ((s.size : Int) - 9) = ((s.size - 9 : Nat) : Int) := by rw [IntKind.wrap_i64]; omega
  obtain ⟨z, hz⟩ : ∃ z, s.size - 9 = z := ⟨_, rfl⟩
  rw [hz] at ews hrr
  by_cases hbig : 16384 < m
  · rw [if_pos hbig] at hrr
    injection hrr with e1 e2
    injection e2 with e2 e3
    subst e1 e2 e3
    have b1 : (16384 : Int) < (m : Int) := by omega
    clear hbig h9 hm hz
    go_enter Try.func20, Try.ntmps20
    go_wp2_with fail
    refine (HG3.out _).mono ?_
    rintro e w1 ⟨rfl, rfl⟩
    go_wp2_with fail
    refine bodyPost_ret (v := .tuple #[.agg #[.int .u8 0, .int .u8 0, .int .u32 0, .string ⟨#[]⟩], .int .i64 0, .int .i64 3]) (by simp [results, Try.results20, go_sem]) rfl ⟨rfl, HB.out⟩
  have b1 : ¬ ((16384 : Int) < (m : Int)) := by omega
  have b2 : decide ((16384 : Int) < (m : Int)) = false := decide_eq_false b1
  rw [if_neg hbig] at hrr
  by_cases hsh : z < m
  · rw [if_pos hsh] at hrr
    injection hrr with e1 e2
    injection e2 with e2 e3
    subst e1 e2 e3
    have c1 : (z : Int) < (m : Int) := by omega
    clear hbig h9 hm hz hsh
    go_enter Try.func20, Try.ntmps20
    go_wp2_with fail
    refine (HG3.out _).mono ?_
    rintro e w1 ⟨rfl, rfl⟩
    go_wp2_with fail
    refine bodyPost_ret (v := .tuple #[.agg #[.int .u8 0, .int .u8 0, .int .u32 0, .string ⟨#[]⟩], .int .i64 0, .int .i64 2]) (by simp [results, Try.results20, go_sem]) rfl ⟨rfl, HB.out⟩
  have c1 : ¬ ((z : Int) < (m : Int)) := by omega
  have c2 : decide ((z : Int) < (m : Int)) = false := decide_eq_false c1
  rw [if_neg hsh] at hrr
  obtain ⟨R, hR⟩ : ∃ R, gN s 5 4 = R := ⟨_, rfl⟩
  obtain ⟨M, hM⟩ : ∃ M, R % 2147483648 = M := ⟨_, rfl⟩
  rw [hR, hM] at hrr
  have hMb : M < 2147483648 := by omega
  have ht : (R : Int).tmod 2147483648 = (M : Int) := by rw [Int.tmod_eq_emod_of_nonneg (by omega)]; omega
  have ht2 : (R : Int) % 2147483648 = (M : Int) := by omega
  have ew : IntKind.u32.wrap (M : Int) = (M : Int) := by rw [IntKind.wrap_u32]; omega
  have h54 : 5 + 4 ≤ s.size := by omega
  have HG5 := Lib.hid (fun W : World => fget_is s 5 4 R W hs (by decide) (by decide) h54 (Lib.hid hR))
  have hb3 := bN_at (s := s) (i := 3) (by omega)
  have hb4 := bN_at (s := s) (i := 4) (by omega)
  obtain ⟨y3, hy3⟩ : ∃ y, s[3]'(by omega) = y := ⟨_, rfl⟩
  obtain ⟨y4, hy4⟩ : ∃ y, s[4]'(by omega) = y := ⟨_, rfl⟩
  rw [hy3] at hb3
  rw [hy4] at hb4
  have i3 : (3 : Int) < (s.size : Int) := by omega
  have i4 : (4 : Int) < (s.size : Int) := by omega
  have ewm : IntKind.i64.wrap (9 + (m : Int)) = ((9 + m : Nat) : Int) := by rw [IntKind.wrap_i64]; omega
  obtain ⟨k, hk⟩ : ∃ k, 9 + m = k := ⟨_, rfl⟩
  rw [hk] at ewm hrr
  have k1 : (9 : Int) ≤ (k : Int) := by omega
  have k2 : (k : Int) ≤ (s.size : Int) := by omega
  injection hrr with e1 e2
  injection e2 with e2 e3
  subst e1 e2 e3
  unfold frV
  rw [hb3, hb4]
  simp only
  clear hbig hm hz hsh hR hM hb3 hb4 hk
  go_enter Try.func20, Try.ntmps20
  go_wp2_with fail
  refine (HG3.out _).mono ?_
  rintro e w1 ⟨rfl, rfl⟩
  go_wp2_with fail
  first | go_region_with (go_at_call 26; refine (HG5.out _).mono ?_; rintro e w2 ⟨rfl, hw2⟩; subst hw2)
  all_goals
    go_wp2_with fail
    refine bodyPost_ret (v := .tuple #[.agg #[.int .u8 (y3.toNat : Int), .int .u8 (y4.toNat : Int), .int .u32 (M : Int), .string (s.extract 9 k)], .int .i64 (k : Int), .int .i64 0]) (by simp [results, Try.results20, go_sem, Act.put]) rfl ⟨rfl, ?_⟩
    first
      | exact ((Below.refl _ w).alloc (Nat.le_refl _) _).drew
      | exact ((Below.refl _ w).drew).alloc (Nat.le_refl _) _
end Go.Proofs.Ytekcipmhljhelaa
