/- The code's Parse of layer 14. For texts of at most 10^6 bytes. -/
import Derived.Test.YtekcipmhljhelaaProg
import Derived.Test.YtekcipmhljhelaaBytes
import Derived.Test.YtekcipmhljhelaaNumBe
import Derived.Test.YtekcipmhljhelaaNumGet
import Derived.Test.YtekcipmhljhelaaNumPart
import Derived.Test.YtekcipmhljhelaaQuiet
import Derived.Test.YtekcipmhljhelaaFrMath
import Derived.Test.YtekcipmhljhelaaFrBox
import Derived.Test.YtekcipmhljhelaaFrRefS
import Derived.Test.YtekcipmhljhelaaFrWord
import Derived.WalkKit
import Derived.Lib.Hide
import Derived.Laws.Rows
import Derived.Laws.Bits64b
import Derived.Outline
import Derived.IntWalk
import Derived.WalkSpells
import Derived.WalkLawsBesides
import Derived.Deep.CutRange
import Derived.Deep.RegionWith
import Derived.Deep.RegionLaw
import Derived.Deep.QuietTactic
import Derived.BigQuiet
namespace Go.Proofs.Ytekcipmhljhelaa
open Go Go.RowKit Bytes Fr

theorem ofInt64_nat {a : Nat} (ha : a < 18446744073709551616) : (BitVec.ofInt 64 (a : Int)).toNat = a := by
  rw [BitVec.ofInt_natCast, BitVec.toNat_ofNat]
  omega
set_option maxRecDepth 100000 in
theorem or_i64 (x c b p : Nat) (hp : 2 ^ b = p) (hx : x * p < 4294967296) (hc : c < p) (hb : p ≤ 4294967296) : bits .or .i64 ((x * p : Nat) : Int) (c : Int) = ((x * p + c : Nat) : Int) := by
  subst hp
  have h := Nat.shiftLeft_add_eq_or_of_lt (i := b) (b := c) hc x
  rw [Nat.shiftLeft_eq] at h
  have hcl : c < 4294967296 := by omega
  generalize x * 2 ^ b = y at *
  show IntKind.i64.wrap ((BitVec.ofInt 64 (y : Int) ||| BitVec.ofInt 64 (c : Int)).toNat : Int) = _
  rw [BitVec.toNat_or, ofInt64_nat (by omega), ofInt64_nat (by omega), ← h, IntKind.wrap_i64]
  omega
set_option maxRecDepth 100000 in
theorem or_three (x y z : UInt8) (m : Nat) (hm : (x.toNat * 256 + y.toNat) * 256 + z.toNat = m) : bits .or .i64 (bits .or .i64 (wrap64 (wrap64 (x.toNat : Int) * 65536)) (wrap64 (wrap64 (y.toNat : Int) * 256))) (wrap64 (z.toNat : Int)) = (m : Int) := by
  have hx := x.toNat_lt
  have hy := y.toNat_lt
  have hz := z.toNat_lt
  have e1 : wrap64 (wrap64 (x.toNat : Int) * 65536) = ((x.toNat * 65536 : Nat) : Int) := by unfold wrap64; omega
  have e2 : wrap64 (wrap64 (y.toNat : Int) * 256) = ((y.toNat * 256 : Nat) : Int) := by unfold wrap64; omega
  have e3 : wrap64 (z.toNat : Int) = (z.toNat : Int) := by unfold wrap64; omega
  have p1 : (2 : Nat) ^ 16 = 65536 := by simp
  have p2 : (2 : Nat) ^ 8 = 256 := by simp
  have b1 : x.toNat * 65536 < 4294967296 := by omega
  have b2 : y.toNat * 256 < 65536 := by omega
  have b3 : (65536 : Nat) ≤ 4294967296 := by omega
  have b4 : (256 : Nat) ≤ 4294967296 := by omega
  have b5 : (x.toNat * 256 + y.toNat) * 256 < 4294967296 := by omega
  have b6 : z.toNat < 256 := by omega
  rw [e1, e2, e3, or_i64 x.toNat (y.toNat * 256) 16 65536 p1 b1 b2 b3]
  have e4 : x.toNat * 65536 + y.toNat * 256 = (x.toNat * 256 + y.toNat) * 256 := by omega
  rw [e4, or_i64 (x.toNat * 256 + y.toNat) z.toNat 8 256 p2 b5 b6 b4, hm]
theorem gN_three (s : ByteArray) (h : 3 ≤ s.size) : gN s 0 3 = ((s[0]'(by omega)).toNat * 256 + (s[1]'(by omega)).toNat) * 256 + (s[2]'(by omega)).toNat := by
  have b0 := bN_at (s := s) (i := 0) (by omega)
  have b1 := bN_at (s := s) (i := 1) (by omega)
  have b2 := bN_at (s := s) (i := 2) (by omega)
  have hl := size_l s
  rw [← b0, ← b1, ← b2]
  unfold gN bN
  match hL : s.data.toList with
  | [] => rw [hL] at hl; simp at hl; omega
  | [_] => rw [hL] at hl; simp at hl; omega
  | [_, _] => rw [hL] at hl; simp at hl; omega
  | a :: b :: c :: l => simp [be]
set_option maxHeartbeats 8000000 in
set_option maxRecDepth 100000 in
theorem cparse_is (s : ByteArray) (f : Frm) (n c : Nat) (w : World) (hs : s.size ≤ 1000000) (hr : Hid (parseF s = (f, n, c))) :
    Calls Try.prog 29 #[.string s] w fun e w' => e = .returned (.tuple #[frV f, .int .i64 (n : Int), .int .i64 (c : Int)]) ∧ Below w.heap.size w w' := by
  have hrr := hr.out
  unfold parseF at hrr
  clear hr
  have HB := Lib.hid ((Below.refl _ w).alloc (Nat.le_refl _) (.cells #[.int .u8 0, .int .u8 0, .int .u32 0, .string ⟨#[]⟩] 40))
  have hX := heap_alloc_new w (.cells #[.int .u8 0, .int .u8 0, .int .u32 0, .string ⟨#[]⟩] 40)
  have HX := Lib.hid hX
  clear hX
  by_cases h9 : s.size < 9
  · rw [if_pos h9] at hrr
    injection hrr with e1 e2
    injection e2 with e2 e3
    subst e1 e2 e3
    have h9i : (s.size : Int) < 9 := by omega
    clear h9
    go_enter Try.func29, Try.ntmps29
    go_wp2_with fail
    refine bodyPost_ret (v := .tuple #[.agg #[.int .u8 0, .int .u8 0, .int .u32 0, .string ⟨#[]⟩], .int .i64 0, .int .i64 2]) (by simp [results, Try.results29, go_sem]) rfl ⟨rfl, HB.out⟩
  have h9i : ¬ ((s.size : Int) < 9) := by omega
  have h9d : decide ((s.size : Int) < 9) = false := decide_eq_false h9i
  rw [if_neg h9] at hrr
  obtain ⟨m, hm⟩ : ∃ m, gN s 0 3 = m := ⟨_, rfl⟩
  have hmb : m < 16777216 := by rw [← hm]; exact gN_lt s 0 3
  have hor := or_three _ _ _ _ ((gN_three s (by omega)).symm.trans hm)
  rw [hm] at hrr
  clear hm
  have HOR := Lib.hid hor
  clear hor
  have j0 : 0 < s.size := by omega
  have i0 : (0 : Int) < (s.size : Int) := by omega
  have i1 : (1 : Int) < (s.size : Int) := by omega
  have i2 : (2 : Int) < (s.size : Int) := by omega
  obtain ⟨z, hz⟩ : ∃ z, s.size - 9 = z := ⟨_, rfl⟩
  rw [hz] at hrr
  go_enter Try.func29, Try.ntmps29
  go_upto_region 3 with fail
  go_cut [5] from 5 to 24 (fun v wx => v = .int .i64 (m : Int) ∧ wx = (w.alloc (.cells #[.int .u8 0, .int .u8 0, .int .u32 0, .string ⟨#[]⟩] 40)).drew)
  case first =>
    go_region
    go_wp2_with fail
    go_meet
    exact ⟨congrArg (Value.int .i64) HOR.out, rfl⟩
  case rest =>
    obtain ⟨rfl, rfl⟩ := hcut
    clear HOR i0 i1 i2 j0
    by_cases hbig : 16384 < m
    · rw [if_pos hbig] at hrr
      injection hrr with e1 e2
      injection e2 with e2 e3
      subst e1 e2 e3
      have b1 : (16384 : Int) < (m : Int) := by omega
      clear hbig h9 hz
      go_wp2_with fail
      refine bodyPost_ret (v := .tuple #[.agg #[.int .u8 0, .int .u8 0, .int .u32 0, .string ⟨#[]⟩], .int .i64 0, .int .i64 3]) (by simp [results, Try.results29, go_sem]) rfl ⟨rfl, HB.out.drew⟩
    have b1 : ¬ ((16384 : Int) < (m : Int)) := by omega
    have b2 : decide ((16384 : Int) < (m : Int)) = false := decide_eq_false b1
    rw [if_neg hbig] at hrr
    by_cases hsh : z < m
    · rw [if_pos hsh] at hrr
      injection hrr with e1 e2
      injection e2 with e2 e3
      subst e1 e2 e3
      have HNO := Lib.hid (fun W : World => part_no s 9 (m : Int) W hs (by omega) (by omega) (by omega) (by omega) (by unfold holdsB; rw [decide_eq_false]; omega))
      clear hbig h9 hz hsh
      go_wp2_with fail
      refine (HNO.out _).mono ?_
      rintro e w2 ⟨rfl, rfl⟩
      go_wp2_with fail
      refine bodyPost_ret (v := .tuple #[.agg #[.int .u8 0, .int .u8 0, .int .u32 0, .string ⟨#[]⟩], .int .i64 0, .int .i64 2]) (by simp [results, Try.results29, go_sem]) rfl ⟨rfl, HB.out.drew⟩
    rw [if_neg hsh] at hrr
    obtain ⟨M, hM⟩ : ∃ M, gN s 5 4 % 2147483648 = M := ⟨_, rfl⟩
    rw [hM] at hrr
    have HG5 := Lib.hid (fun W : World => cword_is s 5 M W hs (by omega) (Lib.hid hM))
    have hb3 := bN_at (s := s) (i := 3) (by omega)
    have hb4 := bN_at (s := s) (i := 4) (by omega)
    obtain ⟨y3, hy3⟩ : ∃ y, s[3]'(by omega) = y := ⟨_, rfl⟩
    obtain ⟨y4, hy4⟩ : ∃ y, s[4]'(by omega) = y := ⟨_, rfl⟩
    rw [hy3] at hb3
    rw [hy4] at hb4
    have i3 : (3 : Int) < (s.size : Int) := by omega
    have i4 : (4 : Int) < (s.size : Int) := by omega
    have ewm : IntKind.i64.wrap (9 + (m : Int)) = ((9 + m : Nat) : Int) := by rw [IntKind.wrap_i64]; omega
    have HYES := Lib.hid (fun W : World => part_yes s 9 m W hs (by omega))
    obtain ⟨k, hk⟩ : ∃ k, 9 + m = k := ⟨_, rfl⟩
    rw [hk] at ewm hrr HYES
    injection hrr with e1 e2
    injection e2 with e2 e3
    subst e1 e2 e3
    have HFV : Hid (frV ⟨bN s 3, bN s 4, M, s.extract 9 k⟩ = .agg #[.int .u8 (y3.toNat : Int), .int .u8 (y4.toNat : Int), .int .u32 (M : Int), .string (s.extract 9 k)]) := Lib.hid (by unfold frV; rw [hb3, hb4])
    clear hbig hz hsh hM hb3 hb4 hk
    go_wp2_with fail
    refine (HYES.out _).mono ?_
    rintro e w2 ⟨rfl, hB2⟩
    have hX2 := (hB2.block w.heap.size (by simp)).trans (show (w.alloc (.cells #[.int .u8 0, .int .u8 0, .int .u32 0, .string ⟨#[]⟩] 40)).drew.heap[w.heap.size]? = _ from HX.out)
    have HX2 := Lib.hid hX2
    have HB2 := Lib.hid (HB.out.drew.trans (hB2.mono HB.out.drew.size))
    clear hB2 hX2
    go_upto_region 9 with fail
    have hw2 := HX2.out
    have c0 : w2.cell? ⟨w.heap.size, 0, none⟩ = some (.int .u8 0) := cell_of_row _ _ 0 _ _ _ hw2
    have c1 : w2.cell? ⟨w.heap.size, 1, none⟩ = some (.int .u8 0) := cell_of_row _ _ 1 _ _ _ hw2
    have c2 : w2.cell? ⟨w.heap.size, 2, none⟩ = some (.int .u32 0) := cell_of_row _ _ 2 _ _ _ hw2
    have c3 : w2.cell? ⟨w.heap.size, 3, none⟩ = some (.string ⟨#[]⟩) := cell_of_row _ _ 3 _ _ _ hw2
    have hfz : ∀ i, w2.frozen? ⟨w.heap.size, i, none⟩ = false := fun i => by simp [World.frozen?, hw2]
    have f0 := hfz 0
    have f1 := hfz 1
    have f2 := hfz 2
    have f3 := hfz 3
    have hset : ∀ v0 v1 v2 v3 : Value, ((((w2.setCell ⟨w.heap.size, 0, none⟩ v0).setCell ⟨w.heap.size, 1, none⟩ v1).setCell ⟨w.heap.size, 2, none⟩ v2).setCell ⟨w.heap.size, 3, none⟩ v3).heap[w.heap.size]? = some (.cells #[v0, v1, v2, v3] 40 (0, 0)) := fun v0 v1 v2 v3 => by
      simp [World.setCell, Array.getElem?_modify, hw2]
    have HSET := Lib.hid hset
    have HZ : Hid (Below w.heap.size w ((((w2.setCell ⟨w.heap.size, 0, none⟩ (.int .u8 (y3.toNat : Int))).setCell ⟨w.heap.size, 1, none⟩ (.int .u8 (y4.toNat : Int))).setCell ⟨w.heap.size, 2, none⟩ (.int .u32 (M : Int))).setCell ⟨w.heap.size, 3, none⟩ (.string (s.extract 9 k)))) := Lib.hid ((((HB2.out.setCell (p := ⟨w.heap.size, 0, none⟩) (Nat.le_refl _) _).setCell (p := ⟨w.heap.size, 1, none⟩) (Nat.le_refl _) _).setCell (p := ⟨w.heap.size, 2, none⟩) (Nat.le_refl _) _).setCell (p := ⟨w.heap.size, 3, none⟩) (Nat.le_refl _) _)
    have hone := hset (.int .u8 (y3.toNat : Int)) (.int .u8 (y4.toNat : Int)) (.int .u32 (M : Int)) (.string (s.extract 9 k))
    have k0 := cell_of_row _ _ 0 _ _ _ hone
    have k1 := cell_of_row _ _ 1 _ _ _ hone
    have k2 := cell_of_row _ _ 2 _ _ _ hone
    have k3 := cell_of_row _ _ 3 _ _ _ hone
    have HK := Lib.hid (And.intro k0 (And.intro k1 (And.intro k2 k3)))
    clear hw2 hfz HX HB hset k0 k1 k2 k3 hone HSET
    go_region_with (go_at_call 32; refine (HG5.out _).mono ?_; rintro e w3 ⟨rfl, hw3⟩; subst hw3)
    all_goals
      go_wp2_with fail
      obtain ⟨k0, k1, k2, k3⟩ := HK.out
      refine bodyPost_ret (v := .tuple #[.agg #[.int .u8 (y3.toNat : Int), .int .u8 (y4.toNat : Int), .int .u32 (M : Int), .string (s.extract 9 k)], .int .i64 (k : Int), .int .i64 0]) (by simp [results, Try.results29, go_sem, Act.put, k0, k1, k2, k3]) rfl ⟨by rw [HFV.out]; rfl, HZ.out.drew⟩
end Go.Proofs.Ytekcipmhljhelaa
