/- The contract of Decode. For texts of at most 10^6 bytes. -/
import Derived.Test.YtamgnbjdeoklbaaProg
import Derived.Test.YtamgnbjdeoklbaaBytes
import Derived.Test.YtamgnbjdeoklbaaHfMath
import Derived.Test.YtamgnbjdeoklbaaHfBook
import Derived.WalkKit
import Derived.Lib.Hide
import Derived.Outline
import Derived.IntWalk
import Derived.WalkSpells
import Derived.WalkLawsBesides
import Derived.Deep.QuietTactic
import Derived.BigQuiet
import Derived.Deep.CutRange
namespace Go.Proofs.Ytamgnbjdeoklbaa
open Go.RowKit Bytes Hf

namespace Hf
/-- What Decode answers. -/
def decT : Option (List UInt8) → List UInt8
  | some y => y
  | none => []
def decC : Option (List UInt8) → Nat
  | some _ => 0
  | none => 91
/-- What was gathered, and what is still to come. -/
def Goes (l : List UInt8) (c n : Nat) (B : List Bool) (D : Option (List UInt8)) : Prop := (dec c n B).map (l ++ ·) = D
theorem goes_part {l : List UInt8} {c n : Nat} {b : Bool} {B : List Bool} {D : Option (List UInt8)} (h : Goes l c n (b :: B) D) (hn : n < 30) (hl : look (2 * c + bn b) (n + 1) = none) : Goes l (2 * c + bn b) (n + 1) B D := by
  unfold Goes at h
  rw [dec, if_neg (by omega), hl] at h
  exact h
theorem goes_sign {l : List UInt8} {c n s : Nat} {b : Bool} {B : List Bool} {D : Option (List UInt8)} (h : Goes l c n (b :: B) D) (hn : n < 30) (hl : look (2 * c + bn b) (n + 1) = some s) (hs : s ≠ 256) : Goes (l ++ [UInt8.ofNat s]) 0 0 B D := by
  unfold Goes at h ⊢
  rw [dec, if_neg (by omega), hl] at h
  simp only [if_neg hs] at h
  rw [← h]
  cases dec 0 0 B with
  | none => rfl
  | some o => simp
theorem goes_end {l : List UInt8} {c n : Nat} {b : Bool} {B : List Bool} {D : Option (List UInt8)} (h : Goes l c n (b :: B) D) (hn : n < 30) (hl : look (2 * c + bn b) (n + 1) = some 256) : D = none := by
  unfold Goes at h
  rw [dec, if_neg (by omega), hl] at h
  exact h.symm
theorem goes_stop {l : List UInt8} {c n : Nat} {D : Option (List UInt8)} (h : Goes l c n [] D) (hc : n ≤ 7 ∧ c = 2 ^ n - 1) : D = some l := by
  unfold Goes at h
  rw [dec, if_pos hc] at h
  rw [← h]
  simp
theorem goes_bad {l : List UInt8} {c n : Nat} {D : Option (List UInt8)} (h : Goes l c n [] D) (hc : ¬ (n ≤ 7 ∧ c = 2 ^ n - 1)) : D = none := by
  unfold Goes at h
  rw [dec, if_neg hc] at h
  exact h.symm
theorem part_lt {c n : Nat} (h : Part c n) : c < 536870912 := Nat.lt_of_lt_of_le h.2.1 (Nat.pow_le_pow_right (by decide) (by have := h.2.2; omega) : 2 ^ n ≤ 2 ^ 29)
/-- Where a whole code is found. -/
theorem look_in {c n : Nat} {b : Bool} (h : Part c n) (hl : 2 * c + bn b < topOf (n + 1)) : firsts.getD (n + 1) 0 ≤ 2 * c + bn b ∧ look (2 * c + bn b) (n + 1) = some (ord.getD (offs.getD (n + 1) 0 + (2 * c + bn b - firsts.getD (n + 1) 0)) 0) ∧ offs.getD (n + 1) 0 + (2 * c + bn b - firsts.getD (n + 1) 0) < 257 := by
  have ht := top_next h.2.2
  have h1 := h.1
  have hf : firsts.getD (n + 1) 0 ≤ 2 * c + bn b := by omega
  have hld := led_bd (show n + 1 < 31 by have := h.2.2; omega)
  unfold topOf at hl
  refine ⟨hf, ?_, by omega⟩
  unfold look
  rw [if_pos ⟨hf, hl⟩]
theorem look_out {c n : Nat} (hl : ¬ c < topOf n) : look c n = none := by
  unfold topOf at hl
  unfold look
  rw [if_neg (by omega)]
theorem top_le {n : Nat} (h : n < 31) : topOf n ≤ 1073741824 := (led_bd h).2.2.2.1
theorem bitsOf_drop {s : List UInt8} {k : Nat} (h : k < s.length) : bitsOf (s.drop k) = Hf.bits (s.getD k 0).toNat 8 ++ bitsOf (s.drop (k + 1)) := by
  rw [drop_cons h]
  rfl
theorem bits_head (m j : Nat) (B : List Bool) : Hf.bits m (j + 1) ++ B = (m / 2 ^ j % 2 == 1) :: (Hf.bits m j ++ B) := rfl
end Hf
theorem ofInt32u_nat {a : Nat} (ha : a < 4294967296) : (BitVec.ofInt 32 (a : Int)).toNat = a := by
  rw [BitVec.ofInt_natCast, BitVec.toNat_ofNat]
  omega
theorem or32u {a b : Nat} (ha : a < 4294967296) (hb : b < 4294967296) : Go.bits .or .u32 (a : Int) (b : Int) = ((a ||| b : Nat) : Int) := by
  have hx : a ||| b < 2 ^ 32 := Nat.or_lt_two_pow (by omega) (by omega)
  show IntKind.u32.wrap ((BitVec.ofInt 32 (a : Int) ||| BitVec.ofInt 32 (b : Int)).toNat : Int) = _
  rw [BitVec.toNat_or, ofInt32u_nat ha, ofInt32u_nat hb, IntKind.wrap_u32]
  omega
theorem ofInt8u_nat {a : Nat} (ha : a < 256) : (BitVec.ofInt 8 (a : Int)).toNat = a := by
  rw [BitVec.ofInt_natCast, BitVec.toNat_ofNat]
  omega
theorem and8u {a b : Nat} (ha : a < 256) (hb : b < 256) : Go.bits .and .u8 (a : Int) (b : Int) = ((a &&& b : Nat) : Int) := by
  have hx : a &&& b ≤ a := Nat.and_le_left
  show IntKind.u8.wrap ((BitVec.ofInt 8 (a : Int) &&& BitVec.ofInt 8 (b : Int)).toNat : Int) = _
  rw [BitVec.toNat_and, ofInt8u_nat ha, ofInt8u_nat hb, IntKind.wrap_u8]
  omega
/-- One bit of a byte. -/
theorem one_bit {y m : Nat} (hy : y < 256) : Go.bits .and .u8 ((y : Int) / 2 ^ m) 1 = (bn (y / 2 ^ m % 2 == 1) : Int) := by
  have e : (y : Int) / 2 ^ m = ((y / 2 ^ m : Nat) : Int) := by rw [Int.natCast_ediv, Int.natCast_pow]; rfl
  have h1 : y / 2 ^ m < 256 := Nat.lt_of_le_of_lt (Nat.div_le_self _ _) hy
  rw [e]
  have h2 := and8u h1 (show 1 < 256 by decide)
  rw [Nat.and_one_is_mod] at h2
  have h3 : bn (y / 2 ^ m % 2 == 1) = y / 2 ^ m % 2 := by
    rcases Nat.mod_two_eq_zero_or_one (y / 2 ^ m) with e | e <;> rw [e] <;> rfl
  rw [h3]
  exact h2
theorem two_or {c b : Nat} (hc : c < 536870912) (hb : b ≤ 1) : Go.bits .or .u32 ((c : Int) * 2) (b : Int) = ((2 * c + b : Nat) : Int) := by
  have h := or32u (a := 2 * c) (b := b) (by omega) (by omega)
  have e : 2 * c ||| b = 2 * c + b := by
    have := Nat.two_pow_add_eq_or_of_lt (i := 1) (b := b) (by omega) c
    rw [Nat.pow_one] at this
    exact this.symm
  rw [e] at h
  rw [← h]
  congr 1
  omega

set_option maxHeartbeats 4000000 in
set_option maxRecDepth 100000 in
theorem decode_is (s : ByteArray) (r : ByteArray) (e : Nat) (w : World) (hs : s.size ≤ 1000000) (h1 : Hid (mk (decT (Hf.decode s.data.toList)) = r)) (h2 : Hid (decC (Hf.decode s.data.toList) = e)) :
    Calls Try.prog 83 #[.string s] w fun x w' => x = .returned (.tuple #[.string r, .int .i64 (e : Int)]) ∧ Below w.heap.size w w' := by
  obtain ⟨i0, hi, hz0, hz1, hz2⟩ := info_parts info5
  have HI := Lib.hid hi; clear hi
  have HZ0 := Lib.hid hz0; clear hz0
  have HZ1 := Lib.hid hz1; clear hz1
  have HZ2 := Lib.hid hz2; clear hz2
  obtain ⟨D, hD⟩ : ∃ D, Hid (Hf.decode s.data.toList = D) := ⟨_, rfl⟩
  rw [hD.out] at h1 h2
  obtain ⟨zB, hz, HZ⟩ : ∃ zB, (∀ w, (zeroValue 148).run Try.prog w = .ok (.agg zB) w) ∧ Hid (zB = tab 833 bookZ) := ⟨_, zero_of book_info, rfl⟩
  have hszB : zB.size = 833 := by rw [HZ.out, tab_size]
  have hbk := book_is
  obtain ⟨fin, hfin⟩ : ∃ fin, Hid (tab 833 bookF = fin) := ⟨_, rfl⟩
  rw [hfin.out] at hbk
  have hone : fin.all (·.oneCell') = true := by rw [← hfin.out]; exact book_one
  have HONE := Lib.hid hone
  have hsf : fin.size = 833 := by rw [← hfin.out, tab_size]
  have HBK := Lib.hid hbk
  clear hbk hone
  go_enter Try.func83, Try.ntmps83
  go_wp2_with fail
  refine (HBK.out _).mono ?_
  rintro x w1 ⟨rfl, hB0⟩
  have hnew : (w1.alloc (.cells zB 148)).heap[w1.heap.size]? = some (.cells zB 148 (0, 0)) := heap_alloc_new w1 _
  have HNEW := Lib.hid hnew
  clear hnew
  have hrow := setRow_heap _ _ _ fin _ _ HNEW.out
  have hBW : Below w.heap.size w ((w1.alloc (.cells zB 148)).setRow w1.heap.size fin) := below_setRow (hB0.alloc hB0.size _) hB0.size fin
  have hsW : ((w1.alloc (.cells zB 148)).setRow w1.heap.size fin).heap.size = w1.heap.size + 1 := by rw [setRow_size]; simp
  have HSW := Lib.hid hsW
  have HROW := Lib.hid hrow
  have HBW := Lib.hid hBW
  clear hsW hrow hBW
  go_wp2_with (first | (refine wpList_store_row rfl 148 _ _ rfl w1.heap.size fin rfl rfl 148 zB HNEW.out ?hi2 ?ho HONE.out ?_) | (at_make; refine wpList_make_own _ rfl _ _ 71 rfl (w1.heap.size + 1) 5 i0 (.int .u8 0) 1 Try.underlying71 HI.out HZ0.out HZ1.out _ _ _ s.size rfl rfl (by omega) ?b2 ?b3 ?b4 ?_))
  case hi2 => rw [hsf]; exact size_of book_info
  case ho => rw [hsf, hszB]
  case b2 => rw [HZ2.out]; omega
  case b3 => unfold maxLen; omega
  case b4 => exact Nat.le_of_eq HSW.out.symm
  generalize ((w1.alloc (.cells zB 148)).setRow w1.heap.size fin) = W at *
  generalize w1.heap.size = bk at *
  obtain ⟨g, hg⟩ : ∃ g, bk + 1 = g := ⟨_, rfl⟩
  rw [hg] at HSW
  have G : Hid (W.heap.size = g) := HSW
  have hbg : bk < g := by omega
  rw [hg]
  intro w0 hown0 hgrow0
  have hB0 : Below g W w0 := (Below.refl _ _).grown hgrow0 (Nat.le_of_eq G.out.symm) (fun k h => by cases h)
  have HO := Lib.hid hown0; clear hown0 hgrow0 hg HSW HNEW hz
  have hwg : w.heap.size ≤ g := by have := HBW.out.size; have := G.out; omega
  go_wp2_with fail
  go_loopw [5, 6, 7, 17] (fun b x h i wr => ∃ (k : Nat) (l : List UInt8) (c n : Nat), k ≤ s.size ∧ x = .int .u32 (c : Int) ∧ h = .int .i64 (n : Int) ∧ i = .int .i64 (k : Int) ∧ l.length ≤ 8 * k ∧ Hid (Part c n) ∧ Hid (wr.ownsRow g 5 1 b l.length (byteCells l)) ∧ Hid (Goes l c n (bitsOf (s.data.toList.drop k)) D) ∧ Below g W wr) (fun _ _ _ i _ => s.size - (intOf i).toNat)
  case atStart => exact ⟨0, [], 0, 0, by omega, rfl, rfl, rfl, by decide, Lib.hid part_zero, HO, Lib.hid (by rw [← hD.out]; unfold Goes Hf.decode; simp), hB0⟩
  clear hB0 HO
  case round =>
    obtain ⟨k, l, c, n, hk, rfl, rfl, rfl, hll, hP, hO, hF, hB⟩ := hrel
    by_cases hlt : k < s.size
    · have hdk : decide ((k : Int) < (s.size : Int)) = true := by rw [decide_eq_true_eq]; omega
      obtain ⟨y, hy⟩ : ∃ y, s[k] = y := ⟨_, rfl⟩
      have hyb := y.toNat_lt
      obtain ⟨R, hR⟩ : ∃ R, Hid (bitsOf (s.data.toList.drop (k + 1)) = R) := ⟨_, rfl⟩
      have HF := Lib.hid (show Goes l c n (Hf.bits y.toNat 8 ++ R) D by
        have h3 := hF.out
        rw [bitsOf_drop (by rw [← Lib.size_eq]; exact hlt), getD_byte hlt, hy, hR.out] at h3
        exact h3)
      have hk1 : (0 : Int) ≤ (k : Int) := by omega
      have hk2 : (k : Int) < (s.size : Int) := by omega
      clear hF
      go_wp2_with fail
      go_loopw [5, 6, 7, 9] (fun b x h i wi => ∃ (j : Nat) (l : List UInt8) (c n : Nat), j ≤ 8 ∧ x = .int .u32 (c : Int) ∧ h = .int .i64 (n : Int) ∧ i = .int .i64 ((j : Int) - 1) ∧ l.length + j ≤ 8 * k + 8 ∧ Hid (Part c n) ∧ Hid (wi.ownsRow g 5 1 b l.length (byteCells l)) ∧ Hid (Goes l c n (Hf.bits y.toNat j ++ R) D) ∧ Below g W wi) (fun _ _ _ i _ => ((intOf i) + 1).toNat)
      case atStart => exact ⟨8, l, c, n, by omega, rfl, rfl, rfl, by omega, hP, hO, HF, hB⟩
      clear hB HF hO hP hll
      case round =>
        obtain ⟨j, l, c, n, hj, rfl, rfl, rfl, hll, hP, hO, hF, hB⟩ := hrel
        by_cases hj0 : j = 0
        · subst hj0
          have HF := Lib.hid (show Goes l c n (bitsOf (s.data.toList.drop (k + 1))) D by rw [hR.out]; exact hF.out)
          clear hF
          go_wp2_with fail
          go_roundw
          case rel => exact ⟨k + 1, l, c, n, by omega, rfl, rfl, rfl, by omega, hP, hO, HF, hB⟩
          case measure => simp [intOf]; omega
        · obtain ⟨m, rfl⟩ : ∃ m, j = m + 1 := ⟨j - 1, by omega⟩
          have em : ((m + 1 : Nat) : Int) - 1 = (m : Int) := by omega
          have em2 : (m : Int) + 1 - 1 = (m : Int) := by omega
          have hF1 := hF.out
          rw [bits_head] at hF1
          have hbn := bn_le (y.toNat / 2 ^ m % 2 == 1)
          have e0 := one_bit (y := y.toNat) (m := m) hyb
          have hcb := part_lt hP.out
          have hn30 := hP.out.2.2
          have hrw := (hB.block _ hbg).trans HROW.out
          rw [← hfin.out] at hrw
          have htop := top_le (n := n + 1) (by omega)
          have hx1 : wr.cell? ⟨bk, 802 + (n + 1), none⟩ = some (.int .u32 (topOf (n + 1) : Int)) := by
            rw [cell_of_row _ _ _ _ _ _ hrw, tab_get _ (by omega)]
            unfold bookF
            rw [if_neg (by omega), if_neg (by omega), if_neg (by omega), show 802 + (n + 1) - 802 = n + 1 by omega]
            rfl
          have hx2 : wr.cell? ⟨bk, 771 + (n + 1), none⟩ = some (.int .u32 ((firsts.getD (n + 1) 0 - offs.getD (n + 1) 0 : Nat) : Int)) := by
            rw [cell_of_row _ _ _ _ _ _ hrw, tab_get _ (by omega)]
            unfold bookF
            rw [if_neg (by omega), if_neg (by omega), if_pos (by omega), show 771 + (n + 1) - 771 = n + 1 by omega]
            rfl
          have hx3 : ∀ p, p < 257 → wr.cell? ⟨bk, 514 + p, none⟩ = some (.int .i64 (ord.getD p 0 : Int)) := fun p hp => by
            rw [cell_of_row _ _ _ _ _ _ hrw, tab_get _ (by omega)]
            unfold bookF
            rw [if_neg (by omega), if_pos (by omega), show 514 + p - 514 = p by omega]
            rfl
          have HX3 := Lib.hid hx3
          clear hrw hx3
          have hlook := @look_in c n (y.toNat / 2 ^ m % 2 == 1) hP.out
          have hlout := @look_out (2 * c + bn (y.toNat / 2 ^ m % 2 == 1)) (n + 1)
          have hpn := @part_next c n (y.toNat / 2 ^ m % 2 == 1) hP.out
          have hg1 := @goes_part l c n _ _ D hF1 hn30
          have hg2 := fun sg => @goes_sign l c n sg _ _ D hF1 hn30
          have hg3 := goes_end hF1 hn30
          have e1 := two_or hcb hbn
          generalize bn (y.toNat / 2 ^ m % 2 == 1) = bt at *
          obtain ⟨c2, hc2⟩ : ∃ c2, 2 * c + bt = c2 := ⟨_, rfl⟩
          rw [hc2] at hlook hlout hpn hg1 hg2 hg3 e1
          have e2 : IntKind.u32.wrap ((c : Int) * 2) = (c : Int) * 2 := by rw [IntKind.wrap_u32]; omega
          have e3 : IntKind.u32.wrap (bt : Int) = (bt : Int) := by rw [IntKind.wrap_u32]; omega
          have e5 : IntKind.i64.wrap ((n : Int) + 1) = ((n + 1 : Nat) : Int) := by rw [IntKind.wrap_i64]; omega
          have hc2b : c2 < 1073741824 := by omega
          clear hF hF1
          by_cases hin : c2 < topOf (n + 1)
          · obtain ⟨hf1, hlk, hpb⟩ := hlook hin
            have hld := led_bd (show n + 1 < 31 by omega)
            obtain ⟨q, hq⟩ : ∃ q, offs.getD (n + 1) 0 + (c2 - firsts.getD (n + 1) 0) = q := ⟨_, rfl⟩
            obtain ⟨ld, hle⟩ : ∃ ld, firsts.getD (n + 1) 0 - offs.getD (n + 1) 0 = ld := ⟨_, rfl⟩
            rw [hle] at hx2
            rw [hq] at hlk hpb
            have e6 : IntKind.u32.wrap ((c2 : Int) - (ld : Int)) = (q : Int) := by rw [IntKind.wrap_u32]; omega
            have hx3 := HX3.out q hpb
            have hq1 : (0 : Int) ≤ (q : Int) := by omega
            have hq2 : (q : Int) < 257 := by omega
            obtain ⟨sg, hsg⟩ : ∃ sg, ord.getD q 0 = sg := ⟨_, rfl⟩
            rw [hsg] at hlk hx3
            have hsb := (look_some hlk).1
            have hg2 := hg2 sg hlk
            clear hlook hlout hpn hg1 HX3 hle hq hld hf1 hsg
            generalize topOf (n + 1) = tp at *
            by_cases h256 : sg = 256
            · subst h256
              have hDn := hg3 hlk
              have r1 := h1.out
              have r2 := h2.out
              rw [hDn] at r1 r2
              have r3 : (mk []) = r := r1
              have r4 : (e : Int) = 91 := by have : (91 : Nat) = e := r2; omega
              have hfin2 := HBW.out.trans (hB.mono hwg)
              have hx4 : wr.cell? ⟨bk, 514 + q, none⟩ = some (.int .i64 256) := hx3
              clear hg2 hg3 hlk hDn r1 r2 hB hO hP hx3
              go_wp2_with fail
              go_ret2
              exact ⟨by first | (rw [← r3, r4]; done) | (rw [← r3, r4]; rfl) | (rw [← r3]; done) | (rw [← r3]; rfl) | rfl, hfin2⟩
            · have HF := Lib.hid (hg2 h256)
              have e7 : IntKind.u8.wrap (sg : Int) = (sg : Int) := by rw [IntKind.wrap_u8]; omega
              have f9 : ((sg : Int) == 256) = false := by rw [beq_eq_false_iff_ne]; omega
              have HVN := Lib.hid (show ((UInt8.ofNat sg).toNat : Int) = (sg : Int) by rw [UInt8.toNat_ofNat', Nat.mod_eq_of_lt (by omega)])
              clear hg2 hg3 hlk hP
              go_wp2_with (at_builtin; refine wpList_append_own _ rfl _ _ 71 rfl g 5 i0 (.int .u8 0) 1 1 Try.underlying71 HI.out HZ0.out HZ1.out HZ2.out rfl (by decide) _ _ _ rfl (hO.out.alloc _) ⟨wr.heap.size, 0, none⟩ 1 1 [.int .u8 ((sg : Int))] rfl rfl ?d11 ?d21 ?d31 ?d41 ?d51 ?_)
              case d11 =>
                intro j u hj
                match j, hj with
                | 0, hj => simp at hj; subst hj; simp [Addr.add]
              case d21 => first | rfl | (intro u hu; simp at hu; subst hu; rfl)
              case d31 => unfold maxLen; omega
              case d41 => omega
              case d51 => have := hB.size; have := G.out; simp; omega
              intro v' w2 hown hgrow _
              have RS := own_step (x := UInt8.ofNat sg) hO.out hB G.out HVN.out hown hgrow
              have R1 := Lib.hid RS.1
              have R2 := RS.2
              clear RS hown hgrow
              go_wp2_with fail
              go_roundw
              case rel => exact ⟨m, l ++ [UInt8.ofNat sg], 0, 0, by omega, rfl, rfl, rfl, by rw [List.length_append, List.length_singleton]; omega, Lib.hid part_zero, Lib.hid (by rw [List.length_append]; exact R1.out), HF, R2⟩
              case measure => simp [intOf] <;> omega
          · have hno := hlout hin
            have HP := Lib.hid (hpn hno)
            have HF := Lib.hid (hg1 hno)
            clear hlook hlout hpn hg1 hg2 hg3 hx2 HX3
            generalize topOf (n + 1) = tp at *
            go_wp2_with fail
            go_roundw
            case rel => exact ⟨m, l, c2, n + 1, by omega, rfl, rfl, rfl, by omega, HP, hO, HF, hB⟩
            case measure => simp [intOf] <;> omega
    · have hdk : decide ((k : Int) < (s.size : Int)) = false := by rw [decide_eq_false_iff_not]; omega
      have hF2 := hF.out
      rw [List.drop_of_length_le (by rw [← Lib.size_eq]; omega), show bitsOf [] = [] from rfl] at hF2
      have hfin2 := HBW.out.trans (hB.mono hwg)
      have hn30 := hP.out.2.2
      have r1 := h1.out
      have r2 := h2.out
      by_cases h8 : 8 ≤ n
      · have hDn := goes_bad hF2 (by omega)
        rw [hDn] at r1 r2
        have r3 : (mk []) = r := r1
        have r4 : (e : Int) = 91 := by have : (91 : Nat) = e := r2; omega
        clear hF hF2 hDn r1 r2 hB hO hP
        go_wp2_with fail
        go_ret2
        exact ⟨by first | (rw [← r3, r4]; done) | (rw [← r3, r4]; rfl) | (rw [← r3]; done) | (rw [← r3]; rfl) | rfl, hfin2⟩
      · have HON := Lib.hid (show ∀ W : World, _ from fun W => ones_is n W (by omega))
        obtain ⟨o, ho⟩ : ∃ o, 2 ^ n - 1 = o := ⟨_, rfl⟩
        rw [ho] at HON
        have hn8 : ¬ (8 : Int) ≤ (n : Int) := by omega
        by_cases hco : c = o
        · have hDn := goes_stop hF2 ⟨by omega, by rw [ho]; exact hco⟩
          rw [hDn] at r1 r2
          have r3 : mk l = r := r1
          have r4 : (e : Int) = 0 := by have : (0 : Nat) = e := r2; omega
          have hcv := convert_own hO.out
          rw [r3] at hcv
          have f1 : ((c : Int) != (o : Int)) = false := by rw [hco]; exact bne_self_eq_false (o : Int)
          clear hF hF2 hDn r1 r2 hB hO hP ho hco
          go_wp2_with fail
          refine (HON.out _).mono ?_
          rintro x w5 ⟨rfl, rfl⟩
          go_wp2_with fail
          go_ret2
          exact ⟨by first | rfl | (rw [r4]; done) | (rw [r4]; rfl), hfin2⟩
        · have hDn := goes_bad hF2 (by rw [ho]; exact fun h => hco h.2)
          rw [hDn] at r1 r2
          have r3 : (mk []) = r := r1
          have r4 : (e : Int) = 91 := by have : (91 : Nat) = e := r2; omega
          have f1 : ((c : Int) != (o : Int)) = true := by rw [bne_iff_ne]; omega
          clear hF hF2 hDn r1 r2 hB hO hP ho hco
          go_wp2_with fail
          refine (HON.out _).mono ?_
          rintro x w5 ⟨rfl, rfl⟩
          go_wp2_with fail
          go_ret2
          exact ⟨by first | (rw [← r3, r4]; done) | (rw [← r3, r4]; rfl) | (rw [← r3]; done) | (rw [← r3]; rfl) | rfl, hfin2⟩
end Go.Proofs.Ytamgnbjdeoklbaa
