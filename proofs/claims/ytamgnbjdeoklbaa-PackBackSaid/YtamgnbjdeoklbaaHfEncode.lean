/- The contract of Encode. For texts of at most 10^6 bytes. -/
import Derived.Test.YtamgnbjdeoklbaaProg
import Derived.Test.YtamgnbjdeoklbaaBytes
import Derived.Test.YtamgnbjdeoklbaaHfMath
import Derived.Test.YtamgnbjdeoklbaaHfBits
import Derived.Test.YtamgnbjdeoklbaaHfSize
import Derived.Test.YtamgnbjdeoklbaaHfCodes
import Derived.WalkKit
import Derived.Lib.Hide
import Derived.Outline
import Derived.IntWalk
import Derived.WalkSpells
import Derived.WalkLawsBesides
import Derived.Deep.QuietTactic
import Derived.BigQuiet
import Derived.Deep.CutRange
import Derived.Deep.RegionHeld3
import Derived.Deep.AppendLies
namespace Go.Proofs.Ytamgnbjdeoklbaa
open Go.RowKit Bytes Hf

theorem ofInt64_nat {a : Nat} (ha : a < 18446744073709551616) : (BitVec.ofInt 64 (a : Int)).toNat = a := by
  rw [BitVec.ofInt_natCast, BitVec.toNat_ofNat]
  omega
theorem or64 {a b : Nat} (ha : a < 18446744073709551616) (hb : b < 18446744073709551616) : Go.bits .or .u64 (a : Int) (b : Int) = ((a ||| b : Nat) : Int) := by
  have hx : a ||| b < 2 ^ 64 := Nat.or_lt_two_pow (by omega) (by omega)
  show IntKind.u64.wrap ((BitVec.ofInt 64 (a : Int) ||| BitVec.ofInt 64 (b : Int)).toNat : Int) = _
  rw [BitVec.toNat_or, ofInt64_nat ha, ofInt64_nat hb, IntKind.wrap_u64]
  omega
theorem ofInt8_nat {a : Nat} (ha : a < 256) : (BitVec.ofInt 8 (a : Int)).toNat = a := by
  rw [BitVec.ofInt_natCast, BitVec.toNat_ofNat]
  omega
theorem or8u {a b : Nat} (ha : a < 256) (hb : b < 256) : Go.bits .or .u8 (a : Int) (b : Int) = ((a ||| b : Nat) : Int) := by
  have hx : a ||| b < 2 ^ 8 := Nat.or_lt_two_pow (by omega) (by omega)
  show IntKind.u8.wrap ((BitVec.ofInt 8 (a : Int) ||| BitVec.ofInt 8 (b : Int)).toNat : Int) = _
  rw [BitVec.toNat_or, ofInt8_nat ha, ofInt8_nat hb, IntKind.wrap_u8]
  omega
theorem shl_nat (H n : Nat) : IntKind.u64.wrap ((H : Int) * 2 ^ n) = ((H * 2 ^ n % 18446744073709551616 : Nat) : Int) := by
  have e : (H : Int) * 2 ^ n = ((H * 2 ^ n : Nat) : Int) := by rw [Int.natCast_mul, Int.natCast_pow]; rfl
  rw [IntKind.wrap_u64, e]
  omega
theorem shl_or (H n v : Nat) (hv : v < 18446744073709551616) : Go.bits .or .u64 (IntKind.u64.wrap ((H : Int) * 2 ^ n)) (v : Int) = ((H * 2 ^ n % 18446744073709551616 ||| v : Nat) : Int) := by
  rw [shl_nat, or64 (by omega) hv]
theorem shr_byte (H d : Nat) : IntKind.u8.wrap ((H : Int) / 2 ^ d) = ((H / 2 ^ d % 256 : Nat) : Int) := by
  have e : (H : Int) / 2 ^ d = ((H / 2 ^ d : Nat) : Int) := by rw [Int.natCast_ediv, Int.natCast_pow]; rfl
  rw [IntKind.wrap_u8, e]
  omega
/-- The last byte, out of what is held. -/
theorem last_byte {H c d : Nat} (h1 : 1 ≤ c) (hd : c + d = 8) : Go.bits .or .u8 (IntKind.u8.wrap (IntKind.u64.wrap ((H : Int) * 2 ^ d))) (IntKind.u8.wrap ((2 ^ d - 1 : Nat) : Int)) = ((H % 2 ^ c * 2 ^ d + (2 ^ d - 1) : Nat) : Int) ∧ H % 2 ^ c * 2 ^ d + (2 ^ d - 1) < 256 := by
  have hp : 0 < 2 ^ d := Nat.pow_pos (by decide)
  have hcd : 2 ^ c * 2 ^ d = 256 := by rw [← Nat.pow_add, hd]
  have hd7 : 2 ^ d ≤ 2 ^ 7 := Nat.pow_le_pow_right (by decide) (by omega)
  have hx : (H % 2 ^ c + 1) * 2 ^ d ≤ 2 ^ c * 2 ^ d := Nat.mul_le_mul_right _ (Nat.mod_lt _ (Nat.pow_pos (by decide)))
  rw [hcd, Nat.add_mul, Nat.one_mul] at hx
  have e1 : H * 2 ^ d % 18446744073709551616 % 256 = H % 2 ^ c * 2 ^ d := by
    rw [Nat.mod_mod_of_dvd _ (by decide), ← hcd, Nat.mul_mod_mul_right]
  have e2 : IntKind.u8.wrap (((H * 2 ^ d % 18446744073709551616 : Nat) : Int)) = ((H % 2 ^ c * 2 ^ d : Nat) : Int) := by
    rw [IntKind.wrap_u8, ← e1]
    omega
  have e3 : IntKind.u8.wrap ((2 ^ d - 1 : Nat) : Int) = ((2 ^ d - 1 : Nat) : Int) := by rw [IntKind.wrap_u8]; omega
  have e4 : H % 2 ^ c * 2 ^ d ||| (2 ^ d - 1) = H % 2 ^ c * 2 ^ d + (2 ^ d - 1) := by
    rw [Nat.mul_comm, ← Nat.two_pow_add_eq_or_of_lt (by omega)]
  rw [shl_nat, e2, e3, or8u (by omega) (by omega), e4]
  exact ⟨rfl, by omega⟩
theorem enc_bound2 {l X : List UInt8} {s : List UInt8} (e : l ++ X = enc s) : l.length ≤ 4 * s.length + 1 := by
  have h1 := congrArg List.length e
  have h2 := (encB_len s).2
  rw [List.length_append, enc_len] at h1
  omega

set_option maxHeartbeats 4000000 in
set_option maxRecDepth 100000 in
theorem encode_is (s : ByteArray) (r : ByteArray) (w : World) (hs : s.size ≤ 1000000) (h : Hid (mk (enc s.data.toList) = r)) :
    Calls Try.prog 76 #[.string s] w fun e w' => e = .returned (.string r) ∧ Below w.heap.size w w' := by
  obtain ⟨i0, hi, hz0, hz1, hz2⟩ := info_parts info5
  have HI := Lib.hid hi; clear hi
  have HZ0 := Lib.hid hz0; clear hz0
  have HZ1 := Lib.hid hz1; clear hz1
  have HZ2 := Lib.hid hz2; clear hz2
  obtain ⟨E, hE⟩ : ∃ E, Hid (enc s.data.toList = E) := ⟨_, rfl⟩
  obtain ⟨zB, hz, HZ⟩ : ∃ zB, (∀ w, (zeroValue 148).run Try.prog w = .ok (.agg zB) w) ∧ Hid (zB = tab 833 bookZ) := ⟨_, zero_of book_info, rfl⟩
  have hszB : zB.size = 833 := by rw [HZ.out, tab_size]
  have hbk := book_is
  obtain ⟨fin, hfin⟩ : ∃ fin, Hid (tab 833 bookF = fin) := ⟨_, rfl⟩
  rw [hfin.out] at hbk
  have hone : fin.all (·.oneCell') = true := by rw [← hfin.out]; exact book_one
  have HONE := Lib.hid hone
  have hsf : fin.size = 833 := by rw [← hfin.out, tab_size]
  have HBK := Lib.hid hbk
  obtain ⟨N, hN⟩ : ∃ N, Hid (sizeE s.data.toList = N) := ⟨_, rfl⟩
  have hNb : N ≤ 4 * s.size := by rw [← hN.out, Lib.size_eq]; have := encB_len s.data.toList; unfold sizeE; omega
  clear hbk hone
  go_enter Try.func76, Try.ntmps76
  go_wp2_with fail
  refine (HBK.out _).mono ?_
  rintro e w1 ⟨rfl, hB0⟩
  have hnew : (w1.alloc (.cells zB 148)).heap[w1.heap.size]? = some (.cells zB 148 (0, 0)) := heap_alloc_new w1 _
  have HNEW := Lib.hid hnew
  clear hnew
  go_wp2_with (refine wpList_store_row rfl 148 _ _ rfl w1.heap.size fin rfl rfl 148 zB HNEW.out ?hi2 ?ho HONE.out ?_)
  case hi2 => rw [hsf]; exact size_of book_info
  case ho => rw [hsf, hszB]
  have hrow := setRow_heap _ _ _ fin _ _ HNEW.out
  have hBW : Below w.heap.size w ((w1.alloc (.cells zB 148)).setRow w1.heap.size fin) := below_setRow (hB0.alloc hB0.size _) hB0.size fin
  have hsW : ((w1.alloc (.cells zB 148)).setRow w1.heap.size fin).heap.size = w1.heap.size + 1 := by rw [setRow_size]; simp
  generalize ((w1.alloc (.cells zB 148)).setRow w1.heap.size fin) = W at *
  generalize w1.heap.size = bk at *
  have HROW := Lib.hid hrow
  have HBW := Lib.hid hBW
  clear hrow hBW hB0 HNEW hz
  refine (hsize_is s N _ (by omega) hN).mono ?_
  rintro e w' ⟨rfl, rfl⟩
  generalize hg : W.heap.size = g at *
  have G := Lib.hid hg; clear hg
  have hbg : bk < g := by omega
  clear hsW
  go_wp2_with (at_make; refine wpList_make_own _ rfl _ _ 71 rfl g 5 i0 (.int .u8 0) 1 Try.underlying71 HI.out HZ0.out HZ1.out _ _ _ N rfl rfl (by omega) ?b2 ?b3 ?b4 ?_)
  case b2 => rw [HZ2.out]; omega
  case b3 => unfold maxLen; omega
  case b4 => exact Nat.le_of_eq G.out.symm
  intro w0 hown0 hgrow0
  have hB0 : Below g W w0 := (Below.refl _ _).grown hgrow0 (Nat.le_of_eq G.out.symm) (fun k h => by cases h)
  have HO := Lib.hid hown0; clear hown0 hgrow0
  go_wp2_with fail
  go_loopw [4, 5, 6, 16] (fun b x h i wr => ∃ (k : Nat) (l : List UInt8) (H c : Nat), k ≤ s.size ∧ x = .int .u64 (H : Int) ∧ h = .int .i64 (c : Int) ∧ i = .int .i64 (k : Int) ∧ c ≤ 7 ∧ H < 18446744073709551616 ∧ Hid (wr.ownsRow g 5 1 b l.length (byteCells l)) ∧ Hid (l ++ pack 0 0 (Hf.bits H c ++ encB (s.data.toList.drop k)) = E) ∧ Below g W wr) (fun _ _ _ i _ => s.size - (intOf i).toNat)
  case atStart => exact ⟨0, [], 0, 0, by omega, rfl, rfl, rfl, by omega, by omega, HO, hE, hB0⟩
  clear hB0 HO
  case round =>
    obtain ⟨k, l, H, c, hk, rfl, rfl, rfl, h7, hH, hO, hF, hB⟩ := hrel
    by_cases hlt : k < s.size
    · have hdk : decide ((k : Int) < (s.size : Int)) = true := by rw [decide_eq_true_eq]; omega
      obtain ⟨y, hy⟩ : ∃ y, s[k] = y := ⟨_, rfl⟩
      have hyl := byte_lt y
      have hyb := y.toNat_lt
      have hlb := len_bd hyl
      have hrw := (hB.block _ hbg).trans HROW.out
      rw [← hfin.out] at hrw
      have hc1 : wr.cell? ⟨bk, y.toNat * 2, none⟩ = some (.int .u32 (cd y.toNat : Int)) := by
        rw [cell_of_row _ _ _ _ _ _ hrw, tab_get _ (by omega)]
        unfold bookF
        rw [if_pos (by omega), if_pos (by omega), show y.toNat * 2 / 2 = y.toNat by omega]
        rfl
      have hc2 : wr.cell? ⟨bk, y.toNat * 2 + 1, none⟩ = some (.int .i64 (len y.toNat : Int)) := by
        rw [cell_of_row _ _ _ _ _ _ hrw, tab_get _ (by omega)]
        unfold bookF
        rw [if_pos (by omega), if_neg (by omega), show (y.toNat * 2 + 1) / 2 = y.toNat by omega]
        rfl
      clear hrw
      have hy1 : (0 : Int) ≤ (y.toNat : Int) := by omega
      have hy2 : (y.toNat : Int) < 257 := by omega
      obtain ⟨n, hn⟩ : ∃ n, len y.toNat = n := ⟨_, rfl⟩
      obtain ⟨v, hv⟩ : ∃ v, cd y.toNat = v := ⟨_, rfl⟩
      rw [hn] at hc2 hlb
      rw [hv] at hc1 hlb
      have hvb : v < 1073741824 := Nat.lt_of_lt_of_le hlb.2.2.1 (Nat.pow_le_pow_right (by decide) hlb.2.1)
      go_wp2_with fail
      obtain ⟨q1, q2⟩ := cells_new wr (.int .u32 (v : Int)) (.int .i64 (n : Int)) 143
      have hB1 := hB.alloc (by have := hB.size; have := G.out; omega) (.cells #[.int .u32 (v : Int), .int .i64 (n : Int)] 143)
      have hO1 := Lib.hid (own_below hO.out ((Below.refl wr.heap.size wr).alloc (Nat.le_refl _) (.cells #[.int .u32 (v : Int), .int .i64 (n : Int)] 143)))
      have e1 : IntKind.i64.wrap ((c : Int) + (n : Int)) = ((c + n : Nat) : Int) := by rw [IntKind.wrap_i64]; omega
      have e2 : IntKind.u64.wrap (v : Int) = (v : Int) := by rw [IntKind.wrap_u64]; omega
      have hn0 : (0 : Int) ≤ (n : Int) := by omega
      have e3 := shl_or H n v (by omega)
      obtain ⟨H2, hH2⟩ : ∃ H2, H * 2 ^ n % 18446744073709551616 ||| v = H2 := ⟨_, rfl⟩
      rw [hH2] at e3
      go_quiet (fail)
      go_wp2_with fail
      have hH2b : H2 < 18446744073709551616 := by rw [← hH2]; exact Nat.or_lt_two_pow (n := 64) (by omega) (by omega)
      have hF1 : l ++ pack 0 0 (Hf.bits H2 (c + n) ++ encB (s.data.toList.drop (k + 1))) = E := by
        have h1 := hF.out
        rw [drop_cons (l := s.data.toList) (k := k) (by rw [← Lib.size_eq]; exact hlt), getD_byte hlt, hy] at h1
        rw [← hH2, held_bits hlb.2.2.1 (by omega) rfl, ← h1, encB, hv, hn, List.append_assoc]
      obtain ⟨R, hR⟩ : ∃ R, Hid (encB (s.data.toList.drop (k + 1)) = R) := ⟨_, rfl⟩
      rw [hR.out] at hF1
      have HF1 := Lib.hid hF1
      have hbw := hB.size
      clear hF hF1
      go_loopw [4, 6] (fun b x wi => ∃ (l : List UInt8) (m : Nat), x = .int .i64 (m : Int) ∧ m ≤ 37 ∧ Hid (wi.ownsRow g 5 1 b l.length (byteCells l)) ∧ Hid (l ++ pack 0 0 (Hf.bits H2 m ++ R) = E) ∧ Below g W wi) (fun _ x _ => (intOf x).toNat)
      case atStart => exact ⟨l, c + n, by congr 1, by omega, Lib.hid (own_below hO.out (below_drewN ((Below.refl wr.heap.size wr).alloc (Nat.le_refl _) _) _)), HF1, below_drewN hB1 _⟩
      clear hO hB hB1 hO1 HF1 q1 q2 hbw
      case round =>
        obtain ⟨l, m, rfl, hm, hO, hF, hB⟩ := hrel
        have hlb3 := enc_bound2 (hF.out.trans hE.out.symm)
        rw [← Lib.size_eq] at hlb3
        by_cases h8 : 8 ≤ m
        · obtain ⟨d, rfl⟩ : ∃ d, m = 8 + d := ⟨m - 8, by omega⟩
          have hF1 := hF.out
          rw [pack_byte] at hF1
          have e4 := shr_byte H2 d
          obtain ⟨q, hq⟩ : ∃ q, H2 / 2 ^ d % 256 = q := ⟨_, rfl⟩
          have hqb : q < 256 := by omega
          rw [hq] at hF1 e4
          have HF1 := Lib.hid (show (l ++ [UInt8.ofNat q]) ++ pack 0 0 (Hf.bits H2 d ++ R) = E by rw [List.append_assoc]; exact hF1)
          have HVN := Lib.hid (show ((UInt8.ofNat q).toNat : Int) = (q : Int) by rw [UInt8.toNat_ofNat', Nat.mod_eq_of_lt (by omega)])
          have e5 : ((8 + d : Nat) : Int) - 8 = (d : Int) := by omega
          have e6 : (8 : Int) + (d : Int) - 8 = (d : Int) := by omega
          have e7 : IntKind.i64.wrap (d : Int) = (d : Int) := by rw [IntKind.wrap_i64]; omega
          clear hF hF1 hq
          go_wp2_with (at_builtin; refine wpList_append_own _ rfl _ _ 71 rfl g 5 i0 (.int .u8 0) 1 1 Try.underlying71 HI.out HZ0.out HZ1.out HZ2.out rfl (by decide) _ _ _ rfl (hO.out.alloc _) ⟨wr.heap.size, 0, none⟩ 1 1 [.int .u8 ((q : Int))] rfl rfl ?d11 ?d21 ?d31 ?d41 ?d51 ?_)
          case d11 =>
            intro j u hj
            match j, hj with
            | 0, hj => simp at hj; subst hj; simp [Addr.add]
          case d21 => first | rfl | (intro u hu; simp at hu; subst hu; rfl)
          case d31 => unfold maxLen; omega
          case d41 => omega
          case d51 => have := hB.size; have := G.out; simp; omega
          intro v' w2 hown hgrow _
          have RS := own_step (x := UInt8.ofNat q) hO.out hB G.out HVN.out hown hgrow
          have R1 := Lib.hid RS.1
          have R2 := RS.2
          clear RS hown hgrow
          go_wp2_with fail
          go_roundw
          case rel => exact ⟨l ++ [UInt8.ofNat q], d, rfl, by omega, Lib.hid (by rw [List.length_append]; exact R1.out), HF1, R2⟩
          case measure => simp [intOf]; omega
        · rw [← hR.out] at hF
          go_wp2_with fail
          go_roundw
          case rel => exact ⟨k + 1, l, H2, m, by omega, rfl, rfl, rfl, by omega, hH2b, hO, hF, hB⟩
          case measure => simp [intOf]; omega
    · have e : k = s.size := by omega
      have hdk : decide ((k : Int) < (s.size : Int)) = false := by rw [decide_eq_false_iff_not]; omega
      have hF2 := hF.out
      rw [List.drop_of_length_le (by rw [← Lib.size_eq]; omega), show encB [] = [] from rfl] at hF2
      have hlb3 := enc_bound2 (hF2.trans hE.out.symm)
      rw [← Lib.size_eq] at hlb3
      have hwg : w.heap.size ≤ g := by have := HBW.out.size; have := G.out; omega
      clear hF e
      by_cases hc0 : c = 0
      · subst hc0
        have hl : l = E := by
          have h1 := hF2
          rw [pack_over, show pack 0 0 [] = [] from rfl, List.append_nil] at h1
          exact h1
        have hcv := convert_own hO.out
        rw [hl, ← hE.out, h.out] at hcv
        have hfin2 := HBW.out.trans (hB.mono hwg)
        clear hF2 hO hl
        go_wp2_with fail
        go_ret
        exact ⟨rfl, hfin2⟩
      · obtain ⟨d, hd⟩ : ∃ d, c + d = 8 := ⟨8 - c, by omega⟩
        have hF1 := hF2
        rw [pack_rest H c (by omega) h7, show 8 - c = d by omega] at hF1
        obtain ⟨e2, hzb⟩ := last_byte (H := H) (show 1 ≤ c by omega) hd
        obtain ⟨o, ho⟩ : ∃ o, 2 ^ d - 1 = o := ⟨_, rfl⟩
        rw [ho] at hF1 e2 hzb
        obtain ⟨z, hz⟩ : ∃ z, H % 2 ^ c * 2 ^ d + o = z := ⟨_, rfl⟩
        rw [hz] at hF1 e2 hzb
        have e1 : IntKind.i64.wrap (8 - (c : Int)) = (d : Int) := by rw [IntKind.wrap_i64]; omega
        have HON := Lib.hid (show ∀ W : World, _ from fun W => ones_is d W (by omega))
        rw [ho] at HON
        have HF1 := Lib.hid hF1
        have HVN := Lib.hid (show ((UInt8.ofNat z).toNat : Int) = (z : Int) by rw [UInt8.toNat_ofNat', Nat.mod_eq_of_lt (by omega)])
        have hc1 : (0 : Int) < (c : Int) := by omega
        have hd0 : (0 : Int) ≤ (d : Int) := by omega
        have hm63 : l.length + 1 ≤ maxLen := by unfold maxLen; omega
        have hm47 : (l.length + 1) * 1 ≤ 140737488355328 := by omega
        have hbase : g ≤ wr.heap.size := by have := hB.size; have := G.out; omega
        clear hF1 hF2 ho hz
        go_wp2_with fail
        go_region_held3 (fun _ => True) (trivial) (first | (go_at_call 89; (with_reducible refine (HON.out _).mono ?_); rintro e w5 ⟨rfl, rfl⟩) | ((refine step_append_lies _ (by rfl) _ _ _ (by rfl) g 5 i0 _ 1 1 Try.underlying71 HI.out HZ0.out HZ1.out HZ2.out rfl (by omega) _ l.length (byteCells l) (by rfl) ((hO.out.alloc _).drew) ⟨wr.heap.size, 0, none⟩ 1 1 [.int .u8 (z : Int)] (by rfl) (by rfl) (World.news_of_block (cs := #[.int .u8 (z : Int)]) (t := 5) (fr := (0, 0)) (heap_alloc_new wr _)) (by simp [Value.oneCell']) (by omega) hm63 hm47 (by simp; omega) (wr.heap.size + 1) (by simp) ?_; intro gg cap w2 hown hgrow hat hlt)))
        have RS := own_step (wr := wr.drew) (x := UInt8.ofNat z) hO.out.drew hB.drew G.out HVN.out hown hgrow
        have hcv := convert_own RS.1
        rw [HF1.out, ← hE.out, h.out] at hcv
        have hfin2 := HBW.out.trans (RS.2.mono hwg)
        clear RS hown hgrow hat hlt
        go_wp2_with fail
        go_ret
        exact ⟨rfl, hfin2⟩
end Go.Proofs.Ytamgnbjdeoklbaa
