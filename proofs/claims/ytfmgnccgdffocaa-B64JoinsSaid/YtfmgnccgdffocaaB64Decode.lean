/- The contract of b64's Decode. For texts of at most 10^12 bytes. -/
import Derived.Test.YtfmgnccgdffocaaProg
import Derived.Test.YtfmgnccgdffocaaBytes
import Derived.Test.YtfmgnccgdffocaaB64Math
import Derived.Test.YtfmgnccgdffocaaB64Low
import Derived.Test.YtfmgnccgdffocaaShelf
import Derived.WalkKit
import Derived.Lib.Hide
import Derived.Outline
import Derived.IntWalk
import Derived.WalkSpells
import Derived.WalkLawsBesides
namespace Go.Proofs.Ytfmgnccgdffocaa
open Go.RowKit Bytes B64

theorem index_is (x : UInt8) (z : Int) (h : Hid (num x = z)) (w : World) :
    Calls Try.prog 14 #[.string { data := #[65, 66, 67, 68, 69, 70, 71, 72, 73, 74, 75, 76, 77, 78, 79, 80, 81, 82, 83, 84, 85, 86, 87, 88, 89, 90, 97, 98, 99, 100, 101, 102, 103, 104, 105, 106, 107, 108, 109, 110, 111, 112, 113, 114, 115, 116, 117, 118, 119, 120, 121, 122, 48, 49, 50, 51, 52, 53, 54, 55, 56, 57, 45, 95] }, .int .u8 x.toNat] w fun e w' => e = .returned (.int .i64 z) ∧ w = w' := by
  refine (Try.strings_IndexByte { data := #[65, 66, 67, 68, 69, 70, 71, 72, 73, 74, 75, 76, 77, 78, 79, 80, 81, 82, 83, 84, 85, 86, 87, 88, 89, 90, 97, 98, 99, 100, 101, 102, 103, 104, 105, 106, 107, 108, 109, 110, 111, 112, 113, 114, 115, 116, 117, 118, 119, 120, 121, 122, 48, 49, 50, 51, 52, 53, 54, 55, 56, 57, 45, 95] } x.toNat w).mono ?_
  rintro e w' ⟨rfl, rfl⟩
  refine ⟨?_, rfl⟩
  rw [← h.out, Int.toNat_natCast]
  have e : x.toNat.toUInt8 = x := by
    apply UInt8.toNat_inj.1
    have := x.toNat_lt
    show (UInt8.ofNat x.toNat).toNat = x.toNat
    rw [UInt8.toNat_ofNat']
    omega
  rw [e]
  rfl
theorem or6 (n q : Nat) (hq : q < 64) : bits .or .u32 ((n : Int) * 64 % 4294967296) (q : Int) = (((n * 64 + q) % 4294967296 : Nat) : Int) := by
  have h := or_in n q 6 hq (by omega)
  rw [IntKind.wrap_u32] at h
  exact h
theorem dec_no {t : List UInt8} (h : dec t = none) : Hid (mk ((dec t).getD []) = ⟨#[]⟩) ∧ Hid ((dec t).isSome = false) := by rw [h]; exact ⟨rfl, rfl⟩
theorem dec_yes {t l : List UInt8} (h : dec t = some l) : Hid (mk ((dec t).getD []) = mk l) ∧ Hid ((dec t).isSome = true) := by rw [h]; exact ⟨rfl, rfl⟩
theorem dstep_no {n c k : Nat} {l s : List UInt8} {x : UInt8} (e : (dflow n c (s.drop k)).map (l ++ ·) = dec s) (hk : k < s.length) (hx : s.getD k 0 = x) (h : num x < 0) : dec s = none := by
  rw [← e, drop_cons hk, hx, dflow_no h]; rfl
theorem dstep_in {n k q n' : Nat} {l s : List UInt8} {x : UInt8} (e : (dflow n 0 (s.drop k)).map (l ++ ·) = dec s) (hk : k < s.length) (hx : s.getD k 0 = x) (h : num x = q) (hn : (n * 64 + q) % 4294967296 = n') : (dflow n' 6 (s.drop (k + 1))).map (l ++ ·) = dec s := by
  rw [← e, drop_cons hk, hx, dflow_in (by omega) (by omega), h, Int.toNat_natCast, hn]
theorem dstep_out {n c k q n' : Nat} {l s : List UInt8} {x : UInt8} (e : (dflow n c (s.drop k)).map (l ++ ·) = dec s) (hk : k < s.length) (hx : s.getD k 0 = x) (h : num x = q) (hn : (n * 64 + q) % 4294967296 = n') (hc : 2 ≤ c) :
    (dflow n' (c - 2) (s.drop (k + 1))).map ((l ++ [UInt8.ofNat (n' / 2 ^ (c - 2))]) ++ ·) = dec s := by
  rw [← e, drop_cons hk, hx, dflow_out (by omega) hc, h, Int.toNat_natCast, hn, Option.map_map]
  congr 1
  funext m
  simp
theorem dend {n c k : Nat} {l s : List UInt8} (e : (dflow n c (s.drop k)).map (l ++ ·) = dec s) (hk : k = s.length) : dec s = if 6 ≤ c ∨ n % 2 ^ c ≠ 0 then none else some l := by
  rw [← e, hk, List.drop_of_length_le (Nat.le_refl _), dflow_nil]
  split
  · rfl
  · rw [Option.map_some, List.append_nil]

set_option maxHeartbeats 4000000 in
set_option maxRecDepth 100000 in
theorem decode_any (s : ByteArray) (w : World) (hs : s.size ≤ 1000000000000) :
    Calls Try.prog 10 #[.string s] w fun e w' => e = .returned (.tuple #[.string (mk ((dec s.data.toList).getD [])), .bool (dec s.data.toList).isSome]) ∧ Below w.heap.size w w' := by
  obtain ⟨r, hr⟩ : ∃ r, mk ((dec s.data.toList).getD []) = r := ⟨_, rfl⟩
  obtain ⟨o, ho⟩ : ∃ o, (dec s.data.toList).isSome = o := ⟨_, rfl⟩
  rw [hr, ho]
  have R := Lib.hid hr; clear hr
  have O := Lib.hid ho; clear ho
  obtain ⟨i0, hi, hz0, hz1, hz2⟩ := info_parts info5
  have HI := Lib.hid hi; clear hi
  have HZ0 := Lib.hid hz0; clear hz0
  have HZ1 := Lib.hid hz1; clear hz1
  have HZ2 := Lib.hid hz2; clear hz2
  generalize hg : w.heap.size = g at *
  have G := Lib.hid hg; clear hg
  go_enter Try.func10, Try.ntmps10
  go_wp2_with (at_make; refine wpList_make_own _ rfl _ _ 28 rfl g 5 i0 (.int .u8 0) 1 Try.underlying28 HI.out HZ0.out HZ1.out _ _ _ (s.size / 4 * 3 + 2) rfl rfl (by omega) ?b2 ?b3 ?b4 ?_)
  case b2 => rw [HZ2.out]; omega
  case b3 => unfold maxLen; omega
  case b4 => exact Nat.le_of_eq G.out.symm
  intro w0 hown0 hgrow0
  have hB0 : Below g w w0 := (Below.refl _ _).grown hgrow0 (Nat.le_of_eq G.out.symm) (fun k h => by cases h)
  have HO := Lib.hid hown0; clear hown0 hgrow0
  go_wp2_with fail
  go_loopw [4, 5, 6, 17] (fun b h c i wr => ∃ (k n cc : Nat) (l : List UInt8), k ≤ s.size ∧ i = .int .i64 k ∧ h = .int .u32 n ∧ n < 4294967296 ∧ c = .int .i64 cc ∧ (cc = 0 ∨ cc = 2 ∨ cc = 4 ∨ cc = 6) ∧ l.length ≤ k ∧ Hid (wr.ownsRow g 5 1 b l.length (byteCells l)) ∧ Hid ((dflow n cc (s.data.toList.drop k)).map (l ++ ·) = dec s.data.toList) ∧ Below g w wr) (fun _ _ _ i _ => s.size - (intOf i).toNat)
  case atStart => exact ⟨0, 0, 0, [], Nat.zero_le _, rfl, rfl, by omega, rfl, Or.inl rfl, Nat.le_refl _, HO, Lib.hid (by rw [List.drop_zero]; show (dec s.data.toList).map (fun m => m) = _; exact Option.map_id' ..), hB0⟩
  case round =>
    obtain ⟨k, n, cc, l, hk, rfl, rfl, hn, rfl, hcc, hlk, hO, hF, hB⟩ := hrel
    by_cases hlt : k < s.size
    · have hkl : k < s.data.toList.length := by rw [← Lib.size_eq]; exact hlt
      have hx0 := getD_byte hlt
      generalize hx1 : s.data.toList.getD k 0 = x at hx0
      have hx : s[k]'hlt = x := hx0.symm
      have HX := Lib.hid hx1
      have HKL := Lib.hid hkl
      clear hx0 hx1 hkl
      obtain ⟨z, hz⟩ : ∃ z, num x = z := ⟨_, rfl⟩
      have hz1 := num_lt x
      have hz2 := num_ge x
      rw [hz] at hz1 hz2
      have HZ := Lib.hid hz; clear hz
      by_cases hneg : z < 0
      · have E := dec_no (dstep_no hF.out HKL.out HX.out (by rw [HZ.out]; exact hneg))
        obtain rfl : r = ⟨#[]⟩ := R.out.symm.trans E.1.out
        obtain rfl : o = false := O.out.symm.trans E.2.out
        clear E hF
        go_wp2_with fail
        refine (index_is x z HZ _).mono ?_
        rintro e w' ⟨rfl, rfl⟩
        go_wp2_with fail
        go_ret2
        exact ⟨rfl, hB⟩
      · obtain ⟨q, rfl⟩ := Int.eq_ofNat_of_zero_le (show 0 ≤ z by omega)
        have hor := or6 n q (by omega)
        obtain ⟨n', hn'⟩ : ∃ n', (n * 64 + q) % 4294967296 = n' := ⟨_, rfl⟩
        have hn2 : n' < 4294967296 := by omega
        rw [hn'] at hor
        have HN := Lib.hid hn'; clear hn'
        rcases hcc with rfl | rfl | rfl | rfl
        · have hF2 := Lib.hid (dstep_in hF.out HKL.out HX.out HZ.out HN.out)
          clear hF
          go_wp2_with fail
          refine (index_is x q HZ _).mono ?_
          rintro e w' ⟨rfl, rfl⟩
          go_wp2_with fail
          go_roundw
          case rel => exact ⟨k + 1, n', 6, l, by omega, by go_num, rfl, hn2, by go_num, by omega, by omega, hO, hF2, hB⟩
          case measure => simp [intOf]; omega
        · have hF2 := dstep_out hF.out HKL.out HX.out HZ.out HN.out (by omega)
          obtain ⟨x2, hx2⟩ : ∃ x2, UInt8.ofNat (n' / 1) = x2 := ⟨_, rfl⟩
          have hF3 : Hid ((dflow n' 0 (s.data.toList.drop (k + 1))).map ((l ++ [x2]) ++ ·) = dec s.data.toList) := by rw [← hx2]; exact hF2
          have hqi : (n' : Int) % 256 = (x2.toNat : Int) := by rw [← hx2, UInt8.toNat_ofNat']; omega
          clear hF hF2 hx2
          go_wp2_with fail
          refine (index_is x q HZ _).mono ?_
          rintro e w' ⟨rfl, rfl⟩
          go_wp2_with (at_builtin; refine wpList_append_own _ rfl _ _ 28 rfl g 5 i0 (.int .u8 0) 1 1 Try.underlying28 HI.out HZ0.out HZ1.out HZ2.out rfl (by decide) _ _ _ rfl (hO.out.alloc _) ⟨wr.heap.size, 0, none⟩ 1 1 [.int .u8 (x2.toNat : Int)] rfl rfl ?c12 ?c22 ?c32 ?c42 ?c52 ?_)
          case c12 =>
            intro j u hj
            match j, hj with
            | 0, hj => simp at hj; subst hj; simp [Addr.add]
          case c22 => intro u hu; simp at hu; subst hu; rfl
          case c32 => unfold maxLen; omega
          case c42 => omega
          case c52 => have := hB.size; have := G.out; simp; omega
          intro v' w1 hown hgrow _
          have RS := own_step (x := x2) hO.out hB G.out rfl hown hgrow
          have R1 := Lib.hid RS.1
          have R2 := RS.2
          clear RS hown hgrow hO hB
          go_wp2_with fail
          go_roundw
          case rel => exact ⟨k + 1, n', 0, l ++ [x2], by omega, by go_num, rfl, hn2, by go_num, by omega, by rw [List.length_append]; exact Nat.succ_le_succ hlk, by rw [List.length_append]; exact R1, hF3, R2⟩
          case measure => simp [intOf]; omega
        · have hF2 := dstep_out hF.out HKL.out HX.out HZ.out HN.out (by omega)
          obtain ⟨x2, hx2⟩ : ∃ x2, UInt8.ofNat (n' / 4) = x2 := ⟨_, rfl⟩
          have hF3 : Hid ((dflow n' 2 (s.data.toList.drop (k + 1))).map ((l ++ [x2]) ++ ·) = dec s.data.toList) := by rw [← hx2]; exact hF2
          have hqi : (n' : Int) / 4 % 256 = (x2.toNat : Int) := by rw [← hx2, UInt8.toNat_ofNat']; omega
          clear hF hF2 hx2
          go_wp2_with fail
          refine (index_is x q HZ _).mono ?_
          rintro e w' ⟨rfl, rfl⟩
          go_wp2_with (at_builtin; refine wpList_append_own _ rfl _ _ 28 rfl g 5 i0 (.int .u8 0) 1 1 Try.underlying28 HI.out HZ0.out HZ1.out HZ2.out rfl (by decide) _ _ _ rfl (hO.out.alloc _) ⟨wr.heap.size, 0, none⟩ 1 1 [.int .u8 (x2.toNat : Int)] rfl rfl ?c14 ?c24 ?c34 ?c44 ?c54 ?_)
          case c14 =>
            intro j u hj
            match j, hj with
            | 0, hj => simp at hj; subst hj; simp [Addr.add]
          case c24 => intro u hu; simp at hu; subst hu; rfl
          case c34 => unfold maxLen; omega
          case c44 => omega
          case c54 => have := hB.size; have := G.out; simp; omega
          intro v' w1 hown hgrow _
          have RS := own_step (x := x2) hO.out hB G.out rfl hown hgrow
          have R1 := Lib.hid RS.1
          have R2 := RS.2
          clear RS hown hgrow hO hB
          go_wp2_with fail
          go_roundw
          case rel => exact ⟨k + 1, n', 2, l ++ [x2], by omega, by go_num, rfl, hn2, by go_num, by omega, by rw [List.length_append]; exact Nat.succ_le_succ hlk, by rw [List.length_append]; exact R1, hF3, R2⟩
          case measure => simp [intOf]; omega
        · have hF2 := dstep_out hF.out HKL.out HX.out HZ.out HN.out (by omega)
          obtain ⟨x2, hx2⟩ : ∃ x2, UInt8.ofNat (n' / 16) = x2 := ⟨_, rfl⟩
          have hF3 : Hid ((dflow n' 4 (s.data.toList.drop (k + 1))).map ((l ++ [x2]) ++ ·) = dec s.data.toList) := by rw [← hx2]; exact hF2
          have hqi : (n' : Int) / 16 % 256 = (x2.toNat : Int) := by rw [← hx2, UInt8.toNat_ofNat']; omega
          clear hF hF2 hx2
          go_wp2_with fail
          refine (index_is x q HZ _).mono ?_
          rintro e w' ⟨rfl, rfl⟩
          go_wp2_with (at_builtin; refine wpList_append_own _ rfl _ _ 28 rfl g 5 i0 (.int .u8 0) 1 1 Try.underlying28 HI.out HZ0.out HZ1.out HZ2.out rfl (by decide) _ _ _ rfl (hO.out.alloc _) ⟨wr.heap.size, 0, none⟩ 1 1 [.int .u8 (x2.toNat : Int)] rfl rfl ?c16 ?c26 ?c36 ?c46 ?c56 ?_)
          case c16 =>
            intro j u hj
            match j, hj with
            | 0, hj => simp at hj; subst hj; simp [Addr.add]
          case c26 => intro u hu; simp at hu; subst hu; rfl
          case c36 => unfold maxLen; omega
          case c46 => omega
          case c56 => have := hB.size; have := G.out; simp; omega
          intro v' w1 hown hgrow _
          have RS := own_step (x := x2) hO.out hB G.out rfl hown hgrow
          have R1 := Lib.hid RS.1
          have R2 := RS.2
          clear RS hown hgrow hO hB
          go_wp2_with fail
          go_roundw
          case rel => exact ⟨k + 1, n', 4, l ++ [x2], by omega, by go_num, rfl, hn2, by go_num, by omega, by rw [List.length_append]; exact Nat.succ_le_succ hlk, by rw [List.length_append]; exact R1, hF3, R2⟩
          case measure => simp [intOf]; omega
    · have hkl : k = s.data.toList.length := by rw [← Lib.size_eq]; omega
      have hd := dend hF.out hkl
      clear hF hkl
      rcases hcc with rfl | rfl | rfl | rfl
      · obtain ⟨m, hm⟩ : ∃ m, n % 1 = m := ⟨_, rfl⟩
        have hd2 : dec s.data.toList = if 6 ≤ 0 ∨ n % 1 ≠ 0 then none else some l := hd
        have HM := Lib.hid (show n % 2 ^ 0 = m from hm)
        rw [hm] at hd2
        clear hd
        by_cases h0 : m = 0
        · rw [if_neg (by omega)] at hd2
          have E := dec_yes hd2
          obtain rfl : r = mk l := R.out.symm.trans E.1.out
          obtain rfl : o = true := O.out.symm.trans E.2.out
          have hE := convert_own hO.out
          have hne : ((m : Int) != 0) = false := bne_eq_false_iff_eq.2 (by omega)
          clear E hd2 hm
          go_wp2_with fail
          refine (low_is 0 n m _ (by omega) hn HM).mono ?_
          rintro e w' ⟨rfl, rfl⟩
          go_wp2_with fail
          go_ret2
          exact ⟨rfl, hB⟩
        · rw [if_pos (by omega)] at hd2
          have E := dec_no hd2
          obtain rfl : r = ⟨#[]⟩ := R.out.symm.trans E.1.out
          obtain rfl : o = false := O.out.symm.trans E.2.out
          have hne : ((m : Int) != 0) = true := bne_iff_ne.2 (by omega)
          clear E hd2 hm
          go_wp2_with fail
          refine (low_is 0 n m _ (by omega) hn HM).mono ?_
          rintro e w' ⟨rfl, rfl⟩
          go_wp2_with fail
          go_ret2
          exact ⟨rfl, hB⟩
      · obtain ⟨m, hm⟩ : ∃ m, n % 4 = m := ⟨_, rfl⟩
        have hd2 : dec s.data.toList = if 6 ≤ 2 ∨ n % 4 ≠ 0 then none else some l := hd
        have HM := Lib.hid (show n % 2 ^ 2 = m from hm)
        rw [hm] at hd2
        clear hd
        by_cases h0 : m = 0
        · rw [if_neg (by omega)] at hd2
          have E := dec_yes hd2
          obtain rfl : r = mk l := R.out.symm.trans E.1.out
          obtain rfl : o = true := O.out.symm.trans E.2.out
          have hE := convert_own hO.out
          have hne : ((m : Int) != 0) = false := bne_eq_false_iff_eq.2 (by omega)
          clear E hd2 hm
          go_wp2_with fail
          refine (low_is 2 n m _ (by omega) hn HM).mono ?_
          rintro e w' ⟨rfl, rfl⟩
          go_wp2_with fail
          go_ret2
          exact ⟨rfl, hB⟩
        · rw [if_pos (by omega)] at hd2
          have E := dec_no hd2
          obtain rfl : r = ⟨#[]⟩ := R.out.symm.trans E.1.out
          obtain rfl : o = false := O.out.symm.trans E.2.out
          have hne : ((m : Int) != 0) = true := bne_iff_ne.2 (by omega)
          clear E hd2 hm
          go_wp2_with fail
          refine (low_is 2 n m _ (by omega) hn HM).mono ?_
          rintro e w' ⟨rfl, rfl⟩
          go_wp2_with fail
          go_ret2
          exact ⟨rfl, hB⟩
      · obtain ⟨m, hm⟩ : ∃ m, n % 16 = m := ⟨_, rfl⟩
        have hd2 : dec s.data.toList = if 6 ≤ 4 ∨ n % 16 ≠ 0 then none else some l := hd
        have HM := Lib.hid (show n % 2 ^ 4 = m from hm)
        rw [hm] at hd2
        clear hd
        by_cases h0 : m = 0
        · rw [if_neg (by omega)] at hd2
          have E := dec_yes hd2
          obtain rfl : r = mk l := R.out.symm.trans E.1.out
          obtain rfl : o = true := O.out.symm.trans E.2.out
          have hE := convert_own hO.out
          have hne : ((m : Int) != 0) = false := bne_eq_false_iff_eq.2 (by omega)
          clear E hd2 hm
          go_wp2_with fail
          refine (low_is 4 n m _ (by omega) hn HM).mono ?_
          rintro e w' ⟨rfl, rfl⟩
          go_wp2_with fail
          go_ret2
          exact ⟨rfl, hB⟩
        · rw [if_pos (by omega)] at hd2
          have E := dec_no hd2
          obtain rfl : r = ⟨#[]⟩ := R.out.symm.trans E.1.out
          obtain rfl : o = false := O.out.symm.trans E.2.out
          have hne : ((m : Int) != 0) = true := bne_iff_ne.2 (by omega)
          clear E hd2 hm
          go_wp2_with fail
          refine (low_is 4 n m _ (by omega) hn HM).mono ?_
          rintro e w' ⟨rfl, rfl⟩
          go_wp2_with fail
          go_ret2
          exact ⟨rfl, hB⟩
      · rw [if_pos (Or.inl (by omega))] at hd
        have E := dec_no hd
        obtain rfl : r = ⟨#[]⟩ := R.out.symm.trans E.1.out
        obtain rfl : o = false := O.out.symm.trans E.2.out
        clear E hd
        go_wp2_with fail
        go_ret2
        exact ⟨rfl, hB⟩
end Go.Proofs.Ytfmgnccgdffocaa
