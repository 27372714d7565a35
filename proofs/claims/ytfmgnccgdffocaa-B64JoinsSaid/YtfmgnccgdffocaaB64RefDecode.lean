/- The contract of the document's Decode. For texts of at most 10^11 bytes. -/
import Derived.Test.YtfmgnccgdffocaaProg
import Derived.Test.YtfmgnccgdffocaaBytes
import Derived.Test.YtfmgnccgdffocaaB64Math
import Derived.Test.YtfmgnccgdffocaaB64Low
import Derived.Test.YtfmgnccgdffocaaB64Decode
import Derived.Test.YtfmgnccgdffocaaB64RefEncode
import Derived.WalkKit
import Derived.Lib.Hide
import Derived.Outline
import Derived.IntWalk
import Derived.WalkSpells
import Derived.WalkLawsBesides
namespace Go.Proofs.Ytfmgnccgdffocaa
open Go.RowKit Bytes B64

theorem number_is (x : UInt8) (z : Int) (h : Hid (num x = z)) (w : World) : Calls Try.prog 15 #[.int .u8 x.toNat] w fun e w' => e = .returned (.int .i64 z) ∧ w = w' := by
  have := number_any x w
  rwa [h.out] at this
/-- The number of the first j signs; 0 stands where none is. -/
def dv (l : List UInt8) : Nat → Nat
  | 0 => 0
  | j + 1 => dv l j * 64 + if j < l.length then (num (l.getD j 0)).toNat else 0
theorem num_small (x : UInt8) : (num x).toNat < 64 := by
  have := num_lt x
  omega
theorem dv_lt (l : List UInt8) {j : Nat} (h : j ≤ 4) : dv l j < 16777216 := by
  have h0 := num_small (l.getD 0 0)
  have h1 := num_small (l.getD 1 0)
  have h2 := num_small (l.getD 2 0)
  have h3 := num_small (l.getD 3 0)
  have hj : j = 0 ∨ j = 1 ∨ j = 2 ∨ j = 3 ∨ j = 4 := by omega
  rcases hj with rfl | rfl | rfl | rfl | rfl <;> simp only [dv] <;> (try (repeat' split)) <;> omega
theorem getD_drop {s : List UInt8} {i j : Nat} : (s.drop i).getD j 0 = s.getD (i + j) 0 := by
  rw [List.getD_eq_getElem?_getD, List.getElem?_drop, ← List.getD_eq_getElem?_getD]
theorem dv_in {s : List UInt8} {i j : Nat} {x : UInt8} {n q : Nat} (h : n = dv (s.drop i) j) (hj : i + j < s.length) (hx : s.getD (i + j) 0 = x) (hq : num x = q) : n * 64 + q = dv (s.drop i) (j + 1) := by
  show _ = dv (s.drop i) j * 64 + if j < (s.drop i).length then (num ((s.drop i).getD j 0)).toNat else 0
  rw [← h, if_pos (by rw [List.length_drop]; omega), getD_drop, hx, hq, Int.toNat_natCast]
theorem dv_out {s : List UInt8} {i j : Nat} {n : Nat} (h : n = dv (s.drop i) j) (hj : s.length ≤ i + j) : n * 64 = dv (s.drop i) (j + 1) := by
  show _ = dv (s.drop i) j * 64 + if j < (s.drop i).length then (num ((s.drop i).getD j 0)).toNat else 0
  rw [← h, if_neg (by rw [List.length_drop]; omega)]
  omega
theorem dv4 (r : List UInt8) : dv r 4 = (((if 0 < r.length then (num (r.getD 0 0)).toNat else 0) * 64 + (if 1 < r.length then (num (r.getD 1 0)).toNat else 0)) * 64 + (if 2 < r.length then (num (r.getD 2 0)).toNat else 0)) * 64 + (if 3 < r.length then (num (r.getD 3 0)).toNat else 0) := by
  simp only [dv, Nat.zero_mul, Nat.zero_add]
theorem three {a b c a' b' c' : UInt8} (h1 : a = a') (h2 : b = b') (h3 : c = c') : [a, b, c] = [a', b', c'] := by rw [h1, h2, h3]

/-- What the first four signs of right signs tell. -/
theorem dhead {b r : List UInt8} (h : enc b = r) (h0 : 0 < r.length) :
    (∀ j, j < 4 → j < r.length → 0 ≤ num (r.getD j 0)) ∧ 2 ≤ r.length ∧
      ∃ b', b = [UInt8.ofNat (dv r 4 / 65536), UInt8.ofNat (dv r 4 / 256), UInt8.ofNat (dv r 4)].take (min 4 r.length - 1) ++ b' ∧ enc b' = r.drop 4 := by
  subst h
  rcases b with _ | ⟨x, _ | ⟨y, _ | ⟨z, b⟩⟩⟩
  · exact absurd h0 (Nat.lt_irrefl 0)
  · have hx := x.toNat_lt
    have n0 : x.toNat * 65536 / 262144 < 64 := by omega
    have n1 : x.toNat * 65536 / 4096 % 64 < 64 := by omega
    have e : enc [x] = [sg (x.toNat * 65536 / 262144), sg (x.toNat * 65536 / 4096 % 64)] := by simp [enc]
    rw [e]
    refine ⟨fun j h1 h2 => ?_, Nat.le_refl _, [], ?_, rfl⟩
    · have hj : j = 0 ∨ j = 1 := by simp only [List.length_cons, List.length_nil] at h2; omega
      rcases hj with rfl | rfl
      · exact num_sg_nn n0
      · exact num_sg_nn n1
    · have e4 : dv [sg (x.toNat * 65536 / 262144), sg (x.toNat * 65536 / 4096 % 64)] 4 = x.toNat * 65536 := by
        rw [dv4]
        show ((((num (sg (x.toNat * 65536 / 262144))).toNat * 64 + (num (sg (x.toNat * 65536 / 4096 % 64))).toNat) * 64 + 0) * 64 + 0) = _
        rw [num_sg_nat n0, num_sg_nat n1]
        omega
      rw [e4]
      show [x] = [UInt8.ofNat (x.toNat * 65536 / 65536)]
      rw [ofNat_eq (a := x) (by omega)]
  · have hx := x.toNat_lt
    have hy := y.toNat_lt
    obtain ⟨N, hN⟩ : ∃ N, N = x.toNat * 65536 + y.toNat * 256 := ⟨_, rfl⟩
    have n0 : N / 262144 < 64 := by omega
    have n1 : N / 4096 % 64 < 64 := by omega
    have n2 : N / 64 % 64 < 64 := by omega
    have e : enc [x, y] = [sg (N / 262144), sg (N / 4096 % 64), sg (N / 64 % 64)] := by simp [enc, hN]
    rw [e]
    refine ⟨fun j h1 h2 => ?_, by simp, [], ?_, rfl⟩
    · have hj : j = 0 ∨ j = 1 ∨ j = 2 := by simp only [List.length_cons, List.length_nil] at h2; omega
      rcases hj with rfl | rfl | rfl
      · exact num_sg_nn n0
      · exact num_sg_nn n1
      · exact num_sg_nn n2
    · have e4 : dv [sg (N / 262144), sg (N / 4096 % 64), sg (N / 64 % 64)] 4 = N := by
        rw [dv4]
        show ((((num (sg (N / 262144))).toNat * 64 + (num (sg (N / 4096 % 64))).toNat) * 64 + (num (sg (N / 64 % 64))).toNat) * 64 + 0) = _
        rw [num_sg_nat n0, num_sg_nat n1, num_sg_nat n2]
        omega
      rw [e4]
      show [x, y] = [UInt8.ofNat (N / 65536), UInt8.ofNat (N / 256)]
      rw [ofNat_eq (a := x) (by omega), ofNat_eq (a := y) (by omega)]
  · have hx := x.toNat_lt
    have hy := y.toNat_lt
    have hz := z.toNat_lt
    obtain ⟨N, hN⟩ : ∃ N, N = x.toNat * 65536 + y.toNat * 256 + z.toNat := ⟨_, rfl⟩
    have n0 : N / 262144 < 64 := by omega
    have n1 : N / 4096 % 64 < 64 := by omega
    have n2 : N / 64 % 64 < 64 := by omega
    have n3 : N % 64 < 64 := by omega
    have e : enc (x :: y :: z :: b) = sg (N / 262144) :: sg (N / 4096 % 64) :: sg (N / 64 % 64) :: sg (N % 64) :: enc b := by simp [enc, hN]
    rw [e]
    refine ⟨fun j h1 h2 => ?_, by simp, b, ?_, rfl⟩
    · have hj : j = 0 ∨ j = 1 ∨ j = 2 ∨ j = 3 := by omega
      rcases hj with rfl | rfl | rfl | rfl
      · exact num_sg_nn n0
      · exact num_sg_nn n1
      · exact num_sg_nn n2
      · exact num_sg_nn n3
    · have e4 : dv (sg (N / 262144) :: sg (N / 4096 % 64) :: sg (N / 64 % 64) :: sg (N % 64) :: enc b) 4 = N := by
        rw [dv4, if_pos (by simp), if_pos (by simp), if_pos (by simp), if_pos (by simp)]
        show ((((num (sg (N / 262144))).toNat * 64 + (num (sg (N / 4096 % 64))).toNat) * 64 + (num (sg (N / 64 % 64))).toNat) * 64 + (num (sg (N % 64))).toNat) = _
        rw [num_sg_nat n0, num_sg_nat n1, num_sg_nat n2, num_sg_nat n3]
        omega
      have e5 : min 4 (sg (N / 262144) :: sg (N / 4096 % 64) :: sg (N / 64 % 64) :: sg (N % 64) :: enc b).length - 1 = 3 := by simp only [List.length_cons]; omega
      rw [e4, e5]
      show x :: y :: z :: b = [UInt8.ofNat (N / 65536), UInt8.ofNat (N / 256), UInt8.ofNat N] ++ b
      rw [ofNat_eq (a := x) (by omega), ofNat_eq (a := y) (by omega), ofNat_eq (a := z) (by omega)]
      rfl

/-- Behind i signs: whatever bytes have these signs begin with those that stand. -/
def Inv (s : List UInt8) (i : Nat) (l : List UInt8) : Prop := ∀ b, enc b = s → ∃ b', b = l ++ b' ∧ enc b' = s.drop i
theorem dec_none {s : List UInt8} (h : ∀ b, enc b ≠ s) : dec s = none := by
  cases hd : dec s with
  | none => rfl
  | some b => exact absurd (enc_dec hd) (h b)
theorem inv_start (s : List UInt8) : Inv s 0 [] := fun b hb => ⟨b, rfl, hb⟩
theorem inv_no {s l : List UInt8} {i j : Nat} {x : UInt8} (h : Inv s i l) (hj : j < 4) (hi : i + j < s.length) (hx : s.getD (i + j) 0 = x) (hn : num x < 0) : dec s = none :=
  dec_none fun b hb => by
    obtain ⟨b', _, hb'⟩ := h b hb
    have := (dhead hb' (by rw [List.length_drop]; omega)).1 j hj (by rw [List.length_drop]; omega)
    rw [getD_drop, hx] at this
    omega
theorem inv_short {s l : List UInt8} {i : Nat} (h : Inv s i l) (hi : i < s.length) (hv : s.length - i < 2) : dec s = none :=
  dec_none fun b hb => by
    obtain ⟨b', _, hb'⟩ := h b hb
    have := (dhead hb' (by rw [List.length_drop]; omega)).2.1
    rw [List.length_drop] at this
    omega
theorem inv_step {s l : List UInt8} {i n v : Nat} (h : Inv s i l) (hi : i < s.length) (hn : n = dv (s.drop i) 4) (hv : v = min 4 (s.length - i)) :
    Inv s (i + 4) (l ++ [UInt8.ofNat (n / 65536), UInt8.ofNat (n / 256), UInt8.ofNat n].take (v - 1)) := fun b hb => by
  obtain ⟨b', e1, hb'⟩ := h b hb
  obtain ⟨b2, e2, h2⟩ := (dhead hb' (by rw [List.length_drop]; omega)).2.2
  rw [List.length_drop, ← hn, ← hv] at e2
  refine ⟨b2, ?_, ?_⟩
  · rw [e1, e2, List.append_assoc]
  · rw [h2, List.drop_drop]
theorem inv_end {s l : List UInt8} {i : Nat} (h : Inv s i l) (hi : s.length ≤ i) (hne : enc l ≠ s) : dec s = none :=
  dec_none fun b hb => by
    obtain ⟨b', e1, hb'⟩ := h b hb
    rw [List.drop_of_length_le hi] at hb'
    have e : b' = [] := enc_inj (hb'.trans (show [] = enc [] by simp [enc]))
    rw [e, List.append_nil] at e1
    exact hne (e1 ▸ hb)

set_option maxHeartbeats 4000000 in
set_option maxRecDepth 100000 in
theorem refDecode_any (s : ByteArray) (w : World) (hs : s.size ≤ 100000000000) :
    Calls Try.prog 11 #[.string s] w fun e w' => e = .returned (.tuple #[.string (mk ((dec s.data.toList).getD [])), .bool (dec s.data.toList).isSome]) ∧ Below w.heap.size w w' := by
  obtain ⟨r, hr⟩ : ∃ r, mk ((dec s.data.toList).getD []) = r := ⟨_, rfl⟩
  obtain ⟨o, ho⟩ : ∃ o, (dec s.data.toList).isSome = o := ⟨_, rfl⟩
  rw [hr, ho]
  have R := Lib.hid hr; clear hr
  have O := Lib.hid ho; clear ho
  obtain ⟨i0, hi, hz0, hz1, hz2⟩ := info_parts info5
  have HI := Lib.hid hi; clear hi
  have HZ0 := Lib.hid hz0; clear hz0
  have HZ1 := Lib.hid hz1; clear hz1
  have HZ2 := Lib.hid hz2; clear hz2
  generalize hg : w.heap.size = g at *
  have G := Lib.hid hg; clear hg
  go_enter Try.func11, Try.ntmps11
  go_wp2_with fail
  go_loopw [4, 5] (fun b i wr => ∃ (k : Nat) (l : List UInt8), k ≤ s.size + 3 ∧ i = .int .i64 k ∧ l.length ≤ k ∧ Hid (wr.ownsRow g 5 1 b l.length (byteCells l)) ∧ Hid (Inv s.data.toList k l) ∧ Below g w wr) (fun _ i _ => s.size + 4 - (intOf i).toNat)
  case atStart => exact ⟨0, [], by omega, rfl, Nat.le_refl _, Lib.hid (World.ownsRow_nil _ _ _ _), Lib.hid (inv_start _), Below.refl _ _⟩
  case round =>
    obtain ⟨k, l, hk, rfl, hlk, hO, hF, hB⟩ := hrel
    by_cases hlt : k < s.size
    · go_wp2_with fail
      go_loop [6, 7, 8] (fun c d i => ∃ (j n v : Nat), j ≤ 4 ∧ i = .int .i64 (k + j : Nat) ∧ c = .int .i64 n ∧ d = .int .i64 v ∧ v = min j (s.size - k) ∧ n < 16777216 ∧ Hid (n = dv (s.data.toList.drop k) j)) (fun _ _ i => k + 4 - (intOf i).toNat)
      case atStart => exact ⟨0, 0, 0, by omega, rfl, rfl, rfl, by omega, by omega, rfl⟩
      case round =>
        obtain ⟨j, n, v, hj, rfl, rfl, rfl, hv, hn, hN⟩ := hrel
        by_cases h3 : j < 4
        · have hj3 : ((k + j : Nat) : Int) < (k : Int) + 4 := by omega
          by_cases hin : k + j < s.size
          · have hx0 := getD_byte hin
            generalize hx1 : s.data.toList.getD (k + j) 0 = x at hx0
            have hx : s[k + j]'hin = x := hx0.symm
            have hin2 : ((k + j : Nat) : Int) < s.size := by omega
            obtain ⟨z, hz⟩ : ∃ z, num x = z := ⟨_, rfl⟩
            have hz1 := num_lt x
            have hz2 := num_ge x
            rw [hz] at hz1 hz2
            have HZ := Lib.hid hz
            have HX1 := Lib.hid hx1
            clear hx0 hz hx1
            by_cases hneg : z < 0
            · have E := dec_no (inv_no hF.out h3 (by rw [← Lib.size_eq]; exact hin) HX1.out (by rw [HZ.out]; exact hneg))
              obtain rfl : r = ⟨#[]⟩ := R.out.symm.trans E.1.out
              obtain rfl : o = false := O.out.symm.trans E.2.out
              clear E hF hN
              go_wp2_with fail
              refine (number_is x z HZ _).mono ?_
              rintro e w' ⟨rfl, rfl⟩
              go_wp2_with fail
              go_ret2
              exact ⟨rfl, hB⟩
            · obtain ⟨q, rfl⟩ := Int.eq_ofNat_of_zero_le (show 0 ≤ z by omega)
              have hN2 := Lib.hid (dv_in hN.out (by rw [← Lib.size_eq]; exact hin) HX1.out HZ.out)
              have hn2 := dv_lt (s.data.toList.drop k) (show j + 1 ≤ 4 by omega)
              rw [← hN2.out] at hn2
              clear hN
              go_wp2_with fail
              refine (number_is x q HZ _).mono ?_
              rintro e w' ⟨rfl, rfl⟩
              go_wp2_with fail
              refine (number_is x q HZ _).mono ?_
              rintro e w' ⟨rfl, rfl⟩
              go_wp2_with fail
              go_round
              case rel => exact ⟨j + 1, n * 64 + q, v + 1, by omega, by go_num, by go_num, by go_num, by omega, hn2, hN2⟩
              case measure => simp [intOf]; omega
          · have hN2 := Lib.hid (dv_out hN.out (by rw [← Lib.size_eq]; omega))
            have hn2 := dv_lt (s.data.toList.drop k) (show j + 1 ≤ 4 by omega)
            rw [← hN2.out] at hn2
            have hin2 : ¬ ((k + j : Nat) : Int) < s.size := by omega
            clear hN
            go_wp2_with fail
            go_round
            case rel => exact ⟨j + 1, n * 64, v, by omega, by go_num, by go_num, rfl, by omega, hn2, hN2⟩
            case measure => simp [intOf]; omega
        · obtain rfl : j = 4 := by omega
          have hj3 : ¬ ((k + 4 : Nat) : Int) < (k : Int) + 4 := by omega
          obtain ⟨y0, hy0⟩ : ∃ y, UInt8.ofNat (n / 65536) = y := ⟨_, rfl⟩
          obtain ⟨y1, hy1⟩ : ∃ y, UInt8.ofNat (n / 256) = y := ⟨_, rfl⟩
          obtain ⟨y2, hy2⟩ : ∃ y, UInt8.ofNat n = y := ⟨_, rfl⟩
          have e0 : (n : Int) / 65536 = (y0.toNat : Int) := by rw [← hy0, UInt8.toNat_ofNat']; omega
          have e1 : (n : Int) / 256 % 256 = (y1.toNat : Int) := by rw [← hy1, UInt8.toNat_ofNat']; omega
          have e2 : (n : Int) % 256 = (y2.toNat : Int) := by rw [← hy2, UInt8.toNat_ofNat']; omega
          have hv4 : v = 1 ∨ v = 2 ∨ v = 3 ∨ v = 4 := by omega
          by_cases h1 : v = 1
          · have E := dec_no (inv_short hF.out (by rw [← Lib.size_eq]; exact hlt) (by rw [← Lib.size_eq]; omega))
            obtain rfl : r = ⟨#[]⟩ := R.out.symm.trans E.1.out
            obtain rfl : o = false := O.out.symm.trans E.2.out
            subst h1
            clear E hF hN hv hv4 hy0 hy1 hy2
            go_wp2_with fail
            go_ret2
            exact ⟨rfl, hB.alloc (by have := hB.size; have := G.out; omega) _⟩
          · have hS := inv_step hF.out (by rw [← Lib.size_eq]; exact hlt) hN.out (show v = min 4 (s.data.toList.length - k) by rw [← Lib.size_eq]; exact hv)
            rw [hy0, hy1, hy2] at hS
            have HS := Lib.hid hS
            have hv5 : v = 2 ∨ v = 3 ∨ v = 4 := by omega
            clear hS hF hN hv hv4 hy0 hy1 hy2 h1
            rcases hv5 with rfl | rfl | rfl
            · go_wp2_with (at_builtin; refine wpList_append_own _ rfl _ _ 28 rfl g 5 i0 (.int .u8 0) 1 1 Try.underlying28 HI.out HZ0.out HZ1.out HZ2.out rfl (by decide) _ _ _ rfl (hO.out.alloc _) ⟨wr.heap.size, 0, none⟩ 1 3 [.int .u8 (y0.toNat : Int)] rfl rfl ?c12 ?c22 ?c32 ?c42 ?c52 ?_)
              case c12 =>
                intro j u hj
                match j, hj with
                | 0, hj => simp at hj; subst hj; simp
              case c22 => exact rfl
              case c32 => unfold maxLen; omega
              case c42 => omega
              case c52 => have := hB.size; have := G.out; simp; omega
              intro v' w1 hown hgrow _
              have RS := own_more (xs := [y0]) hO.out hB G.out rfl hown hgrow
              have R1 := Lib.hid RS.1
              have R2 := RS.2
              clear RS hown hgrow hO hB
              go_wp2_with fail
              go_roundw
              case rel => exact ⟨k + 4, l ++ [y0], by omega, by go_num, by rw [List.length_append]; simp only [List.length_cons, List.length_nil]; omega, by rw [List.length_append]; exact R1, HS, R2⟩
              case measure => simp [intOf]; omega
            · go_wp2_with (at_builtin; refine wpList_append_own _ rfl _ _ 28 rfl g 5 i0 (.int .u8 0) 1 1 Try.underlying28 HI.out HZ0.out HZ1.out HZ2.out rfl (by decide) _ _ _ rfl (hO.out.alloc _) ⟨wr.heap.size, 0, none⟩ 2 3 [.int .u8 (y0.toNat : Int), .int .u8 (y1.toNat : Int)] rfl rfl ?c13 ?c23 ?c33 ?c43 ?c53 ?_)
              case c13 =>
                intro j u hj
                match j, hj with
                | 0, hj => simp at hj; subst hj; simp
                | 1, hj => simp at hj; subst hj; simp
              case c23 => exact ⟨rfl, rfl⟩
              case c33 => unfold maxLen; omega
              case c43 => omega
              case c53 => have := hB.size; have := G.out; simp; omega
              intro v' w1 hown hgrow _
              have RS := own_more (xs := [y0, y1]) hO.out hB G.out rfl hown hgrow
              have R1 := Lib.hid RS.1
              have R2 := RS.2
              clear RS hown hgrow hO hB
              go_wp2_with fail
              go_roundw
              case rel => exact ⟨k + 4, l ++ [y0, y1], by omega, by go_num, by rw [List.length_append]; simp only [List.length_cons, List.length_nil]; omega, by rw [List.length_append]; exact R1, HS, R2⟩
              case measure => simp [intOf]; omega
            · go_wp2_with (at_builtin; refine wpList_append_own _ rfl _ _ 28 rfl g 5 i0 (.int .u8 0) 1 1 Try.underlying28 HI.out HZ0.out HZ1.out HZ2.out rfl (by decide) _ _ _ rfl (hO.out.alloc _) ⟨wr.heap.size, 0, none⟩ 3 3 [.int .u8 (y0.toNat : Int), .int .u8 (y1.toNat : Int), .int .u8 (y2.toNat : Int)] rfl rfl ?c14 ?c24 ?c34 ?c44 ?c54 ?_)
              case c24 => exact ⟨rfl, rfl, rfl⟩
              case c34 => unfold maxLen; omega
              case c44 => omega
              case c54 => have := hB.size; have := G.out; simp; omega
              intro v' w1 hown hgrow _
              have RS := own_more (xs := [y0, y1, y2]) hO.out hB G.out rfl hown hgrow
              have R1 := Lib.hid RS.1
              have R2 := RS.2
              clear RS hown hgrow hO hB
              go_wp2_with fail
              go_roundw
              case rel => exact ⟨k + 4, l ++ [y0, y1, y2], by omega, by go_num, by rw [List.length_append]; simp only [List.length_cons, List.length_nil]; omega, by rw [List.length_append]; exact R1, HS, R2⟩
              case measure => simp [intOf]; omega
    · have hE := convert_own hO.out
      have hsz : (mk l).size ≤ 1000000000000 := by rw [mk_size]; omega
      by_cases heq : enc l = s.data.toList
      · have hd : dec s.data.toList = some l := by rw [← heq]; exact dec_enc l
        have E := dec_yes hd
        obtain rfl : r = mk l := R.out.symm.trans E.1.out
        obtain rfl : o = true := O.out.symm.trans E.2.out
        have C := Lib.hid (fun w => refEncode_any (mk l) w hsz)
        rw [mk_list, heq, mk_data] at C
        have hb : (s.toList == s.toList) = true := beq_self_eq_true _
        clear E hd heq hF
        go_wp2_with fail
        refine (C.out _).mono ?_
        rintro e w1 ⟨rfl, hB2⟩
        have hE2 := convert_own (own_below hO.out hB2)
        have hB3 := hB.trans (hB2.mono (by have := hB.size; have := G.out; omega))
        clear hE
        go_wp2_with fail
        go_ret2
        exact ⟨rfl, hB3⟩
      · have E := dec_no (inv_end hF.out (by rw [← Lib.size_eq]; omega) heq)
        obtain rfl : r = ⟨#[]⟩ := R.out.symm.trans E.1.out
        obtain rfl : o = false := O.out.symm.trans E.2.out
        have C := Lib.hid (fun w => refEncode_any (mk l) w hsz)
        rw [mk_list] at C
        have hb : ((mk (enc l)).toList == s.toList) = false := ne_toList (fun e => heq (by rw [← e, mk_list]))
        generalize mk (enc l) = t at *
        clear E heq hF
        go_wp2_with fail
        refine (C.out _).mono ?_
        rintro e w1 ⟨rfl, hB2⟩
        have hB3 := hB.trans (hB2.mono (by have := hB.size; have := G.out; omega))
        clear hE
        go_wp2_with fail
        go_ret2
        exact ⟨rfl, hB3⟩
end Go.Proofs.Ytfmgnccgdffocaa
