/- The contract of the document's Encode. For texts of at most 10^12 bytes. -/
import Derived.Test.YtfmgnccgdffocaaProg
import Derived.Test.YtfmgnccgdffocaaBytes
import Derived.Test.YtfmgnccgdffocaaB64Math
import Derived.Test.YtfmgnccgdffocaaB64Low
import Derived.WalkKit
import Derived.Lib.Hide
import Derived.Outline
import Derived.IntWalk
import Derived.WalkSpells
import Derived.WalkLawsBesides
namespace Go.Proofs.Ytfmgnccgdffocaa
open Go.RowKit Bytes B64

/-- The number of the first j bytes; 0 stands where none is. -/
def gv (l : List UInt8) : Nat → Nat
  | 0 => 0
  | j + 1 => gv l j * 256 + (l.getD j 0).toNat
theorem gv_lt (l : List UInt8) {j : Nat} (h : j ≤ 3) : gv l j < 16777216 := by
  have h0 := (l.getD 0 0).toNat_lt
  have h1 := (l.getD 1 0).toNat_lt
  have h2 := (l.getD 2 0).toNat_lt
  have hj : j = 0 ∨ j = 1 ∨ j = 2 ∨ j = 3 := by omega
  rcases hj with rfl | rfl | rfl | rfl <;> simp only [gv] <;> omega
theorem gv_in {s : List UInt8} {i j : Nat} {x : UInt8} {n : Nat} (h : n = gv (s.drop i) j) (hx : s.getD (i + j) 0 = x) : n * 256 + x.toNat = gv (s.drop i) (j + 1) := by
  show _ = gv (s.drop i) j * 256 + ((s.drop i).getD j 0).toNat
  rw [← h, List.getD_eq_getElem?_getD, List.getElem?_drop, ← List.getD_eq_getElem?_getD, hx]
theorem gv_out {s : List UInt8} {i j : Nat} {n : Nat} (h : n = gv (s.drop i) j) (hx : s.length ≤ i + j) : n * 256 = gv (s.drop i) (j + 1) := by
  show _ = gv (s.drop i) j * 256 + ((s.drop i).getD j 0).toNat
  rw [← h, List.getD_eq_getElem?_getD, List.getElem?_drop, List.getElem?_eq_none hx]
  show n * 256 = n * 256 + 0
  omega
/-- The first group's signs. -/
theorem enc_head {r : List UInt8} {n : Nat} (h : n = gv r 3) (h0 : 0 < r.length) :
    enc r = [sg (n / 262144), sg (n / 4096 % 64), sg (n / 64 % 64), sg (n % 64)].take (min 3 r.length + 1) ++ enc (r.drop 3) := by
  rcases r with _ | ⟨a, _ | ⟨b, _ | ⟨c, r⟩⟩⟩
  · exact absurd h0 (Nat.lt_irrefl 0)
  · have e : n = a.toNat * 65536 := by rw [h]; simp [gv]; omega
    rw [e]
    have e2 : min 3 [a].length = 1 := rfl
    rw [e2]; simp [enc]
  · have e : n = a.toNat * 65536 + b.toNat * 256 := by rw [h]; simp [gv]; omega
    rw [e]
    have e2 : min 3 [a, b].length = 2 := rfl
    rw [e2]; simp [enc]
  · have e : n = a.toNat * 65536 + b.toNat * 256 + c.toNat := by rw [h]; simp [gv]; omega
    have e2 : min 3 (a :: b :: c :: r).length = 3 := by simp only [List.length_cons]; omega
    rw [e, e2]; simp [enc]
theorem enc_step {s l : List UInt8} {i n v : Nat} (e : l ++ enc (s.drop i) = enc s) (h : n = gv (s.drop i) 3) (h0 : i < s.length) (hv : v = min 3 (s.length - i)) :
    (l ++ [sg (n / 262144), sg (n / 4096 % 64), sg (n / 64 % 64), sg (n % 64)].take (v + 1)) ++ enc (s.drop (i + 3)) = enc s := by
  rw [← e, enc_head h (by rw [List.length_drop]; omega), hv, List.length_drop, List.drop_drop, List.append_assoc]
theorem enc_bound {l r s : List UInt8} (e : l ++ enc r = enc s) : l.length ≤ s.length * 2 := by
  have := congrArg List.length e
  rw [List.length_append, enc_len s] at this
  omega

set_option maxHeartbeats 4000000 in
set_option maxRecDepth 100000 in
theorem refEncode_any (s : ByteArray) (w : World) (hs : s.size ≤ 1000000000000) :
    Calls Try.prog 9 #[.string s] w fun e w' => e = .returned (.string (mk (enc s.data.toList))) ∧ Below w.heap.size w w' := by
  obtain ⟨r, hr⟩ : ∃ r, r = mk (enc s.data.toList) := ⟨_, rfl⟩
  rw [← hr]
  have R := Lib.hid hr; clear hr
  obtain ⟨i0, hi, hz0, hz1, hz2⟩ := info_parts info5
  have HI := Lib.hid hi; clear hi
  have HZ0 := Lib.hid hz0; clear hz0
  have HZ1 := Lib.hid hz1; clear hz1
  have HZ2 := Lib.hid hz2; clear hz2
  generalize hg : w.heap.size = g at *
  have G := Lib.hid hg; clear hg
  go_enter Try.func9, Try.ntmps9
  go_wp2_with fail
  go_loopw [3, 4] (fun b i wr => ∃ (k : Nat) (l : List UInt8), k ≤ s.size + 2 ∧ i = .int .i64 k ∧ Hid (wr.ownsRow g 5 1 b l.length (byteCells l)) ∧ Hid (l ++ enc (s.data.toList.drop k) = enc s.data.toList) ∧ Below g w wr) (fun _ i _ => s.size + 3 - (intOf i).toNat)
  case atStart => exact ⟨0, [], by omega, rfl, Lib.hid (World.ownsRow_nil _ _ _ _), Lib.hid rfl, Below.refl _ _⟩
  case round =>
    obtain ⟨k, l, hk, rfl, hO, hF, hB⟩ := hrel
    have hlen := enc_bound hF.out
    rw [← Lib.size_eq] at hlen
    by_cases hlt : k < s.size
    · go_wp2_with fail
      go_loop [5, 6, 7] (fun c d i => ∃ (j n v : Nat), j ≤ 3 ∧ i = .int .i64 (k + j : Nat) ∧ c = .int .i64 n ∧ d = .int .i64 v ∧ v = min j (s.size - k) ∧ n < 16777216 ∧ Hid (n = gv (s.data.toList.drop k) j)) (fun _ _ i => k + 3 - (intOf i).toNat)
      case atStart => exact ⟨0, 0, 0, by omega, rfl, rfl, rfl, by omega, by omega, rfl⟩
      case round =>
        obtain ⟨j, n, v, hj, rfl, rfl, rfl, hv, hn, hN⟩ := hrel
        by_cases h3 : j < 3
        · have hj3 : ((k + j : Nat) : Int) < (k : Int) + 3 := by omega
          by_cases hin : k + j < s.size
          · have hx0 := getD_byte hin
            generalize hx1 : s.data.toList.getD (k + j) 0 = x at hx0
            have hx : s[k + j]'hin = x := hx0.symm
            have hN2 := Lib.hid (gv_in hN.out hx1)
            have hn2 := gv_lt (s.data.toList.drop k) (show j + 1 ≤ 3 by omega)
            rw [← hN2.out] at hn2
            have hin2 : ((k + j : Nat) : Int) < s.size := by omega
            clear hx0 hx1 hN
            go_wp2_with fail
            go_round
            case rel => exact ⟨j + 1, n * 256 + x.toNat, v + 1, by omega, by go_num, by go_num, by go_num, by omega, hn2, hN2⟩
            case measure => simp [intOf]; omega
          · have hN2 := Lib.hid (gv_out hN.out (by rw [← Lib.size_eq]; omega))
            have hn2 := gv_lt (s.data.toList.drop k) (show j + 1 ≤ 3 by omega)
            rw [← hN2.out] at hn2
            have hin2 : ¬ ((k + j : Nat) : Int) < s.size := by omega
            clear hN
            go_wp2_with fail
            go_round
            case rel => exact ⟨j + 1, n * 256, v, by omega, by go_num, by go_num, rfl, by omega, hn2, hN2⟩
            case measure => simp [intOf]; omega
        · obtain rfl : j = 3 := by omega
          have hj3 : ¬ ((k + 3 : Nat) : Int) < (k : Int) + 3 := by omega
          have hS := enc_step hF.out hN.out (by rw [← Lib.size_eq]; exact hlt) (show v = min 3 (s.data.toList.length - k) by rw [← Lib.size_eq]; exact hv)
          have hv3 : v = 1 ∨ v = 2 ∨ v = 3 := by omega
          obtain ⟨q0, hq0⟩ : ∃ q, n / 262144 = q := ⟨_, rfl⟩
          obtain ⟨q1, hq1⟩ : ∃ q, n / 4096 % 64 = q := ⟨_, rfl⟩
          obtain ⟨q2, hq2⟩ : ∃ q, n / 64 % 64 = q := ⟨_, rfl⟩
          obtain ⟨q3, hq3⟩ : ∃ q, n % 64 = q := ⟨_, rfl⟩
          rw [hq0, hq1, hq2, hq3] at hS
          have b0 : q0 < 64 := by omega
          have b1 : q1 < 64 := by omega
          have b2 : q2 < 64 := by omega
          have b3 : q3 < 64 := by omega
          have e0 : (n : Int) / 262144 = (q0 : Int) := by omega
          have e1 : (n : Int) / 4096 % 64 = (q1 : Int) := by omega
          have e2 : (n : Int) / 64 % 64 = (q2 : Int) := by omega
          have e3 : (n : Int) % 64 = (q3 : Int) := by omega
          have c0 := Lib.hid (fun w => sign_any q0 w b0)
          have c1 := Lib.hid (fun w => sign_any q1 w b1)
          have c2 := Lib.hid (fun w => sign_any q2 w b2)
          have c3 := Lib.hid (fun w => sign_any q3 w b3)
          generalize sg q0 = x0 at *
          generalize sg q1 = x1 at *
          generalize sg q2 = x2 at *
          generalize sg q3 = x3 at *
          have HS := Lib.hid hS
          clear hS hq0 hq1 hq2 hq3 b0 b1 b2 b3 hN hF hv
          rcases hv3 with rfl | rfl | rfl
          · go_wp2_with fail
            refine (c0.out _).mono ?_
            rintro e w' ⟨rfl, rfl⟩
            go_wp2_with fail
            refine (c1.out _).mono ?_
            rintro e w' ⟨rfl, rfl⟩
            go_wp2_with fail
            refine (c2.out _).mono ?_
            rintro e w' ⟨rfl, rfl⟩
            go_wp2_with fail
            refine (c3.out _).mono ?_
            rintro e w' ⟨rfl, rfl⟩
            go_wp2_with (at_builtin; refine wpList_append_own _ rfl _ _ 28 rfl g 5 i0 (.int .u8 0) 1 1 Try.underlying28 HI.out HZ0.out HZ1.out HZ2.out rfl (by decide) _ _ _ rfl (hO.out.alloc _) ⟨wr.heap.size, 0, none⟩ 2 4 [.int .u8 (x0.toNat : Int), .int .u8 (x1.toNat : Int)] rfl rfl ?c11 ?c21 ?c31 ?c41 ?c51 ?_)
            case c11 =>
              intro j u hj
              match j, hj with
              | 0, hj => simp at hj; subst hj; simp [Addr.add]
              | 1, hj => simp at hj; subst hj; simp [Addr.add]
            case c21 => intro u hu; simp at hu; rcases hu with rfl | rfl <;> rfl
            case c31 => unfold maxLen; omega
            case c41 => omega
            case c51 => have := hB.size; have := G.out; simp; omega
            intro v' w1 hown hgrow _
            have RS := own_more (xs := [x0, x1]) hO.out hB G.out rfl hown hgrow
            have R1 := Lib.hid RS.1
            have R2 := RS.2
            clear RS hown hgrow hO hB
            go_wp2_with fail
            go_roundw
            case rel => exact ⟨k + 3, l ++ [x0, x1], by omega, by go_num, by rw [List.length_append]; exact R1, HS, R2⟩
            case measure => simp [intOf]; omega
          · go_wp2_with fail
            refine (c0.out _).mono ?_
            rintro e w' ⟨rfl, rfl⟩
            go_wp2_with fail
            refine (c1.out _).mono ?_
            rintro e w' ⟨rfl, rfl⟩
            go_wp2_with fail
            refine (c2.out _).mono ?_
            rintro e w' ⟨rfl, rfl⟩
            go_wp2_with fail
            refine (c3.out _).mono ?_
            rintro e w' ⟨rfl, rfl⟩
            go_wp2_with (at_builtin; refine wpList_append_own _ rfl _ _ 28 rfl g 5 i0 (.int .u8 0) 1 1 Try.underlying28 HI.out HZ0.out HZ1.out HZ2.out rfl (by decide) _ _ _ rfl (hO.out.alloc _) ⟨wr.heap.size, 0, none⟩ 3 4 [.int .u8 (x0.toNat : Int), .int .u8 (x1.toNat : Int), .int .u8 (x2.toNat : Int)] rfl rfl ?c12 ?c22 ?c32 ?c42 ?c52 ?_)
            case c12 =>
              intro j u hj
              match j, hj with
              | 0, hj => simp at hj; subst hj; simp [Addr.add]
              | 1, hj => simp at hj; subst hj; simp [Addr.add]
              | 2, hj => simp at hj; subst hj; simp [Addr.add]
            case c22 => intro u hu; simp at hu; rcases hu with rfl | rfl | rfl <;> rfl
            case c32 => unfold maxLen; omega
            case c42 => omega
            case c52 => have := hB.size; have := G.out; simp; omega
            intro v' w1 hown hgrow _
            have RS := own_more (xs := [x0, x1, x2]) hO.out hB G.out rfl hown hgrow
            have R1 := Lib.hid RS.1
            have R2 := RS.2
            clear RS hown hgrow hO hB
            go_wp2_with fail
            go_roundw
            case rel => exact ⟨k + 3, l ++ [x0, x1, x2], by omega, by go_num, by rw [List.length_append]; exact R1, HS, R2⟩
            case measure => simp [intOf]; omega
          · go_wp2_with fail
            refine (c0.out _).mono ?_
            rintro e w' ⟨rfl, rfl⟩
            go_wp2_with fail
            refine (c1.out _).mono ?_
            rintro e w' ⟨rfl, rfl⟩
            go_wp2_with fail
            refine (c2.out _).mono ?_
            rintro e w' ⟨rfl, rfl⟩
            go_wp2_with fail
            refine (c3.out _).mono ?_
            rintro e w' ⟨rfl, rfl⟩
            go_wp2_with (at_builtin; refine wpList_append_own _ rfl _ _ 28 rfl g 5 i0 (.int .u8 0) 1 1 Try.underlying28 HI.out HZ0.out HZ1.out HZ2.out rfl (by decide) _ _ _ rfl (hO.out.alloc _) ⟨wr.heap.size, 0, none⟩ 4 4 [.int .u8 (x0.toNat : Int), .int .u8 (x1.toNat : Int), .int .u8 (x2.toNat : Int), .int .u8 (x3.toNat : Int)] rfl rfl ?c13 ?c23 ?c33 ?c43 ?c53 ?_)
            case c13 =>
              intro j u hj
              match j, hj with
              | 0, hj => simp at hj; subst hj; simp [Addr.add]
              | 1, hj => simp at hj; subst hj; simp [Addr.add]
              | 2, hj => simp at hj; subst hj; simp [Addr.add]
              | 3, hj => simp at hj; subst hj; simp [Addr.add]
            case c23 => intro u hu; simp at hu; rcases hu with rfl | rfl | rfl | rfl <;> rfl
            case c33 => unfold maxLen; omega
            case c43 => omega
            case c53 => have := hB.size; have := G.out; simp; omega
            intro v' w1 hown hgrow _
            have RS := own_more (xs := [x0, x1, x2, x3]) hO.out hB G.out rfl hown hgrow
            have R1 := Lib.hid RS.1
            have R2 := RS.2
            clear RS hown hgrow hO hB
            go_wp2_with fail
            go_roundw
            case rel => exact ⟨k + 3, l ++ [x0, x1, x2, x3], by omega, by go_num, by rw [List.length_append]; exact R1, HS, R2⟩
            case measure => simp [intOf]; omega
    · have hE := convert_own hO.out
      have hd : l = enc s.data.toList := by
        have := hF.out
        rw [List.drop_of_length_le (by rw [← Lib.size_eq]; omega)] at this
        rw [← this]
        exact (List.append_nil l).symm
      rw [hd, ← R.out] at hE
      clear hd hF
      go_wp2_with fail
      go_ret
      exact ⟨rfl, hB⟩
end Go.Proofs.Ytfmgnccgdffocaa
