/- The contract of b64's Encode. For texts of at most 10^12 bytes. -/
import Derived.Test.YtfmgnccgdffocaaProg
import Derived.Test.YtfmgnccgdffocaaBytes
import Derived.Test.YtfmgnccgdffocaaB64Math
import Derived.Test.YtfmgnccgdffocaaB64Low
import Derived.WalkKit
import Derived.Lib.Hide
import Derived.Outline
import Derived.IntWalk
import Derived.WalkSpells
import Derived.WalkLawsBesides
namespace Go.Proofs.Ytfmgnccgdffocaa
open Go.RowKit Bytes B64

theorem sg_at (m : Nat) : ∀ h, ({ data := #[65, 66, 67, 68, 69, 70, 71, 72, 73, 74, 75, 76, 77, 78, 79, 80, 81, 82, 83, 84, 85, 86, 87, 88, 89, 90, 97, 98, 99, 100, 101, 102, 103, 104, 105, 106, 107, 108, 109, 110, 111, 112, 113, 114, 115, 116, 117, 118, 119, 120, 121, 122, 48, 49, 50, 51, 52, 53, 54, 55, 56, 57, 45, 95] } : ByteArray)[m]'h = sg m := by
  intro h
  have := getD_byte h
  rw [← this]
  rfl
theorem flow_len {h c : Nat} {l r s : List UInt8} (e : l ++ flow h c r = enc s) : l.length ≤ s.length * 2 := by
  have := congrArg List.length e
  rw [List.length_append, enc_len] at this
  omega
/-- One sign goes out. -/
theorem flow_step {n c m : Nat} {l r s : List UInt8} (e : l ++ flow n c r = enc s) (hc : 6 ≤ c) (hm : n / 2 ^ (c - 6) % 64 = m) : (l ++ [sg m]) ++ flow n (c - 6) r = enc s := by
  rw [← e, flow_out hc, hm, List.append_assoc]
  rfl
/-- One byte comes in. -/
theorem flow_next {n c k : Nat} {l s : List UInt8} (e : l ++ flow n c (s.drop k) = enc s) (hc : c < 6) (hk : k < s.length) : l ++ flow ((n * 256 + (s.getD k 0).toNat) % 4294967296) (c + 8) (s.drop (k + 1)) = enc s := by
  rw [← e, drop_cons hk, flow_in hc]
theorem flow_done {n k : Nat} {l s : List UInt8} (e : l ++ flow n 0 (s.drop k) = enc s) (hk : k = s.length) : l = enc s := by
  rw [← e, hk, List.drop_of_length_le (Nat.le_refl _), flow_nil (by omega), if_pos rfl, List.append_nil]
theorem flow_last {n c k m : Nat} {l s : List UInt8} (e : l ++ flow n c (s.drop k) = enc s) (hc : c < 6) (h0 : c ≠ 0) (hk : k = s.length) (hm : n * 2 ^ (6 - c) % 4294967296 % 64 = m) : l ++ [sg m] = enc s := by
  rw [← e, hk, List.drop_of_length_le (Nat.le_refl _), flow_nil hc, if_neg h0, hm]
theorem or8 (n : Nat) (x : UInt8) : bits .or .u32 ((n : Int) * 256 % 4294967296) ((x.toNat : Int) % 4294967296) = (((n * 256 + x.toNat) % 4294967296 : Nat) : Int) := by
  have h := or_in n x.toNat 8 x.toNat_lt (by omega)
  have hx := x.toNat_lt
  rw [IntKind.wrap_u32] at h
  rw [show (x.toNat : Int) % 4294967296 = x.toNat by omega]
  exact h

set_option maxHeartbeats 4000000 in
set_option maxRecDepth 100000 in
theorem encode_any (s : ByteArray) (w : World) (hs : s.size ≤ 1000000000000) :
    Calls Try.prog 8 #[.string s] w fun e w' => e = .returned (.string (mk (enc s.data.toList))) ∧ Below w.heap.size w w' := by
  obtain ⟨r, hr⟩ : ∃ r, r = mk (enc s.data.toList) := ⟨_, rfl⟩
  rw [← hr]
  have R := Lib.hid hr; clear hr
  obtain ⟨i0, hi, hz0, hz1, hz2⟩ := info_parts info5
  have HI := Lib.hid hi; clear hi
  have HZ0 := Lib.hid hz0; clear hz0
  have HZ1 := Lib.hid hz1; clear hz1
  have HZ2 := Lib.hid hz2; clear hz2
  generalize hg : w.heap.size = g at *
  have G := Lib.hid hg; clear hg
  go_enter Try.func8, Try.ntmps8
  go_wp2_with (at_make; refine wpList_make_own _ rfl _ _ 28 rfl g 5 i0 (.int .u8 0) 1 Try.underlying28 HI.out HZ0.out HZ1.out _ _ _ (s.size / 3 * 4 + 3) rfl rfl (by omega) ?b2 ?b3 ?b4 ?_)
  case b2 => rw [HZ2.out]; omega
  case b3 => unfold maxLen; omega
  case b4 => exact Nat.le_of_eq G.out.symm
  intro w0 hown0 hgrow0
  have hB0 : Below g w w0 := (Below.refl _ _).grown hgrow0 (Nat.le_of_eq G.out.symm) (fun k h => by cases h)
  have HO := Lib.hid hown0; clear hown0 hgrow0
  go_wp2_with fail
  go_loopw [3, 4, 5, 15] (fun b h c i wr => ∃ (k n cc : Nat) (l : List UInt8), k ≤ s.size ∧ i = .int .i64 k ∧ h = .int .u32 n ∧ n < 4294967296 ∧ c = .int .i64 cc ∧ (cc = 0 ∨ cc = 2 ∨ cc = 4) ∧ Hid (wr.ownsRow g 5 1 b l.length (byteCells l)) ∧ Hid (l ++ flow n cc (s.data.toList.drop k) = enc s.data.toList) ∧ Below g w wr) (fun _ _ _ i _ => s.size - (intOf i).toNat)
  case atStart => exact ⟨0, 0, 0, [], Nat.zero_le _, rfl, rfl, by omega, rfl, Or.inl rfl, HO, Lib.hid (flow_enc _ 0), hB0⟩
  case round =>
    obtain ⟨k, n, cc, l, hk, rfl, rfl, hn, rfl, hcc, hO, hF, hB⟩ := hrel
    by_cases hlt : k < s.size
    · have hkl : k < s.data.toList.length := by rw [← Lib.size_eq]; exact hlt
      have hx0 := getD_byte hlt
      generalize hx1 : s.data.toList.getD k 0 = x at hx0
      have hx : s[k]'hlt = x := hx0.symm
      have hF1 := flow_next hF.out (by omega) hkl
      rw [hx1] at hF1
      have hor := or8 n x
      obtain ⟨n', hn'⟩ : ∃ n', (n * 256 + x.toNat) % 4294967296 = n' := ⟨_, rfl⟩
      have hn2 : n' < 4294967296 := by omega
      rw [hn'] at hor hF1
      have HF := Lib.hid hF1
      clear hx0 hx1 hF1 hF hn' hn hkl
      go_wp2_with fail
      obtain ⟨wo, rfl⟩ : ∃ wo : World, wo = wr := ⟨_, rfl⟩
      go_loopw [3, 5] (fun b c wi => ∃ (cc : Nat) (l : List UInt8), c = .int .i64 cc ∧ (cc = 0 ∨ cc = 2 ∨ cc = 4 ∨ cc = 6 ∨ cc = 8 ∨ cc = 10 ∨ cc = 12) ∧ Hid (wi.ownsRow g 5 1 b l.length (byteCells l)) ∧ Hid (l ++ flow n' cc (s.data.toList.drop (k + 1)) = enc s.data.toList) ∧ Below g w wi) (fun _ c _ => (intOf c).toNat)
      case atStart => exact ⟨cc + 8, l, by go_num, by omega, hO, HF, hB⟩
      case round =>
        obtain ⟨c2, l2, rfl, hc2, hO2, hF2, hB2⟩ := hrel
        by_cases h6 : 6 ≤ c2
        · have hc3 : c2 = 6 ∨ c2 = 8 ∨ c2 = 10 ∨ c2 = 12 := by omega
          have hlen := flow_len hF2.out
          rw [← Lib.size_eq] at hlen
          clear hc2
          rcases hc3 with rfl | rfl | rfl | rfl
          · obtain ⟨m, hm⟩ : ∃ m, n' % 64 = m := ⟨_, rfl⟩
            have hm2 : m < 64 := by omega
            have hF3 := Lib.hid (flow_step (m := m) hF2.out (by omega) (show n' / 1 % 64 = m by omega))
            have HM := Lib.hid (show n' % 2 ^ 6 = m from hm)
            have hx2 := sg_at m
            generalize hx3 : sg m = x2 at *
            clear hm hF2 hx3
            go_wp2_with fail
            refine (low_is 6 n' m _ (by omega) hn2 HM).mono ?_
            rintro e w' ⟨rfl, rfl⟩
            go_wp2_with (at_builtin; refine wpList_append_own _ rfl _ _ 28 rfl g 5 i0 (.int .u8 0) 1 1 Try.underlying28 HI.out HZ0.out HZ1.out HZ2.out rfl (by decide) _ _ _ rfl (hO2.out.alloc _) ⟨wr.heap.size, 0, none⟩ 1 1 [.int .u8 (x2.toNat : Int)] rfl rfl ?c1c6 ?c2c6 ?c3c6 ?c4c6 ?c5c6 ?_)
            case c1c6 =>
              intro j u hj
              match j, hj with
              | 0, hj => simp at hj; subst hj; simp [Addr.add]
            case c2c6 => intro u hu; simp at hu; subst hu; rfl
            case c3c6 => unfold maxLen; omega
            case c4c6 => omega
            case c5c6 => have := hB2.size; have := G.out; simp; omega
            intro v' w1 hown hgrow _
            have RS := own_step (x := x2) hO2.out hB2 G.out rfl hown hgrow
            have R1 := Lib.hid RS.1
            have R2 := RS.2
            clear RS hown hgrow hO2 hB2
            go_wp2_with fail
            go_roundw
            case rel => exact ⟨0, l2 ++ [x2], by go_num, by omega, by rw [List.length_append]; exact R1, hF3, R2⟩
            case measure => simp [intOf]
          · obtain ⟨q, hq⟩ : ∃ q, n' / 4 = q := ⟨_, rfl⟩
            obtain ⟨m, hm⟩ : ∃ m, q % 64 = m := ⟨_, rfl⟩
            have hm2 : m < 64 := by omega
            have hF3 := Lib.hid (flow_step (m := m) hF2.out (by omega) (show n' / 4 % 64 = m by rw [hq]; exact hm))
            have hqi : (n' : Int) / 4 = (q : Int) := by omega
            have hq2 : q < 4294967296 := by omega
            have HM := Lib.hid (show q % 2 ^ 6 = m from hm)
            have hx2 := sg_at m
            generalize hx3 : sg m = x2 at *
            clear hq hm hF2 hx3
            go_wp2_with fail
            refine (low_is 6 q m _ (by omega) hq2 HM).mono ?_
            rintro e w' ⟨rfl, rfl⟩
            go_wp2_with (at_builtin; refine wpList_append_own _ rfl _ _ 28 rfl g 5 i0 (.int .u8 0) 1 1 Try.underlying28 HI.out HZ0.out HZ1.out HZ2.out rfl (by decide) _ _ _ rfl (hO2.out.alloc _) ⟨wr.heap.size, 0, none⟩ 1 1 [.int .u8 (x2.toNat : Int)] rfl rfl ?c1c8 ?c2c8 ?c3c8 ?c4c8 ?c5c8 ?_)
            case c1c8 =>
              intro j u hj
              match j, hj with
              | 0, hj => simp at hj; subst hj; simp [Addr.add]
            case c2c8 => intro u hu; simp at hu; subst hu; rfl
            case c3c8 => unfold maxLen; omega
            case c4c8 => omega
            case c5c8 => have := hB2.size; have := G.out; simp; omega
            intro v' w1 hown hgrow _
            have RS := own_step (x := x2) hO2.out hB2 G.out rfl hown hgrow
            have R1 := Lib.hid RS.1
            have R2 := RS.2
            clear RS hown hgrow hO2 hB2
            go_wp2_with fail
            go_roundw
            case rel => exact ⟨2, l2 ++ [x2], by go_num, by omega, by rw [List.length_append]; exact R1, hF3, R2⟩
            case measure => simp [intOf]
          · obtain ⟨q, hq⟩ : ∃ q, n' / 16 = q := ⟨_, rfl⟩
            obtain ⟨m, hm⟩ : ∃ m, q % 64 = m := ⟨_, rfl⟩
            have hm2 : m < 64 := by omega
            have hF3 := Lib.hid (flow_step (m := m) hF2.out (by omega) (show n' / 16 % 64 = m by rw [hq]; exact hm))
            have hqi : (n' : Int) / 16 = (q : Int) := by omega
            have hq2 : q < 4294967296 := by omega
            have HM := Lib.hid (show q % 2 ^ 6 = m from hm)
            have hx2 := sg_at m
            generalize hx3 : sg m = x2 at *
            clear hq hm hF2 hx3
            go_wp2_with fail
            refine (low_is 6 q m _ (by omega) hq2 HM).mono ?_
            rintro e w' ⟨rfl, rfl⟩
            go_wp2_with (at_builtin; refine wpList_append_own _ rfl _ _ 28 rfl g 5 i0 (.int .u8 0) 1 1 Try.underlying28 HI.out HZ0.out HZ1.out HZ2.out rfl (by decide) _ _ _ rfl (hO2.out.alloc _) ⟨wr.heap.size, 0, none⟩ 1 1 [.int .u8 (x2.toNat : Int)] rfl rfl ?c1c10 ?c2c10 ?c3c10 ?c4c10 ?c5c10 ?_)
            case c1c10 =>
              intro j u hj
              match j, hj with
              | 0, hj => simp at hj; subst hj; simp [Addr.add]
            case c2c10 => intro u hu; simp at hu; subst hu; rfl
            case c3c10 => unfold maxLen; omega
            case c4c10 => omega
            case c5c10 => have := hB2.size; have := G.out; simp; omega
            intro v' w1 hown hgrow _
            have RS := own_step (x := x2) hO2.out hB2 G.out rfl hown hgrow
            have R1 := Lib.hid RS.1
            have R2 := RS.2
            clear RS hown hgrow hO2 hB2
            go_wp2_with fail
            go_roundw
            case rel => exact ⟨4, l2 ++ [x2], by go_num, by omega, by rw [List.length_append]; exact R1, hF3, R2⟩
            case measure => simp [intOf]
          · obtain ⟨q, hq⟩ : ∃ q, n' / 64 = q := ⟨_, rfl⟩
            obtain ⟨m, hm⟩ : ∃ m, q % 64 = m := ⟨_, rfl⟩
            have hm2 : m < 64 := by omega
            have hF3 := Lib.hid (flow_step (m := m) hF2.out (by omega) (show n' / 64 % 64 = m by rw [hq]; exact hm))
            have hqi : (n' : Int) / 64 = (q : Int) := by omega
            have hq2 : q < 4294967296 := by omega
            have HM := Lib.hid (show q % 2 ^ 6 = m from hm)
            have hx2 := sg_at m
            generalize hx3 : sg m = x2 at *
            clear hq hm hF2 hx3
            go_wp2_with fail
            refine (low_is 6 q m _ (by omega) hq2 HM).mono ?_
            rintro e w' ⟨rfl, rfl⟩
            go_wp2_with (at_builtin; refine wpList_append_own _ rfl _ _ 28 rfl g 5 i0 (.int .u8 0) 1 1 Try.underlying28 HI.out HZ0.out HZ1.out HZ2.out rfl (by decide) _ _ _ rfl (hO2.out.alloc _) ⟨wr.heap.size, 0, none⟩ 1 1 [.int .u8 (x2.toNat : Int)] rfl rfl ?c1c12 ?c2c12 ?c3c12 ?c4c12 ?c5c12 ?_)
            case c1c12 =>
              intro j u hj
              match j, hj with
              | 0, hj => simp at hj; subst hj; simp [Addr.add]
            case c2c12 => intro u hu; simp at hu; subst hu; rfl
            case c3c12 => unfold maxLen; omega
            case c4c12 => omega
            case c5c12 => have := hB2.size; have := G.out; simp; omega
            intro v' w1 hown hgrow _
            have RS := own_step (x := x2) hO2.out hB2 G.out rfl hown hgrow
            have R1 := Lib.hid RS.1
            have R2 := RS.2
            clear RS hown hgrow hO2 hB2
            go_wp2_with fail
            go_roundw
            case rel => exact ⟨6, l2 ++ [x2], by go_num, by omega, by rw [List.length_append]; exact R1, hF3, R2⟩
            case measure => simp [intOf]
        · have hc3 : c2 = 0 ∨ c2 = 2 ∨ c2 = 4 := by omega
          clear hc2
          go_wp2_with fail
          go_roundw
          case rel => exact ⟨k + 1, n', c2, l2, by omega, by go_num, rfl, hn2, rfl, hc3, hO2, hF2, hB2⟩
          case measure => simp [intOf]; omega
    · have hkl : k = s.data.toList.length := by rw [← Lib.size_eq]; omega
      have hlen := flow_len hF.out
      rw [← Lib.size_eq] at hlen
      have hB2 := hB
      have hO2 := hO
      clear hB hO
      rcases hcc with rfl | rfl | rfl
      · have hd := flow_done hF.out hkl
        have hE := convert_own hO2.out
        rw [hd, ← R.out] at hE
        clear hd hkl
        go_wp2_with fail
        go_ret
        exact ⟨rfl, hB2⟩
      · obtain ⟨q, hq⟩ : ∃ q, n * 16 % 4294967296 = q := ⟨_, rfl⟩
        obtain ⟨m, hm⟩ : ∃ m, q % 64 = m := ⟨_, rfl⟩
        have hm2 : m < 64 := by omega
        have hd := flow_last (m := m) hF.out (by omega) (by omega) hkl (show n * 16 % 4294967296 % 64 = m by rw [hq]; exact hm)
        have hqi : (n : Int) * 16 % 4294967296 = (q : Int) := by omega
        have hq2 : q < 4294967296 := by omega
        have HM := Lib.hid (show q % 2 ^ 6 = m from hm)
        have hx2 := sg_at m
        generalize hx3 : sg m = x2 at *
        have HD := Lib.hid hd
        clear hq hm hF hx3 hd hkl
        go_wp2_with fail
        refine (low_is 6 q m _ (by omega) hq2 HM).mono ?_
        rintro e w' ⟨rfl, rfl⟩
        go_wp2_with (at_builtin; refine wpList_append_own _ rfl _ _ 28 rfl g 5 i0 (.int .u8 0) 1 1 Try.underlying28 HI.out HZ0.out HZ1.out HZ2.out rfl (by decide) _ _ _ rfl (hO2.out.alloc _) ⟨wr.heap.size, 0, none⟩ 1 1 [.int .u8 (x2.toNat : Int)] rfl rfl ?c1d2 ?c2d2 ?c3d2 ?c4d2 ?c5d2 ?_)
        case c1d2 =>
          intro j u hj
          match j, hj with
          | 0, hj => simp at hj; subst hj; simp [Addr.add]
        case c2d2 => intro u hu; simp at hu; subst hu; rfl
        case c3d2 => unfold maxLen; omega
        case c4d2 => omega
        case c5d2 => have := hB2.size; have := G.out; simp; omega
        intro v' w1 hown hgrow _
        have RS := own_step (x := x2) hO2.out hB2 G.out rfl hown hgrow
        have R1 := Lib.hid RS.1
        have R2 := RS.2
        clear RS hown hgrow hO2 hB2
        have hE := convert_own (l := l ++ [x2]) (n := l.length + 1) R1.out
        rw [HD.out, ← R.out] at hE
        go_wp2_with fail
        go_ret
        exact ⟨rfl, R2⟩
      · obtain ⟨q, hq⟩ : ∃ q, n * 4 % 4294967296 = q := ⟨_, rfl⟩
        obtain ⟨m, hm⟩ : ∃ m, q % 64 = m := ⟨_, rfl⟩
        have hm2 : m < 64 := by omega
        have hd := flow_last (m := m) hF.out (by omega) (by omega) hkl (show n * 4 % 4294967296 % 64 = m by rw [hq]; exact hm)
        have hqi : (n : Int) * 4 % 4294967296 = (q : Int) := by omega
        have hq2 : q < 4294967296 := by omega
        have HM := Lib.hid (show q % 2 ^ 6 = m from hm)
        have hx2 := sg_at m
        generalize hx3 : sg m = x2 at *
        have HD := Lib.hid hd
        clear hq hm hF hx3 hd hkl
        go_wp2_with fail
        refine (low_is 6 q m _ (by omega) hq2 HM).mono ?_
        rintro e w' ⟨rfl, rfl⟩
        go_wp2_with (at_builtin; refine wpList_append_own _ rfl _ _ 28 rfl g 5 i0 (.int .u8 0) 1 1 Try.underlying28 HI.out HZ0.out HZ1.out HZ2.out rfl (by decide) _ _ _ rfl (hO2.out.alloc _) ⟨wr.heap.size, 0, none⟩ 1 1 [.int .u8 (x2.toNat : Int)] rfl rfl ?c1d4 ?c2d4 ?c3d4 ?c4d4 ?c5d4 ?_)
        case c1d4 =>
          intro j u hj
          match j, hj with
          | 0, hj => simp at hj; subst hj; simp [Addr.add]
        case c2d4 => intro u hu; simp at hu; subst hu; rfl
        case c3d4 => unfold maxLen; omega
        case c4d4 => omega
        case c5d4 => have := hB2.size; have := G.out; simp; omega
        intro v' w1 hown hgrow _
        have RS := own_step (x := x2) hO2.out hB2 G.out rfl hown hgrow
        have R1 := Lib.hid RS.1
        have R2 := RS.2
        clear RS hown hgrow hO2 hB2
        have hE := convert_own (l := l ++ [x2]) (n := l.length + 1) R1.out
        rw [HD.out, ← R.out] at hE
        go_wp2_with fail
        go_ret
        exact ⟨rfl, R2⟩
end Go.Proofs.Ytfmgnccgdffocaa
