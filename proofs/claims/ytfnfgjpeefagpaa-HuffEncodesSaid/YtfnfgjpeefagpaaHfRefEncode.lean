/- The contract of the document's Encode. For texts of at most 10^6 bytes. -/
import Derived.Test.YtfnfgjpeefagpaaProg
import Derived.Test.YtfnfgjpeefagpaaBytes
import Derived.Test.YtfnfgjpeefagpaaHeld
import Derived.Test.YtfnfgjpeefagpaaHfMath
import Derived.Test.YtfnfgjpeefagpaaHfSize
import Derived.Test.YtfnfgjpeefagpaaHfRefLow
import Derived.Test.YtfnfgjpeefagpaaHfRefCodes
import Derived.WalkKit
import Derived.Lib.Hide
import Derived.Outline
import Derived.IntWalk
import Derived.WalkSpells
import Derived.WalkLawsBesides
import Derived.Deep.RegionHeld3
import Derived.Deep.CutRange
namespace Go.Proofs.Ytfnfgjpeefagpaa
open Go.RowKit Bytes Hf

namespace Hf
theorem pack_cons (x h : Nat) (b : Bool) (r : List Bool) : pack x h (b :: r) = if h = 7 then UInt8.ofNat (2 * x + bn b) :: pack 0 0 r else pack (2 * x + bn b) (h + 1) r := by rw [pack]
theorem pack_fill {x h : Nat} (h1 : 1 ≤ h) (h7 : h < 7) : pack (2 * x + 1) (h + 1) [] = pack x h [] := by
  have hp : 0 < 2 ^ (7 - h) := Nat.pow_pos (by decide)
  rw [pack, pack, if_neg (by omega), if_neg (by omega), show 8 - (h + 1) = 7 - h by omega, show 8 - h = 7 - h + 1 by omega, Nat.pow_succ]
  congr 2
  rw [Nat.add_mul, Nat.one_mul, Nat.mul_comm 2 x, Nat.mul_assoc, Nat.mul_comm 2 (2 ^ (7 - h)), ← Nat.mul_assoc]
  omega
theorem pack_last (x : Nat) : pack x 7 [] = [UInt8.ofNat (2 * x + 1)] := by
  rw [pack, if_neg (by decide), show 8 - 7 = 1 by rfl, Nat.pow_one]
  congr 2
  omega
theorem pack_none (x : Nat) : pack x 0 [] = [] := by rw [pack, if_pos rfl]
theorem enc_bound {l : List UInt8} {s : List UInt8} {x h : Nat} {B : List Bool} (e : l ++ pack x h B = enc s) : l.length ≤ 4 * s.length + 1 := by
  have h1 := congrArg List.length e
  have h2 := (encB_len s).2
  rw [List.length_append, enc_len] at h1
  omega
theorem bitL_get {bs : List Bool} {j : Nat} (h : j < bs.length) : (((bitL bs).getD j 0).toNat : Int) = 48 + (bn (bs.getD j false) : Int) := by
  unfold bitL
  rw [List.getD_eq_getElem?_getD, List.getElem?_map, List.getD_eq_getElem?_getD, List.getElem?_eq_getElem h]
  show (((if bs[j] = true then (49 : UInt8) else 48).toNat : Nat) : Int) = _
  cases bs[j] <;> rfl
theorem drop_bit {bs : List Bool} {j : Nat} (h : j < bs.length) : bs.drop j = bs.getD j false :: bs.drop (j + 1) := by
  rw [List.drop_eq_getElem_cons h, List.getD_eq_getElem?_getD, List.getElem?_eq_getElem h]
  rfl
theorem two_pow {h : Nat} (h7 : h ≤ 7) {x : Nat} (hx : x < 2 ^ h) : x < 128 := Nat.lt_of_lt_of_le hx (Nat.pow_le_pow_right (by decide) h7 : 2 ^ h ≤ 2 ^ 7)
end Hf

theorem len_held (s : Nat) (p : Addr) (v : Value) (w W : World) (h : s < 257) (hS : W.cell? p = some v ∧ Held w W) :
    Calls Try.prog 12 #[.int .i64 (s : Int)] W fun e w' => e = .returned (.int .i64 (len s : Int)) ∧ w'.cell? p = some v ∧ Held w w' :=
  (refLength_is s W h).mono fun _ _ ⟨he, hw⟩ => by subst hw; exact ⟨he, hS⟩
theorem bits_held (m n : Nat) (t : ByteArray) (p : Addr) (v : Value) (w W : World) (hm : m < 18446744073709551616) (hn : n ≤ 64) (ht : Hid (t = mk (bitL (Hf.bits m n)))) (hp : p.block < w.heap.size) (hS : W.cell? p = some v ∧ Held w W) :
    Calls Try.prog 20 #[.int .u64 (m : Int), .int .i64 (n : Int)] W fun e w' => e = .returned (.string t) ∧ w'.cell? p = some v ∧ Held w w' := by
  rw [ht.out]
  have h3 : Below w.heap.size w W := hS.2
  have hle := h3.size
  exact (bits_is m n W hm hn).mono fun _ _ ⟨he, hB⟩ => ⟨he, (hB.cell (by omega)).trans hS.1, h3.trans (hB.mono hle)⟩

set_option maxHeartbeats 4000000 in
set_option maxRecDepth 100000 in
theorem refEncode_is (s : ByteArray) (r : ByteArray) (w : World) (hs : s.size ≤ 1000000) (h : Hid (mk (enc s.data.toList) = r)) :
    Calls Try.prog 14 #[.string s] w fun e w' => e = .returned (.string r) ∧ Below w.heap.size w w' := by
  obtain ⟨i0, hi, hz0, hz1, hz2⟩ := info_parts info5
  have HI := Lib.hid hi; clear hi
  have HZ0 := Lib.hid hz0; clear hz0
  have HZ1 := Lib.hid hz1; clear hz1
  have HZ2 := Lib.hid hz2; clear hz2
  obtain ⟨E, hE⟩ : ∃ E, Hid (enc s.data.toList = E) := ⟨_, rfl⟩
  go_enter Try.func14, Try.ntmps14
  go_wp2_with fail
  refine (refCodes_is _).mono ?_
  rintro e w1 ⟨rfl, hrow, hB0⟩
  have HROW := Lib.hid hrow
  have HB0 := Lib.hid hB0
  have hlt1 : w.heap.size < w1.heap.size := by
    have := (Array.getElem?_eq_some_iff.1 hrow).1
    exact this
  clear hrow hB0
  generalize hg : w1.heap.size = g at *
  have G := Lib.hid hg; clear hg
  go_wp2_with fail
  go_loopw [4, 5, 6, 7] (fun o x h i wr => ∃ (k : Nat) (l : List UInt8) (xn hn : Nat), k ≤ s.size + 1 ∧ x = .int .i64 (xn : Int) ∧ h = .int .i64 (hn : Int) ∧ i = .int .i64 (k : Int) ∧ hn ≤ 7 ∧ Hid (xn < 2 ^ hn) ∧ Hid (wr.ownsRow g 5 1 o l.length (byteCells l)) ∧ Hid (l ++ pack xn hn (encB (s.data.toList.drop k)) = E) ∧ Below g w1 wr) (fun _ _ _ i _ => s.size + 1 - (intOf i).toNat)
  case atStart => exact ⟨0, [], 0, 0, by omega, rfl, rfl, rfl, by omega, Lib.hid (by decide), Lib.hid (World.ownsRow_nil _ _ _ _), hE, Below.refl _ _⟩
  case round =>
    obtain ⟨k, l, xn, hn, hk, rfl, rfl, rfl, h7, hx, hO, hF, hB⟩ := hrel
    by_cases hle : k ≤ s.size
    · have hdk : decide ((k : Int) ≤ (s.size : Int)) = true := by rw [decide_eq_true_eq]; omega
      go_upto_if 20 with fail
      go_cut [8] from 11 to 55 (fun v wx => ∃ (bs : List Bool) (t : ByteArray), v = .string t ∧ Hid (t.data.toList = bitL bs) ∧ Hid (bs ++ encB (s.data.toList.drop (k + 1)) = encB (s.data.toList.drop k)) ∧ Hid (Below wr.heap.size wr wx) ∧ bs.length ≤ 30)
      case first =>
        by_cases hlt : k < s.size
        · obtain ⟨y, hy⟩ : ∃ y, s[k] = y := ⟨_, rfl⟩
          have hyl := byte_lt y
          have hyb := y.toNat_lt
          have hlb := len_bd hyl
          have hcb : cd y.toNat < 18446744073709551616 := Nat.lt_of_lt_of_le hlb.2.2.1 (Nat.le_trans (Nat.pow_le_pow_right (by decide) hlb.2.1) (by decide))
          have hcc : wr.cell? ⟨w.heap.size, y.toNat, none⟩ = some (.int .u64 (cd y.toNat : Int)) := by
            rw [cell_of_row _ _ _ _ _ _ ((hB.block _ hlt1).trans HROW.out), tab_get _ hyl]
          have hw1 : IntKind.i64.wrap (y.toNat : Int) = (y.toNat : Int) := by rw [IntKind.wrap_i64]; omega
          have hk1 : (0 : Int) ≤ (k : Int) := by omega
          have hk2 : (k : Int) < (s.size : Int) := by omega
          have hy1 : (0 : Int) ≤ (y.toNat : Int) := by omega
          have hy2 : (y.toNat : Int) < 257 := by omega
          have hH : Held wr wr := Below.refl _ _
          have hHd : Held wr wr.drew := (Below.refl _ _).drew
          have hwl : w.heap.size < wr.heap.size := by have := hB.size; have := G.out; omega
          obtain ⟨bs, hbs⟩ : ∃ bs, Hf.bits (cd y.toNat) (len y.toNat) = bs := ⟨_, rfl⟩
          have hbl : bs.length = len y.toNat := by rw [← hbs, bits_len]
          obtain ⟨t, ht⟩ : ∃ t, Hid (t = mk (bitL (Hf.bits (cd y.toNat) (len y.toNat)))) := ⟨_, rfl⟩
          have htl : Hid (t.data.toList = bitL bs) := Lib.hid (by rw [ht.out, hbs]; rfl)
          have hts : t.size = bs.length := by rw [Lib.size_eq, htl.out, bitL_len]
          have hbe : bs ++ encB (s.data.toList.drop (k + 1)) = encB (s.data.toList.drop k) := by
            rw [drop_cons (l := s.data.toList) (k := k) (by rw [← Lib.size_eq]; exact hlt), getD_byte hlt, hy, ← hbs]
            rfl
          have HBE := Lib.hid hbe
          clear hbe hbs
          have HBL := Lib.hid hbl
          clear hbl
          generalize hm : len y.toNat = m at *
          generalize cd y.toNat = c at *
          have RL := fun W (hS : W.cell? ⟨w.heap.size, y.toNat, none⟩ = some (.int .u64 (c : Int)) ∧ Held wr W) => len_held y.toNat ⟨w.heap.size, y.toNat, none⟩ _ wr W hyl hS
          rw [hm] at RL
          have HM := Lib.hid hm
          have HRL := Lib.hid RL
          clear hm RL
          go_wp2_with fail
          go_region_held3 (fun w' => w'.cell? ⟨w.heap.size, y.toNat, none⟩ = some (.int .u64 (c : Int)) ∧ Held wr w') (go_keep)
            (first | (go_at_call 12; (with_reducible refine (HRL.out _ ?_).mono ?_); (simp [*]); rintro e w3 ⟨rfl, k0, hH3⟩) | (go_at_call 20; (with_reducible refine (bits_held c m t ⟨w.heap.size, y.toNat, none⟩ (.int .u64 (c : Int)) wr _ hcb (by omega) ht hwl ?_).mono ?_); (simp [*]); rintro e w3 ⟨rfl, k0, hH3⟩))
          all_goals
            have hbm : bs.length ≤ 30 := by rw [HBL.out]; omega
            have HH3 := Lib.hid (show Below wr.heap.size wr w3 from hH3)
            go_wp2_with fail
            go_meet
            exact ⟨bs, t, rfl, htl, HBE, HH3, hbm⟩
        · have HBE := Lib.hid (show [] ++ encB (s.data.toList.drop (k + 1)) = encB (s.data.toList.drop k) by
            rw [List.drop_of_length_le (l := s.data.toList) (i := k) (by rw [← Lib.size_eq]; omega), List.drop_of_length_le (l := s.data.toList) (i := k + 1) (by rw [← Lib.size_eq]; omega)]
            rfl)
          go_wp2_with fail
          go_meet
          exact ⟨[], _, rfl, Lib.hid rfl, HBE, Lib.hid (Below.refl _ _), by decide⟩
      case rest =>
        obtain ⟨bs, t, rfl, htl, HBE, hH3, hbm⟩ := hcut
        generalize wc = w3 at *
        have hB3 : Below g w1 w3 := hB.trans (hH3.out.mono (by have := hB.size; have := G.out; omega))
        have hO3 := Lib.hid (own_below hO.out hH3.out)
        have HF := Lib.hid (show l ++ pack xn hn (bs ++ encB (s.data.toList.drop (k + 1))) = E by rw [HBE.out]; exact hF.out)
        have hts : t.size = bs.length := by rw [Lib.size_eq, htl.out, bitL_len]
        obtain ⟨R, hR⟩ : ∃ R, Hid (encB (s.data.toList.drop (k + 1)) = R) := ⟨_, rfl⟩
        rw [hR.out] at HF
        obtain ⟨m, hm⟩ : ∃ m, bs.length = m := ⟨_, rfl⟩
        rw [hm] at hts hbm
        have HBL := Lib.hid hm
        clear hm HBE hB hO hF hH3
        go_wp2_with fail
        go_loopw [4, 5, 6, 9] (fun o x h i wi => ∃ (j : Nat) (l : List UInt8) (xn hn : Nat), j ≤ m ∧ x = .int .i64 (xn : Int) ∧ h = .int .i64 (hn : Int) ∧ i = .int .i64 (j : Int) ∧ hn ≤ 7 ∧ Hid (xn < 2 ^ hn) ∧ Hid (wi.ownsRow g 5 1 o l.length (byteCells l)) ∧ Hid (l ++ pack xn hn (bs.drop j ++ R) = E) ∧ Below g w1 wi) (fun _ _ _ i _ => m - (intOf i).toNat)
        case atStart => exact ⟨0, l, xn, hn, by omega, rfl, rfl, rfl, h7, hx, hO3, HF, hB3⟩
        clear hO3 HF hB3 h7 hx
        case round =>
          obtain ⟨j, l, xn, hn, hj, rfl, rfl, rfl, h7, hx, hO, hF, hB⟩ := hrel
          have hx128 := two_pow h7 hx.out
          by_cases hjm : j < m
          · have hjb : j < bs.length := by rw [HBL.out]; exact hjm
            have hjt : j < t.size := by rw [hts]; exact hjm
            obtain ⟨z, hz⟩ : ∃ z, t[j] = z := ⟨_, rfl⟩
            have hzn : (z.toNat : Int) = 48 + (bn (bs.getD j false) : Int) := by rw [← hz, ← getD_byte hjt, htl.out, bitL_get hjb]
            have hbn := bn_le (bs.getD j false)
            have hF1 := hF.out
            have hlb3 := enc_bound (hF.out.trans hE.out.symm)
            rw [← Lib.size_eq] at hlb3
            rw [drop_bit hjb, List.cons_append, pack_cons] at hF1
            obtain ⟨bt, hbt⟩ : ∃ bt, bn (bs.getD j false) = bt := ⟨_, rfl⟩
            rw [hbt] at hF1 hbn hzn
            obtain ⟨v, hv⟩ : ∃ v, 2 * xn + bt = v := ⟨_, rfl⟩
            rw [hv] at hF1
            have e0 : IntKind.i64.wrap (48 + (bt : Int)) = 48 + (bt : Int) := by rw [IntKind.wrap_i64]; omega
            have e1 : IntKind.i64.wrap ((xn : Int) * 2) = (xn : Int) * 2 := by rw [IntKind.wrap_i64]; omega
            have e2 : IntKind.i64.wrap ((xn : Int) * 2 + (48 + (bt : Int))) = (xn : Int) * 2 + (48 + (bt : Int)) := by rw [IntKind.wrap_i64]; omega
            have e3 : IntKind.i64.wrap ((xn : Int) * 2 + (48 + (bt : Int)) - 48) = (v : Int) := by rw [IntKind.wrap_i64]; omega
            have hj1 : (0 : Int) ≤ (j : Int) := by omega
            have hj2 : (j : Int) < (t.size : Int) := by omega
            clear hbt
            by_cases h70 : hn = 7
            · subst h70
              rw [if_pos rfl] at hF1
              have HF1 := Lib.hid (show (l ++ [UInt8.ofNat v]) ++ pack 0 0 (bs.drop (j + 1) ++ R) = E by rw [List.append_assoc]; exact hF1)
              have e4 : IntKind.u8.wrap (v : Int) = (v : Int) := by rw [IntKind.wrap_u8]; omega
              have hvn : ((UInt8.ofNat v).toNat : Int) = (v : Int) := by rw [UInt8.toNat_ofNat', Nat.mod_eq_of_lt (by omega)]
              have HVN := Lib.hid hvn
              clear hF hF1 hv hx hvn
              go_wp2_with (at_builtin; refine wpList_append_own _ rfl _ _ 48 rfl g 5 i0 (.int .u8 0) 1 1 Try.underlying48 HI.out HZ0.out HZ1.out HZ2.out rfl (by decide) _ _ _ rfl (hO.out.alloc _) ⟨wr.heap.size, 0, none⟩ 1 1 [.int .u8 ((v : Int))] rfl rfl ?d11 ?d21 ?d31 ?d41 ?d51 ?_)
              case d11 =>
                intro j u hj
                match j, hj with
                | 0, hj => simp at hj; subst hj; simp [Addr.add]
              case d21 => first | rfl | (intro u hu; simp at hu; subst hu; rfl)
              case d31 => unfold maxLen; omega
              case d41 => omega
              case d51 => have := hB.size; have := G.out; simp; omega
              intro v' w2 hown hgrow _
              have RS := own_step (x := UInt8.ofNat v) hO.out hB G.out HVN.out hown hgrow
              have R1 := Lib.hid RS.1
              have R2 := RS.2
              clear RS hown hgrow
              go_wp2_with fail
              go_roundw
              case rel => exact ⟨j + 1, l ++ [UInt8.ofNat v], 0, 0, by omega, rfl, rfl, rfl, by omega, Lib.hid (by decide), Lib.hid (by rw [List.length_append]; exact R1.out), HF1, R2⟩
              case measure => simp [intOf]; omega
            · rw [if_neg h70] at hF1
              have HF1 := Lib.hid hF1
              have f8 : ((hn : Int) + 1 == 8) = false := by rw [beq_eq_false_iff_ne]; omega
              have hxv := Lib.hid (show v < 2 ^ (hn + 1) by have := hx.out; rw [Nat.pow_succ]; omega)
              clear hF hF1 hv hx
              go_wp2_with fail
              go_roundw
              case rel => exact ⟨j + 1, l, v, hn + 1, by omega, rfl, rfl, rfl, by omega, hxv, hO, HF1, hB⟩
              case measure => simp [intOf]; omega
          · have e : j = m := by omega
            subst e
            have HF1 := Lib.hid (show l ++ pack xn hn R = E by have h1 := hF.out; rw [← HBL.out, List.drop_length] at h1; exact h1)
            rw [← hR.out] at HF1
            clear hF
            go_wp2_with fail
            go_roundw
            case rel => exact ⟨k + 1, l, xn, hn, by omega, rfl, rfl, rfl, h7, hx, hO, HF1, hB⟩
            case measure => simp [intOf]; omega
    · have hdk : decide ((k : Int) ≤ (s.size : Int)) = false := by rw [decide_eq_false_iff_not]; omega
      have hF2 := hF.out
      rw [List.drop_of_length_le (by rw [← Lib.size_eq]; omega), show encB [] = [] from rfl] at hF2
      have HF := Lib.hid hF2
      clear hF hF2
      go_wp2_with fail
      go_loopw [4, 5, 6] (fun o x h wi => ∃ (l : List UInt8) (xn hn : Nat), x = .int .i64 (xn : Int) ∧ h = .int .i64 (hn : Int) ∧ Hid (hn ≤ 7 ∧ xn < 2 ^ hn ∧ l ++ pack xn hn [] = E ∨ hn = 8 ∧ l = E) ∧ Hid (wi.ownsRow g 5 1 o l.length (byteCells l)) ∧ Below g w1 wi) (fun _ _ h _ => 9 - (intOf h).toNat)
      case atStart => exact ⟨l, xn, hn, rfl, rfl, Lib.hid (.inl ⟨h7, hx.out, HF.out⟩), hO, hB⟩
      clear h7 hx hO HF hB
      case round =>
        obtain ⟨l, xn, hn, rfl, rfl, hF, hO, hB⟩ := hrel
        by_cases hend : hn = 0 ∨ hn = 8
        · have hl : l = E := by
            rcases hF.out with ⟨h7, _, h1⟩ | ⟨_, h1⟩
            · obtain rfl : hn = 0 := by omega
              rw [pack_none, List.append_nil] at h1
              exact h1
            · exact h1
          have hcv := convert_own hO.out
          rw [hl, ← hE.out, h.out] at hcv
          have hfin := (HB0.out.trans (hB.mono (Nat.le_of_lt hlt1)))
          clear hF hO hl
          rcases hend with rfl | rfl
          · go_wp2_with fail
            go_ret
            exact ⟨rfl, hfin⟩
          · go_wp2_with fail
            go_ret
            exact ⟨rfl, hfin⟩
        · have hh : 1 ≤ hn ∧ hn ≤ 7 ∧ xn < 2 ^ hn ∧ l ++ pack xn hn [] = E := by
            rcases hF.out with ⟨h7, hx, h1⟩ | ⟨h8, _⟩
            · exact ⟨by omega, h7, hx, h1⟩
            · omega
          obtain ⟨h1, h7, hx, hF1⟩ := hh
          have hx128 := two_pow h7 hx
          have hlb3 := enc_bound (hF1.trans hE.out.symm)
          rw [← Lib.size_eq] at hlb3
          have e1 : IntKind.i64.wrap ((xn : Int) * 2) = (xn : Int) * 2 := by rw [IntKind.wrap_i64]; omega
          obtain ⟨v, hv⟩ : ∃ v, 2 * xn + 1 = v := ⟨_, rfl⟩
          have e3 : IntKind.i64.wrap ((xn : Int) * 2 + 1) = (v : Int) := by rw [IntKind.wrap_i64]; omega
          by_cases h70 : hn = 7
          · subst h70
            rw [pack_last, hv] at hF1
            have HF1 := Lib.hid hF1
            have e4 : IntKind.u8.wrap (v : Int) = (v : Int) := by rw [IntKind.wrap_u8]; omega
            have hvn : ((UInt8.ofNat v).toNat : Int) = (v : Int) := by rw [UInt8.toNat_ofNat', Nat.mod_eq_of_lt (by omega)]
            have HVN := Lib.hid hvn
            clear hF hF1 hv hx hvn hend
            go_wp2_with (at_builtin; refine wpList_append_own _ rfl _ _ 48 rfl g 5 i0 (.int .u8 0) 1 1 Try.underlying48 HI.out HZ0.out HZ1.out HZ2.out rfl (by decide) _ _ _ rfl (hO.out.alloc _) ⟨wr.heap.size, 0, none⟩ 1 1 [.int .u8 ((v : Int))] rfl rfl ?d12 ?d22 ?d32 ?d42 ?d52 ?_)
            case d12 =>
              intro j u hj
              match j, hj with
              | 0, hj => simp at hj; subst hj; simp [Addr.add]
            case d22 => first | rfl | (intro u hu; simp at hu; subst hu; rfl)
            case d32 => unfold maxLen; omega
            case d42 => omega
            case d52 => have := hB.size; have := G.out; simp; omega
            intro v' w2 hown hgrow _
            have RS := own_step (x := UInt8.ofNat v) hO.out hB G.out HVN.out hown hgrow
            have R1 := Lib.hid RS.1
            have R2 := RS.2
            clear RS hown hgrow
            go_wp2_with fail
            go_roundw
            case rel => exact ⟨l ++ [UInt8.ofNat v], v, 8, rfl, rfl, Lib.hid (.inr ⟨rfl, HF1.out⟩), Lib.hid (by rw [List.length_append]; exact R1.out), R2⟩
            case measure => simp [intOf]
          · have hF2 := Lib.hid (show hn + 1 ≤ 7 ∧ v < 2 ^ (hn + 1) ∧ l ++ pack v (hn + 1) [] = E ∨ hn + 1 = 8 ∧ l = E from .inl ⟨by omega, by rw [Nat.pow_succ]; omega, by rw [← hv, pack_fill h1 (by omega)]; exact hF1⟩)
            have f8 : ((hn : Int) + 1 == 8) = false := by rw [beq_eq_false_iff_ne]; omega
            clear hF hF1 hv hx hend
            go_wp2_with fail
            go_roundw
            case rel => exact ⟨l, v, hn + 1, rfl, rfl, hF2, hO, hB⟩
            case measure => simp [intOf]; omega
end Go.Proofs.Ytfnfgjpeefagpaa
