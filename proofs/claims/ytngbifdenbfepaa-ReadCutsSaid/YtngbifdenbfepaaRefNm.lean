/- The contract of the document's Name in a message. For texts of at most 10^6 bytes. -/
import Derived.Test.YtngbifdenbfepaaProg
import Derived.Test.YtngbifdenbfepaaBytes
import Derived.Test.YtngbifdenbfepaaNmMath
import Derived.Test.YtngbifdenbfepaaNumGet
import Derived.Test.YtngbifdenbfepaaNumRef
import Derived.Test.YtngbifdenbfepaaNmAt
import Derived.WalkKit
import Derived.Lib.Hide
import Derived.Outline
import Derived.IntWalk
import Derived.WalkSpells
import Derived.WalkLawsBesides
namespace Go.Proofs.Ytngbifdenbfepaa
open Go.RowKit NumMath NmMath Bytes

theorem be_two {l : List UInt8} {p : Nat} (h : p + 1 < l.length) : be ((l.drop p).take 2) = bt l p * 256 + bt l (p + 1) := by
  rw [drop_cons (by omega), drop_cons h]
  unfold bt be
  simp
/-- The place behind a name, as the document's Name has it while none is known: -1. -/
def nextI : Option Nat → Int
  | none => -1
  | some n => n
/-- The document's answer. -/
def RefNmRet (w : World) : Except Nat (List UInt8 × Nat) → Ending → World → Prop
  | .error x, e, w' => e = .returned (.tuple #[.string ⟨#[]⟩, .int .i64 0, .int .i64 x]) ∧ w = w'
  | .ok (o, n), e, w' => e = .returned (.tuple #[.string (mk o), .int .i64 n, .int .i64 0]) ∧ w = w'

set_option maxHeartbeats 4000000 in
set_option maxRecDepth 100000 in
theorem refNm_nat (s : ByteArray) (p0 : Nat) (R : Except Nat (List UInt8 × Nat)) (w : World) (hs : s.size ≤ 1000000) (hp0 : p0 ≤ 9223372036854775807) (hR : Hid (nm s.data.toList s.size 2 p0 p0 none [] = R)) :
    Calls Try.prog 10 #[.string s, .int .i64 p0] w (RefNmRet w R) := by
  have SZ := Lib.hid (Lib.size_eq s)
  have hmx : s.size ≤ maxLen := by unfold maxLen; omega
  go_enter Try.func10, Try.ntmps10
  go_wp2_with fail
  go_loop [1, 7, 8, 9] (fun at_ bg nx out => ∃ (p b : Nat) (next : Option Nat) (o : List UInt8) (y : ByteArray) (v : Int), at_ = .int .i64 p ∧ bg = .int .i64 b ∧ nx = .int .i64 v ∧ out = .string y ∧ p ≤ 9223372036854775807 ∧ b ≤ 9223372036854775807 ∧ y.size ≤ 254 ∧ Hid (nextI next = v) ∧ (v = -1 ∨ (0 ≤ v ∧ v ≤ 1000002)) ∧ Hid (y.data.toList = o) ∧ Hid (o.length = y.size) ∧ Hid (nm s.data.toList s.size 2 p b next o = R)) (fun at_ bg _ _ => (intOf bg).toNat * 2000000 + (1000000 - (intOf at_).toNat))
  case atStart => exact ⟨p0, p0, none, [], ⟨#[]⟩, -1, rfl, rfl, rfl, rfl, hp0, hp0, by decide, rfl, .inl rfl, rfl, rfl, hR⟩
  case round =>
    obtain ⟨p, b, next, o, y, v, rfl, rfl, rfl, rfl, hp, hb, hy, hv, hvb, hY, hol, hR⟩ := hrel
    by_cases hlt : p < s.size
    · have hpl : p < s.data.toList.length := by rw [← SZ.out]; exact hlt
      obtain ⟨x, hx⟩ : ∃ x, bt s.data.toList p = x := ⟨_, rfl⟩
      have HX := Lib.hid hx
      have hxl : x < 256 := by rw [← hx]; exact bt_lt _ _
      have HG := Lib.hid (fun w' => by have := refget_yes s p 1 w' hmx (by decide) (by decide) (by omega); rwa [be_bt hpl, hx] at this)
      by_cases h0 : x = 0
      · subst h0
        have hRe : Hid (R = .ok (o ++ [0], next.getD (p + 1))) := by show _ = _; rw [← hR.out]; exact nm_zero hlt hx
        have hcat : Hid (y ++ ⟨#[0]⟩ = mk (o ++ [0])) := by show _ = _; rw [← hY.out, ← mk_cat, mk_data]; rfl
        clear hx hpl
        cases next with
        | none =>
          obtain rfl : v = -1 := hv.out.symm
          go_wp2_with fail
          refine (HG.out _).mono ?_
          rintro e w1 ⟨rfl, rfl⟩
          go_wp2_with fail
          go_ret3
          rw [hRe.out]
          exact ⟨by rw [← hcat.out]; rfl, rfl⟩
        | some n =>
          obtain rfl : v = (n : Int) := hv.out.symm
          have hn0 : (0 : Int) ≤ (n : Int) := by omega
          go_wp2_with fail
          refine (HG.out _).mono ?_
          rintro e w1 ⟨rfl, rfl⟩
          go_wp2_with fail
          go_ret3
          rw [hRe.out]
          exact ⟨by rw [← hcat.out]; rfl, rfl⟩
      · have hz : ((x : Int) == 0) = false := beq_eq_false_iff_ne.2 (by omega)
        by_cases h192 : 192 ≤ x
        · have hge : (192 : Int) ≤ x := by omega
          by_cases hin : p + 2 ≤ s.size
          · obtain ⟨z, hz2⟩ : ∃ z, bt s.data.toList (p + 1) = z := ⟨_, rfl⟩
            have hzl : z < 256 := by rw [← hz2]; exact bt_lt _ _
            have HG2 := Lib.hid (fun w' => by have := refget_yes s p 2 w' hmx (by decide) (by decide) (by omega); rwa [be_two (by rw [← SZ.out]; omega), hx, hz2] at this)
            obtain ⟨t, ht⟩ : ∃ t, place s.data.toList p = t := ⟨_, rfl⟩
            have htc : t = (x - 192) * 256 + z := by rw [← ht, ← hx, ← hz2]; rfl
            have hti : ((x * 256 + z : Nat) : Int) - 49152 = (t : Int) := by omega
            obtain ⟨u, hu⟩ : ∃ u, x * 256 + z = u := ⟨_, rfl⟩
            rw [hu] at HG2 hti
            have hul : u < 65536 := by omega
            have huc : (u : Int) - 49152 = (t : Int) := hti
            have HT := Lib.hid ht
            by_cases hback : t < b
            · have hRb : Hid (nm s.data.toList s.size 2 t t (some (next.getD (p + 2))) o = R) := by
                have := nm_back (b := b) (next := next) (o := o) (K := 2) (E := s.size) (l := s.data.toList) (p := p) (by rw [hx]; exact h192) hin (by rw [HT.out]; exact hback)
                rw [HT.out, ← SZ.out, hR.out] at this
                exact this.symm
              have hbi : (t : Int) < (b : Int) := by omega
              clear hx hpl h0 h192 hz2 htc hu hti ht hback hR
              cases next with
              | none =>
                obtain rfl : v = -1 := hv.out.symm
                go_wp2_with fail
                refine (HG.out _).mono ?_
                rintro e w1 ⟨rfl, rfl⟩
                go_wp2_with fail
                refine (HG2.out _).mono ?_
                rintro e w1 ⟨rfl, rfl⟩
                go_wp2_with fail
                go_round
                case rel => exact ⟨t, t, some (p + 2), o, y, _, rfl, rfl, rfl, rfl, by omega, by omega, hy, by simp [Hid, nextI], by omega, hY, hol, hRb⟩
                case measure => simp [intOf]; omega
              | some n =>
                obtain rfl : v = (n : Int) := hv.out.symm
                have hn0 : (0 : Int) ≤ (n : Int) := by omega
                go_wp2_with fail
                refine (HG.out _).mono ?_
                rintro e w1 ⟨rfl, rfl⟩
                go_wp2_with fail
                refine (HG2.out _).mono ?_
                rintro e w1 ⟨rfl, rfl⟩
                go_wp2_with fail
                go_round
                case rel => exact ⟨t, t, some n, o, y, _, rfl, rfl, rfl, rfl, by omega, by omega, hy, rfl, by omega, hY, hol, hRb⟩
                case measure => simp [intOf]; omega
            · have hRe : Hid (R = .error 42) := by show _ = _; rw [← hR.out]; exact nm_ahead (by rw [hx]; exact h192) hin (by rw [HT.out]; omega)
              have hbi : (b : Int) ≤ (t : Int) := by omega
              clear hx hpl h0 h192 hz2 htc hu hti ht hback hR
              go_wp2_with fail
              refine (HG.out _).mono ?_
              rintro e w1 ⟨rfl, rfl⟩
              go_wp2_with fail
              refine (HG2.out _).mono ?_
              rintro e w1 ⟨rfl, rfl⟩
              go_wp2_with fail
              go_ret3
              rw [hRe.out]
              exact ⟨rfl, rfl⟩
          · have hRe : Hid (R = .error 2) := by show _ = _; rw [← hR.out]; exact nm_cut hlt (by rw [hx]; exact h192) (by omega)
            have HG2 := Lib.hid (fun w' => refget_no s p 2 w' hmx (.inr (.inr (holds_no (n := s.size) (p := p) (m := 2) (by omega)))))
            clear hx hpl h0 h192 hR
            go_wp2_with fail
            refine (HG.out _).mono ?_
            rintro e w1 ⟨rfl, rfl⟩
            go_wp2_with fail
            refine (HG2.out _).mono ?_
            rintro e w1 ⟨rfl, rfl⟩
            go_wp2_with fail
            go_ret3
            rw [hRe.out]
            exact ⟨rfl, rfl⟩
        · have hlt192 : (x : Int) < 192 := by omega
          by_cases h64 : 64 ≤ x
          · have hRe : Hid (R = .error 41) := by show _ = _; rw [← hR.out]; exact nm_label hlt (by rw [hx]; exact h64) (by rw [hx]; omega)
            have hgt : (64 : Int) ≤ x := by omega
            clear hx hpl h0 h192 h64 hR
            go_wp2_with fail
            refine (HG.out _).mono ?_
            rintro e w1 ⟨rfl, rfl⟩
            go_wp2_with fail
            go_ret3
            rw [hRe.out]
            exact ⟨rfl, rfl⟩
          · have hlt64 : (x : Int) < 64 := by omega
            by_cases hin : p + 1 + x ≤ s.size
            · obtain ⟨q, hq⟩ : ∃ q, s.extract p (p + (x + 1)) = q := ⟨_, rfl⟩
              have hql : q.size = x + 1 := by rw [← hq, ByteArray.size_extract]; omega
              have HP := Lib.hid (fun w' => refpart_eq s q p (x + 1) w' hmx (by omega) (Lib.hid hq))
              have HQ : Hid (q.data.toList = cut s.data.toList p (x + 1)) := by show _ = _; rw [← hq, cut_extract]
              by_cases hlong : 253 < y.size + x
              · have hRe : Hid (R = .error 40) := by show _ = _; rw [← hR.out]; exact nm_long (by rw [hx]; exact h0) (by rw [hx]; omega) (by rw [hx]; exact hin) (by rw [hx, hol.out]; exact hlong)
                have hli : (253 : Int) < (y.size : Int) + x := by omega
                clear hx hpl h0 h192 h64 hR hq hlong
                go_wp2_with fail
                refine (HG.out _).mono ?_
                rintro e w1 ⟨rfl, rfl⟩
                go_wp2_with fail
                refine (HP.out _).mono ?_
                rintro e w1 ⟨rfl, rfl⟩
                go_wp2_with fail
                go_ret3
                rw [hRe.out]
                exact ⟨rfl, rfl⟩
              · have hRm : Hid (nm s.data.toList s.size 2 (p + (x + 1)) b next (o ++ cut s.data.toList p (x + 1)) = R) := by
                  show _ = _
                  have := nm_more (l := s.data.toList) (E := s.size) (K := 2) (p := p) (b := b) (next := next) (o := o) (by rw [hx]; exact h0) (by rw [hx]; omega) (by rw [hx]; exact hin) (by rw [hx, hol.out]; omega)
                  rw [hx, hR.out, Nat.add_assoc, Nat.add_comm 1 x] at this
                  exact this.symm
                have hli : (y.size : Int) + x ≤ (253 : Int) := by omega
                have hcs : (y ++ q).size = y.size + (x + 1) := by rw [ByteArray.size_append, hql]
                have HCS := Lib.hid hcs
                have HCL : Hid ((y ++ q).data.toList = o ++ cut s.data.toList p (x + 1)) := by show _ = _; rw [cat_list, hY.out, HQ.out]
                clear hx hpl h0 h192 h64 hR hq hlong hcs
                go_wp2_with fail
                refine (HG.out _).mono ?_
                rintro e w1 ⟨rfl, rfl⟩
                go_wp2_with fail
                refine (HP.out _).mono ?_
                rintro e w1 ⟨rfl, rfl⟩
                go_wp2_with fail
                go_round
                case rel => exact ⟨p + (x + 1), b, next, _, y ++ q, v, by go_num, rfl, rfl, rfl, by omega, hb, by rw [HCS.out]; omega, hv, hvb, HCL, by (show _ = _; rw [← HCL.out, ← Lib.size_eq]), hRm⟩
                case measure => simp [intOf]; omega
            · have hRe : Hid (R = .error 2) := by show _ = _; rw [← hR.out]; exact nm_short hlt (by rw [hx]; omega) (by rw [hx]; omega)
              have HP := Lib.hid (fun w' => refpart_no s (p : Int) ((x + 1 : Nat) : Int) w' hmx (holds_no (by omega)))
              clear hx hpl h0 h192 h64 hR
              go_wp2_with fail
              refine (HG.out _).mono ?_
              rintro e w1 ⟨rfl, rfl⟩
              go_wp2_with fail
              refine (HP.out _).mono ?_
              rintro e w1 ⟨rfl, rfl⟩
              go_wp2_with fail
              go_ret3
              rw [hRe.out]
              exact ⟨rfl, rfl⟩
    · have hRe : Hid (R = .error 2) := by show _ = _; rw [← hR.out]; exact nm_lack (by omega)
      have HG2 := Lib.hid (fun w' => refget_no s p 1 w' hmx (.inr (.inr (holds_no (n := s.size) (p := p) (m := 1) (by omega)))))
      clear hR
      go_wp2_with fail
      refine (HG2.out _).mono ?_
      rintro e w1 ⟨rfl, rfl⟩
      go_wp2_with fail
      go_ret3
      rw [hRe.out]
      exact ⟨rfl, rfl⟩

theorem refNm_any (s : ByteArray) (p : Int) (R : Except Nat (List UInt8 × Nat)) (w : World) (hs : s.size ≤ 1000000) (hp1 : -9223372036854775808 ≤ p) (hp2 : p ≤ 9223372036854775807) (hR : Hid (nmAt s.data.toList p = R)) :
    Calls Try.prog 10 #[.string s, .int .i64 p] w (RefNmRet w R) := by
  by_cases hp : p < 0
  · have hRe : R = .error 2 := by rw [← hR.out]; unfold nmAt; rw [if_pos hp]
    have HG2 := Lib.hid (fun w' => refget_no s p 1 w' (by unfold maxLen; omega) (.inr (.inr (by simp [holdsB]; omega))))
    rw [hRe]
    clear hRe hR
    go_enter Try.func10, Try.ntmps10
    go_wp2_with fail
    go_loop [1, 7, 8, 9] (fun a b c d => a = .int .i64 p ∧ b = .int .i64 p ∧ c = .int .i64 (-1) ∧ d = .string ⟨#[]⟩) (fun _ _ _ _ => 0)
    case atStart => exact ⟨rfl, rfl, rfl, rfl⟩
    case round =>
      obtain ⟨rfl, rfl, rfl, rfl⟩ := hrel
      go_wp2_with fail
      refine (HG2.out _).mono ?_
      rintro e w1 ⟨rfl, rfl⟩
      go_wp2_with fail
      go_ret3
      exact ⟨rfl, rfl⟩
  · obtain ⟨n, rfl⟩ : ∃ n : Nat, p = n := ⟨p.toNat, by omega⟩
    refine refNm_nat s n R w hs (by omega) ?_
    show _ = _
    rw [← hR.out]
    unfold nmAt
    rw [if_neg (by omega), ← Lib.size_eq]
    rfl
end Go.Proofs.Ytngbifdenbfepaa
