/- The contracts of the document's ends and bare. For texts of at most 10^6 bytes. -/
import Derived.Test.YtngbifdenbfepaaProg
import Derived.Test.YtngbifdenbfepaaBytes
import Derived.Test.YtngbifdenbfepaaNmMath
import Derived.Test.YtngbifdenbfepaaNmAt
import Derived.Test.YtngbifdenbfepaaStMath
import Derived.Test.YtngbifdenbfepaaNumGet
import Derived.Test.YtngbifdenbfepaaNumRef
import Derived.Test.YtngbifdenbfepaaRefNm
import Derived.WalkKit
import Derived.Lib.Hide
import Derived.Outline
import Derived.IntWalk
import Derived.WalkSpells
import Derived.WalkLawsBesides
namespace Go.Proofs.Ytngbifdenbfepaa
open Go.RowKit NumMath NmMath Bytes StMath

theorem bt_byte {s : ByteArray} {p : Nat} (h : p < s.size) : bt s.data.toList p = s[p].toNat := by
  unfold bt
  rw [getD_byte h]

set_option maxHeartbeats 1000000 in
set_option maxRecDepth 100000 in
theorem ends_any (s : ByteArray) (p0 E : Nat) (R : Bool) (w : World) (hs : s.size ≤ 1000000) (hE : E ≤ s.size) (hp0 : p0 ≤ 1000000) (hR : Hid (ends s.data.toList E p0 = R)) :
    Calls Try.prog 61 #[.string s, .int .i64 p0, .int .i64 E] w fun e w' => e = .returned (.bool R) ∧ w = w' := by
  go_enter Try.func61, Try.ntmps61
  go_wp2_with fail
  go_loop [1] (fun a => ∃ p : Nat, a = .int .i64 p ∧ p ≤ 1000064 ∧ Hid (ends s.data.toList E p = R)) (fun a => 2000000 - (intOf a).toNat)
  case atStart => exact ⟨p0, rfl, by omega, hR⟩
  case round =>
    obtain ⟨p, rfl, hp, hR⟩ := hrel
    by_cases hlt : p < E
    · obtain ⟨x, hx⟩ : ∃ x, bt s.data.toList p = x := ⟨_, rfl⟩
      have hxl : x < 256 := by rw [← hx]; exact bt_lt _ _
      have hps : p < s.size := by omega
      have hb := bt_byte hps
      rw [hx] at hb
      obtain ⟨y, hy⟩ : ∃ y, s[p]'hps = y := ⟨_, rfl⟩
      rw [hy] at hb
      have hyx : (y.toNat : Int) = (x : Int) := by omega
      have HX := Lib.hid hx
      clear hx hb
      by_cases h192 : 192 ≤ x
      · have hRe := ends_ptr hlt (by rw [HX.out]; exact h192)
        have hge : (192 : Int) ≤ x := by omega
        rw [hR.out] at hRe
        by_cases h2 : p + 2 ≤ E
        · have h2i : (2 : Int) ≤ (E : Int) - p := by omega
          rw [decide_eq_true h2] at hRe
          subst hRe
          clear h192 h2
          have hd : decide ((2 : Int) ≤ (E : Int) - p) = true := decide_eq_true h2i
          go_wp2_with fail
          go_ret
          exact ⟨by first | rfl | (show Ending.returned (.bool (decide _)) = _; rw [hd]), rfl⟩
        · have h2i : (E : Int) - p < (2 : Int) := by omega
          rw [decide_eq_false h2] at hRe
          subst hRe
          clear h192 h2
          have hd : decide ((2 : Int) ≤ (E : Int) - p) = false := decide_eq_false (by omega)
          go_wp2_with fail
          go_ret
          exact ⟨by first | rfl | (show Ending.returned (.bool (decide _)) = _; rw [hd]), rfl⟩
      · have hlt192 : (x : Int) < 192 := by omega
        by_cases h0 : x = 0
        · have hRe := ends_here hlt (by rw [HX.out]; omega) (.inl (by rw [HX.out]; exact h0))
          rw [hR.out] at hRe
          subst hRe
          subst h0
          have hz : (((0 : Nat) : Int) == 0) = true := rfl
          clear h192
          go_wp2_with fail
          go_ret
          exact ⟨rfl, rfl⟩
        · have hz : ((x : Int) == 0) = false := beq_eq_false_iff_ne.2 (by omega)
          by_cases h64 : 64 ≤ x
          · have hRe := ends_here hlt (by rw [HX.out]; omega) (.inr (by rw [HX.out]; exact h64))
            rw [hR.out] at hRe
            subst hRe
            have hge : (64 : Int) ≤ x := by omega
            clear h192 h0 h64
            go_wp2_with fail
            go_ret
            exact ⟨rfl, rfl⟩
          · have hRm := ends_more hlt (by rw [HX.out]; exact h0) (by rw [HX.out]; omega)
            rw [hR.out, HX.out] at hRm
            have HRM : Hid (ends s.data.toList E (p + x + 1) = R) := hRm.symm
            have hlt64 : (x : Int) < 64 := by omega
            clear h192 h0 h64 hRm
            go_wp2_with fail
            go_round
            case rel => exact ⟨p + x + 1, by go_num, by omega, HRM⟩
            case measure => simp [intOf]; omega
    · have hRe := ends_not (l := s.data.toList) (E := E) (p := p) (by omega)
      rw [hR.out] at hRe
      subst hRe
      go_wp2_with fail
      go_ret
      exact ⟨rfl, rfl⟩

set_option maxHeartbeats 2000000 in
set_option maxRecDepth 100000 in
theorem bare_any (s : ByteArray) (p0 : Nat) (R : Except Nat (List UInt8 × Nat)) (w : World) (hs : s.size ≤ 1000000) (hp0 : p0 ≤ 1000000) (hR : Hid (bare s.data.toList s.size 2 p0 [] = R)) :
    Calls Try.prog 62 #[.string s, .int .i64 p0] w (RefNmRet w R) := by
  have SZ := Lib.hid (Lib.size_eq s)
  have hmx : s.size ≤ maxLen := by unfold maxLen; omega
  go_enter Try.func62, Try.ntmps62
  go_wp2_with fail
  go_loop [1, 7] (fun at_ out => ∃ (p : Nat) (o : List UInt8) (y : ByteArray), at_ = .int .i64 p ∧ out = .string y ∧ p ≤ 1000000 ∧ y.size ≤ 254 ∧ Hid (y.data.toList = o) ∧ Hid (o.length = y.size) ∧ Hid (bare s.data.toList s.size 2 p o = R)) (fun at_ _ => 1000001 - (intOf at_).toNat)
  case atStart => exact ⟨p0, [], ⟨#[]⟩, rfl, rfl, hp0, by decide, rfl, rfl, hR⟩
  case round =>
    obtain ⟨p, o, y, rfl, rfl, hp, hy, hY, hol, hR⟩ := hrel
    by_cases hlt : p < s.size
    · have hpl : p < s.data.toList.length := by rw [← SZ.out]; exact hlt
      obtain ⟨x, hx⟩ : ∃ x, bt s.data.toList p = x := ⟨_, rfl⟩
      have hxl : x < 256 := by rw [← hx]; exact bt_lt _ _
      have HG := Lib.hid (fun w' => by have := refget_yes s p 1 w' hmx (by decide) (by decide) (by omega); rwa [be_bt hpl, hx] at this)
      by_cases h0 : x = 0
      · subst h0
        have hRe : Hid (R = .ok (o ++ [0], p + 1)) := by show _ = _; rw [← hR.out]; exact bare_zero hlt hx
        have hcat : Hid (y ++ ⟨#[0]⟩ = mk (o ++ [0])) := by show _ = _; rw [← hY.out, ← mk_cat, mk_data]; rfl
        clear hx hpl
        go_wp2_with fail
        refine (HG.out _).mono ?_
        rintro e w1 ⟨rfl, rfl⟩
        go_wp2_with fail
        go_ret3
        rw [hRe.out]
        exact ⟨by rw [← hcat.out]; rfl, rfl⟩
      · have hz : ((x : Int) == 0) = false := beq_eq_false_iff_ne.2 (by omega)
        by_cases h192 : 192 ≤ x
        · have hge : (192 : Int) ≤ x := by omega
          have hRe : Hid (R = .error 50) := by show _ = _; rw [← hR.out]; exact bare_ptr hlt (by rw [hx]; exact h192)
          clear hx hpl h0 h192 hR
          go_wp2_with fail
          refine (HG.out _).mono ?_
          rintro e w1 ⟨rfl, rfl⟩
          go_wp2_with fail
          go_ret3
          rw [hRe.out]
          exact ⟨rfl, rfl⟩
        · have hlt192 : (x : Int) < 192 := by omega
          by_cases h64 : 64 ≤ x
          · have hRe : Hid (R = .error 41) := by show _ = _; rw [← hR.out]; exact bare_err (run_label hlt (by rw [hx]; exact h64) (by rw [hx]; omega))
            have hgt : (64 : Int) ≤ x := by omega
            clear hx hpl h0 h192 h64 hR
            go_wp2_with fail
            refine (HG.out _).mono ?_
            rintro e w1 ⟨rfl, rfl⟩
            go_wp2_with fail
            go_ret3
            rw [hRe.out]
            exact ⟨rfl, rfl⟩
          · have hlt64 : (x : Int) < 64 := by omega
            by_cases hin : p + 1 + x ≤ s.size
            · obtain ⟨q, hq⟩ : ∃ q, s.extract p (p + (x + 1)) = q := ⟨_, rfl⟩
              have hql : q.size = x + 1 := by rw [← hq, ByteArray.size_extract]; omega
              have HP := Lib.hid (fun w' => refpart_eq s q p (x + 1) w' hmx (by omega) (Lib.hid hq))
              have HQ : Hid (q.data.toList = cut s.data.toList p (x + 1)) := by show _ = _; rw [← hq, cut_extract]
              by_cases hlong : 253 < y.size + x
              · have hRe : Hid (R = .error 40) := by show _ = _; rw [← hR.out]; exact bare_err (run_long (by rw [hx]; exact h0) (by rw [hx]; omega) (by rw [hx]; exact hin) (by rw [hx, hol.out]; exact hlong))
                have hli : (253 : Int) < (y.size : Int) + x := by omega
                clear hx hpl h0 h192 h64 hR hq hlong
                go_wp2_with fail
                refine (HG.out _).mono ?_
                rintro e w1 ⟨rfl, rfl⟩
                go_wp2_with fail
                refine (HP.out _).mono ?_
                rintro e w1 ⟨rfl, rfl⟩
                go_wp2_with fail
                go_ret3
                rw [hRe.out]
                exact ⟨rfl, rfl⟩
              · have hRm : Hid (bare s.data.toList s.size 2 (p + (x + 1)) (o ++ cut s.data.toList p (x + 1)) = R) := by
                  show _ = _
                  have := bare_more (l := s.data.toList) (E := s.size) (K := 2) (p := p) (o := o) (by rw [hx]; exact h0) (by rw [hx]; omega) (by rw [hx]; exact hin) (by rw [hx, hol.out]; omega)
                  rw [hx, hR.out, Nat.add_assoc, Nat.add_comm 1 x] at this
                  exact this.symm
                have hli : (y.size : Int) + x ≤ (253 : Int) := by omega
                have hcs : (y ++ q).size = y.size + (x + 1) := by rw [ByteArray.size_append, hql]
                have HCS := Lib.hid hcs
                have HCL : Hid ((y ++ q).data.toList = o ++ cut s.data.toList p (x + 1)) := by show _ = _; rw [cat_list, hY.out, HQ.out]
                clear hx hpl h0 h192 h64 hR hq hlong hcs
                go_wp2_with fail
                refine (HG.out _).mono ?_
                rintro e w1 ⟨rfl, rfl⟩
                go_wp2_with fail
                refine (HP.out _).mono ?_
                rintro e w1 ⟨rfl, rfl⟩
                go_wp2_with fail
                go_round
                case rel => exact ⟨p + (x + 1), _, y ++ q, by go_num, rfl, by omega, by rw [HCS.out]; omega, HCL, by (show _ = _; rw [← HCL.out, ← Lib.size_eq]), hRm⟩
                case measure => simp [intOf]; omega
            · have hRe : Hid (R = .error 2) := by show _ = _; rw [← hR.out]; exact bare_err (run_short hlt (by rw [hx]; omega) (by rw [hx]; omega))
              have HP := Lib.hid (fun w' => refpart_no s (p : Int) ((x + 1 : Nat) : Int) w' hmx (holds_no (by omega)))
              clear hx hpl h0 h192 h64 hR
              go_wp2_with fail
              refine (HG.out _).mono ?_
              rintro e w1 ⟨rfl, rfl⟩
              go_wp2_with fail
              refine (HP.out _).mono ?_
              rintro e w1 ⟨rfl, rfl⟩
              go_wp2_with fail
              go_ret3
              rw [hRe.out]
              exact ⟨rfl, rfl⟩
    · have hRe : Hid (R = .error 2) := by show _ = _; rw [← hR.out]; exact bare_err (run_lack (by omega))
      have HG2 := Lib.hid (fun w' => refget_no s p 1 w' hmx (.inr (.inr (holds_no (n := s.size) (p := p) (m := 1) (by omega)))))
      clear hR
      go_wp2_with fail
      refine (HG2.out _).mono ?_
      rintro e w1 ⟨rfl, rfl⟩
      go_wp2_with fail
      go_ret3
      rw [hRe.out]
      exact ⟨rfl, rfl⟩
end Go.Proofs.Ytngbifdenbfepaa
