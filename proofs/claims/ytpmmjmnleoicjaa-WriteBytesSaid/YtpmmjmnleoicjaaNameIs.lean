/- The contract of name's Is; what stands at a place of a name's bytes tells of the whole. For texts of at most 10^6 bytes. -/
import Derived.Test.YtpmmjmnleoicjaaProg
import Derived.Test.YtpmmjmnleoicjaaBytes
import Derived.Test.YtpmmjmnleoicjaaStrs
import Derived.Test.YtpmmjmnleoicjaaNameMath
import Derived.Test.YtpmmjmnleoicjaaNameLbs
import Derived.WalkKit
import Derived.Lib.Hide
import Derived.Outline
import Derived.IntWalk
import Derived.WalkSpells
import Derived.WalkLawsBesides
namespace Go.Proofs.Ytpmmjmnleoicjaa
open Go.RowKit Bytes Strs NameMath

theorem behind_any (s : ByteArray) (k : Nat) (c : UInt8) (w : World) (hs : s.size ≤ 1000000) (hk : k < s.size) (hc : Hid (s.data.toList.getD k 0 = c)) :
    Calls Try.prog 88 #[.string s, .int .i64 k] w fun e w' => e = .returned (.int .i64 ((k : Int) + 1 + (c.toNat : Int))) ∧ w = w' := by
  have hl := c.toNat_lt
  have hx0 := getD_byte hk
  rw [hc.out] at hx0
  have hx : s[k]'hk = c := hx0.symm
  clear hx0
  go_enter Try.func88, Try.ntmps88
  go_wp2_with fail
  go_ret
  exact ⟨rfl, rfl⟩


set_option maxHeartbeats 2000000 in
set_option maxRecDepth 100000 in
theorem is_any (s : ByteArray) (w : World) (hs : s.size ≤ 1000000) :
    Calls Try.prog 49 #[.string s] w fun e w' => e = .returned (.bool (isN s.data.toList)) ∧ w = w' := by
  obtain ⟨r, hr⟩ : ∃ r, r = isN s.data.toList := ⟨_, rfl⟩
  rw [← hr]
  have hsz := Lib.size_eq s
  by_cases hlong : (255 : Int) < s.size
  · obtain rfl : r = false := hr.trans (isN_long (by omega))
    clear hr hsz
    go_enter Try.func49, Try.ntmps49
    go_wp2_with fail
    go_ret
    exact ⟨rfl, rfl⟩
  have R := Lib.hid (hr.trans (isN_short (by omega)))
  have SZ := Lib.hid hsz
  clear hr hsz
  go_enter Try.func49, Try.ntmps49
  go_wp2_with fail
  go_loop [3] (fun i => ∃ k : Nat, i = .int .i64 k ∧ k ≤ s.size + 64 ∧ Hid (IsRel s.data.toList k)) (fun i => s.size + 64 - (intOf i).toNat)
  case atStart => exact ⟨0, rfl, Nat.zero_le _, Lib.hid (Or.inl ⟨Nat.zero_le _, rfl⟩)⟩
  case round =>
    obtain ⟨k, rfl, hk, hR⟩ := hrel
    by_cases hlt : k < s.size
    · have hkl : k < s.data.toList.length := by rw [← SZ.out]; exact hlt
      have hx0 := getD_byte hlt
      generalize hx1 : s.data.toList.getD k 0 = x at hx0
      have hx : s[k]'hlt = x := hx0.symm
      have HX := Lib.hid hx1
      clear hx0 hx1
      have hlx := x.toNat_lt
      by_cases h0 : x.toNat = 0
      · have hE := R.out.trans (isRel_zero hR.out hkl HX.out h0)
        have hq : ((k : Int) == (s.size : Int) - 1) = r := by
          rw [hE, ← SZ.out]
          by_cases e : k + 1 = s.size
          · rw [decide_eq_true e]; exact beq_iff_eq.2 (by omega)
          · rw [decide_eq_false e]; exact beq_eq_false_iff_ne.2 (by omega)
        have hz : ((x.toNat : Int) != 0) = false := bne_eq_false_iff_eq.2 (by omega)
        clear h0 hE hkl hR
        go_wp2_with fail
        go_ret
        exact ⟨rfl, rfl⟩
      · have hz : ((x.toNat : Int) != 0) = true := bne_iff_ne.2 (by omega)
        by_cases h63 : 63 < x.toNat
        · obtain rfl : r = false := R.out.trans (isRel_bad hR.out hkl HX.out h0 h63)
          have h63i : (63 : Int) < x.toNat := by omega
          clear h0 h63 hkl hR
          go_wp2_with fail
          go_ret
          exact ⟨rfl, rfl⟩
        · have hR2 := Lib.hid (isRel_step hR.out hkl HX.out h0 (by omega))
          have h63i : ¬ (63 : Int) < x.toNat := by omega
          clear h0 hkl hR
          go_wp2_with fail
          refine (behind_any s k x _ hs hlt HX).mono ?_
          rintro e w' ⟨rfl, rfl⟩
          go_wp2_with fail
          go_round
          case rel => exact ⟨k + 1 + x.toNat, by go_num, by omega, hR2⟩
          case measure => simp [intOf]; omega
    · obtain rfl : r = false := R.out.trans (isRel_end hR.out (by rw [← SZ.out]; omega))
      have hq : ((k : Int) == (s.size : Int) - 1) = false := beq_eq_false_iff_ne.2 (by omega)
      clear hR
      go_wp2_with fail
      go_ret
      exact ⟨rfl, rfl⟩

theorem is_is (s : ByteArray) (q : Bool) (w : World) (hs : s.size ≤ 1000000) (hq : Hid (isN s.data.toList = q)) :
    Calls Try.prog 49 #[.string s] w fun e w' => e = .returned (.bool q) ∧ w = w' := by
  have := is_any s w hs
  rwa [hq.out] at this
end Go.Proofs.Ytpmmjmnleoicjaa
