/- The contracts of a header block's reader: the next text, as it is or decoded. For blocks of at most 10^6 bytes. -/
import Derived.Test.YtamgnbjdeoklbaaProg
import Derived.Test.YtamgnbjdeoklbaaBytes
import Derived.Test.YtamgnbjdeoklbaaGrown
import Derived.Test.YtamgnbjdeoklbaaQuiet
import Derived.Test.YtamgnbjdeoklbaaNumHolds
import Derived.Test.YtamgnbjdeoklbaaNumPart
import Derived.Test.YtamgnbjdeoklbaaHfDecode
import Derived.Test.YtamgnbjdeoklbaaUpMath
import Derived.Test.YtamgnbjdeoklbaaUpRdr
import Derived.WalkKit
import Derived.Lib.Hide
import Derived.Laws.Rows
import Derived.Outline
import Derived.IntWalk
import Derived.WalkSpells
import Derived.WalkLawsBesides
import Derived.Deep.QuietTactic
import Derived.BigQuiet
import Derived.Deep.RegionHeld3
import Derived.Deep.Draws
namespace Go.Proofs.Ytamgnbjdeoklbaa
open Go.RowKit Bytes Tb Up

/-- A text came, or the reading gave up. -/
def TxtEnd (w : World) (r g : Nat) (s : ByteArray) : Except Nat (ByteArray × Nat) → Ending → World → Prop
  | .error x, e, w' => e = gave x ∧ w.grownBy w' (some r)
  | .ok (y, q), e, w' => e = .returned (.string y) ∧ RdAt w' r g s q ∧ w.grownBy w' (some r)
theorem part_rd (s t : ByteArray) (r g p n : Nat) (w : World) (h : RdAt w r g s p) (hs : s.size ≤ 1000000) (hi : p + n ≤ s.size) (ht : Hid (s.extract p (p + n) = t)) :
    Calls Try.prog 82 #[.string s, .int .i64 p, .int .i64 n] w fun e w' => e = .returned (.tuple #[.string t, .bool true]) ∧ w'.cell? ⟨r, 0, none⟩ = some (.string s) ∧ w'.cell? ⟨r, 1, none⟩ = some (.int .i64 p) ∧ Hid (RdAt w' r g s p) ∧ Below w.heap.size w w' :=
  (part_yes s p n w hs hi).mono fun _ _ ⟨he, hB⟩ => ⟨by rw [he, ht.out], (h.held hB).c0, (h.held hB).c1, h.held hB, hB⟩
theorem byte_at {s : ByteArray} {p : Nat} (h : p < s.size) : (s[p]'h).toNat = byteAt s.data.toList p := by
  unfold byteAt
  rw [getD_byte h]
theorem byteAt_lt (l : List UInt8) (p : Nat) : byteAt l p < 256 := (l.getD p 0).toNat_lt

set_option maxHeartbeats 2000000 in
set_option maxRecDepth 100000 in
theorem text_any (r g : Nat) (s : ByteArray) (p : Nat) (R : Except Nat (ByteArray × Nat)) (w : World) (h : RdAt w r g s p) (hs : s.size ≤ 1000000) (hp : p ≤ s.size) (hR : Hid (txt s p = R)) :
    Calls Try.prog 70 #[.pointer (some ⟨r, 0, none⟩)] w (TxtEnd w r g s R) := by
  obtain ⟨N, hN⟩ : ∃ N, num s.data.toList p 7 = N := ⟨_, rfl⟩
  have HI := Lib.hid (integer_any r g s p 7 N w h hs hp (by omega) (by omega) (Lib.hid hN))
  have hr := hR.out
  unfold txt at hr
  have c1 := h.c1
  clear hR
  cases N with
  | error x =>
    rw [hN] at hr
    simp only at hr
    subst hr
    clear hN
    go_enter Try.func70, Try.ntmps70
    go_wp2_with fail
    refine HI.out.mono ?_
    rintro e w1 ⟨rfl, hG⟩
    go_wp2_with fail
    exact ⟨rfl, rfl, hG⟩
  | ok mq =>
    obtain ⟨m, q⟩ := mq
    obtain ⟨b1, b2, b3, b4⟩ := num_ok hN
    rw [← size_list] at b1 b3
    rw [hN] at hr
    simp only at hr
    have hcv : IntKind.i64.wrap (m : Int) = (m : Int) := by rw [IntKind.wrap_i64]; omega
    have hb := byte_at b1
    have hbl := byteAt_lt s.data.toList p
    obtain ⟨c, hc⟩ : ∃ c, byteAt s.data.toList p = c := ⟨_, rfl⟩
    rw [hc] at hr hb hbl
    obtain ⟨u, hu⟩ : ∃ u, s[p]'b1 = u := ⟨_, rfl⟩
    rw [hu] at hb
    clear hN hc
    by_cases hin : q + m ≤ s.size
    · rw [if_pos hin] at hr
      obtain ⟨t, ht⟩ : ∃ t, s.extract q (q + m) = t := ⟨_, rfl⟩
      have htl : t.size ≤ 1000000 := by rw [← ht, ByteArray.size_extract]; omega
      rw [ht] at hr
      have HT := Lib.hid ht
      have had : IntKind.i64.wrap ((q : Int) + (m : Int)) = ((q + m : Nat) : Int) := by rw [IntKind.wrap_i64]; omega
      have hpi : (p : Int) < s.size := by omega
      have hp0 : (0 : Int) ≤ (p : Int) := by omega
      have HR := Lib.hid hr
      clear hr ht hp
      by_cases hlow : c < 128
      · have hRe := HR.out
        rw [if_pos hlow] at hRe
        have HRE := Lib.hid hRe
        have hlt : (u.toNat : Int) < 128 := by omega
        clear hRe HR
        go_enter Try.func70, Try.ntmps70
        go_wp2_with fail
        refine HI.out.mono ?_
        rintro e w1 ⟨rfl, hA, hG⟩
        have d0 := hA.c0
        have d1 := hA.c1
        have HA := Lib.hid hA
        have HG := Lib.hid hG
        clear hA hG c1
        go_wp2_with fail
        go_region_held3 (fun w' => w'.cell? ⟨r, 0, none⟩ = some (.string s) ∧ w'.cell? ⟨r, 1, none⟩ = some (.int .i64 q)) (go_keep)
          (first | (go_at_call 82; refine (part_rd s t r g q m _ ?_ hs hin HT).mono ?_; exact HA.out; rintro e w2 ⟨rfl, hk1, hk2, hK, hB⟩))
        have hfz := hK.out.fz 1
        have HK2 := Lib.hid (hK.out.set (q + m))
        have e0 := HK2.out.c0
        have HG2 := Lib.hid (grown_trans HG.out (only_setCell (g := r) (only_of_below (((Below.refl _ w1).drew).trans hB) _) (p := ⟨r, 1, none⟩) (.inl rfl) (.int .i64 ((q + m : Nat) : Int))))
        clear hB hK
        go_wp2_with fail
        go_ret
        rw [← HRE.out]
        exact ⟨rfl, HK2.out, HG2.out⟩
      · have hge : ¬ ((u.toNat : Int) < 128) := by omega
        have hRe := HR.out
        rw [if_neg hlow] at hRe
        have HRE := Lib.hid hRe
        have HD := Lib.hid (fun w' => decode_is t (mk (Hf.decT (Hf.decode t.data.toList))) (Hf.decC (Hf.decode t.data.toList)) w' htl (Lib.hid rfl) (Lib.hid rfl))
        unfold unp at HRE
        clear hRe HR
        obtain ⟨D, hD⟩ : ∃ D, Hf.decode t.data.toList = D := ⟨_, rfl⟩
        rw [hD] at HRE HD
        clear hD
        cases D with
        | none =>
          have hRe : R = .error 91 := HRE.out.symm
          subst hRe
          go_enter Try.func70, Try.ntmps70
          go_wp2_with fail
          refine HI.out.mono ?_
          rintro e w1 ⟨rfl, hA, hG⟩
          have d0 := hA.c0
          have d1 := hA.c1
          have HA := Lib.hid hA
          have HG := Lib.hid hG
          clear hA hG c1
          go_wp2_with fail
          go_region_held3 (fun w' => w'.cell? ⟨r, 0, none⟩ = some (.string s) ∧ w'.cell? ⟨r, 1, none⟩ = some (.int .i64 q)) (go_keep)
            (first | (go_at_call 82; refine (part_rd s t r g q m _ ?_ hs hin HT).mono ?_; exact HA.out; rintro e w2 ⟨rfl, hk1, hk2, hK, hB⟩))
          have hfz := hK.out.fz 1
          have HK2 := Lib.hid (hK.out.set (q + m))
          have e0 := HK2.out.c0
          have HG2 := Lib.hid (grown_trans HG.out (only_setCell (g := r) (only_of_below (((Below.refl _ w1).drew).trans hB) _) (p := ⟨r, 1, none⟩) (.inl rfl) (.int .i64 ((q + m : Nat) : Int))))
          clear hB hK
          go_wp2_with fail
          refine (HD.out _).mono ?_
          rintro e w3 ⟨rfl, hB3⟩
          have HG3 := Lib.hid (grown_trans HG2.out (only_of_below hB3 (some r)))
          clear hB3
          go_wp2_with fail
          exact ⟨rfl, rfl, HG3.out⟩
        | some y =>
          have hRe : R = .ok (mk y, q + m) := HRE.out.symm
          subst hRe
          go_enter Try.func70, Try.ntmps70
          go_wp2_with fail
          refine HI.out.mono ?_
          rintro e w1 ⟨rfl, hA, hG⟩
          have d0 := hA.c0
          have d1 := hA.c1
          have HA := Lib.hid hA
          have HG := Lib.hid hG
          clear hA hG c1
          go_wp2_with fail
          go_region_held3 (fun w' => w'.cell? ⟨r, 0, none⟩ = some (.string s) ∧ w'.cell? ⟨r, 1, none⟩ = some (.int .i64 q)) (go_keep)
            (first | (go_at_call 82; refine (part_rd s t r g q m _ ?_ hs hin HT).mono ?_; exact HA.out; rintro e w2 ⟨rfl, hk1, hk2, hK, hB⟩))
          have hfz := hK.out.fz 1
          have HK2 := Lib.hid (hK.out.set (q + m))
          have e0 := HK2.out.c0
          have HG2 := Lib.hid (grown_trans HG.out (only_setCell (g := r) (only_of_below (((Below.refl _ w1).drew).trans hB) _) (p := ⟨r, 1, none⟩) (.inl rfl) (.int .i64 ((q + m : Nat) : Int))))
          clear hB hK
          go_wp2_with fail
          refine (HD.out _).mono ?_
          rintro e w3 ⟨rfl, hB3⟩
          have HG3 := Lib.hid (grown_trans HG2.out (only_of_below hB3 (some r)))
          have HK3 := Lib.hid (HK2.out.held hB3)
          clear hB3
          go_wp2_with fail
          go_ret
          exact ⟨rfl, HK3.out, HG3.out⟩
    · rw [if_neg hin] at hr
      subst hr
      have hno : holdsB s.size q m = false := by simp [holdsB]; omega
      have HNO := Lib.hid hno
      have hq : q ≤ 1000000 := by omega
      clear hno hin hp
      go_enter Try.func70, Try.ntmps70
      go_wp2_with fail
      refine HI.out.mono ?_
      rintro e w1 ⟨rfl, hA, hG⟩
      have d0 := hA.c0
      have d1 := hA.c1
      have HG := Lib.hid hG
      clear hA hG c1
      go_wp2_with fail
      go_quiet ((go_at_call 82; exact quiet_left (part_no s q m _ hs (by omega) (by omega) (by omega) (by omega) HNO.out)))
      go_wp2_with fail
      exact ⟨rfl, rfl, grown_drewN HG.out _⟩
end Go.Proofs.Ytamgnbjdeoklbaa
