/- Texts of one proof, one behind the other: NumRef, RefNm, RefSt, RefNumbers, RefEnds, RefNames. -/
import Derived.Test.YtihkmdojakalbaaProg
import Derived.Test.YtihkmdojakalbaaNumGet
import Derived.Test.YtihkmdojakalbaaBytes
import Derived.Test.YtihkmdojakalbaaNmMath
import Derived.Test.YtihkmdojakalbaaNmAt
import Derived.Test.YtihkmdojakalbaaWriteBackProofG1
import Derived.Test.YtihkmdojakalbaaGrown
import Derived.Test.YtihkmdojakalbaaQuiet
import Derived.Test.YtihkmdojakalbaaNums
import Derived.Test.YtihkmdojakalbaaOwnRow
import Derived.Test.YtihkmdojakalbaaKept
import Derived.Test.YtihkmdojakalbaaStrs
import Derived.WalkKit
import Derived.Lib.Hide
import Derived.Lib.Strings
import Derived.Outline
import Derived.IntWalk
import Derived.WalkSpells
import Derived.WalkLawsBesides
import Derived.Laws.Rows
import Derived.Deep.QuietTactic
import Derived.BigQuiet
import Derived.Deep.Draws
import Derived.Laws.AppendOwn

/- The contracts of the document's Get: what stands at a place of a text, or nothing. For texts of at most 2^63 - 1 bytes. -/
namespace Go.Proofs.Ytihkmdojakalbaa
open Go.RowKit NumMath

theorem refget_no (s : ByteArray) (at_ size : Int) (w : World) (hs : s.size ≤ maxLen)
    (hno : size < 1 ∨ 8 < size ∨ holdsB s.size at_ size = false) :
    Calls Try.prog 52 #[.string s, .int .i64 at_, .int .i64 size] w fun e w' => e = .returned (.tuple #[.int .u64 0, .bool false]) ∧ w = w' := by
  by_cases h1 : size < 1
  · clear hno
    go_enter Try.func52, Try.ntmps52
    go_wp2_with fail
    go_ret2
    exact ⟨rfl, rfl⟩
  · by_cases h2 : 8 < size
    · clear hno
      go_enter Try.func52, Try.ntmps52
      go_wp2_with fail
      go_ret2
      exact ⟨rfl, rfl⟩
    · have h3 : holdsB s.size at_ size = false := by
        rcases hno with h | h | h
        · omega
        · omega
        · exact h
      clear hno
      have H := Lib.hid h3; clear h3
      go_enter Try.func52, Try.ntmps52
      go_wp2_with fail
      refine (refpart_no s at_ size _ hs H.out).mono ?_
      rintro e w' ⟨rfl, rfl⟩
      go_wp2_with fail
      go_ret2
      exact ⟨rfl, rfl⟩

theorem refpart_eq (s t : ByteArray) (i n : Nat) (w : World) (hs : s.size ≤ maxLen) (hi : i + n ≤ s.size) (h : Hid (s.extract i (i + n) = t)) :
    Calls Try.prog 73 #[.string s, .int .i64 i, .int .i64 n] w fun e w' => e = .returned (.tuple #[.string t, .bool true]) ∧ w = w' := by
  have := refpart_yes s i n w hs hi
  rwa [h.out] at this

theorem refget_yes (s : ByteArray) (i n : Nat) (w : World) (hs : s.size ≤ maxLen) (hn1 : 1 ≤ n) (hn : n ≤ 8) (hi : i + n ≤ s.size) :
    Calls Try.prog 52 #[.string s, .int .i64 i, .int .i64 n] w fun e w' => e = .returned (.tuple #[.int .u64 (be ((s.data.toList.drop i).take n) : Nat), .bool true]) ∧ w = w' := by
  obtain ⟨t, ht⟩ : ∃ t, s.extract i (i + n) = t := ⟨_, rfl⟩
  have hsz : t.size = n := by rw [← ht, ByteArray.size_extract]; omega
  have hlist : (t.data.toList.drop 0).take n = (s.data.toList.drop i).take n := by
    rw [← ht, Lib.extract_data, List.drop_zero, Nat.add_sub_cancel_left, List.take_take, Nat.min_self]
  have HT := Lib.hid ht; clear ht
  have HL := Lib.hid hlist; clear hlist
  obtain ⟨x, hx⟩ : ∃ x, x = be ((s.data.toList.drop i).take n) := ⟨_, rfl⟩
  rw [← hx]
  have HX := Lib.hid hx; clear hx
  go_enter Try.func52, Try.ntmps52
  go_wp2_with fail
  refine (refpart_eq s t i n _ hs hi HT).mono ?_
  rintro e w' ⟨rfl, rfl⟩
  go_wp2_with fail
  go_loop [10, 11] (fun r k => ∃ j : Nat, j ≤ n ∧ k = .int .i64 j ∧ r = .int .u64 (be ((t.data.toList.drop 0).take j) : Nat)) (fun _ k => n - (intOf k).toNat)
  case atStart => exact ⟨0, Nat.zero_le _, rfl, rfl⟩
  case round =>
    obtain ⟨j, hj, rfl, rfl⟩ := hrel
    by_cases hlt : j < n
    · have hl : (j : Int) < t.size := by omega
      have hr := mul_round t 0 j (by omega) (by omega)
      have HR := Lib.hid hr; clear hr
      go_wp2_with fail
      go_round
      case rel => exact ⟨j + 1, by omega, by go_num, by rw [← HR.out]; simp⟩
      case measure => simp [intOf]; omega
    · have hjn : j = n := by omega
      subst hjn
      have e : x = be (List.take j t.data.toList) := by rw [HX.out, ← HL.out, List.drop_zero]
      have E := Lib.hid e; clear e
      go_wp2_with fail
      go_ret2
      exact ⟨by rw [E.out]; rfl, rfl⟩
end Go.Proofs.Ytihkmdojakalbaa

/- The contract of the document's Name in a message. For texts of at most 10^6 bytes. -/
namespace Go.Proofs.Ytihkmdojakalbaa
open Go.RowKit NumMath NmMath Bytes

theorem be_two {l : List UInt8} {p : Nat} (h : p + 1 < l.length) : be ((l.drop p).take 2) = bt l p * 256 + bt l (p + 1) := by
  rw [drop_cons (by omega), drop_cons h]
  unfold bt be
  simp
/-- The place behind a name, as the document's Name has it while none is known: -1. -/
def nextI : Option Nat → Int
  | none => -1
  | some n => n
/-- The document's answer. -/
def RefNmRet (w : World) : Except Nat (List UInt8 × Nat) → Ending → World → Prop
  | .error x, e, w' => e = .returned (.tuple #[.string ⟨#[]⟩, .int .i64 0, .int .i64 x]) ∧ w = w'
  | .ok (o, n), e, w' => e = .returned (.tuple #[.string (mk o), .int .i64 n, .int .i64 0]) ∧ w = w'

set_option maxHeartbeats 4000000 in
set_option maxRecDepth 100000 in
theorem refNm_nat (s : ByteArray) (p0 : Nat) (R : Except Nat (List UInt8 × Nat)) (w : World) (hs : s.size ≤ 1000000) (hp0 : p0 ≤ 9223372036854775807) (hR : Hid (nm s.data.toList s.size 2 p0 p0 none [] = R)) :
    Calls Try.prog 53 #[.string s, .int .i64 p0] w (RefNmRet w R) := by
  have SZ := Lib.hid (Lib.size_eq s)
  have hmx : s.size ≤ maxLen := by unfold maxLen; omega
  go_enter Try.func53, Try.ntmps53
  go_wp2_with fail
  go_loop [1, 7, 8, 9] (fun at_ bg nx out => ∃ (p b : Nat) (next : Option Nat) (o : List UInt8) (y : ByteArray) (v : Int), at_ = .int .i64 p ∧ bg = .int .i64 b ∧ nx = .int .i64 v ∧ out = .string y ∧ p ≤ 9223372036854775807 ∧ b ≤ 9223372036854775807 ∧ y.size ≤ 254 ∧ Hid (nextI next = v) ∧ (v = -1 ∨ (0 ≤ v ∧ v ≤ 1000002)) ∧ Hid (y.data.toList = o) ∧ Hid (o.length = y.size) ∧ Hid (nm s.data.toList s.size 2 p b next o = R)) (fun at_ bg _ _ => (intOf bg).toNat * 2000000 + (1000000 - (intOf at_).toNat))
  case atStart => exact ⟨p0, p0, none, [], ⟨#[]⟩, -1, rfl, rfl, rfl, rfl, hp0, hp0, by decide, rfl, .inl rfl, rfl, rfl, hR⟩
  case round =>
    obtain ⟨p, b, next, o, y, v, rfl, rfl, rfl, rfl, hp, hb, hy, hv, hvb, hY, hol, hR⟩ := hrel
    by_cases hlt : p < s.size
    · have hpl : p < s.data.toList.length := by rw [← SZ.out]; exact hlt
      obtain ⟨x, hx⟩ : ∃ x, bt s.data.toList p = x := ⟨_, rfl⟩
      have HX := Lib.hid hx
      have hxl : x < 256 := by rw [← hx]; exact bt_lt _ _
      have HG := Lib.hid (fun w' => by have := refget_yes s p 1 w' hmx (by decide) (by decide) (by omega); rwa [be_bt hpl, hx] at this)
      by_cases h0 : x = 0
      · subst h0
        have hRe : Hid (R = .ok (o ++ [0], next.getD (p + 1))) := by show _ = _; rw [← hR.out]; exact nm_zero hlt hx
        have hcat : Hid (y ++ ⟨#[0]⟩ = mk (o ++ [0])) := by show _ = _; rw [← hY.out, ← mk_cat, mk_data]; rfl
        clear hx hpl
        cases next with
        | none =>
          obtain rfl : v = -1 := hv.out.symm
          go_wp2_with fail
          refine (HG.out _).mono ?_
          rintro e w1 ⟨rfl, rfl⟩
          go_wp2_with fail
          go_ret3
          rw [hRe.out]
          exact ⟨by rw [← hcat.out]; rfl, rfl⟩
        | some n =>
          obtain rfl : v = (n : Int) := hv.out.symm
          have hn0 : (0 : Int) ≤ (n : Int) := by omega
          go_wp2_with fail
          refine (HG.out _).mono ?_
          rintro e w1 ⟨rfl, rfl⟩
          go_wp2_with fail
          go_ret3
          rw [hRe.out]
          exact ⟨by rw [← hcat.out]; rfl, rfl⟩
      · have hz : ((x : Int) == 0) = false := beq_eq_false_iff_ne.2 (by omega)
        by_cases h192 : 192 ≤ x
        · have hge : (192 : Int) ≤ x := by omega
          by_cases hin : p + 2 ≤ s.size
          · obtain ⟨z, hz2⟩ : ∃ z, bt s.data.toList (p + 1) = z := ⟨_, rfl⟩
            have hzl : z < 256 := by rw [← hz2]; exact bt_lt _ _
            have HG2 := Lib.hid (fun w' => by have := refget_yes s p 2 w' hmx (by decide) (by decide) (by omega); rwa [be_two (by rw [← SZ.out]; omega), hx, hz2] at this)
            obtain ⟨t, ht⟩ : ∃ t, place s.data.toList p = t := ⟨_, rfl⟩
            have htc : t = (x - 192) * 256 + z := by rw [← ht, ← hx, ← hz2]; rfl
            have hti : ((x * 256 + z : Nat) : Int) - 49152 = (t : Int) := by omega
            obtain ⟨u, hu⟩ : ∃ u, x * 256 + z = u := ⟨_, rfl⟩
            rw [hu] at HG2 hti
            have hul : u < 65536 := by omega
            have huc : (u : Int) - 49152 = (t : Int) := hti
            have HT := Lib.hid ht
            by_cases hback : t < b
            · have hRb : Hid (nm s.data.toList s.size 2 t t (some (next.getD (p + 2))) o = R) := by
                have := nm_back (b := b) (next := next) (o := o) (K := 2) (E := s.size) (l := s.data.toList) (p := p) (by rw [hx]; exact h192) hin (by rw [HT.out]; exact hback)
                rw [HT.out, ← SZ.out, hR.out] at this
                exact this.symm
              have hbi : (t : Int) < (b : Int) := by omega
              clear hx hpl h0 h192 hz2 htc hu hti ht hback hR
              cases next with
              | none =>
                obtain rfl : v = -1 := hv.out.symm
                go_wp2_with fail
                refine (HG.out _).mono ?_
                rintro e w1 ⟨rfl, rfl⟩
                go_wp2_with fail
                refine (HG2.out _).mono ?_
                rintro e w1 ⟨rfl, rfl⟩
                go_wp2_with fail
                go_round
                case rel => exact ⟨t, t, some (p + 2), o, y, _, rfl, rfl, rfl, rfl, by omega, by omega, hy, by simp [Hid, nextI], by omega, hY, hol, hRb⟩
                case measure => simp [intOf]; omega
              | some n =>
                obtain rfl : v = (n : Int) := hv.out.symm
                have hn0 : (0 : Int) ≤ (n : Int) := by omega
                go_wp2_with fail
                refine (HG.out _).mono ?_
                rintro e w1 ⟨rfl, rfl⟩
                go_wp2_with fail
                refine (HG2.out _).mono ?_
                rintro e w1 ⟨rfl, rfl⟩
                go_wp2_with fail
                go_round
                case rel => exact ⟨t, t, some n, o, y, _, rfl, rfl, rfl, rfl, by omega, by omega, hy, rfl, by omega, hY, hol, hRb⟩
                case measure => simp [intOf]; omega
            · have hRe : Hid (R = .error 42) := by show _ = _; rw [← hR.out]; exact nm_ahead (by rw [hx]; exact h192) hin (by rw [HT.out]; omega)
              have hbi : (b : Int) ≤ (t : Int) := by omega
              clear hx hpl h0 h192 hz2 htc hu hti ht hback hR
              go_wp2_with fail
              refine (HG.out _).mono ?_
              rintro e w1 ⟨rfl, rfl⟩
              go_wp2_with fail
              refine (HG2.out _).mono ?_
              rintro e w1 ⟨rfl, rfl⟩
              go_wp2_with fail
              go_ret3
              rw [hRe.out]
              exact ⟨rfl, rfl⟩
          · have hRe : Hid (R = .error 2) := by show _ = _; rw [← hR.out]; exact nm_cut hlt (by rw [hx]; exact h192) (by omega)
            have HG2 := Lib.hid (fun w' => refget_no s p 2 w' hmx (.inr (.inr (holds_no (n := s.size) (p := p) (m := 2) (by omega)))))
            clear hx hpl h0 h192 hR
            go_wp2_with fail
            refine (HG.out _).mono ?_
            rintro e w1 ⟨rfl, rfl⟩
            go_wp2_with fail
            refine (HG2.out _).mono ?_
            rintro e w1 ⟨rfl, rfl⟩
            go_wp2_with fail
            go_ret3
            rw [hRe.out]
            exact ⟨rfl, rfl⟩
        · have hlt192 : (x : Int) < 192 := by omega
          by_cases h64 : 64 ≤ x
          · have hRe : Hid (R = .error 41) := by show _ = _; rw [← hR.out]; exact nm_label hlt (by rw [hx]; exact h64) (by rw [hx]; omega)
            have hgt : (64 : Int) ≤ x := by omega
            clear hx hpl h0 h192 h64 hR
            go_wp2_with fail
            refine (HG.out _).mono ?_
            rintro e w1 ⟨rfl, rfl⟩
            go_wp2_with fail
            go_ret3
            rw [hRe.out]
            exact ⟨rfl, rfl⟩
          · have hlt64 : (x : Int) < 64 := by omega
            by_cases hin : p + 1 + x ≤ s.size
            · obtain ⟨q, hq⟩ : ∃ q, s.extract p (p + (x + 1)) = q := ⟨_, rfl⟩
              have hql : q.size = x + 1 := by rw [← hq, ByteArray.size_extract]; omega
              have HP := Lib.hid (fun w' => refpart_eq s q p (x + 1) w' hmx (by omega) (Lib.hid hq))
              have HQ : Hid (q.data.toList = cut s.data.toList p (x + 1)) := by show _ = _; rw [← hq, cut_extract]
              by_cases hlong : 253 < y.size + x
              · have hRe : Hid (R = .error 40) := by show _ = _; rw [← hR.out]; exact nm_long (by rw [hx]; exact h0) (by rw [hx]; omega) (by rw [hx]; exact hin) (by rw [hx, hol.out]; exact hlong)
                have hli : (253 : Int) < (y.size : Int) + x := by omega
                clear hx hpl h0 h192 h64 hR hq hlong
                go_wp2_with fail
                refine (HG.out _).mono ?_
                rintro e w1 ⟨rfl, rfl⟩
                go_wp2_with fail
                refine (HP.out _).mono ?_
                rintro e w1 ⟨rfl, rfl⟩
                go_wp2_with fail
                go_ret3
                rw [hRe.out]
                exact ⟨rfl, rfl⟩
              · have hRm : Hid (nm s.data.toList s.size 2 (p + (x + 1)) b next (o ++ cut s.data.toList p (x + 1)) = R) := by
                  show _ = _
                  have := nm_more (l := s.data.toList) (E := s.size) (K := 2) (p := p) (b := b) (next := next) (o := o) (by rw [hx]; exact h0) (by rw [hx]; omega) (by rw [hx]; exact hin) (by rw [hx, hol.out]; omega)
                  rw [hx, hR.out, Nat.add_assoc, Nat.add_comm 1 x] at this
                  exact this.symm
                have hli : (y.size : Int) + x ≤ (253 : Int) := by omega
                have hcs : (y ++ q).size = y.size + (x + 1) := by rw [ByteArray.size_append, hql]
                have HCS := Lib.hid hcs
                have HCL : Hid ((y ++ q).data.toList = o ++ cut s.data.toList p (x + 1)) := by show _ = _; rw [cat_list, hY.out, HQ.out]
                clear hx hpl h0 h192 h64 hR hq hlong hcs
                go_wp2_with fail
                refine (HG.out _).mono ?_
                rintro e w1 ⟨rfl, rfl⟩
                go_wp2_with fail
                refine (HP.out _).mono ?_
                rintro e w1 ⟨rfl, rfl⟩
                go_wp2_with fail
                go_round
                case rel => exact ⟨p + (x + 1), b, next, _, y ++ q, v, by go_num, rfl, rfl, rfl, by omega, hb, by rw [HCS.out]; omega, hv, hvb, HCL, by (show _ = _; rw [← HCL.out, ← Lib.size_eq]), hRm⟩
                case measure => simp [intOf]; omega
            · have hRe : Hid (R = .error 2) := by show _ = _; rw [← hR.out]; exact nm_short hlt (by rw [hx]; omega) (by rw [hx]; omega)
              have HP := Lib.hid (fun w' => refpart_no s (p : Int) ((x + 1 : Nat) : Int) w' hmx (holds_no (by omega)))
              clear hx hpl h0 h192 h64 hR
              go_wp2_with fail
              refine (HG.out _).mono ?_
              rintro e w1 ⟨rfl, rfl⟩
              go_wp2_with fail
              refine (HP.out _).mono ?_
              rintro e w1 ⟨rfl, rfl⟩
              go_wp2_with fail
              go_ret3
              rw [hRe.out]
              exact ⟨rfl, rfl⟩
    · have hRe : Hid (R = .error 2) := by show _ = _; rw [← hR.out]; exact nm_lack (by omega)
      have HG2 := Lib.hid (fun w' => refget_no s p 1 w' hmx (.inr (.inr (holds_no (n := s.size) (p := p) (m := 1) (by omega)))))
      clear hR
      go_wp2_with fail
      refine (HG2.out _).mono ?_
      rintro e w1 ⟨rfl, rfl⟩
      go_wp2_with fail
      go_ret3
      rw [hRe.out]
      exact ⟨rfl, rfl⟩

theorem refNm_any (s : ByteArray) (p : Int) (R : Except Nat (List UInt8 × Nat)) (w : World) (hs : s.size ≤ 1000000) (hp1 : -9223372036854775808 ≤ p) (hp2 : p ≤ 9223372036854775807) (hR : Hid (nmAt s.data.toList p = R)) :
    Calls Try.prog 53 #[.string s, .int .i64 p] w (RefNmRet w R) := by
  by_cases hp : p < 0
  · have hRe : R = .error 2 := by rw [← hR.out]; unfold nmAt; rw [if_pos hp]
    have HG2 := Lib.hid (fun w' => refget_no s p 1 w' (by unfold maxLen; omega) (.inr (.inr (by simp [holdsB]; omega))))
    rw [hRe]
    clear hRe hR
    go_enter Try.func53, Try.ntmps53
    go_wp2_with fail
    go_loop [1, 7, 8, 9] (fun a b c d => a = .int .i64 p ∧ b = .int .i64 p ∧ c = .int .i64 (-1) ∧ d = .string ⟨#[]⟩) (fun _ _ _ _ => 0)
    case atStart => exact ⟨rfl, rfl, rfl, rfl⟩
    case round =>
      obtain ⟨rfl, rfl, rfl, rfl⟩ := hrel
      go_wp2_with fail
      refine (HG2.out _).mono ?_
      rintro e w1 ⟨rfl, rfl⟩
      go_wp2_with fail
      go_ret3
      exact ⟨rfl, rfl⟩
  · obtain ⟨n, rfl⟩ : ∃ n : Nat, p = n := ⟨p.toNat, by omega⟩
    refine refNm_nat s n R w hs (by omega) ?_
    show _ = _
    rw [← hR.out]
    unfold nmAt
    rw [if_neg (by omega), ← Lib.size_eq]
    rfl
end Go.Proofs.Ytihkmdojakalbaa

/- The contracts of the document's state: the next number, the next name. For texts of at most 10^6 bytes. -/
namespace Go.Proofs.Ytihkmdojakalbaa
open Go.RowKit NumMath NmMath Bytes MsgMath StMath

/-- The document's state: the text, the place, the error. -/
def StAt (W : World) (r : Nat) (s : ByteArray) (st : St) : Prop := W.heap[r]? = some (.cells #[.string s, .int .i64 st.1, .int .i64 st.2] 60 (0, 0))
section
variable {W W' : World} {r B : Nat} {s : ByteArray} {st : St}
theorem StAt.c0 (h : StAt W r s st) : W.cell? ⟨r, 0, none⟩ = some (.string s) := cell_of_row W r 0 _ _ _ h
theorem StAt.c1 (h : StAt W r s st) : W.cell? ⟨r, 1, none⟩ = some (.int .i64 st.1) := cell_of_row W r 1 _ _ _ h
theorem StAt.c2 (h : StAt W r s st) : W.cell? ⟨r, 2, none⟩ = some (.int .i64 st.2) := cell_of_row W r 2 _ _ _ h
theorem StAt.fz (h : StAt W r s st) (i : Nat) : W.frozen? ⟨r, i, none⟩ = false := by
  unfold StAt at h
  simp [World.frozen?, h]
theorem StAt.lt (h : StAt W r s st) : r < W.heap.size := by
  rcases Nat.lt_or_ge r W.heap.size with hlt | hge
  · exact hlt
  · unfold StAt at h; rw [Array.getElem?_eq_none hge] at h; cases h
theorem StAt.drewN (h : StAt W r s st) (n : Nat) : StAt (W.drewN n) r s st := h
theorem StAt.below (h : StAt W r s st) (hb : Below B W W') (hr : r < B) : StAt W' r s st := (hb.block r hr).trans h
theorem StAt.held (h : StAt W r s st) (hb : Below W.heap.size W W') : StAt W' r s st := h.below hb h.lt
theorem StAt.set1 (h : StAt W r s st) (q : Nat) : StAt (W.setCell ⟨r, 1, none⟩ (.int .i64 q)) r s (q, st.2) := by
  unfold StAt at h ⊢
  simp [World.setCell, Array.getElem?_modify, h]
theorem StAt.set2 (h : StAt W r s st) (q : Nat) : StAt (W.setCell ⟨r, 2, none⟩ (.int .i64 q)) r s (st.1, q) := by
  unfold StAt at h ⊢
  simp [World.setCell, Array.getElem?_modify, h]
theorem StAt.far (h : StAt W r s st) {q : Addr} (hq : r ≠ q.block) (v : Value) : StAt (W.setCell q v) r s st := (Below.heap_setCell W q v r hq).trans h
theorem StAt.other (h : StAt W r s st) {q : Nat} (hg : W.grownBy W' (some q)) (hq : r ≠ q) : StAt W' r s st := (grown_block hg h.lt hq).trans h
end

set_option maxHeartbeats 1000000 in
theorem stNum_any (s : ByteArray) (r n x : Nat) (st st' : St) (w : World) (h : StAt w r s st) (hs : s.size ≤ 1000000) (hn1 : 1 ≤ n) (hn : n ≤ 4) (hp : st.1 ≤ 1000000) (hx : Hid (numS s.data.toList n st = (x, st'))) :
    Calls Try.prog 25 #[.pointer (some ⟨r, 0, none⟩), .int .i64 n] w fun e w' => e = .returned (.int .i64 x) ∧ StAt w' r s st' ∧ w.grownBy w' (some r) := by
  have SZ := Lib.hid (Lib.size_eq s)
  obtain ⟨p, e⟩ := st
  have h0 := h.c0
  have h1 := h.c1
  have h2 := h.c2
  have hf := h.fz
  simp only at h1 h2 hp
  have H := Lib.hid h
  clear h
  by_cases he : e = 0
  · subst he
    by_cases hin : p + n ≤ s.size
    · have hx2 := hx.out
      rw [numS_ok (by rw [← SZ.out]; exact hin)] at hx2
      injection hx2 with hx3 hx4
      subst hx4
      have hxl : x < 4294967296 := by
        rw [← hx3]
        unfold nu
        have := be_lt (cut s.data.toList p n)
        have h2 : (cut s.data.toList p n).length ≤ 4 := by unfold cut; rw [List.length_take]; omega
        have h3 : 256 ^ (cut s.data.toList p n).length ≤ 256 ^ 4 := Nat.pow_le_pow_right (by omega) h2
        omega
      have HG : Hid (∀ m, Calls Try.prog 52 #[.string s, .int .i64 p, .int .i64 n] (w.drewN m) fun e w' => e = .returned (.tuple #[.int .u64 x, .bool true]) ∧ w.drewN m = w') := fun m => by
        have := refget_yes s p n (w.drewN m) (by unfold maxLen; omega) hn1 (by omega) hin
        rw [← hx3]
        exact this
      clear hx hx3
      go_enter Try.func25, Try.ntmps25
      go_wp2_with fail
      go_quiet ((go_at_call 52; exact quiet_left (HG.out _)))
      go_wp2_with fail
      go_ret
      refine ⟨rfl, ?_, ?_⟩
      · have := (H.out.drewN 1).set1 (p + n)
        exact (H.out.drewN _).set1 (p + n)
      · exact only_setCell (g := r) (grown_drewN (grown_refl w _) _) (p := ⟨r, 1, none⟩) (.inl rfl) _
    · have hx2 := hx.out
      rw [numS_short (by rw [← SZ.out]; omega)] at hx2
      injection hx2 with hx3 hx4
      subst hx3
      subst hx4
      have hno : Hid (holdsB s.size (p : Int) (n : Int) = false) := holds_no (by omega)
      clear hx
      go_enter Try.func25, Try.ntmps25
      go_wp2_with fail
      go_quiet ((go_at_call 52; exact quiet_left (refget_no s p n _ (by unfold maxLen; omega) (.inr (.inr hno.out)))))
      go_wp2_with fail
      go_ret
      refine ⟨rfl, ?_, ?_⟩
      · exact (H.out.drewN _).set2 2
      · exact only_setCell (g := r) (grown_drewN (grown_refl w _) _) (p := ⟨r, 2, none⟩) (.inl rfl) _
  · have hx2 := hx.out
    rw [numS_err he] at hx2
    injection hx2 with hx3 hx4
    subst hx3
    subst hx4
    have hne : ((e : Int) != 0) = true := bne_iff_ne.2 (by omega)
    clear hx he
    go_enter Try.func25, Try.ntmps25
    go_wp2_with fail
    go_ret
    exact ⟨rfl, H.out, grown_refl _ _⟩

set_option maxHeartbeats 1000000 in
theorem stName_any (s : ByteArray) (r : Nat) (o : List UInt8) (st st' : St) (w : World) (h : StAt w r s st) (hs : s.size ≤ 1000000) (hp : st.1 ≤ 1000000) (hx : Hid (nameS s.data.toList st = (o, st'))) :
    Calls Try.prog 26 #[.pointer (some ⟨r, 0, none⟩)] w fun e w' => e = .returned (.string (mk o)) ∧ StAt w' r s st' ∧ w.grownBy w' (some r) := by
  have SZ := Lib.hid (Lib.size_eq s)
  obtain ⟨p, e⟩ := st
  have h0 := h.c0
  have h1 := h.c1
  have h2 := h.c2
  have hf := h.fz
  simp only at h1 h2 hp
  have H := Lib.hid h
  clear h
  by_cases he : e = 0
  · subst he
    obtain ⟨R, hR⟩ : ∃ R, nm s.data.toList s.data.toList.length 2 p p none [] = R := ⟨_, rfl⟩
    have HG := Lib.hid (fun m => refNm_nat s p R (w.drewN m) hs (by omega) (by (show _ = _; rw [SZ.out]; exact hR)))
    cases R with
    | error k =>
      have hx2 := hx.out
      rw [nameS_no hR] at hx2
      injection hx2 with hx3 hx4
      subst hx3
      subst hx4
      clear hx hR
      go_enter Try.func26, Try.ntmps26
      go_wp2_with fail
      go_quiet ((go_at_call 53; exact quiet_left (HG.out _)))
      go_wp2_with fail
      go_ret
      refine ⟨rfl, ?_, ?_⟩
      · exact ((H.out.drewN _).set2 k).set1 0
      · exact only_setCell (g := r) (only_setCell (g := r) (grown_drewN (grown_refl w _) _) (p := ⟨r, 2, none⟩) (.inl rfl) _) (p := ⟨r, 1, none⟩) (.inl rfl) _
    | ok oq =>
      obtain ⟨o2, q⟩ := oq
      have hx2 := hx.out
      rw [nameS_ok hR] at hx2
      injection hx2 with hx3 hx4
      subst hx3
      subst hx4
      clear hx hR
      go_enter Try.func26, Try.ntmps26
      go_wp2_with fail
      go_quiet ((go_at_call 53; exact quiet_left (HG.out _)))
      go_wp2_with fail
      go_ret
      refine ⟨rfl, ?_, ?_⟩
      · exact ((H.out.drewN _).set2 0).set1 q
      · exact only_setCell (g := r) (only_setCell (g := r) (grown_drewN (grown_refl w _) _) (p := ⟨r, 2, none⟩) (.inl rfl) _) (p := ⟨r, 1, none⟩) (.inl rfl) _
  · have hx2 := hx.out
    rw [nameS_err he] at hx2
    injection hx2 with hx3 hx4
    subst hx3
    subst hx4
    have hne : ((e : Int) != 0) = true := bne_iff_ne.2 (by omega)
    clear hx he
    go_enter Try.func26, Try.ntmps26
    go_wp2_with fail
    go_ret
    exact ⟨rfl, H.out, grown_refl _ _⟩
end Go.Proofs.Ytihkmdojakalbaa

/- The contract of the document's numbers of data. For texts of at most 10^6 bytes. -/
namespace Go.Proofs.Ytihkmdojakalbaa
open Go.RowKit NumMath NmMath Bytes Nums StMath

section
variable {W W' : World} {r g n size : Nat} {s : ByteArray} {st : St} {v : Value} {xs : List Value} {e : TypeId}
theorem row_st (h : StAt W r s st) (hv : W.ownsRow g e size v n xs) (hg : W.grownBy W' (some r)) (he : e ≠ 60) : W'.ownsRow g e size v n xs := hv.kept hg (row_ne (show W.heap[r]? = some _ from h) hv he)
theorem st_row {W0 : World} (h : StAt W r s st) (hv : W.ownsRow g e size v n xs) (hA : Below W.heap.size W W0) (hg : W0.grownBy W' v.ownBlock) (he : e ≠ 60) : StAt W' r s st := by
  have h0 := h.held hA
  refine (hg.block r h0.lt ?_).trans h0
  rcases row_ne (show W.heap[r]? = some _ from h) hv he with e | e
  · rw [e]; intro x; cases x
  · exact fun x => e x.symm
end
theorem numCs_snoc (L : List Nat) (x : Nat) : numCs (L ++ [x]) = numCs L ++ [.int .u32 (x : Int)] := by unfold numCs; rw [List.map_append]; rfl

set_option maxHeartbeats 2000000 in
set_option maxRecDepth 100000 in
theorem stNumbers_any (s : ByteArray) (r cnt size E : Nat) (L0 : List Nat) (st0 st1 : St) (w : World) (h : StAt w r s st0) (hs : s.size ≤ 1000000) (hE : E ≤ s.size) (hp : st0.1 ≤ 1000000) (hsz1 : 1 ≤ size) (hsz : size ≤ 4) (hcnt : cnt ≤ 100) (hx : Hid (numbersS s.data.toList size E cnt [] st0 = (L0, st1))) :
    Calls Try.prog 75 #[.pointer (some ⟨r, 0, none⟩), .int .i64 cnt, .int .i64 size, .int .i64 E] w fun e w' => ∃ v, e = .returned v ∧ w'.ownsRow w.heap.size 46 1 v L0.length (numCs L0) ∧ StAt w' r s st1 ∧ w.grownBy w' (some r) := by
  have SZ := Lib.hid (Lib.size_eq s)
  have H := Lib.hid h; clear h
  obtain ⟨g, hg⟩ : ∃ g, w.heap.size = g := ⟨_, rfl⟩
  have G := Lib.hid hg
  obtain ⟨i0, hi, hz0, hz1, hz2⟩ := info_parts info23
  have HI := Lib.hid hi; clear hi
  have HZ0 := Lib.hid hz0; clear hz0
  have HZ1 := Lib.hid hz1; clear hz1
  have HZ2 := Lib.hid hz2; clear hz2
  clear hg
  go_enter Try.func75, Try.ntmps75
  go_wp2_with fail
  go_loopw [9, 10] (fun v i wr => ∃ (j : Nat) (L : List Nat) (p e : Nat), i = .int .i64 j ∧ j ≤ cnt ∧ p ≤ 1000000 ∧ Hid (wr.ownsRow g 46 1 v j (numCs L)) ∧ Hid (L.length = j) ∧ Hid (StAt wr r s (p, e)) ∧ Hid (numbersS s.data.toList size E (cnt - j) L (p, e) = (L0, st1)) ∧ Hid (Kept g r w wr)) (fun _ i _ => cnt - (intOf i).toNat)
  case atStart => exact ⟨0, [], st0.1, st0.2, rfl, Nat.zero_le _, hp, World.ownsRow_nil _ _ _ _, rfl, H, hx, Kept.refl _ _ _⟩
  case round =>
    obtain ⟨j, L, p, e, rfl, hj, hp, hO, hL, hD, hR, hK⟩ := hrel
    have hgw : Hid (g ≤ wr.heap.size) := by have := hK.out.size; rw [G.out] at this; exact this
    have a1 := hD.out.c1
    have a2 := hD.out.c2
    have af := hD.out.fz
    simp only at a1 a2
    by_cases hlt : j < cnt
    · obtain ⟨m, hm⟩ : ∃ m, cnt - j = m + 1 := ⟨cnt - j - 1, by omega⟩
      by_cases he : e = 0
      · subst he
        by_cases hin : p + size ≤ E
        · have hini : (size : Int) ≤ (E : Int) - p := by omega
          obtain ⟨x, st', hxx⟩ : ∃ x st', numS s.data.toList size (p, 0) = (x, st') := ⟨_, _, rfl⟩
          have hxl := numS_lt (l := s.data.toList) hsz (p, 0)
          have hle := numS_le (l := s.data.toList) (n := size) (N := 1000000) (st := (p, 0)) hp (by rw [← SZ.out]; exact hs)
          rw [hxx] at hxl hle
          obtain ⟨p', e'⟩ := st'
          simp only at hxl hle
          have hRm : Hid (numbersS s.data.toList size E (cnt - (j + 1)) (L ++ [x]) (p', e') = (L0, st1)) := by
            show _ = _
            rw [← hR.out, hm, numbersS_more rfl hin, hxx]
            congr 1
            omega
          have HN := Lib.hid (stNum_any s r size x (p, 0) (p', e') wr hD.out hs hsz1 hsz hp hxx)
          clear hm hxx
          go_wp2_with fail
          refine HN.out.mono ?_
          rintro e w1 ⟨rfl, hD1, hG1⟩
          have hO1 := Lib.hid (row_st hD.out hO.out hG1 (by decide))
          have hK1 := Lib.hid (hK.out.grown hG1 hgw.out)
          have hg1 : Hid (g ≤ w1.heap.size) := Nat.le_trans hgw.out hG1.size
          have HD1 := Lib.hid hD1
          clear hD1 hG1 hO hD hK HN a1 a2 af
          go_wp2_with (at_builtin; refine wpList_append_own _ rfl _ _ 47 rfl g 46 i0 (.int .u32 0) 1 4 Try.underlying47 HI.out HZ0.out HZ1.out HZ2.out rfl (by decide) _ _ _ rfl (hO1.out.alloc _) ⟨w1.heap.size, 0, none⟩ 1 1 [.int .u32 (x : Int)] rfl rfl ?c1 ?c2 ?c3 ?c4 ?c5 ?_)
          case c1 =>
            intro j u hj
            match j, hj with
            | 0, hj => simp at hj; subst hj; simp [Addr.add]
          case c2 => intro u hu; simp at hu; subst hu; rfl
          case c3 => unfold maxLen; omega
          case c4 => omega
          case c5 => have := hg1.out; simp; omega
          intro v' w2 hown hgrow _
          have E1 : Hid (w2.ownsRow g 46 1 v' (j + 1) (numCs (L ++ [x]))) := by
            show World.ownsRow _ _ _ _ _ _ _
            rw [numCs_snoc]
            exact hown
          have E2 := Lib.hid (st_row HD1.out hO1.out ((Below.refl _ _).alloc (Nat.le_refl _) _) hgrow (by decide))
          have E3 := Lib.hid ((hK1.out.alloc hg1.out _).own hgrow (by have := hg1.out; simp; omega) (fun k hk => (hO1.out.lt k hk).1))
          clear hown hgrow hO1 HD1 hK1
          go_wp2_with fail
          go_roundw
          case rel => exact ⟨j + 1, L ++ [x], p', e', by go_num, by omega, hle, E1, by (show _ = _; rw [List.length_append, hL.out]; rfl), E2, hRm, E3⟩
          case measure => simp [intOf]; omega
        · have hini : (E : Int) - p < (size : Int) := by omega
          have hRe := hR.out
          rw [hm, numbersS_bad rfl (by show E < p + size; omega)] at hRe
          injection hRe with e1 e2
          subst e1
          subst e2
          have HE : Hid (StAt (wr.setCell ⟨r, 2, none⟩ (.int .i64 50)) r s (p, 50) ∧ w.grownBy (wr.setCell ⟨r, 2, none⟩ (.int .i64 50)) (some r)) := by
            refine ⟨hD.out.set2 50, ?_⟩
            have := hK.out.setCell (p := ⟨r, 2, none⟩) (.inl rfl) (.int .i64 50)
            rw [← G.out] at this
            exact this.to_grown
          clear hm hin
          go_wp2_with fail
          go_ret
          exact ⟨_, rfl, World.ownsRow_nil _ _ _ _, HE.out.1, HE.out.2⟩
      · have hez : ((e : Int) == 0) = false := beq_eq_false_iff_ne.2 (by omega)
        have hRe := hR.out
        rw [numbersS_stop he] at hRe
        injection hRe with e1 e2
        subst e1
        subst e2
        have HE : Hid (w.grownBy wr (some r)) := by
          have := hK.out
          rw [← G.out] at this
          exact this.to_grown
        clear hm he
        go_wp2_with fail
        go_ret
        refine ⟨_, rfl, ?_, hD.out, HE.out⟩
        rw [hL.out, G.out]
        exact hO.out
    · have hjn : j = cnt := by omega
      have hRe := hR.out
      rw [show cnt - j = 0 by omega, numbersS_zero] at hRe
      injection hRe with e1 e2
      subst e1
      subst e2
      have HE : Hid (w.grownBy wr (some r)) := by
        have := hK.out
        rw [← G.out] at this
        exact this.to_grown
      clear hjn
      go_wp2_with fail
      go_ret
      refine ⟨_, rfl, ?_, hD.out, HE.out⟩
      rw [hL.out, G.out]
      exact hO.out
end Go.Proofs.Ytihkmdojakalbaa

/- The contracts of the document's ends and bare. For texts of at most 10^6 bytes. -/
namespace Go.Proofs.Ytihkmdojakalbaa
open Go.RowKit NumMath NmMath Bytes StMath

theorem bt_byte {s : ByteArray} {p : Nat} (h : p < s.size) : bt s.data.toList p = s[p].toNat := by
  unfold bt
  rw [getD_byte h]

set_option maxHeartbeats 1000000 in
set_option maxRecDepth 100000 in
theorem ends_any (s : ByteArray) (p0 E : Nat) (R : Bool) (w : World) (hs : s.size ≤ 1000000) (hE : E ≤ s.size) (hp0 : p0 ≤ 1000000) (hR : Hid (ends s.data.toList E p0 = R)) :
    Calls Try.prog 97 #[.string s, .int .i64 p0, .int .i64 E] w fun e w' => e = .returned (.bool R) ∧ w = w' := by
  go_enter Try.func97, Try.ntmps97
  go_wp2_with fail
  go_loop [1] (fun a => ∃ p : Nat, a = .int .i64 p ∧ p ≤ 1000064 ∧ Hid (ends s.data.toList E p = R)) (fun a => 2000000 - (intOf a).toNat)
  case atStart => exact ⟨p0, rfl, by omega, hR⟩
  case round =>
    obtain ⟨p, rfl, hp, hR⟩ := hrel
    by_cases hlt : p < E
    · obtain ⟨x, hx⟩ : ∃ x, bt s.data.toList p = x := ⟨_, rfl⟩
      have hxl : x < 256 := by rw [← hx]; exact bt_lt _ _
      have hps : p < s.size := by omega
      have hb := bt_byte hps
      rw [hx] at hb
      obtain ⟨y, hy⟩ : ∃ y, s[p]'hps = y := ⟨_, rfl⟩
      rw [hy] at hb
      have hyx : (y.toNat : Int) = (x : Int) := by omega
      have HX := Lib.hid hx
      clear hx hb
      by_cases h192 : 192 ≤ x
      · have hRe := ends_ptr hlt (by rw [HX.out]; exact h192)
        have hge : (192 : Int) ≤ x := by omega
        rw [hR.out] at hRe
        by_cases h2 : p + 2 ≤ E
        · have h2i : (2 : Int) ≤ (E : Int) - p := by omega
          rw [decide_eq_true h2] at hRe
          subst hRe
          clear h192 h2
          have hd : decide ((2 : Int) ≤ (E : Int) - p) = true := decide_eq_true h2i
          go_wp2_with fail
          go_ret
          exact ⟨by first | rfl | (show Ending.returned (.bool (decide _)) = _; rw [hd]), rfl⟩
        · have h2i : (E : Int) - p < (2 : Int) := by omega
          rw [decide_eq_false h2] at hRe
          subst hRe
          clear h192 h2
          have hd : decide ((2 : Int) ≤ (E : Int) - p) = false := decide_eq_false (by omega)
          go_wp2_with fail
          go_ret
          exact ⟨by first | rfl | (show Ending.returned (.bool (decide _)) = _; rw [hd]), rfl⟩
      · have hlt192 : (x : Int) < 192 := by omega
        by_cases h0 : x = 0
        · have hRe := ends_here hlt (by rw [HX.out]; omega) (.inl (by rw [HX.out]; exact h0))
          rw [hR.out] at hRe
          subst hRe
          subst h0
          have hz : (((0 : Nat) : Int) == 0) = true := rfl
          clear h192
          go_wp2_with fail
          go_ret
          exact ⟨rfl, rfl⟩
        · have hz : ((x : Int) == 0) = false := beq_eq_false_iff_ne.2 (by omega)
          by_cases h64 : 64 ≤ x
          · have hRe := ends_here hlt (by rw [HX.out]; omega) (.inr (by rw [HX.out]; exact h64))
            rw [hR.out] at hRe
            subst hRe
            have hge : (64 : Int) ≤ x := by omega
            clear h192 h0 h64
            go_wp2_with fail
            go_ret
            exact ⟨rfl, rfl⟩
          · have hRm := ends_more hlt (by rw [HX.out]; exact h0) (by rw [HX.out]; omega)
            rw [hR.out, HX.out] at hRm
            have HRM : Hid (ends s.data.toList E (p + x + 1) = R) := hRm.symm
            have hlt64 : (x : Int) < 64 := by omega
            clear h192 h0 h64 hRm
            go_wp2_with fail
            go_round
            case rel => exact ⟨p + x + 1, by go_num, by omega, HRM⟩
            case measure => simp [intOf]; omega
    · have hRe := ends_not (l := s.data.toList) (E := E) (p := p) (by omega)
      rw [hR.out] at hRe
      subst hRe
      go_wp2_with fail
      go_ret
      exact ⟨rfl, rfl⟩

set_option maxHeartbeats 2000000 in
set_option maxRecDepth 100000 in
theorem bare_any (s : ByteArray) (p0 : Nat) (R : Except Nat (List UInt8 × Nat)) (w : World) (hs : s.size ≤ 1000000) (hp0 : p0 ≤ 1000000) (hR : Hid (bare s.data.toList s.size 2 p0 [] = R)) :
    Calls Try.prog 98 #[.string s, .int .i64 p0] w (RefNmRet w R) := by
  have SZ := Lib.hid (Lib.size_eq s)
  have hmx : s.size ≤ maxLen := by unfold maxLen; omega
  go_enter Try.func98, Try.ntmps98
  go_wp2_with fail
  go_loop [1, 7] (fun at_ out => ∃ (p : Nat) (o : List UInt8) (y : ByteArray), at_ = .int .i64 p ∧ out = .string y ∧ p ≤ 1000000 ∧ y.size ≤ 254 ∧ Hid (y.data.toList = o) ∧ Hid (o.length = y.size) ∧ Hid (bare s.data.toList s.size 2 p o = R)) (fun at_ _ => 1000001 - (intOf at_).toNat)
  case atStart => exact ⟨p0, [], ⟨#[]⟩, rfl, rfl, hp0, by decide, rfl, rfl, hR⟩
  case round =>
    obtain ⟨p, o, y, rfl, rfl, hp, hy, hY, hol, hR⟩ := hrel
    by_cases hlt : p < s.size
    · have hpl : p < s.data.toList.length := by rw [← SZ.out]; exact hlt
      obtain ⟨x, hx⟩ : ∃ x, bt s.data.toList p = x := ⟨_, rfl⟩
      have hxl : x < 256 := by rw [← hx]; exact bt_lt _ _
      have HG := Lib.hid (fun w' => by have := refget_yes s p 1 w' hmx (by decide) (by decide) (by omega); rwa [be_bt hpl, hx] at this)
      by_cases h0 : x = 0
      · subst h0
        have hRe : Hid (R = .ok (o ++ [0], p + 1)) := by show _ = _; rw [← hR.out]; exact bare_zero hlt hx
        have hcat : Hid (y ++ ⟨#[0]⟩ = mk (o ++ [0])) := by show _ = _; rw [← hY.out, ← mk_cat, mk_data]; rfl
        clear hx hpl
        go_wp2_with fail
        refine (HG.out _).mono ?_
        rintro e w1 ⟨rfl, rfl⟩
        go_wp2_with fail
        go_ret3
        rw [hRe.out]
        exact ⟨by rw [← hcat.out]; rfl, rfl⟩
      · have hz : ((x : Int) == 0) = false := beq_eq_false_iff_ne.2 (by omega)
        by_cases h192 : 192 ≤ x
        · have hge : (192 : Int) ≤ x := by omega
          have hRe : Hid (R = .error 50) := by show _ = _; rw [← hR.out]; exact bare_ptr hlt (by rw [hx]; exact h192)
          clear hx hpl h0 h192 hR
          go_wp2_with fail
          refine (HG.out _).mono ?_
          rintro e w1 ⟨rfl, rfl⟩
          go_wp2_with fail
          go_ret3
          rw [hRe.out]
          exact ⟨rfl, rfl⟩
        · have hlt192 : (x : Int) < 192 := by omega
          by_cases h64 : 64 ≤ x
          · have hRe : Hid (R = .error 41) := by show _ = _; rw [← hR.out]; exact bare_err (run_label hlt (by rw [hx]; exact h64) (by rw [hx]; omega))
            have hgt : (64 : Int) ≤ x := by omega
            clear hx hpl h0 h192 h64 hR
            go_wp2_with fail
            refine (HG.out _).mono ?_
            rintro e w1 ⟨rfl, rfl⟩
            go_wp2_with fail
            go_ret3
            rw [hRe.out]
            exact ⟨rfl, rfl⟩
          · have hlt64 : (x : Int) < 64 := by omega
            by_cases hin : p + 1 + x ≤ s.size
            · obtain ⟨q, hq⟩ : ∃ q, s.extract p (p + (x + 1)) = q := ⟨_, rfl⟩
              have hql : q.size = x + 1 := by rw [← hq, ByteArray.size_extract]; omega
              have HP := Lib.hid (fun w' => refpart_eq s q p (x + 1) w' hmx (by omega) (Lib.hid hq))
              have HQ : Hid (q.data.toList = cut s.data.toList p (x + 1)) := by show _ = _; rw [← hq, cut_extract]
              by_cases hlong : 253 < y.size + x
              · have hRe : Hid (R = .error 40) := by show _ = _; rw [← hR.out]; exact bare_err (run_long (by rw [hx]; exact h0) (by rw [hx]; omega) (by rw [hx]; exact hin) (by rw [hx, hol.out]; exact hlong))
                have hli : (253 : Int) < (y.size : Int) + x := by omega
                clear hx hpl h0 h192 h64 hR hq hlong
                go_wp2_with fail
                refine (HG.out _).mono ?_
                rintro e w1 ⟨rfl, rfl⟩
                go_wp2_with fail
                refine (HP.out _).mono ?_
                rintro e w1 ⟨rfl, rfl⟩
                go_wp2_with fail
                go_ret3
                rw [hRe.out]
                exact ⟨rfl, rfl⟩
              · have hRm : Hid (bare s.data.toList s.size 2 (p + (x + 1)) (o ++ cut s.data.toList p (x + 1)) = R) := by
                  show _ = _
                  have := bare_more (l := s.data.toList) (E := s.size) (K := 2) (p := p) (o := o) (by rw [hx]; exact h0) (by rw [hx]; omega) (by rw [hx]; exact hin) (by rw [hx, hol.out]; omega)
                  rw [hx, hR.out, Nat.add_assoc, Nat.add_comm 1 x] at this
                  exact this.symm
                have hli : (y.size : Int) + x ≤ (253 : Int) := by omega
                have hcs : (y ++ q).size = y.size + (x + 1) := by rw [ByteArray.size_append, hql]
                have HCS := Lib.hid hcs
                have HCL : Hid ((y ++ q).data.toList = o ++ cut s.data.toList p (x + 1)) := by show _ = _; rw [cat_list, hY.out, HQ.out]
                clear hx hpl h0 h192 h64 hR hq hlong hcs
                go_wp2_with fail
                refine (HG.out _).mono ?_
                rintro e w1 ⟨rfl, rfl⟩
                go_wp2_with fail
                refine (HP.out _).mono ?_
                rintro e w1 ⟨rfl, rfl⟩
                go_wp2_with fail
                go_round
                case rel => exact ⟨p + (x + 1), _, y ++ q, by go_num, rfl, by omega, by rw [HCS.out]; omega, HCL, by (show _ = _; rw [← HCL.out, ← Lib.size_eq]), hRm⟩
                case measure => simp [intOf]; omega
            · have hRe : Hid (R = .error 2) := by show _ = _; rw [← hR.out]; exact bare_err (run_short hlt (by rw [hx]; omega) (by rw [hx]; omega))
              have HP := Lib.hid (fun w' => refpart_no s (p : Int) ((x + 1 : Nat) : Int) w' hmx (holds_no (by omega)))
              clear hx hpl h0 h192 h64 hR
              go_wp2_with fail
              refine (HG.out _).mono ?_
              rintro e w1 ⟨rfl, rfl⟩
              go_wp2_with fail
              refine (HP.out _).mono ?_
              rintro e w1 ⟨rfl, rfl⟩
              go_wp2_with fail
              go_ret3
              rw [hRe.out]
              exact ⟨rfl, rfl⟩
    · have hRe : Hid (R = .error 2) := by show _ = _; rw [← hR.out]; exact bare_err (run_lack (by omega))
      have HG2 := Lib.hid (fun w' => refget_no s p 1 w' hmx (.inr (.inr (holds_no (n := s.size) (p := p) (m := 1) (by omega)))))
      clear hR
      go_wp2_with fail
      refine (HG2.out _).mono ?_
      rintro e w1 ⟨rfl, rfl⟩
      go_wp2_with fail
      go_ret3
      rw [hRe.out]
      exact ⟨rfl, rfl⟩
end Go.Proofs.Ytihkmdojakalbaa

/- The contract of the document's names of data. For texts of at most 10^6 bytes. -/
namespace Go.Proofs.Ytihkmdojakalbaa
open Go.RowKit NumMath NmMath Bytes Strs StMath

theorem strCs_snoc (L : List (List UInt8)) (o : List UInt8) : strCs (L ++ [o]) = strCs L ++ [.string (mk o)] := by rw [strCs_cat, strCs_one]

set_option maxHeartbeats 4000000 in
set_option maxRecDepth 100000 in
theorem stNames_any (s : ByteArray) (r kind cnt E : Nat) (L0 : List (List UInt8)) (st0 st1 : St) (w : World) (h : StAt w r s st0) (hs : s.size ≤ 1000000) (hE : E ≤ s.size) (hp : st0.1 ≤ 1000000) (hcnt : cnt ≤ 100) (hx : Hid (namesS s.data.toList kind E cnt [] st0 = (L0, st1))) :
    Calls Try.prog 76 #[.pointer (some ⟨r, 0, none⟩), .int .u16 kind, .int .i64 cnt, .int .i64 E] w fun e w' => ∃ v, e = .returned v ∧ w'.ownsRow w.heap.size 9 1 v L0.length (strCs L0) ∧ StAt w' r s st1 ∧ w.grownBy w' (some r) := by
  have SZ := Lib.hid (Lib.size_eq s)
  have H := Lib.hid h; clear h
  obtain ⟨g, hg⟩ : ∃ g, w.heap.size = g := ⟨_, rfl⟩
  have G := Lib.hid hg
  obtain ⟨i0, hi, hz0, hz1, hz2⟩ := info_parts info9
  have HI := Lib.hid hi; clear hi
  have HZ0 := Lib.hid hz0; clear hz0
  have HZ1 := Lib.hid hz1; clear hz1
  have HZ2 := Lib.hid hz2; clear hz2
  clear hg
  go_enter Try.func76, Try.ntmps76
  go_wp2_with fail
  go_loopw [9, 10] (fun v i wr => ∃ (j : Nat) (L : List (List UInt8)) (p e : Nat), i = .int .i64 j ∧ j ≤ cnt ∧ p ≤ 1000000 ∧ Hid (wr.ownsRow g 9 1 v j (strCs L)) ∧ Hid (L.length = j) ∧ Hid (StAt wr r s (p, e)) ∧ Hid (namesS s.data.toList kind E (cnt - j) L (p, e) = (L0, st1)) ∧ Hid (Kept g r w wr)) (fun _ i _ => cnt - (intOf i).toNat)
  case atStart => exact ⟨0, [], st0.1, st0.2, rfl, Nat.zero_le _, hp, World.ownsRow_nil _ _ _ _, rfl, H, hx, Kept.refl _ _ _⟩
  case round =>
    obtain ⟨j, L, p, e, rfl, hj, hp, hO, hL, hD, hR, hK⟩ := hrel
    have hgw : Hid (g ≤ wr.heap.size) := by have := hK.out.size; rw [G.out] at this; exact this
    have a0 := hD.out.c0
    have a1 := hD.out.c1
    have a2 := hD.out.c2
    have af := hD.out.fz
    simp only at a1 a2
    by_cases hlt : j < cnt
    · obtain ⟨m, hm⟩ : ∃ m, cnt - j = m + 1 := ⟨cnt - j - 1, by omega⟩
      by_cases he : e = 0
      · subst he
        obtain ⟨b, hb⟩ : ∃ b, ends s.data.toList E p = b := ⟨_, rfl⟩
        have HEN := Lib.hid (fun n => quiet_left (ends_any s p E b (wr.drewN n) hs hE hp hb))
        cases b with
        | true =>
          obtain ⟨x, st', hxx⟩ : ∃ x st', oneS s.data.toList kind (p, 0) = (x, st') := ⟨_, _, rfl⟩
          have hle := oneS_le (l := s.data.toList) (kind := kind) (N := 1000000) (st := (p, 0)) hp (by rw [← SZ.out]; exact hs)
          rw [hxx] at hle
          obtain ⟨p', e'⟩ := st'
          simp only at hle
          have hRm : Hid (namesS s.data.toList kind E (cnt - (j + 1)) (L ++ [x]) (p', e') = (L0, st1)) := by
            show _ = _
            rw [← hR.out, hm, namesS_more rfl hb, hxx]
            congr 1
            omega
          by_cases h33 : kind = 33
          · have hk : ((kind : Int) == 33) = true := beq_iff_eq.2 (by omega)
            obtain ⟨B, hB⟩ : ∃ B, bare s.data.toList s.data.toList.length 2 p [] = B := ⟨_, rfl⟩
            have HBR := Lib.hid (fun W => bare_any s p B W hs hp (by (show _ = _; rw [SZ.out]; exact hB)))
            have hBx : (∃ k, B = .error k ∧ x = [] ∧ p' = 0 ∧ e' = k) ∨ (∃ o q, B = .ok (o, q) ∧ x = o ∧ p' = q ∧ e' = 0) := by
              unfold oneS at hxx
              rw [if_pos h33] at hxx
              simp only at hxx
              rw [hB] at hxx
              cases B with
              | error k => injection hxx with e1 e2; injection e2 with e3 e4; exact .inl ⟨k, rfl, e1.symm, e3.symm, e4.symm⟩
              | ok oq => obtain ⟨o, q⟩ := oq; injection hxx with e1 e2; injection e2 with e3 e4; exact .inr ⟨o, q, rfl, e1.symm, e3.symm, e4.symm⟩
            have HCB : Hid (∀ W, Calls Try.prog 98 #[.string s, .int .i64 p] W fun e w' => e = .returned (.tuple #[.string (mk x), .int .i64 p', .int .i64 e']) ∧ W = w') := fun W => by
              rcases hBx with ⟨k, rfl, rfl, rfl, rfl⟩ | ⟨o, q, rfl, rfl, rfl, rfl⟩
              · exact HBR.out W
              · exact HBR.out W
            clear hm hxx hb h33 hB HBR hBx
            go_wp2_with fail
            go_quiet ((go_at_call 97; exact HEN.out _))
            go_wp2_with fail
            have hD1 := hD.out.drewN nq
            have hO1 : (wr.drewN nq).ownsRow g 9 1 u9 j (strCs L) := hO.out
            have hK1 := hK.out.drewN nq
            have hs1 : g ≤ (wr.drewN nq).heap.size := hgw.out
            generalize wr.drewN nq = wd at hD1 hO1 hK1 hs1 ⊢
            have b0 := hD1.c0
            have b1 := hD1.c1
            have b2 := hD1.c2
            have bf := hD1.fz
            simp only at b1 b2
            have HD1 := Lib.hid hD1
            have HO1 := Lib.hid hO1
            have HK1 := Lib.hid hK1
            have HS1 := Lib.hid hs1
            clear hD1 hO1 hK1 hs1 a0 a1 a2 af hD hO hK hgw HEN
            go_quiet ((go_at_call 98; exact quiet_left (HCB.out _)))
            have hgs := only_setCell (only_setCell (grown_drewN (grown_refl wd (some r)) nq) (p := ⟨r, 2, none⟩) (.inl rfl) (.int .i64 e')) (p := ⟨r, 1, none⟩) (.inl rfl) (.int .i64 p')
            have HO2 := Lib.hid (row_st HD1.out HO1.out hgs (by decide))
            have HD2 := Lib.hid (((HD1.out.drewN nq).set2 e').set1 p')
            have HK2 := Lib.hid (HK1.out.grown hgs HS1.out)
            have HS2 := Lib.hid (Nat.le_trans HS1.out hgs.size)
            clear hgs HD1 HO1 HK1
            go_wp2_with (at_builtin; refine wpList_append_own _ rfl _ _ 45 rfl g 9 i0 (.string ⟨#[]⟩) 1 16 Try.underlying45 HI.out HZ0.out HZ1.out HZ2.out rfl (by decide) _ _ _ rfl (HO2.out.alloc _) ⟨wd.heap.size, 0, none⟩ 1 1 [.string (mk x)] rfl rfl ?c1 ?c2 ?c3 ?c4 ?c5 ?_)
            case c2 => first | rfl | (intro u hu; simp at hu; subst hu; rfl)
            case c3 => unfold maxLen; omega
            case c4 => omega
            case c5 => have := HS1.out; simp; omega
            intro v' w2 hown hgrow _
            have E1 : Hid (w2.ownsRow g 9 1 v' (j + 1) (strCs (L ++ [x]))) := by
              show World.ownsRow _ _ _ _ _ _ _
              rw [strCs_snoc]
              exact hown
            have E2 := Lib.hid (st_row HD2.out HO2.out ((Below.refl _ _).alloc (Nat.le_refl _) _) hgrow (by decide))
            have E3 := Lib.hid ((HK2.out.alloc HS2.out _).own hgrow (by have := HS1.out; simp; omega) (fun k hk => (HO2.out.lt k hk).1))
            clear hown hgrow HO2 HD2 HK2
            go_wp2_with fail
            go_roundw
            case rel => exact ⟨j + 1, L ++ [x], p', e', by go_num, by omega, hle, E1, by (show _ = _; rw [List.length_append, hL.out]; rfl), E2, hRm, E3⟩
            case measure => simp [intOf]; omega
          · have hk : ((kind : Int) == 33) = false := beq_eq_false_iff_ne.2 (by omega)
            have hxn : nameS s.data.toList (p, 0) = (x, (p', e')) := by
              unfold oneS at hxx
              rw [if_neg h33] at hxx
              exact hxx
            clear hm hxx hb h33
            go_wp2_with fail
            go_quiet ((go_at_call 97; exact HEN.out _))
            have HN := Lib.hid (stName_any s r x (p, 0) (p', e') (wr.drewN nq) (hD.out.drewN nq) hs hp hxn)
            go_wp2_with fail
            refine HN.out.mono ?_
            rintro e wd ⟨rfl, hD1, hG1⟩
            have HO2 := Lib.hid (row_st (hD.out.drewN nq) (show (wr.drewN nq).ownsRow g 9 1 u9 j (strCs L) from hO.out) hG1 (by decide))
            have HK2 := Lib.hid ((hK.out.drewN nq).grown hG1 hgw.out)
            have HS1 : Hid (g ≤ wd.heap.size) := Nat.le_trans hgw.out hG1.size
            have HS2 := HS1
            have HD2 := Lib.hid hD1
            clear hD1 hG1 hO hD hK HN a0 a1 a2 af HEN hxn
            go_wp2_with (at_builtin; refine wpList_append_own _ rfl _ _ 45 rfl g 9 i0 (.string ⟨#[]⟩) 1 16 Try.underlying45 HI.out HZ0.out HZ1.out HZ2.out rfl (by decide) _ _ _ rfl (HO2.out.alloc _) ⟨wd.heap.size, 0, none⟩ 1 1 [.string (mk x)] rfl rfl ?f1 ?f2 ?f3 ?f4 ?f5 ?_)
            case f1 =>
              intro j u hj
              match j, hj with
              | 0, hj => simp at hj; subst hj; simp [Addr.add]
            case f2 => first | rfl | (intro u hu; simp at hu; subst hu; rfl)
            case f3 => unfold maxLen; omega
            case f4 => omega
            case f5 => have := HS1.out; simp; omega
            intro v' w2 hown hgrow _
            have E1 : Hid (w2.ownsRow g 9 1 v' (j + 1) (strCs (L ++ [x]))) := by
              show World.ownsRow _ _ _ _ _ _ _
              rw [strCs_snoc]
              exact hown
            have E2 := Lib.hid (st_row HD2.out HO2.out ((Below.refl _ _).alloc (Nat.le_refl _) _) hgrow (by decide))
            have E3 := Lib.hid ((HK2.out.alloc HS2.out _).own hgrow (by have := HS1.out; simp; omega) (fun k hk => (HO2.out.lt k hk).1))
            clear hown hgrow HO2 HD2 HK2
            go_wp2_with fail
            go_roundw
            case rel => exact ⟨j + 1, L ++ [x], p', e', by go_num, by omega, hle, E1, by (show _ = _; rw [List.length_append, hL.out]; rfl), E2, hRm, E3⟩
            case measure => simp [intOf]; omega
        | false =>
          have hRe := hR.out
          rw [hm, namesS_bad rfl hb] at hRe
          injection hRe with e1 e2
          subst e1
          subst e2
          clear hm hb
          go_wp2_with fail
          go_quiet ((go_at_call 97; exact HEN.out _))
          go_wp2_with fail
          go_ret
          refine ⟨_, rfl, World.ownsRow_nil _ _ _ _, (hD.out.drewN _).set2 50, ?_⟩
          exact kept_grown ((hK.out.drewN _).setCell (.inl rfl) _) G.out
      · have hez : ((e : Int) == 0) = false := beq_eq_false_iff_ne.2 (by omega)
        have hRe := hR.out
        rw [namesS_stop he] at hRe
        injection hRe with e1 e2
        subst e1
        subst e2
        have HE : Hid (w.grownBy wr (some r)) := by
          have := hK.out
          rw [← G.out] at this
          exact this.to_grown
        clear hm he
        go_wp2_with fail
        go_ret
        refine ⟨_, rfl, ?_, hD.out, HE.out⟩
        rw [hL.out, G.out]
        exact hO.out
    · have hjn : j = cnt := by omega
      have hRe := hR.out
      rw [show cnt - j = 0 by omega, namesS_zero] at hRe
      injection hRe with e1 e2
      subst e1
      subst e2
      have HE : Hid (w.grownBy wr (some r)) := by
        have := hK.out
        rw [← G.out] at this
        exact this.to_grown
      clear hjn
      go_wp2_with fail
      go_ret
      refine ⟨_, rfl, ?_, hD.out, HE.out⟩
      rw [hL.out, G.out]
      exact hO.out
end Go.Proofs.Ytihkmdojakalbaa
