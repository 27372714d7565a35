/- The contract of several records, given that of one. For texts of at most 10^6 bytes. -/
import Derived.Test.YtpmmjmnleoicjaaProg
import Derived.Test.YtpmmjmnleoicjaaBytes
import Derived.Test.YtpmmjmnleoicjaaNmMath
import Derived.Test.YtpmmjmnleoicjaaMsgMath
import Derived.Test.YtpmmjmnleoicjaaRecMath
import Derived.Test.YtpmmjmnleoicjaaKept
import Derived.Test.YtpmmjmnleoicjaaOwnRow
import Derived.Test.YtpmmjmnleoicjaaRecRow
import Derived.Test.YtpmmjmnleoicjaaRdr
import Derived.WalkKit
import Derived.Lib.Hide
import Derived.Laws.Rows
import Derived.Laws.AppendOwn
import Derived.Outline
import Derived.IntWalk
import Derived.WalkSpells
import Derived.WalkLawsBesides
namespace Go.Proofs.Ytpmmjmnleoicjaa
open Go.RowKit NumMath NmMath Bytes MsgMath RecMath

/-- A record came back, or the reading gave up. -/
def RecEnd (w : World) (r : Nat) (s : ByteArray) : Except Nat (Rec × Nat) → Ending → World → Prop
  | .error x, e, w' => e = gave x ∧ w.grownBy w' (some r)
  | .ok (R, q), e, w' => ∃ v1 v2 v3, e = .returned (.agg #[.string (mk R.name), .int .u16 R.kind, .int .u16 R.cls, .int .u32 R.ttl, v1, v2, v3]) ∧ RecIn w' w.heap.size R v1 v2 v3 ∧ RdrAt w' r s s (q : Int) 2 ∧ w.grownBy w' (some r)
/-- Several records came back, or the reading gave up. -/
def RecsEnd (w : World) (r : Nat) (s : ByteArray) : Except Nat (List Rec × Nat) → Ending → World → Prop
  | .error x, e, w' => e = gave x ∧ w.grownBy w' (some r)
  | .ok (L, q), e, w' => ∃ v, e = .returned v ∧ RowRecs w' w.heap.size v L ∧ RdrAt w' r s s (q : Int) 2 ∧ w.grownBy w' (some r)
/-- Each record is read so. -/
def RecReads (r : Nat) (s : ByteArray) (rec : Nat → Except Nat (Rec × Nat)) : Prop :=
  (∀ (w : World) (p : Nat), RdrAt w r s s p 2 → p ≤ 9223372036854775807 → Calls Try.prog 100 #[.pointer (some ⟨r, 0, none⟩)] w (RecEnd w r s (rec p))) ∧ ∀ p R q, rec p = .ok (R, q) → q ≤ s.size

set_option maxHeartbeats 2000000 in
set_option maxRecDepth 100000 in
theorem records_any (s : ByteArray) (r n p0 : Nat) (rec : Nat → Except Nat (Rec × Nat)) (R : Except Nat (List Rec × Nat)) (w : World) (h : RdrAt w r s s p0 2) (hp0 : p0 ≤ 9223372036854775807) (hs : s.size ≤ 1000000) (hn : n ≤ 1000000) (hrec : Hid (0 < n → RecReads r s rec)) (hR : Hid (many rec n p0 = R)) :
    Calls Try.prog 99 #[.int .i64 n, .func (.func 100) #[.pointer (some ⟨r, 0, none⟩)] #[]] w (RecsEnd w r s R) := by
  have hrl := h.lt
  have H := Lib.hid h; clear h
  obtain ⟨g, hg⟩ : ∃ g, w.heap.size = g := ⟨_, rfl⟩
  have G := Lib.hid hg
  rw [hg] at hrl
  obtain ⟨i0, hi, hz0, hz1, hz2⟩ := info_parts info_rec
  have HI := Lib.hid hi; clear hi
  have HZ0 := Lib.hid hz0; clear hz0
  have HZ1 := Lib.hid hz1; clear hz1
  have HZ2 := Lib.hid hz2; clear hz2
  have HR0 : Hid (more rec [] n p0 = R) := by show _ = _; rw [more_none]; exact hR.out
  clear hg hR
  go_enter Try.func99, Try.ntmps99
  go_wp2_with fail
  go_loopw [5, 7] (fun v i wr => ∃ (j p : Nat) (L : List Rec), i = .int .i64 j ∧ j ≤ n ∧ p ≤ 9223372036854775807 ∧ Hid (RowRecs wr g v L) ∧ Hid (L.length = j) ∧ Hid (RdrAt wr r s s p 2) ∧ Hid (more rec L (n - j) p = R) ∧ Hid (Kept g r w wr)) (fun _ i _ => n - (intOf i).toNat)
  case atStart => exact ⟨0, p0, [], rfl, Nat.zero_le _, hp0, RowRecs.nil _ _, rfl, H, HR0, Kept.refl _ _ _⟩
  case round =>
    obtain ⟨j, p, L, rfl, hj, hp, hO, hL, hD, hR, hK⟩ := hrel
    have hgw : Hid (g ≤ wr.heap.size) := by have := hK.out.size; rw [G.out] at this; exact this
    by_cases hlt : j < n
    · obtain ⟨hrec1, hrec2⟩ := hrec.out (by omega)
      obtain ⟨Q1, hQ1⟩ : ∃ Q1, rec p = Q1 := ⟨_, rfl⟩
      have HQ := Lib.hid (hrec1 wr p hD.out hp)
      rw [hQ1] at HQ
      obtain ⟨m, hm⟩ : ∃ m, n - j = m + 1 := ⟨n - j - 1, by omega⟩
      cases Q1 with
      | error x =>
        have hRe : Hid (R = .error x) := by show _ = _; rw [← hR.out, hm]; exact more_err hQ1
        clear hm hQ1 hrec1 hrec2
        go_wp2_with fail
        refine HQ.out.mono ?_
        rintro e w1 ⟨rfl, hG1⟩
        have HE : Hid (w.grownBy w1 (some r)) := by
          have := hK.out.grown hG1 hgw.out
          rw [← G.out] at this
          exact this.to_grown
        clear hG1
        go_wp2_with fail
        rw [hRe.out]
        exact ⟨rfl, rfl, HE.out⟩
      | ok Qq =>
        obtain ⟨Q, q⟩ := Qq
        have hql : q ≤ 1000000 := by have := hrec2 p Q q hQ1; omega
        have hRm : Hid (more rec (L ++ [Q]) (n - (j + 1)) q = R) := by show _ = _; rw [← hR.out, hm, more_one hQ1]; congr 1; omega
        clear hm hQ1 hrec1 hrec2
        go_wp2_with fail
        refine HQ.out.mono ?_
        rintro e w1 ⟨v1, v2, v3, rfl, hI1, hD1, hG1⟩
        obtain ⟨Z, hZ1, hZ2, hZ3⟩ := hO.out.rdr hD.out hG1
        rw [hL.out] at hZ2
        have hO1 := Lib.hid hZ2
        have hOW := Lib.hid (hO.out.rdr hD.out hG1)
        have hIL := Lib.hid (hI1.low hgw.out)
        have hK1 := Lib.hid (hK.out.grown hG1 hgw.out)
        have hg1 : Hid (g ≤ w1.heap.size) := Nat.le_trans hgw.out hG1.size
        have HD1 := Lib.hid hD1
        have HZA := Lib.hid hZ1
        have HZB := Lib.hid hZ3
        clear hD1 hG1 hO hD hK HQ hI1 hZ1 hZ2 hZ3
        go_wp2_with (at_builtin; refine wpList_append_own _ rfl _ _ 24 rfl g 60 i0 (.agg #[.string ⟨#[]⟩, .int .u16 0, .int .u16 0, .int .u32 0, .slice none 0 0, .slice none 0 0, .slice none 0 0]) 7 96 Try.underlying24 HI.out HZ0.out HZ1.out HZ2.out rfl (by decide) _ _ _ rfl (hO1.out.alloc _) ⟨w1.heap.size, 0, none⟩ 1 1 (recV Q v1 v2 v3) rfl rfl ?c1 ?c2 ?c3 ?c4 ?c5 ?_)
        case c1 =>
          intro j u hj
          match j, hj with
          | 0, hj => simp [recV] at hj; subst hj; simp [Addr.add]
          | 1, hj => simp [recV] at hj; subst hj; simp [Addr.add]
          | 2, hj => simp [recV] at hj; subst hj; simp [Addr.add]
          | 3, hj => simp [recV] at hj; subst hj; simp [Addr.add]
          | 4, hj => simp [recV] at hj; subst hj; simp [Addr.add]
          | 5, hj => simp [recV] at hj; subst hj; simp [Addr.add]
          | 6, hj => simp [recV] at hj; subst hj; simp [Addr.add]
        case c2 =>
          intro u hu
          have e1 := own_one hIL.out.o1
          have e2 := own_one hIL.out.o2
          have e3 := own_one hIL.out.o3
          simp [recV] at hu
          rcases hu with rfl | rfl | rfl | rfl | rfl | rfl | rfl <;> first | rfl | assumption
        case c3 => unfold maxLen; omega
        case c4 => omega
        case c5 => have := hg1.out; simp; omega
        intro v' w2 hown hgrow _
        have E1 : Hid (RowRecs w2 g v' (L ++ [Q])) := by
          refine hOW.out.snoc hIL.out Z HZA.out (by rw [hL.out]; exact hO1.out) HZB.out ?_ hgrow
          rw [hL.out]
          exact hown
        have E2 := Lib.hid (rdr_row HD1.out hO1.out ((Below.refl _ _).alloc (Nat.le_refl _) _) hgrow (by decide))
        have E3 := Lib.hid ((hK1.out.alloc hg1.out _).own hgrow (by have := hg1.out; simp; omega) (fun k hk => (hO1.out.lt k hk).1))
        clear hown hgrow hO1 HD1 hK1
        go_wp2_with fail
        go_roundw
        case rel => exact ⟨j + 1, q, L ++ [Q], by go_num, by omega, by omega, E1, by (show _ = _; rw [List.length_append, hL.out]; rfl), E2, hRm, E3⟩
        case measure => simp [intOf]; omega
    · have hjn : j = n := by omega
      have hRe : Hid (R = .ok (L, p)) := by show _ = _; rw [← hR.out, show n - j = 0 by omega]; exact more_end _ _ _
      have HE : Hid (w.grownBy wr (some r)) := by
        have := hK.out
        rw [← G.out] at this
        exact this.to_grown
      clear hjn
      go_wp2_with fail
      go_ret
      rw [hRe.out]
      refine ⟨_, rfl, ?_, hD.out, HE.out⟩
      rw [G.out]
      exact hO.out
end Go.Proofs.Ytpmmjmnleoicjaa
