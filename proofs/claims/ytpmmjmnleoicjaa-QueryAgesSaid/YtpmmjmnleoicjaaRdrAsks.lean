/- The contract of several questions. For texts of at most 10^6 bytes. -/
import Derived.Test.YtpmmjmnleoicjaaProg
import Derived.Test.YtpmmjmnleoicjaaBytes
import Derived.Test.YtpmmjmnleoicjaaNmMath
import Derived.Test.YtpmmjmnleoicjaaNmAt
import Derived.Test.YtpmmjmnleoicjaaMsgMath
import Derived.Test.YtpmmjmnleoicjaaKept
import Derived.Test.YtpmmjmnleoicjaaOwnRow
import Derived.Test.YtpmmjmnleoicjaaRdr
import Derived.Test.YtpmmjmnleoicjaaRdrAsk
import Derived.WalkKit
import Derived.Lib.Hide
import Derived.Laws.Rows
import Derived.Laws.AppendOwn
import Derived.Outline
import Derived.IntWalk
import Derived.WalkSpells
import Derived.WalkLawsBesides
namespace Go.Proofs.Ytpmmjmnleoicjaa
open Go.RowKit NumMath NmMath Bytes MsgMath

theorem qn_next {l : List UInt8} {p q : Nat} {Q : Qn} (h : qn l p = .ok (Q, q)) : q ≤ l.length := by
  unfold qn at h
  cases hn : nm l l.length 2 p p none [] with
  | error k => rw [hn] at h; cases h
  | ok oq =>
    obtain ⟨o, q0⟩ := oq
    rw [hn] at h
    simp only at h
    by_cases h4 : q0 + 4 ≤ l.length
    · rw [if_pos h4] at h
      injection h with h
      injection h with h1 h2
      omega
    · rw [if_neg h4] at h; cases h
/-- Several questions came back, or the reading gave up. -/
def QsEnd (w : World) (r : Nat) (s : ByteArray) : Except Nat (List Qn × Nat) → Ending → World → Prop
  | .error x, e, w' => e = gave x ∧ w.grownBy w' (some r)
  | .ok (L, q), e, w' => ∃ v, e = .returned v ∧ w'.ownsRow w.heap.size 62 3 v L.length (qnCs L) ∧ RdrAt w' r s s (q : Int) 2 ∧ w.grownBy w' (some r)
set_option maxHeartbeats 2000000 in
set_option maxRecDepth 100000 in
theorem questions_any (s : ByteArray) (r n p0 : Nat) (R : Except Nat (List Qn × Nat)) (w : World) (h : RdrAt w r s s p0 2) (hs : s.size ≤ 1000000) (hp0 : p0 ≤ 9223372036854775807) (hn : n ≤ 1000000) (hR : Hid (many (qn s.data.toList) n p0 = R)) :
    Calls Try.prog 97 #[.int .i64 n, .func (.func 98) #[.pointer (some ⟨r, 0, none⟩)] #[]] w (QsEnd w r s R) := by
  have SZ := Lib.hid (Lib.size_eq s)
  have hrl := h.lt
  have H := Lib.hid h; clear h
  obtain ⟨g, hg⟩ : ∃ g, w.heap.size = g := ⟨_, rfl⟩
  have G := Lib.hid hg
  rw [hg] at hrl
  obtain ⟨i0, hi, hz0, hz1, hz2⟩ := info_parts info_qn
  have HI := Lib.hid hi; clear hi
  have HZ0 := Lib.hid hz0; clear hz0
  have HZ1 := Lib.hid hz1; clear hz1
  have HZ2 := Lib.hid hz2; clear hz2
  have HR0 : Hid (more (qn s.data.toList) [] n p0 = R) := by show _ = _; rw [more_none]; exact hR.out
  clear hg hR
  go_enter Try.func97, Try.ntmps97
  go_wp2_with fail
  go_loopw [5, 7] (fun v i wr => ∃ (j p : Nat) (L : List Qn), i = .int .i64 j ∧ j ≤ n ∧ p ≤ 9223372036854775807 ∧ Hid (wr.ownsRow g 62 3 v j (qnCs L)) ∧ Hid (L.length = j) ∧ Hid (RdrAt wr r s s p 2) ∧ Hid (more (qn s.data.toList) L (n - j) p = R) ∧ Hid (Kept g r w wr)) (fun _ i _ => n - (intOf i).toNat)
  case atStart => exact ⟨0, p0, [], rfl, Nat.zero_le _, hp0, World.ownsRow_nil _ _ _ _, rfl, H, HR0, Kept.refl _ _ _⟩
  case round =>
    obtain ⟨j, p, L, rfl, hj, hp, hO, hL, hD, hR, hK⟩ := hrel
    have hgw : Hid (g ≤ wr.heap.size) := by have := hK.out.size; rw [G.out] at this; exact this
    by_cases hlt : j < n
    · obtain ⟨Q1, hQ1⟩ : ∃ Q1, qn s.data.toList p = Q1 := ⟨_, rfl⟩
      have HQ := Lib.hid (question_any s r p Q1 wr hD.out hs hp hQ1)
      obtain ⟨m, hm⟩ : ∃ m, n - j = m + 1 := ⟨n - j - 1, by omega⟩
      cases Q1 with
      | error x =>
        have hRe : Hid (R = .error x) := by show _ = _; rw [← hR.out, hm]; exact more_err hQ1
        clear hm hQ1
        go_wp2_with fail
        refine HQ.out.mono ?_
        rintro e w1 ⟨rfl, hG1⟩
        have HE : Hid (w.grownBy w1 (some r)) := by
          have := hK.out.grown hG1 hgw.out
          rw [← G.out] at this
          exact this.to_grown
        clear hG1
        go_wp2_with fail
        rw [hRe.out]
        exact ⟨rfl, rfl, HE.out⟩
      | ok Qq =>
        obtain ⟨Q, q⟩ := Qq
        have hql : q ≤ 1000000 := by have := qn_next hQ1; rw [← SZ.out] at this; omega
        have hRm : Hid (more (qn s.data.toList) (L ++ [Q]) (n - (j + 1)) q = R) := by show _ = _; rw [← hR.out, hm, more_one hQ1]; congr 1; omega
        clear hm hQ1
        go_wp2_with fail
        refine HQ.out.mono ?_
        rintro e w1 ⟨rfl, hD1, hG1⟩
        have hO1 := Lib.hid (row_rdr hD.out hO.out hG1 (by decide))
        have hK1 := Lib.hid (hK.out.grown hG1 hgw.out)
        have hg1 : Hid (g ≤ w1.heap.size) := Nat.le_trans hgw.out hG1.size
        have HD1 := Lib.hid hD1
        clear hD1 hG1 hO hD hK HQ
        go_wp2_with (at_builtin; refine wpList_append_own _ rfl _ _ 23 rfl g 62 i0 (.agg #[.string ⟨#[]⟩, .int .u16 0, .int .u16 0]) 3 24 Try.underlying23 HI.out HZ0.out HZ1.out HZ2.out rfl (by decide) _ _ _ rfl (hO1.out.alloc _) ⟨w1.heap.size, 0, none⟩ 1 1 (qnV Q) rfl rfl ?c1 ?c2 ?c3 ?c4 ?c5 ?_)
        case c1 =>
          intro j u hj
          match j, hj with
          | 0, hj => simp [qnV] at hj; subst hj; simp [Addr.add]
          | 1, hj => simp [qnV] at hj; subst hj; simp [Addr.add]
          | 2, hj => simp [qnV] at hj; subst hj; simp [Addr.add]
        case c2 => intro u hu; simp [qnV] at hu; rcases hu with rfl | rfl | rfl <;> rfl
        case c3 => unfold maxLen; omega
        case c4 => omega
        case c5 => have := hg1.out; simp; omega
        intro v' w2 hown hgrow _
        have E1 : Hid (w2.ownsRow g 62 3 v' (j + 1) (qnCs (L ++ [Q]))) := by
          show World.ownsRow _ _ _ _ _ _ _
          rw [qnCs_snoc]
          exact hown
        have E2 := Lib.hid (rdr_row HD1.out hO1.out ((Below.refl _ _).alloc (Nat.le_refl _) _) hgrow (by decide))
        have E3 := Lib.hid ((hK1.out.alloc hg1.out _).own hgrow (by have := hg1.out; simp; omega) (fun k hk => (hO1.out.lt k hk).1))
        clear hown hgrow hO1 HD1 hK1
        go_wp2_with fail
        go_roundw
        case rel => exact ⟨j + 1, q, L ++ [Q], by go_num, by omega, by omega, E1, by (show _ = _; rw [List.length_append, hL.out]; rfl), E2, hRm, E3⟩
        case measure => simp [intOf]; omega
    · have hjn : j = n := by omega
      have hRe : Hid (R = .ok (L, p)) := by show _ = _; rw [← hR.out, show n - j = 0 by omega]; exact more_end _ _ _
      have HE : Hid (w.grownBy wr (some r)) := by
        have := hK.out
        rw [← G.out] at this
        exact this.to_grown
      clear hjn
      go_wp2_with fail
      go_ret
      rw [hRe.out]
      refine ⟨_, rfl, ?_, hD.out, HE.out⟩
      rw [hL.out, G.out]
      exact hO.out
end Go.Proofs.Ytpmmjmnleoicjaa
