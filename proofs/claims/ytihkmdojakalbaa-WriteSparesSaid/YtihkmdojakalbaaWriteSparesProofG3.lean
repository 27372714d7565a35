/- Texts of one proof, one behind the other: RdrAsk, RdrRecs, RdrAsks, RdrMsgSt. -/
import Derived.Test.YtihkmdojakalbaaProg
import Derived.Test.YtihkmdojakalbaaBytes
import Derived.Test.YtihkmdojakalbaaWriteSparesProofG1
import Derived.Test.YtihkmdojakalbaaWriteSparesProofG2
import Derived.Test.YtihkmdojakalbaaRecMath
import Derived.WalkKit
import Derived.Lib.Hide
import Derived.Laws.Rows
import Derived.Laws.AppendOwn
import Derived.Outline
import Derived.IntWalk
import Derived.WalkSpells
import Derived.WalkLawsBesides

/- The contracts of a message's reader: a question, several of them. For texts of at most 10^6 bytes. -/
namespace Go.Proofs.Ytihkmdojakalbaa
open Go.RowKit NumMath NmMath Bytes MsgMath

theorem info_qn : (Try.prog.info? 44).map (fun i => (i.zero, i.size, i.bytes)) = some (some (.agg #[.string ⟨#[]⟩, .int .u16 0, .int .u16 0]), 3, 24) := by kernel_rfl
/-- A question's cells. -/
def qnV (q : Qn) : List Value := [.string (mk q.name), .int .u16 q.kind, .int .u16 q.cls]
def qnCs (L : List Qn) : List Value := L.flatMap qnV
theorem qnCs_snoc (L : List Qn) (q : Qn) : qnCs (L ++ [q]) = qnCs L ++ qnV q := by unfold qnCs; rw [List.flatMap_append]; simp
/-- A question came back, or the reading gave up. -/
def QnEnd (w : World) (r : Nat) (s : ByteArray) : Except Nat (Qn × Nat) → Ending → World → Prop
  | .error x, e, w' => e = gave x ∧ w.grownBy w' (some r)
  | .ok (Q, q), e, w' => e = .returned (.agg #[.string (mk Q.name), .int .u16 Q.kind, .int .u16 Q.cls]) ∧ RdrAt w' r s s (q : Int) 2 ∧ w.grownBy w' (some r)
theorem held_grown {w w0 w' : World} {r : Nat} (hB : Below w.heap.size w w0) (hg : w0.grownBy w' (some r)) : w.grownBy w' (some r) := (Kept.to_grown ((Kept.refl _ _ _).below hB |>.grown hg hB.size))

set_option maxHeartbeats 2000000 in
set_option maxRecDepth 100000 in
theorem question_any (s : ByteArray) (r p : Nat) (R : Except Nat (Qn × Nat)) (w : World) (h : RdrAt w r s s p 2) (hs : s.size ≤ 1000000) (hp : p ≤ 9223372036854775807) (hR : Hid (qn s.data.toList p = R)) :
    Calls Try.prog 48 #[.pointer (some ⟨r, 0, none⟩)] w (QnEnd w r s R) := by
  have SZ := Lib.hid (Lib.size_eq s)
  have hrl := h.lt
  obtain ⟨N, hN⟩ : ∃ N, nm s.data.toList s.data.toList.length 2 p p none [] = N := ⟨_, rfl⟩
  obtain ⟨B, hB⟩ : ∃ B, w.heap.size = B := ⟨_, rfl⟩
  have hBl : Below B w (w.alloc (.cells #[.string ⟨#[]⟩, .int .u16 0, .int .u16 0] 44)) := (Below.refl _ _).alloc (by omega) _
  have hblk : (w.alloc (.cells #[.string ⟨#[]⟩, .int .u16 0, .int .u16 0] 44)).heap[B]? = some (.cells #[.string ⟨#[]⟩, .int .u16 0, .int .u16 0] 44 (0, 0)) := by rw [← hB]; exact heap_alloc_new w _
  have hsz : (w.alloc (.cells #[.string ⟨#[]⟩, .int .u16 0, .int .u16 0] 44)).heap.size = B + 1 := by simp [hB]
  have HN := Lib.hid (pointed_any s s r 2 p N _ (h.below hBl (by omega)) (nmAt_list rfl) hs hs hp (by (show _ = _; rw [SZ.out]; exact hN)))
  have HBK := Lib.hid hblk
  have HBL := Lib.hid hBl
  have hne : B ≠ r := by omega
  have HB := Lib.hid hB
  clear h hBl hblk
  cases N with
  | error x =>
    have hRe : Hid (R = .error x) := by show _ = _; rw [← hR.out]; exact qn_err hN
    clear hN hR
    go_enter Try.func48, Try.ntmps48
    go_wp2_with fail
    refine HN.out.mono ?_
    rintro e w1 ⟨rfl, hG⟩
    have HG := Lib.hid hG; clear hG
    go_wp2_with fail
    rw [hRe.out]
    refine ⟨rfl, rfl, held_grown ?_ HG.out⟩
    rw [HB.out]; exact HBL.out
  | ok oq =>
    obtain ⟨o, q⟩ := oq
    by_cases h4 : q + 4 ≤ s.size
    · have hRe : Hid (R = .ok (⟨o, nu s.data.toList q 2, nu s.data.toList (q + 2) 2⟩, q + 4)) := by show _ = _; rw [← hR.out]; exact qn_ok hN (by rw [← SZ.out]; exact h4)
      obtain ⟨x, hx⟩ : ∃ x, nu s.data.toList q 2 = x := ⟨_, rfl⟩
      obtain ⟨y, hy⟩ : ∃ y, nu s.data.toList (q + 2) 2 = y := ⟨_, rfl⟩
      have hxl : x < 65536 := by rw [← hx]; exact nu2_lt _ _
      have hyl : y < 65536 := by rw [← hy]; exact nu2_lt _ _
      have H1 := Lib.hid (fun w' (hd : RdrAt w' r s s (q : Int) 2) => number_yes s s r q 2 2 x w' hd (by decide) (by decide) (by omega) hs hx)
      have H2 := Lib.hid (fun w' (hd : RdrAt w' r s s ((q + 2 : Nat) : Int) 2) => number_yes s s r (q + 2) 2 2 y w' hd (by decide) (by decide) (by omega) hs hy)
      rw [hx, hy] at hRe
      clear hx hy hN hR
      go_enter Try.func48, Try.ntmps48
      go_wp2_with fail
      refine HN.out.mono ?_
      rintro e w1 ⟨rfl, hD1, hG1⟩
      have HD1 := Lib.hid hD1
      have HG1 := Lib.hid hG1
      clear hD1 hG1 HN
      go_wp2_with fail
      refine (H1.out _ HD1.out).mono ?_
      rintro e w2 ⟨rfl, hD2, hG2⟩
      have HD2 := Lib.hid hD2
      have HG2 := Lib.hid (grown_trans HG1.out hG2)
      clear hD2 hG2 H1
      go_wp2_with fail
      refine (H2.out _ HD2.out).mono ?_
      rintro e w3 ⟨rfl, hD3, hG3⟩
      have hG3' := grown_trans HG2.out hG3
      have hb3 : w3.heap[B]? = some (.cells #[.string ⟨#[]⟩, .int .u16 0, .int .u16 0] 44 (0, 0)) := (grown_block hG3' (by omega) hne).trans HBK.out
      have c0 := cell_of_row w3 B 0 _ _ _ hb3
      have c1 := cell_of_row w3 B 1 _ _ _ hb3
      have c2 := cell_of_row w3 B 2 _ _ _ hb3
      have z0 : ∀ i, w3.frozen? ⟨B, i, none⟩ = false := fun i => by simp [World.frozen?, hb3]
      have HE : Hid (RdrAt (((w3.setCell ⟨B, 0, none⟩ (.string (mk o))).setCell ⟨B, 1, none⟩ (.int .u16 x)).setCell ⟨B, 2, none⟩ (.int .u16 y)) r s s ((q + 4 : Nat) : Int) 2 ∧ w.grownBy (((w3.setCell ⟨B, 0, none⟩ (.string (mk o))).setCell ⟨B, 1, none⟩ (.int .u16 x)).setCell ⟨B, 2, none⟩ (.int .u16 y)) (some r)) := by
        refine ⟨((hD3.far (q := ⟨B, 0, none⟩) (fun e => hne e.symm) _).far (q := ⟨B, 1, none⟩) (fun e => hne e.symm) _).far (q := ⟨B, 2, none⟩) (fun e => hne e.symm) _, ?_⟩
        have := held_grown (by rw [HB.out]; exact HBL.out) hG3'
        exact only_setCell (only_setCell (only_setCell this (.inr (by rw [HB.out]; exact Nat.le_refl _)) _) (.inr (by rw [HB.out]; exact Nat.le_refl _)) _) (.inr (by rw [HB.out]; exact Nat.le_refl _)) _
      clear hD3 hG3 hG3' hb3
      go_wp2_with fail
      rw [hRe.out]
      refine bodyPost_ret (v := .agg #[.string (mk o), .int .u16 x, .int .u16 y]) (by simp [results, Try.results48, go_sem, c0, c1, c2]) rfl ⟨rfl, HE.out.1, HE.out.2⟩
    · have hRe : Hid (R = .error 2) := by show _ = _; rw [← hR.out]; exact qn_short hN (by rw [← SZ.out]; omega)
      by_cases h2 : q + 2 ≤ s.size
      · obtain ⟨x, hx⟩ : ∃ x, nu s.data.toList q 2 = x := ⟨_, rfl⟩
        have hxl : x < 65536 := by rw [← hx]; exact nu2_lt _ _
        have H1 := Lib.hid (fun w' (hd : RdrAt w' r s s (q : Int) 2) => number_yes s s r q 2 2 x w' hd (by decide) (by decide) (by omega) hs hx)
        have H2 := Lib.hid (fun w' (hd : RdrAt w' r s s ((q + 2 : Nat) : Int) 2) => number_no s s r 2 ((q + 2 : Nat) : Int) 2 w' hd hs (by decide) (by omega) (by omega) (holds_no (n := s.size) (p := q + 2) (m := 2) (by omega)))
        clear hx hN hR
        go_enter Try.func48, Try.ntmps48
        go_wp2_with fail
        refine HN.out.mono ?_
        rintro e w1 ⟨rfl, hD1, hG1⟩
        have HD1 := Lib.hid hD1
        have HG1 := Lib.hid hG1
        clear hD1 hG1 HN
        go_wp2_with fail
        refine (H1.out _ HD1.out).mono ?_
        rintro e w2 ⟨rfl, hD2, hG2⟩
        have HD2 := Lib.hid hD2
        have HG2 := Lib.hid (grown_trans HG1.out hG2)
        clear hD2 hG2 H1
        go_wp2_with fail
        refine (H2.out _ HD2.out).mono ?_
        rintro e w3 ⟨rfl, m, rfl⟩
        go_wp2_with fail
        rw [hRe.out]
        refine ⟨rfl, rfl, held_grown (by rw [HB.out]; exact HBL.out) (grown_drewN HG2.out m)⟩
      · have H1 := Lib.hid (fun w' (hd : RdrAt w' r s s (q : Int) 2) => number_no s s r 2 (q : Int) 2 w' hd hs (by decide) (by omega) (by have := nm_next (Nat.le_refl _) (fun x e => by cases e) hN; rw [← SZ.out] at this; omega) (holds_no (n := s.size) (p := q) (m := 2) (by omega)))
        clear hN hR
        go_enter Try.func48, Try.ntmps48
        go_wp2_with fail
        refine HN.out.mono ?_
        rintro e w1 ⟨rfl, hD1, hG1⟩
        have HD1 := Lib.hid hD1
        have HG1 := Lib.hid hG1
        clear hD1 hG1 HN
        go_wp2_with fail
        refine (H1.out _ HD1.out).mono ?_
        rintro e w3 ⟨rfl, m, rfl⟩
        go_wp2_with fail
        rw [hRe.out]
        refine ⟨rfl, rfl, held_grown (by rw [HB.out]; exact HBL.out) (grown_drewN HG1.out m)⟩
end Go.Proofs.Ytihkmdojakalbaa

/- The contract of several records, given that of one. For texts of at most 10^6 bytes. -/
namespace Go.Proofs.Ytihkmdojakalbaa
open Go.RowKit NumMath NmMath Bytes MsgMath RecMath

/-- A record came back, or the reading gave up. -/
def RecEnd (w : World) (r : Nat) (s : ByteArray) : Except Nat (Rec × Nat) → Ending → World → Prop
  | .error x, e, w' => e = gave x ∧ w.grownBy w' (some r)
  | .ok (R, q), e, w' => ∃ v1 v2 v3, e = .returned (.agg #[.string (mk R.name), .int .u16 R.kind, .int .u16 R.cls, .int .u32 R.ttl, v1, v2, v3]) ∧ RecIn w' w.heap.size R v1 v2 v3 ∧ RdrAt w' r s s (q : Int) 2 ∧ w.grownBy w' (some r)
/-- Several records came back, or the reading gave up. -/
def RecsEnd (w : World) (r : Nat) (s : ByteArray) : Except Nat (List Rec × Nat) → Ending → World → Prop
  | .error x, e, w' => e = gave x ∧ w.grownBy w' (some r)
  | .ok (L, q), e, w' => ∃ v, e = .returned v ∧ RowRecs w' w.heap.size v L ∧ RdrAt w' r s s (q : Int) 2 ∧ w.grownBy w' (some r)
/-- Each record is read so. -/
def RecReads (r : Nat) (s : ByteArray) (rec : Nat → Except Nat (Rec × Nat)) : Prop :=
  (∀ (w : World) (p : Nat), RdrAt w r s s p 2 → p ≤ 9223372036854775807 → Calls Try.prog 50 #[.pointer (some ⟨r, 0, none⟩)] w (RecEnd w r s (rec p))) ∧ ∀ p R q, rec p = .ok (R, q) → q ≤ s.size

set_option maxHeartbeats 2000000 in
set_option maxRecDepth 100000 in
theorem records_any (s : ByteArray) (r n p0 : Nat) (rec : Nat → Except Nat (Rec × Nat)) (R : Except Nat (List Rec × Nat)) (w : World) (h : RdrAt w r s s p0 2) (hp0 : p0 ≤ 9223372036854775807) (hs : s.size ≤ 1000000) (hn : n ≤ 1000000) (hrec : Hid (0 < n → RecReads r s rec)) (hR : Hid (many rec n p0 = R)) :
    Calls Try.prog 49 #[.int .i64 n, .func (.func 50) #[.pointer (some ⟨r, 0, none⟩)] #[]] w (RecsEnd w r s R) := by
  have hrl := h.lt
  have H := Lib.hid h; clear h
  obtain ⟨g, hg⟩ : ∃ g, w.heap.size = g := ⟨_, rfl⟩
  have G := Lib.hid hg
  rw [hg] at hrl
  obtain ⟨i0, hi, hz0, hz1, hz2⟩ := info_parts info_rec
  have HI := Lib.hid hi; clear hi
  have HZ0 := Lib.hid hz0; clear hz0
  have HZ1 := Lib.hid hz1; clear hz1
  have HZ2 := Lib.hid hz2; clear hz2
  have HR0 : Hid (more rec [] n p0 = R) := by show _ = _; rw [more_none]; exact hR.out
  clear hg hR
  go_enter Try.func49, Try.ntmps49
  go_wp2_with fail
  go_loopw [5, 7] (fun v i wr => ∃ (j p : Nat) (L : List Rec), i = .int .i64 j ∧ j ≤ n ∧ p ≤ 9223372036854775807 ∧ Hid (RowRecs wr g v L) ∧ Hid (L.length = j) ∧ Hid (RdrAt wr r s s p 2) ∧ Hid (more rec L (n - j) p = R) ∧ Hid (Kept g r w wr)) (fun _ i _ => n - (intOf i).toNat)
  case atStart => exact ⟨0, p0, [], rfl, Nat.zero_le _, hp0, RowRecs.nil _ _, rfl, H, HR0, Kept.refl _ _ _⟩
  case round =>
    obtain ⟨j, p, L, rfl, hj, hp, hO, hL, hD, hR, hK⟩ := hrel
    have hgw : Hid (g ≤ wr.heap.size) := by have := hK.out.size; rw [G.out] at this; exact this
    by_cases hlt : j < n
    · obtain ⟨hrec1, hrec2⟩ := hrec.out (by omega)
      obtain ⟨Q1, hQ1⟩ : ∃ Q1, rec p = Q1 := ⟨_, rfl⟩
      have HQ := Lib.hid (hrec1 wr p hD.out hp)
      rw [hQ1] at HQ
      obtain ⟨m, hm⟩ : ∃ m, n - j = m + 1 := ⟨n - j - 1, by omega⟩
      cases Q1 with
      | error x =>
        have hRe : Hid (R = .error x) := by show _ = _; rw [← hR.out, hm]; exact more_err hQ1
        clear hm hQ1 hrec1 hrec2
        go_wp2_with fail
        refine HQ.out.mono ?_
        rintro e w1 ⟨rfl, hG1⟩
        have HE : Hid (w.grownBy w1 (some r)) := by
          have := hK.out.grown hG1 hgw.out
          rw [← G.out] at this
          exact this.to_grown
        clear hG1
        go_wp2_with fail
        rw [hRe.out]
        exact ⟨rfl, rfl, HE.out⟩
      | ok Qq =>
        obtain ⟨Q, q⟩ := Qq
        have hql : q ≤ 1000000 := by have := hrec2 p Q q hQ1; omega
        have hRm : Hid (more rec (L ++ [Q]) (n - (j + 1)) q = R) := by show _ = _; rw [← hR.out, hm, more_one hQ1]; congr 1; omega
        clear hm hQ1 hrec1 hrec2
        go_wp2_with fail
        refine HQ.out.mono ?_
        rintro e w1 ⟨v1, v2, v3, rfl, hI1, hD1, hG1⟩
        obtain ⟨Z, hZ1, hZ2, hZ3⟩ := hO.out.rdr hD.out hG1
        rw [hL.out] at hZ2
        have hO1 := Lib.hid hZ2
        have hOW := Lib.hid (hO.out.rdr hD.out hG1)
        have hIL := Lib.hid (hI1.low hgw.out)
        have hK1 := Lib.hid (hK.out.grown hG1 hgw.out)
        have hg1 : Hid (g ≤ w1.heap.size) := Nat.le_trans hgw.out hG1.size
        have HD1 := Lib.hid hD1
        have HZA := Lib.hid hZ1
        have HZB := Lib.hid hZ3
        clear hD1 hG1 hO hD hK HQ hI1 hZ1 hZ2 hZ3
        go_wp2_with (at_builtin; refine wpList_append_own _ rfl _ _ 25 rfl g 49 i0 (.agg #[.string ⟨#[]⟩, .int .u16 0, .int .u16 0, .int .u32 0, .slice none 0 0, .slice none 0 0, .slice none 0 0]) 7 96 Try.underlying25 HI.out HZ0.out HZ1.out HZ2.out rfl (by decide) _ _ _ rfl (hO1.out.alloc _) ⟨w1.heap.size, 0, none⟩ 1 1 (recV Q v1 v2 v3) rfl rfl ?c1 ?c2 ?c3 ?c4 ?c5 ?_)
        case c1 =>
          intro j u hj
          match j, hj with
          | 0, hj => simp [recV] at hj; subst hj; simp [Addr.add]
          | 1, hj => simp [recV] at hj; subst hj; simp [Addr.add]
          | 2, hj => simp [recV] at hj; subst hj; simp [Addr.add]
          | 3, hj => simp [recV] at hj; subst hj; simp [Addr.add]
          | 4, hj => simp [recV] at hj; subst hj; simp [Addr.add]
          | 5, hj => simp [recV] at hj; subst hj; simp [Addr.add]
          | 6, hj => simp [recV] at hj; subst hj; simp [Addr.add]
        case c2 =>
          intro u hu
          have e1 := own_one hIL.out.o1
          have e2 := own_one hIL.out.o2
          have e3 := own_one hIL.out.o3
          simp [recV] at hu
          rcases hu with rfl | rfl | rfl | rfl | rfl | rfl | rfl <;> first | rfl | assumption
        case c3 => unfold maxLen; omega
        case c4 => omega
        case c5 => have := hg1.out; simp; omega
        intro v' w2 hown hgrow _
        have E1 : Hid (RowRecs w2 g v' (L ++ [Q])) := by
          refine hOW.out.snoc hIL.out Z HZA.out (by rw [hL.out]; exact hO1.out) HZB.out ?_ hgrow
          rw [hL.out]
          exact hown
        have E2 := Lib.hid (rdr_row HD1.out hO1.out ((Below.refl _ _).alloc (Nat.le_refl _) _) hgrow (by decide))
        have E3 := Lib.hid ((hK1.out.alloc hg1.out _).own hgrow (by have := hg1.out; simp; omega) (fun k hk => (hO1.out.lt k hk).1))
        clear hown hgrow hO1 HD1 hK1
        go_wp2_with fail
        go_roundw
        case rel => exact ⟨j + 1, q, L ++ [Q], by go_num, by omega, by omega, E1, by (show _ = _; rw [List.length_append, hL.out]; rfl), E2, hRm, E3⟩
        case measure => simp [intOf]; omega
    · have hjn : j = n := by omega
      have hRe : Hid (R = .ok (L, p)) := by show _ = _; rw [← hR.out, show n - j = 0 by omega]; exact more_end _ _ _
      have HE : Hid (w.grownBy wr (some r)) := by
        have := hK.out
        rw [← G.out] at this
        exact this.to_grown
      clear hjn
      go_wp2_with fail
      go_ret
      rw [hRe.out]
      refine ⟨_, rfl, ?_, hD.out, HE.out⟩
      rw [G.out]
      exact hO.out
end Go.Proofs.Ytihkmdojakalbaa

/- The contract of several questions. For texts of at most 10^6 bytes. -/
namespace Go.Proofs.Ytihkmdojakalbaa
open Go.RowKit NumMath NmMath Bytes MsgMath

theorem qn_next {l : List UInt8} {p q : Nat} {Q : Qn} (h : qn l p = .ok (Q, q)) : q ≤ l.length := by
  unfold qn at h
  cases hn : nm l l.length 2 p p none [] with
  | error k => rw [hn] at h; cases h
  | ok oq =>
    obtain ⟨o, q0⟩ := oq
    rw [hn] at h
    simp only at h
    by_cases h4 : q0 + 4 ≤ l.length
    · rw [if_pos h4] at h
      injection h with h
      injection h with h1 h2
      omega
    · rw [if_neg h4] at h; cases h
/-- Several questions came back, or the reading gave up. -/
def QsEnd (w : World) (r : Nat) (s : ByteArray) : Except Nat (List Qn × Nat) → Ending → World → Prop
  | .error x, e, w' => e = gave x ∧ w.grownBy w' (some r)
  | .ok (L, q), e, w' => ∃ v, e = .returned v ∧ w'.ownsRow w.heap.size 44 3 v L.length (qnCs L) ∧ RdrAt w' r s s (q : Int) 2 ∧ w.grownBy w' (some r)
set_option maxHeartbeats 2000000 in
set_option maxRecDepth 100000 in
theorem questions_any (s : ByteArray) (r n p0 : Nat) (R : Except Nat (List Qn × Nat)) (w : World) (h : RdrAt w r s s p0 2) (hs : s.size ≤ 1000000) (hp0 : p0 ≤ 9223372036854775807) (hn : n ≤ 1000000) (hR : Hid (many (qn s.data.toList) n p0 = R)) :
    Calls Try.prog 47 #[.int .i64 n, .func (.func 48) #[.pointer (some ⟨r, 0, none⟩)] #[]] w (QsEnd w r s R) := by
  have SZ := Lib.hid (Lib.size_eq s)
  have hrl := h.lt
  have H := Lib.hid h; clear h
  obtain ⟨g, hg⟩ : ∃ g, w.heap.size = g := ⟨_, rfl⟩
  have G := Lib.hid hg
  rw [hg] at hrl
  obtain ⟨i0, hi, hz0, hz1, hz2⟩ := info_parts info_qn
  have HI := Lib.hid hi; clear hi
  have HZ0 := Lib.hid hz0; clear hz0
  have HZ1 := Lib.hid hz1; clear hz1
  have HZ2 := Lib.hid hz2; clear hz2
  have HR0 : Hid (more (qn s.data.toList) [] n p0 = R) := by show _ = _; rw [more_none]; exact hR.out
  clear hg hR
  go_enter Try.func47, Try.ntmps47
  go_wp2_with fail
  go_loopw [5, 7] (fun v i wr => ∃ (j p : Nat) (L : List Qn), i = .int .i64 j ∧ j ≤ n ∧ p ≤ 9223372036854775807 ∧ Hid (wr.ownsRow g 44 3 v j (qnCs L)) ∧ Hid (L.length = j) ∧ Hid (RdrAt wr r s s p 2) ∧ Hid (more (qn s.data.toList) L (n - j) p = R) ∧ Hid (Kept g r w wr)) (fun _ i _ => n - (intOf i).toNat)
  case atStart => exact ⟨0, p0, [], rfl, Nat.zero_le _, hp0, World.ownsRow_nil _ _ _ _, rfl, H, HR0, Kept.refl _ _ _⟩
  case round =>
    obtain ⟨j, p, L, rfl, hj, hp, hO, hL, hD, hR, hK⟩ := hrel
    have hgw : Hid (g ≤ wr.heap.size) := by have := hK.out.size; rw [G.out] at this; exact this
    by_cases hlt : j < n
    · obtain ⟨Q1, hQ1⟩ : ∃ Q1, qn s.data.toList p = Q1 := ⟨_, rfl⟩
      have HQ := Lib.hid (question_any s r p Q1 wr hD.out hs hp hQ1)
      obtain ⟨m, hm⟩ : ∃ m, n - j = m + 1 := ⟨n - j - 1, by omega⟩
      cases Q1 with
      | error x =>
        have hRe : Hid (R = .error x) := by show _ = _; rw [← hR.out, hm]; exact more_err hQ1
        clear hm hQ1
        go_wp2_with fail
        refine HQ.out.mono ?_
        rintro e w1 ⟨rfl, hG1⟩
        have HE : Hid (w.grownBy w1 (some r)) := by
          have := hK.out.grown hG1 hgw.out
          rw [← G.out] at this
          exact this.to_grown
        clear hG1
        go_wp2_with fail
        rw [hRe.out]
        exact ⟨rfl, rfl, HE.out⟩
      | ok Qq =>
        obtain ⟨Q, q⟩ := Qq
        have hql : q ≤ 1000000 := by have := qn_next hQ1; rw [← SZ.out] at this; omega
        have hRm : Hid (more (qn s.data.toList) (L ++ [Q]) (n - (j + 1)) q = R) := by show _ = _; rw [← hR.out, hm, more_one hQ1]; congr 1; omega
        clear hm hQ1
        go_wp2_with fail
        refine HQ.out.mono ?_
        rintro e w1 ⟨rfl, hD1, hG1⟩
        have hO1 := Lib.hid (row_rdr hD.out hO.out hG1 (by decide))
        have hK1 := Lib.hid (hK.out.grown hG1 hgw.out)
        have hg1 : Hid (g ≤ w1.heap.size) := Nat.le_trans hgw.out hG1.size
        have HD1 := Lib.hid hD1
        clear hD1 hG1 hO hD hK HQ
        go_wp2_with (at_builtin; refine wpList_append_own _ rfl _ _ 24 rfl g 44 i0 (.agg #[.string ⟨#[]⟩, .int .u16 0, .int .u16 0]) 3 24 Try.underlying24 HI.out HZ0.out HZ1.out HZ2.out rfl (by decide) _ _ _ rfl (hO1.out.alloc _) ⟨w1.heap.size, 0, none⟩ 1 1 (qnV Q) rfl rfl ?c1 ?c2 ?c3 ?c4 ?c5 ?_)
        case c1 =>
          intro j u hj
          match j, hj with
          | 0, hj => simp [qnV] at hj; subst hj; simp [Addr.add]
          | 1, hj => simp [qnV] at hj; subst hj; simp [Addr.add]
          | 2, hj => simp [qnV] at hj; subst hj; simp [Addr.add]
        case c2 => intro u hu; simp [qnV] at hu; rcases hu with rfl | rfl | rfl <;> rfl
        case c3 => unfold maxLen; omega
        case c4 => omega
        case c5 => have := hg1.out; simp; omega
        intro v' w2 hown hgrow _
        have E1 : Hid (w2.ownsRow g 44 3 v' (j + 1) (qnCs (L ++ [Q]))) := by
          show World.ownsRow _ _ _ _ _ _ _
          rw [qnCs_snoc]
          exact hown
        have E2 := Lib.hid (rdr_row HD1.out hO1.out ((Below.refl _ _).alloc (Nat.le_refl _) _) hgrow (by decide))
        have E3 := Lib.hid ((hK1.out.alloc hg1.out _).own hgrow (by have := hg1.out; simp; omega) (fun k hk => (hO1.out.lt k hk).1))
        clear hown hgrow hO1 HD1 hK1
        go_wp2_with fail
        go_roundw
        case rel => exact ⟨j + 1, q, L ++ [Q], by go_num, by omega, by omega, E1, by (show _ = _; rw [List.length_append, hL.out]; rfl), E2, hRm, E3⟩
        case measure => simp [intOf]; omega
    · have hjn : j = n := by omega
      have hRe : Hid (R = .ok (L, p)) := by show _ = _; rw [← hR.out, show n - j = 0 by omega]; exact more_end _ _ _
      have HE : Hid (w.grownBy wr (some r)) := by
        have := hK.out
        rw [← G.out] at this
        exact this.to_grown
      clear hjn
      go_wp2_with fail
      go_ret
      rw [hRe.out]
      refine ⟨_, rfl, ?_, hD.out, HE.out⟩
      rw [hL.out, G.out]
      exact hO.out
end Go.Proofs.Ytihkmdojakalbaa

/- The contract of a message's reader, where a message's six numbers are cut off. For texts of at most 10^6 bytes. -/
namespace Go.Proofs.Ytihkmdojakalbaa
open Go.RowKit NumMath NmMath Bytes MsgMath RecMath

/-- A message came back, or the reading gave up. -/
def MsgEnd (w : World) (r : Nat) : Except Nat Msg → Ending → World → Prop
  | .error x, e, w' => e = gave x ∧ w.grownBy w' (some r)
  | .ok M, e, w' => ∃ vq va vn vx, e = .returned (.agg #[.int .u16 M.id, .int .u16 M.flags, vq, va, vn, vx]) ∧ w'.ownsRow w.heap.size 44 3 vq M.qs.length (qnCs M.qs) ∧ RowRecs w' w.heap.size va M.an ∧ RowRecs w' w.heap.size vn M.ns ∧ RowRecs w' w.heap.size vx M.ad ∧ w.grownBy w' (some r)
/-- The state within a message's reading: three blocks of its own, the reader. -/
structure MsgSt (w wr : World) (g r : Nat) (s : ByteArray) (p B0 B1 B2 : Nat) (c d : Array Value) (t : TypeId) : Prop where
  rg : r < g
  g0 : g ≤ B0
  b01 : B0 < B1
  b12 : B1 < B2
  b2l : B2 < wr.heap.size
  rd : RdrAt wr r s s (p : Int) 2
  b0 : wr.heap[B0]? = some (.cells #[.int .u16 0, .int .u16 0, .slice none 0 0, .slice none 0 0, .slice none 0 0, .slice none 0 0] 27 (0, 0))
  b1 : wr.heap[B1]? = some (.cells c 27 (0, 0))
  b2 : wr.heap[B2]? = some (.cells d t (0, 0))
  kept : Kept g r w wr
section
variable {w wr w' : World} {g r : Nat} {s : ByteArray} {p B0 B1 B2 : Nat} {c d : Array Value} {t : TypeId}
theorem MsgSt.call (h : MsgSt w wr g r s p B0 B1 B2 c d t) {q : Nat} (hd : RdrAt w' r s s (q : Int) 2) (hg : wr.grownBy w' (some r)) : MsgSt w w' g r s q B0 B1 B2 c d t :=
  ⟨h.rg, h.g0, h.b01, h.b12, Nat.lt_of_lt_of_le h.b2l hg.size, hd, (grown_block hg (by have := h.b01; have := h.b12; have := h.b2l; omega) (by have := h.rg; have := h.g0; omega)).trans h.b0, (grown_block hg (by have := h.b12; have := h.b2l; omega) (by have := h.rg; have := h.g0; have := h.b01; omega)).trans h.b1, (grown_block hg h.b2l (by have := h.rg; have := h.g0; have := h.b01; have := h.b12; omega)).trans h.b2,
    h.kept.grown hg (by have := h.g0; have := h.b01; have := h.b12; have := h.b2l; omega)⟩
theorem MsgSt.set1 (h : MsgSt w wr g r s p B0 B1 B2 c d t) (i : Nat) (v : Value) : MsgSt w (wr.setCell ⟨B1, i, none⟩ v) g r s p B0 B1 B2 (c.setIfInBounds i v) d t := by
  have h1 := h.rg; have h2 := h.g0; have h3 := h.b01; have h4 := h.b12
  refine ⟨h1, h2, h3, h4, by simpa [World.setCell] using h.b2l, h.rd.far (by simp only; omega) _, ?_, ?_, ?_, h.kept.setCell (.inr (by simp only; omega)) _⟩
  · rw [Below.heap_setCell _ _ _ _ (by simp only; omega)]; exact h.b0
  · simp [World.setCell, Array.getElem?_modify, h.b1]
  · rw [Below.heap_setCell _ _ _ _ (by simp only; omega)]; exact h.b2
theorem MsgSt.set2 (h : MsgSt w wr g r s p B0 B1 B2 c d t) (i : Nat) (v : Value) : MsgSt w (wr.setCell ⟨B2, i, none⟩ v) g r s p B0 B1 B2 c (d.setIfInBounds i v) t := by
  have h1 := h.rg; have h2 := h.g0; have h3 := h.b01; have h4 := h.b12
  refine ⟨h1, h2, h3, h4, by simpa [World.setCell] using h.b2l, h.rd.far (by simp only; omega) _, ?_, ?_, ?_, h.kept.setCell (.inr (by simp only; omega)) _⟩
  · rw [Below.heap_setCell _ _ _ _ (by simp only; omega)]; exact h.b0
  · rw [Below.heap_setCell _ _ _ _ (by simp only; omega)]; exact h.b1
  · simp [World.setCell, Array.getElem?_modify, h.b2]
theorem MsgSt.drewN (h : MsgSt w wr g r s p B0 B1 B2 c d t) (n : Nat) : MsgSt w (wr.drewN n) g r s p B0 B1 B2 c d t := ⟨h.rg, h.g0, h.b01, h.b12, h.b2l, h.rd, h.b0, h.b1, h.b2, h.kept.drewN n⟩
theorem MsgSt.only (h : MsgSt w wr g r s p B0 B1 B2 c d t) (hg : w.heap.size = g) : w.grownBy wr (some r) := by
  have := h.kept
  rw [← hg] at this
  exact this.to_grown
theorem MsgSt.size (h : MsgSt w wr g r s p B0 B1 B2 c d t) : g ≤ wr.heap.size := by have := h.g0; have := h.b01; have := h.b12; have := h.b2l; omega
end
/-- The counts that were read. -/
def cntC (l : List UInt8) (j : Nat) : Array Value := #[.int .i64 (if 0 < j then (nu l 4 2 : Int) else 0), .int .i64 (if 1 < j then (nu l 6 2 : Int) else 0), .int .i64 (if 2 < j then (nu l 8 2 : Int) else 0), .int .i64 (if 3 < j then (nu l 10 2 : Int) else 0)]
def cntS (l : List UInt8) (j : Nat) : Nat := (if 0 < j then nu l 4 2 else 0) + (if 1 < j then nu l 6 2 else 0) + (if 2 < j then nu l 8 2 else 0) + (if 3 < j then nu l 10 2 else 0)
theorem cnt_step (l : List UInt8) {j : Nat} (hj : j < 4) : (cntC l j).setIfInBounds j (.int .i64 (nu l (4 + 2 * j) 2)) = cntC l (j + 1) ∧ cntS l (j + 1) = cntS l j + nu l (4 + 2 * j) 2 := by
  match j, hj with
  | 0, _ => exact ⟨rfl, by simp [cntS]⟩
  | 1, _ => exact ⟨rfl, by simp [cntS]⟩
  | 2, _ => exact ⟨rfl, by simp [cntS]⟩
  | 3, _ => exact ⟨rfl, by simp [cntS]⟩
theorem cntS_lt (l : List UInt8) (j : Nat) : cntS l j ≤ 262140 := by
  have := nu2_lt l 4; have := nu2_lt l 6; have := nu2_lt l 8; have := nu2_lt l 10
  unfold cntS
  repeat' split
  all_goals omega

set_option maxHeartbeats 2000000 in
set_option maxRecDepth 100000 in
theorem message_short (s : ByteArray) (r : Nat) (R : Except Nat Msg) (w : World) (hs : s.size ≤ 1000000) {g : Nat} (hrl : r < w.heap.size) (hg : w.heap.size = g) (hd0 : RdrAt (w.alloc (.cells #[.int .u16 0, .int .u16 0, .slice none 0 0, .slice none 0 0, .slice none 0 0, .slice none 0 0] 27)) r s s 0 2) (hbl : Below g w (w.alloc (.cells #[.int .u16 0, .int .u16 0, .slice none 0 0, .slice none 0 0, .slice none 0 0, .slice none 0 0] 27))) (h12 : s.size < 12) (hR : Hid (R = .error 2)) :
    Calls Try.prog 24 #[.pointer (some ⟨r, 0, none⟩)] w (MsgEnd w r R) := by
  have hno : ∀ (q : Nat) (w' : World), s.size < q + 2 → q ≤ 1000000 → RdrAt w' r s s (q : Int) 2 → Calls Try.prog 46 #[.pointer (some ⟨r, 0, none⟩), .int .i64 2] w' fun e w'' => e = gave 2 ∧ ∃ m, w'' = w'.drewN m :=
    fun q w' h1 h2 hd => number_no s s r 2 (q : Int) 2 w' hd hs (by decide) (by omega) (by omega) (holds_no (n := s.size) (p := q) (m := 2) h1)
  have hyes : ∀ (q : Nat) (w' : World), q + 2 ≤ s.size → RdrAt w' r s s (q : Int) 2 → Calls Try.prog 46 #[.pointer (some ⟨r, 0, none⟩), .int .i64 2] w' fun e w'' => e = .returned (.int .u32 (nu s.data.toList q 2 : Nat)) ∧ RdrAt w'' r s s ((q + 2 : Nat) : Int) 2 ∧ w'.grownBy w'' (some r) :=
    fun q w' h1 hd => number_yes s s r q 2 2 _ w' hd (by decide) (by decide) h1 hs rfl
  have HNO := Lib.hid hno
  have HYES := Lib.hid hyes
  have HD0 := Lib.hid hd0
  have HE0 := Lib.hid (show (w.alloc (.cells #[.int .u16 0, .int .u16 0, .slice none 0 0, .slice none 0 0, .slice none 0 0, .slice none 0 0] 27)).heap.size = g + 1 by simp [hg])
  have HB0 := Lib.hid (show (w.alloc (.cells #[.int .u16 0, .int .u16 0, .slice none 0 0, .slice none 0 0, .slice none 0 0, .slice none 0 0] 27)).heap[g]? = some (.cells #[.int .u16 0, .int .u16 0, .slice none 0 0, .slice none 0 0, .slice none 0 0, .slice none 0 0] 27 (0, 0)) by rw [← hg]; exact heap_alloc_new w _)
  have HK0 := Lib.hid ((Kept.refl g r w).below hbl)
  have G := Lib.hid hg
  clear hno hyes hd0 hbl
  obtain ⟨x0, hx0⟩ : ∃ x, nu s.data.toList 0 2 = x := ⟨_, rfl⟩
  have hx0l : x0 < 65536 := by rw [← hx0]; exact nu2_lt _ _
  obtain ⟨x2, hx2⟩ : ∃ x, nu s.data.toList 2 2 = x := ⟨_, rfl⟩
  have hx2l : x2 < 65536 := by rw [← hx2]; exact nu2_lt _ _
  have HX0 := Lib.hid hx0
  have HX2 := Lib.hid hx2
  clear hx0 hx2
  by_cases h2 : 2 ≤ s.size
  · have H1 := HYES.out 0 _ h2 HD0.out
    rw [HX0.out] at H1
    have H1' := Lib.hid H1
    clear H1
    go_enter Try.func24, Try.ntmps24
    go_wp2_with fail
    refine H1'.out.mono ?_
    rintro e w1 ⟨rfl, hD1, hG1⟩
    have HD1 := Lib.hid hD1
    have HG1 := Lib.hid hG1
    clear hD1 hG1
    by_cases h4 : 4 ≤ s.size
    · have H2 := HYES.out 2 _ h4 HD1.out
      rw [HX2.out] at H2
      have H2' := Lib.hid H2
      clear H2
      go_wp2_with fail
      refine H2'.out.mono ?_
      rintro e w2 ⟨rfl, hD2, hG2⟩
      have hg2 := grown_trans HG1.out hG2
      have he0 := HE0.out
      have hb0 : w2.heap[g]? = some (.cells #[.int .u16 0, .int .u16 0, .slice none 0 0, .slice none 0 0, .slice none 0 0, .slice none 0 0] 27 (0, 0)) := (grown_block hg2 (by omega) (by omega)).trans HB0.out
      have hs2 : g + 1 ≤ w2.heap.size := by have := hg2.size; omega
      have hk2 : Kept g r w w2 := HK0.out.grown hg2 (by omega)
      obtain ⟨B1, hB1⟩ : ∃ B1, w2.heap.size = B1 := ⟨_, rfl⟩
      have HST : Hid (MsgSt w ((w2.alloc (.cells #[.int .u16 x0, .int .u16 x2, .slice none 0 0, .slice none 0 0, .slice none 0 0, .slice none 0 0] 27)).alloc (.cells #[.int .i64 0, .int .i64 0, .int .i64 0, .int .i64 0] 87)) g r s 4 g B1 (B1 + 1) #[.int .u16 x0, .int .u16 x2, .slice none 0 0, .slice none 0 0, .slice none 0 0, .slice none 0 0] (cntC s.data.toList 0) 87) := by
        refine ⟨by omega, Nat.le_refl _, by omega, by omega, by simp [hB1], ?_, ?_, ?_, ?_, ?_⟩
        · exact (hD2.held ((Below.refl _ _).alloc (Nat.le_refl _) _)).held ((Below.refl _ _).alloc (Nat.le_refl _) _)
        · exact old_at (old_at hb0)
        · exact old_at (new_at _ _ _ hB1.symm)
        · exact new_at _ _ _ (by simp [hB1])
        · exact (hk2.alloc (by omega) _).alloc (by simp; omega) _
      clear hD2 hG2 hg2 hb0 hs2 hk2
      go_wp2_with fail
      generalize (w2.alloc (.cells #[.int .u16 x0, .int .u16 x2, .slice none 0 0, .slice none 0 0, .slice none 0 0, .slice none 0 0] 27)).alloc (.cells #[.int .i64 0, .int .i64 0, .int .i64 0, .int .i64 0] 87) = w3 at *
      clear hB1 he0
      go_loopw [5, 14] (fun sm ct wr => ∃ j, sm = .int .i64 (cntS s.data.toList j : Nat) ∧ ct = .int .i64 j ∧ j ≤ 4 ∧ 4 + 2 * j ≤ s.size ∧ Hid (MsgSt w wr g r s (4 + 2 * j) g B1 (B1 + 1) #[.int .u16 x0, .int .u16 x2, .slice none 0 0, .slice none 0 0, .slice none 0 0, .slice none 0 0] (cntC s.data.toList j) 87)) (fun _ ct _ => 4 - (intOf ct).toNat)
      case atStart => exact ⟨0, rfl, rfl, by decide, h4, HST⟩
      case round =>
        obtain ⟨j, rfl, rfl, hj, hjs, hST⟩ := hrel
        by_cases hlt : j < 4
        · by_cases hin : 4 + 2 * j + 2 ≤ s.size
          · obtain ⟨hc1, hc2⟩ := cnt_step s.data.toList hlt
            have hsl := cntS_lt s.data.toList j
            obtain ⟨S, hS⟩ : ∃ S, cntS s.data.toList j = S := ⟨_, rfl⟩
            obtain ⟨x, hx⟩ : ∃ x, nu s.data.toList (4 + 2 * j) 2 = x := ⟨_, rfl⟩
            rw [hS, hx] at hc2
            rw [hx] at hc1
            rw [hS] at hsl
            rw [hS]
            have hxl : x < 65536 := by rw [← hx]; exact nu2_lt _ _
            have hn := HYES.out (4 + 2 * j) wr hin hST.out.rd
            rw [hx] at hn
            have HN := Lib.hid hn
            have HC1 := Lib.hid hc1
            have HC2 := Lib.hid hc2
            obtain ⟨u0, hu0⟩ : ∃ u, (cntC s.data.toList j)[j]? = some u := by
              match j, hlt with
              | 0, _ => exact ⟨_, rfl⟩
              | 1, _ => exact ⟨_, rfl⟩
              | 2, _ => exact ⟨_, rfl⟩
              | 3, _ => exact ⟨_, rfl⟩
            have HU0 := Lib.hid hu0
            clear hx hS hc1 hc2 hu0 hn
            go_wp2_with fail
            refine HN.out.mono ?_
            rintro e w4 ⟨rfl, hD4, hG4⟩
            have hst := hST.out.call (q := 4 + 2 * j + 2) hD4 hG4
            have hcell : w4.cell? ⟨B1 + 1, j, none⟩ = some u0 := (cell_of_row w4 _ j _ _ _ hst.b2).trans HU0.out
            have hfz : w4.frozen? ⟨B1 + 1, j, none⟩ = false := by simp [World.frozen?, hst.b2]
            have hst2 := Lib.hid (hst.set2 j (.int .i64 x))
            have HST5 : Hid (MsgSt w (w4.setCell ⟨B1 + 1, j, none⟩ (.int .i64 x)) g r s (4 + 2 * (j + 1)) g B1 (B1 + 1) #[.int .u16 x0, .int .u16 x2, .slice none 0 0, .slice none 0 0, .slice none 0 0, .slice none 0 0] (cntC s.data.toList (j + 1)) 87) := by
              have := hst2.out
              rw [HC1.out] at this
              exact this
            clear hD4 hG4 hst hST hst2
            go_wp2_with fail
            go_roundw
            case rel => exact ⟨j + 1, by rw [HC2.out]; go_num, by go_num, by omega, by omega, HST5⟩
            case measure => simp [intOf]; omega
          · have HN := Lib.hid (HNO.out (4 + 2 * j) wr (by omega) (by omega) hST.out.rd)
            have HE := Lib.hid (hST.out.only G.out)
            go_wp2_with fail
            refine HN.out.mono ?_
            rintro e w4 ⟨rfl, m, rfl⟩
            go_wp2_with fail
            rw [hR.out]
            exact ⟨rfl, rfl, grown_drewN HE.out m⟩
        · omega
    · have H2 := Lib.hid (HNO.out 2 _ (by omega) (by decide) HD1.out)
      have HE : Hid (w.grownBy w1 (some r)) := by
        have := HK0.out.grown HG1.out (by rw [HE0.out]; omega)
        rw [← G.out] at this
        exact this.to_grown
      go_wp2_with fail
      refine H2.out.mono ?_
      rintro e w4 ⟨rfl, m, rfl⟩
      go_wp2_with fail
      rw [hR.out]
      exact ⟨rfl, rfl, grown_drewN HE.out m⟩
  · have H1 := Lib.hid (HNO.out 0 _ (by omega) (by decide) HD0.out)
    have HE : Hid (w.grownBy (w.alloc (.cells #[.int .u16 0, .int .u16 0, .slice none 0 0, .slice none 0 0, .slice none 0 0, .slice none 0 0] 27)) (some r)) := by
      have := HK0.out
      rw [← G.out] at this
      exact this.to_grown
    go_enter Try.func24, Try.ntmps24
    go_wp2_with fail
    refine H1.out.mono ?_
    rintro e w4 ⟨rfl, m, rfl⟩
    go_wp2_with fail
    rw [hR.out]
    exact ⟨rfl, rfl, grown_drewN HE.out m⟩
end Go.Proofs.Ytihkmdojakalbaa
