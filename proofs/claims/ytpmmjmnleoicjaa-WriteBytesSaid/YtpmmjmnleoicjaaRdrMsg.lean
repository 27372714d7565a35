/- The contract of a message's reader: the whole message, given that of a record. For texts of at most 10^6 bytes. -/
import Derived.Test.YtpmmjmnleoicjaaProg
import Derived.Test.YtpmmjmnleoicjaaBytes
import Derived.Test.YtpmmjmnleoicjaaNmMath
import Derived.Test.YtpmmjmnleoicjaaNmAt
import Derived.Test.YtpmmjmnleoicjaaMsgMath
import Derived.Test.YtpmmjmnleoicjaaRecMath
import Derived.Test.YtpmmjmnleoicjaaKept
import Derived.Test.YtpmmjmnleoicjaaOwnRow
import Derived.Test.YtpmmjmnleoicjaaRecRow
import Derived.Test.YtpmmjmnleoicjaaRdr
import Derived.Test.YtpmmjmnleoicjaaRdrText
import Derived.Test.YtpmmjmnleoicjaaRdrAsk
import Derived.Test.YtpmmjmnleoicjaaRdrAsks
import Derived.Test.YtpmmjmnleoicjaaRdrRecs
import Derived.Test.YtpmmjmnleoicjaaRdrMsgSt
import Derived.WalkKit
import Derived.Lib.Hide
import Derived.Laws.Rows
import Derived.Laws.AppendOwn
import Derived.Outline
import Derived.IntWalk
import Derived.WalkSpells
import Derived.WalkLawsBesides
namespace Go.Proofs.Ytpmmjmnleoicjaa
open Go.RowKit NumMath NmMath Bytes MsgMath RecMath

set_option maxHeartbeats 4000000 in
set_option maxRecDepth 100000 in
theorem message_any (s : ByteArray) (r : Nat) (rec : Nat → Except Nat (Rec × Nat)) (R : Except Nat Msg) (w : World) (h : RdrAt w r s s 0 2) (hs : s.size ≤ 1000000) (hrec : Hid (0 < nu s.data.toList 6 2 + nu s.data.toList 8 2 + nu s.data.toList 10 2 → RecReads r s rec)) (hR : Hid (msg rec s.data.toList = R)) :
    Calls Try.prog 56 #[.pointer (some ⟨r, 0, none⟩)] w (MsgEnd w r R) := by
  have SZ := Lib.hid (Lib.size_eq s)
  have hrl := h.lt
  obtain ⟨g, hg⟩ : ∃ g, w.heap.size = g := ⟨_, rfl⟩
  have G := Lib.hid hg
  have hBl : Below g w (w.alloc (.cells #[.int .u16 0, .int .u16 0, .slice none 0 0, .slice none 0 0, .slice none 0 0, .slice none 0 0] 26)) := (Below.refl _ _).alloc (by omega) _
  have hb0 : (w.alloc (.cells #[.int .u16 0, .int .u16 0, .slice none 0 0, .slice none 0 0, .slice none 0 0, .slice none 0 0] 26)).heap[g]? = some (.cells #[.int .u16 0, .int .u16 0, .slice none 0 0, .slice none 0 0, .slice none 0 0, .slice none 0 0] 26 (0, 0)) := by rw [← hg]; exact heap_alloc_new w _
  have hd0 := h.below hBl (by omega)
  have hsz0 : (w.alloc (.cells #[.int .u16 0, .int .u16 0, .slice none 0 0, .slice none 0 0, .slice none 0 0, .slice none 0 0] 26)).heap.size = g + 1 := by simp [hg]
  have HD0 := Lib.hid hd0
  have HB0 := Lib.hid hb0
  have HBL := Lib.hid hBl
  clear hd0 hb0 hBl h
  by_cases h12 : 12 ≤ s.size
  · obtain ⟨x1, hx1⟩ : ∃ x, nu s.data.toList 0 2 = x := ⟨_, rfl⟩
    obtain ⟨x2, hx2⟩ : ∃ x, nu s.data.toList 2 2 = x := ⟨_, rfl⟩
    have hx1l : x1 < 65536 := by rw [← hx1]; exact nu2_lt _ _
    have hx2l : x2 < 65536 := by rw [← hx2]; exact nu2_lt _ _
    have H1 := Lib.hid (number_yes s s r 0 2 2 x1 _ HD0.out (by decide) (by decide) (by omega) hs hx1)
    have H2 := Lib.hid (fun w' (hd : RdrAt w' r s s ((2 : Nat) : Int) 2) => number_yes s s r 2 2 2 x2 w' hd (by decide) (by decide) (by omega) hs hx2)
    have HX1 := Lib.hid hx1
    have HX2 := Lib.hid hx2
    have hcl4 : ∀ k, nu s.data.toList k 2 < 65536 := fun k => nu2_lt _ _
    have HCL := Lib.hid hcl4
    clear hx1 hx2 hcl4
    go_enter Try.func56, Try.ntmps56
    go_wp2_with fail
    refine H1.out.mono ?_
    rintro e w1 ⟨rfl, hD1, hG1⟩
    have HD1 := Lib.hid hD1
    have HG1 := Lib.hid hG1
    clear hD1 hG1
    go_wp2_with fail
    refine (H2.out _ HD1.out).mono ?_
    rintro e w2 ⟨rfl, hD2, hG2⟩
    have hg2 := grown_trans HG1.out hG2
    have hb0 : w2.heap[g]? = some (.cells #[.int .u16 0, .int .u16 0, .slice none 0 0, .slice none 0 0, .slice none 0 0, .slice none 0 0] 26 (0, 0)) := (grown_block hg2 (by omega) (by omega)).trans HB0.out
    have hs2 : g + 1 ≤ w2.heap.size := by have := hg2.size; omega
    have hk2 : Kept g r w w2 := ((Kept.refl g r w).below HBL.out).grown hg2 (by omega)
    obtain ⟨B1, hB1⟩ : ∃ B1, w2.heap.size = B1 := ⟨_, rfl⟩
    have HST : Hid (MsgSt w ((w2.alloc (.cells #[.int .u16 x1, .int .u16 x2, .slice none 0 0, .slice none 0 0, .slice none 0 0, .slice none 0 0] 26)).alloc (.cells #[.int .i64 0, .int .i64 0, .int .i64 0, .int .i64 0] 126)) g r s 4 g B1 (B1 + 1) #[.int .u16 x1, .int .u16 x2, .slice none 0 0, .slice none 0 0, .slice none 0 0, .slice none 0 0] (cntC s.data.toList 0) 126) := by
      refine ⟨by omega, Nat.le_refl _, by omega, by omega, by simp [hB1], ?_, ?_, ?_, ?_, ?_⟩
      · exact (hD2.held ((Below.refl _ _).alloc (Nat.le_refl _) _)).held ((Below.refl _ _).alloc (Nat.le_refl _) _)
      · exact old_at (old_at hb0)
      · exact old_at (new_at _ _ _ hB1.symm)
      · exact new_at _ _ _ (by simp [hB1])
      · exact (hk2.alloc (by omega) _).alloc (by simp; omega) _
    clear hD2 hG2 hg2 hb0 hs2 hk2
    go_wp2_with fail
    generalize (w2.alloc (.cells #[.int .u16 x1, .int .u16 x2, .slice none 0 0, .slice none 0 0, .slice none 0 0, .slice none 0 0] 26)).alloc (.cells #[.int .i64 0, .int .i64 0, .int .i64 0, .int .i64 0] 126) = w3 at *
    clear hB1 H1 H2 hsz0
    go_loopw [5, 14] (fun sm ct wr => ∃ j, sm = .int .i64 (cntS s.data.toList j : Nat) ∧ ct = .int .i64 j ∧ j ≤ 4 ∧ Hid (MsgSt w wr g r s (4 + 2 * j) g B1 (B1 + 1) #[.int .u16 x1, .int .u16 x2, .slice none 0 0, .slice none 0 0, .slice none 0 0, .slice none 0 0] (cntC s.data.toList j) 126)) (fun _ ct _ => 4 - (intOf ct).toNat)
    case atStart => exact ⟨0, rfl, rfl, by decide, HST⟩
    case round =>
      obtain ⟨j, rfl, rfl, hj, hST⟩ := hrel
      by_cases hlt : j < 4
      · obtain ⟨hc1, hc2⟩ := cnt_step s.data.toList hlt
        have hsl := cntS_lt s.data.toList j
        obtain ⟨S, hS⟩ : ∃ S, cntS s.data.toList j = S := ⟨_, rfl⟩
        obtain ⟨x, hx⟩ : ∃ x, nu s.data.toList (4 + 2 * j) 2 = x := ⟨_, rfl⟩
        rw [hS, hx] at hc2
        rw [hx] at hc1
        rw [hS] at hsl
        rw [hS]
        have hxl : x < 65536 := by rw [← hx]; exact nu2_lt _ _
        have HN := Lib.hid (number_yes s s r (4 + 2 * j) 2 2 x wr hST.out.rd (by decide) (by decide) (by omega) hs hx)
        have HC1 := Lib.hid hc1
        have HC2 := Lib.hid hc2
        obtain ⟨u0, hu0⟩ : ∃ u, (cntC s.data.toList j)[j]? = some u := by
          match j, hlt with
          | 0, _ => exact ⟨_, rfl⟩
          | 1, _ => exact ⟨_, rfl⟩
          | 2, _ => exact ⟨_, rfl⟩
          | 3, _ => exact ⟨_, rfl⟩
        have HU0 := Lib.hid hu0
        clear hx hS hc1 hc2 hu0
        go_wp2_with fail
        refine HN.out.mono ?_
        rintro e w4 ⟨rfl, hD4, hG4⟩
        have hst := hST.out.call (q := 4 + 2 * j + 2) hD4 hG4
        have hcell : w4.cell? ⟨B1 + 1, j, none⟩ = some u0 := (cell_of_row w4 _ j _ _ _ hst.b2).trans HU0.out
        have hfz : w4.frozen? ⟨B1 + 1, j, none⟩ = false := by simp [World.frozen?, hst.b2]
        have hst2 := Lib.hid (hst.set2 j (.int .i64 x))
        have HST5 : Hid (MsgSt w (w4.setCell ⟨B1 + 1, j, none⟩ (.int .i64 x)) g r s (4 + 2 * (j + 1)) g B1 (B1 + 1) #[.int .u16 x1, .int .u16 x2, .slice none 0 0, .slice none 0 0, .slice none 0 0, .slice none 0 0] (cntC s.data.toList (j + 1)) 126) := by
          have := hst2.out
          rw [HC1.out] at this
          exact this
        clear hD4 hG4 hst hST hst2
        go_wp2_with fail
        go_roundw
        case rel => exact ⟨j + 1, by rw [HC2.out]; go_num, by go_num, by omega, HST5⟩
        case measure => simp [intOf]; omega
      · have hj4 : j = 4 := by omega
        subst hj4
        have hsum : cntS s.data.toList 4 = nu s.data.toList 4 2 + nu s.data.toList 6 2 + nu s.data.toList 8 2 + nu s.data.toList 10 2 := rfl
        have hcc : cntC s.data.toList 4 = #[.int .i64 (nu s.data.toList 4 2 : Nat), .int .i64 (nu s.data.toList 6 2 : Nat), .int .i64 (nu s.data.toList 8 2 : Nat), .int .i64 (nu s.data.toList 10 2 : Nat)] := rfl
        rw [hcc] at hST
        rw [hsum]
        have hl4 := HCL.out 4; have hl6 := HCL.out 6; have hl8 := HCL.out 8; have hl10 := HCL.out 10
        obtain ⟨ca, hca⟩ : ∃ x, nu s.data.toList 4 2 = x := ⟨_, rfl⟩
        obtain ⟨cb, hcb⟩ : ∃ x, nu s.data.toList 6 2 = x := ⟨_, rfl⟩
        obtain ⟨cc, hcc2⟩ : ∃ x, nu s.data.toList 8 2 = x := ⟨_, rfl⟩
        obtain ⟨cd, hcd⟩ : ∃ x, nu s.data.toList 10 2 = x := ⟨_, rfl⟩
        rw [hca, hcb, hcc2, hcd]
        rw [hca, hcb, hcc2, hcd] at hST
        rw [hcb, hcc2, hcd] at hrec
        rw [hca] at hl4; rw [hcb] at hl6; rw [hcc2] at hl8; rw [hcd] at hl10
        have HCA := Lib.hid hca; have HCB := Lib.hid hcb; have HCC := Lib.hid hcc2; have HCD := Lib.hid hcd
        clear hsum hcc hca hcb hcc2 hcd HCL
        by_cases hbig : 256 < ca + cb + cc + cd
        · have hRe : Hid (R = .error 6) := by show _ = _; rw [← hR.out]; exact msg_full (by rw [← SZ.out]; exact h12) (by rw [HCA.out, HCB.out, HCC.out, HCD.out]; exact hbig)
          have hbi : (256 : Int) < ((ca + cb + cc + cd : Nat) : Int) := by omega
          have HE := Lib.hid (hST.out.only G.out)
          go_wp2_with fail
          rw [hRe.out]
          exact ⟨rfl, rfl, HE.out⟩
        · have hR1 : Hid (msg1 rec s.data.toList = R) := by show _ = _; rw [← hR.out]; exact (msg_some (by rw [← SZ.out]; exact h12) (by rw [HCA.out, HCB.out, HCC.out, HCD.out]; omega)).symm
          have hbi : ((ca + cb + cc + cd : Nat) : Int) ≤ (256 : Int) := by omega
          clear hR hbig
          obtain ⟨Q1, hQ1⟩ : ∃ Q1, many (qn s.data.toList) ca 12 = Q1 := ⟨_, rfl⟩
          have HQ := Lib.hid (questions_any s r ca 12 Q1 wr hST.out.rd hs (by decide) (by omega) hQ1)
          have HQE : Hid (many (qn s.data.toList) (nu s.data.toList 4 2) 12 = Q1) := by show _ = _; rw [HCA.out]; exact hQ1
          have ha1 : wr.cell? ⟨B1 + 1, 0, none⟩ = some (.int .i64 (ca : Nat)) := cell_of_row _ _ 0 _ _ _ hST.out.b2
          cases Q1 with
          | error x =>
            have hRe : Hid (R = .error x) := by show _ = _; rw [← hR1.out]; exact msg1_err HQE.out
            clear hQ1
            go_wp2_with fail
            refine HQ.out.mono ?_
            rintro e w9 ⟨rfl, hG9⟩
            have HE := Lib.hid (grown_trans (hST.out.only G.out) hG9)
            clear hG9
            go_wp2_with fail
            rw [hRe.out]
            exact ⟨rfl, rfl, HE.out⟩
          | ok Qq1 =>
            obtain ⟨qs, q1⟩ := Qq1
            have hql1 : q1 ≤ s.size := by rw [SZ.out]; exact many_le (fun _ a b c h => qn_next h) (by rw [← SZ.out]; exact h12) hQ1
            have hR2 : Hid (msg2 rec s.data.toList qs q1 = R) := by show _ = _; rw [← hR1.out]; exact (msg1_ok HQE.out).symm
            have HLE1 : Hid (qs.length = ca) := many_len hQ1
            have HQ1 : Hid (many (qn s.data.toList) (nu s.data.toList 4 2) 12 = .ok (qs, q1)) := HQE
            clear hQ1
            go_wp2_with fail
            refine HQ.out.mono ?_
            rintro e y1 ⟨v1, rfl, hO1, hD1, hG1⟩
            obtain ⟨A1, m1, c1, rfl⟩ := row_slice hO1
            have hst1 := hST.out.call hD1 hG1
            have hrow1 := row_low hO1 hST.out.size
            have hc1 : y1.cell? ⟨B1, 2, none⟩ = some (.slice none 0 0) := cell_of_row _ _ 2 _ _ _ hst1.b1
            have hf1 : ∀ i, y1.frozen? ⟨B1, i, none⟩ = false := fun i => by simp [World.frozen?, hst1.b1]
            have HS1 : Hid (MsgSt w (y1.setCell ⟨B1, 2, none⟩ (.slice A1 m1 c1)) g r s q1 g B1 (B1 + 1) #[.int .u16 x1, .int .u16 x2, (.slice A1 m1 c1), .slice none 0 0, .slice none 0 0, .slice none 0 0] #[.int .i64 (ca : Nat), .int .i64 (cb : Nat), .int .i64 (cc : Nat), .int .i64 (cd : Nat)] 126) := hst1.set1 2 (.slice A1 m1 c1)
            have hgs : y1.grownBy (y1.setCell ⟨B1, 2, none⟩ (.slice A1 m1 c1)) (some B1) := only_setCell (grown_refl _ _) (.inl rfl) _
            have HW1 := Lib.hid (hrow1.kept hgs (row_ne hst1.b1 hrow1 (by decide)))
            clear hO1 hD1 hG1 hst1 hgs HQ HQE hrow1
            obtain ⟨Q2, hQ2⟩ : ∃ Q, many rec cb q1 = Q := ⟨_, rfl⟩
            have HQ := Lib.hid (records_any s r cb q1 rec Q2 (y1.setCell ⟨B1, 2, none⟩ (.slice A1 m1 c1)) HS1.out.rd (by omega) hs (by omega) (fun h => hrec.out (by omega)) hQ2)
            have HQE : Hid (many rec (nu s.data.toList 6 2) q1 = Q2) := by show _ = _; rw [HCB.out]; exact hQ2
            have ha2 : (y1.setCell ⟨B1, 2, none⟩ (.slice A1 m1 c1)).cell? ⟨B1 + 1, 1, none⟩ = some (.int .i64 (cb : Nat)) := cell_of_row _ _ 1 _ _ _ HS1.out.b2
            cases Q2 with
            | error x =>
              have hRe : Hid (R = .error x) := by show _ = _; rw [← hR2.out]; exact msg2_err HQE.out
              clear hQ2
              go_wp2_with fail
              refine HQ.out.mono ?_
              rintro e w9 ⟨rfl, hG9⟩
              have HE := Lib.hid (grown_trans (HS1.out.only G.out) hG9)
              clear hG9
              go_wp2_with fail
              rw [hRe.out]
              exact ⟨rfl, rfl, HE.out⟩
            | ok Qq2 =>
              obtain ⟨an, q2⟩ := Qq2
              have hql2 : q2 ≤ s.size := many_le (fun h0 a b c h => (hrec.out (by omega)).2 a b c h) hql1 hQ2
              have hR3 : Hid (msg3 rec s.data.toList qs an q2 = R) := by show _ = _; rw [← hR2.out]; exact (msg2_ok HQE.out).symm
              have HLE2 : Hid (an.length = cb) := many_len hQ2
              have HQ2 : Hid (many rec (nu s.data.toList 6 2) q1 = .ok (an, q2)) := HQE
              clear hQ2
              go_wp2_with fail
              refine HQ.out.mono ?_
              rintro e y2 ⟨v2, rfl, hO2, hD2, hG2⟩
              obtain ⟨A2, m2, c2, rfl⟩ := hO2.slice
              have hst2 := HS1.out.call hD2 hG2
              have hrow1 := row_rdr HS1.out.rd HW1.out hG2 (by decide)
              have hrow2 := hO2.low HS1.out.size
              have hc2 : y2.cell? ⟨B1, 3, none⟩ = some (.slice none 0 0) := cell_of_row _ _ 3 _ _ _ hst2.b1
              have hf2 : ∀ i, y2.frozen? ⟨B1, i, none⟩ = false := fun i => by simp [World.frozen?, hst2.b1]
              have HS2 : Hid (MsgSt w (y2.setCell ⟨B1, 3, none⟩ (.slice A2 m2 c2)) g r s q2 g B1 (B1 + 1) #[.int .u16 x1, .int .u16 x2, (.slice A1 m1 c1), (.slice A2 m2 c2), .slice none 0 0, .slice none 0 0] #[.int .i64 (ca : Nat), .int .i64 (cb : Nat), .int .i64 (cc : Nat), .int .i64 (cd : Nat)] 126) := hst2.set1 3 (.slice A2 m2 c2)
              have hgs : y2.grownBy (y2.setCell ⟨B1, 3, none⟩ (.slice A2 m2 c2)) (some B1) := only_setCell (grown_refl _ _) (.inl rfl) _
              have HW1 := Lib.hid (hrow1.kept hgs (row_ne hst2.b1 hrow1 (by decide)))
              have HW2 := Lib.hid (hrow2.block hst2.b1 hgs (by decide) (by decide) (by decide))
              clear hO2 hD2 hG2 hst2 hgs HQ HQE hrow1 hrow2
              obtain ⟨Q3, hQ3⟩ : ∃ Q, many rec cc q2 = Q := ⟨_, rfl⟩
              have HQ := Lib.hid (records_any s r cc q2 rec Q3 (y2.setCell ⟨B1, 3, none⟩ (.slice A2 m2 c2)) HS2.out.rd (by omega) hs (by omega) (fun h => hrec.out (by omega)) hQ3)
              have HQE : Hid (many rec (nu s.data.toList 8 2) q2 = Q3) := by show _ = _; rw [HCC.out]; exact hQ3
              have ha3 : (y2.setCell ⟨B1, 3, none⟩ (.slice A2 m2 c2)).cell? ⟨B1 + 1, 2, none⟩ = some (.int .i64 (cc : Nat)) := cell_of_row _ _ 2 _ _ _ HS2.out.b2
              cases Q3 with
              | error x =>
                have hRe : Hid (R = .error x) := by show _ = _; rw [← hR3.out]; exact msg3_err HQE.out
                clear hQ3
                go_wp2_with fail
                refine HQ.out.mono ?_
                rintro e w9 ⟨rfl, hG9⟩
                have HE := Lib.hid (grown_trans (HS2.out.only G.out) hG9)
                clear hG9
                go_wp2_with fail
                rw [hRe.out]
                exact ⟨rfl, rfl, HE.out⟩
              | ok Qq3 =>
                obtain ⟨ns, q3⟩ := Qq3
                have hql3 : q3 ≤ s.size := many_le (fun h0 a b c h => (hrec.out (by omega)).2 a b c h) hql2 hQ3
                have hR4 : Hid (msg4 rec s.data.toList qs an ns q3 = R) := by show _ = _; rw [← hR3.out]; exact (msg3_ok HQE.out).symm
                have HLE3 : Hid (ns.length = cc) := many_len hQ3
                have HQ3 : Hid (many rec (nu s.data.toList 8 2) q2 = .ok (ns, q3)) := HQE
                clear hQ3
                go_wp2_with fail
                refine HQ.out.mono ?_
                rintro e y3 ⟨v3, rfl, hO3, hD3, hG3⟩
                obtain ⟨A3, m3, c3, rfl⟩ := hO3.slice
                have hst3 := HS2.out.call hD3 hG3
                have hrow1 := row_rdr HS2.out.rd HW1.out hG3 (by decide)
                have hrow2 := HW2.out.rdr HS2.out.rd hG3
                have hrow3 := hO3.low HS2.out.size
                have hc3 : y3.cell? ⟨B1, 4, none⟩ = some (.slice none 0 0) := cell_of_row _ _ 4 _ _ _ hst3.b1
                have hf3 : ∀ i, y3.frozen? ⟨B1, i, none⟩ = false := fun i => by simp [World.frozen?, hst3.b1]
                have HS3 : Hid (MsgSt w (y3.setCell ⟨B1, 4, none⟩ (.slice A3 m3 c3)) g r s q3 g B1 (B1 + 1) #[.int .u16 x1, .int .u16 x2, (.slice A1 m1 c1), (.slice A2 m2 c2), (.slice A3 m3 c3), .slice none 0 0] #[.int .i64 (ca : Nat), .int .i64 (cb : Nat), .int .i64 (cc : Nat), .int .i64 (cd : Nat)] 126) := hst3.set1 4 (.slice A3 m3 c3)
                have hgs : y3.grownBy (y3.setCell ⟨B1, 4, none⟩ (.slice A3 m3 c3)) (some B1) := only_setCell (grown_refl _ _) (.inl rfl) _
                have HW1 := Lib.hid (hrow1.kept hgs (row_ne hst3.b1 hrow1 (by decide)))
                have HW2 := Lib.hid (hrow2.block hst3.b1 hgs (by decide) (by decide) (by decide))
                have HW3 := Lib.hid (hrow3.block hst3.b1 hgs (by decide) (by decide) (by decide))
                clear hO3 hD3 hG3 hst3 hgs HQ HQE hrow1 hrow2 hrow3
                obtain ⟨Q4, hQ4⟩ : ∃ Q, many rec cd q3 = Q := ⟨_, rfl⟩
                have HQ := Lib.hid (records_any s r cd q3 rec Q4 (y3.setCell ⟨B1, 4, none⟩ (.slice A3 m3 c3)) HS3.out.rd (by omega) hs (by omega) (fun h => hrec.out (by omega)) hQ4)
                have HQE : Hid (many rec (nu s.data.toList 10 2) q3 = Q4) := by show _ = _; rw [HCD.out]; exact hQ4
                have ha4 : (y3.setCell ⟨B1, 4, none⟩ (.slice A3 m3 c3)).cell? ⟨B1 + 1, 3, none⟩ = some (.int .i64 (cd : Nat)) := cell_of_row _ _ 3 _ _ _ HS3.out.b2
                cases Q4 with
                | error x =>
                  have hRe : Hid (R = .error x) := by show _ = _; rw [← hR4.out]; exact msg4_err HQE.out
                  clear hQ4
                  go_wp2_with fail
                  refine HQ.out.mono ?_
                  rintro e w9 ⟨rfl, hG9⟩
                  have HE := Lib.hid (grown_trans (HS3.out.only G.out) hG9)
                  clear hG9
                  go_wp2_with fail
                  rw [hRe.out]
                  exact ⟨rfl, rfl, HE.out⟩
                | ok Qq4 =>
                  obtain ⟨ad, q4⟩ := Qq4
                  have hql4 : q4 ≤ s.size := many_le (fun h0 a b c h => (hrec.out (by omega)).2 a b c h) hql3 hQ4
                  have HLE4 : Hid (ad.length = cd) := many_len hQ4
                  have HQ4 : Hid (many rec (nu s.data.toList 10 2) q3 = .ok (ad, q4)) := HQE
                  clear hQ4
                  go_wp2_with fail
                  refine HQ.out.mono ?_
                  rintro e y4 ⟨v4, rfl, hO4, hD4, hG4⟩
                  obtain ⟨A4, m4, c4, rfl⟩ := hO4.slice
                  have hst4 := HS3.out.call hD4 hG4
                  have hrow1 := row_rdr HS3.out.rd HW1.out hG4 (by decide)
                  have hrow2 := HW2.out.rdr HS3.out.rd hG4
                  have hrow3 := HW3.out.rdr HS3.out.rd hG4
                  have hrow4 := hO4.low HS3.out.size
                  have hc4 : y4.cell? ⟨B1, 5, none⟩ = some (.slice none 0 0) := cell_of_row _ _ 5 _ _ _ hst4.b1
                  have hf4 : ∀ i, y4.frozen? ⟨B1, i, none⟩ = false := fun i => by simp [World.frozen?, hst4.b1]
                  have HS4 : Hid (MsgSt w (y4.setCell ⟨B1, 5, none⟩ (.slice A4 m4 c4)) g r s q4 g B1 (B1 + 1) #[.int .u16 x1, .int .u16 x2, (.slice A1 m1 c1), (.slice A2 m2 c2), (.slice A3 m3 c3), (.slice A4 m4 c4)] #[.int .i64 (ca : Nat), .int .i64 (cb : Nat), .int .i64 (cc : Nat), .int .i64 (cd : Nat)] 126) := hst4.set1 5 (.slice A4 m4 c4)
                  have hgs : y4.grownBy (y4.setCell ⟨B1, 5, none⟩ (.slice A4 m4 c4)) (some B1) := only_setCell (grown_refl _ _) (.inl rfl) _
                  have HW1 := Lib.hid (hrow1.kept hgs (row_ne hst4.b1 hrow1 (by decide)))
                  have HW2 := Lib.hid (hrow2.block hst4.b1 hgs (by decide) (by decide) (by decide))
                  have HW3 := Lib.hid (hrow3.block hst4.b1 hgs (by decide) (by decide) (by decide))
                  have HW4 := Lib.hid (hrow4.block hst4.b1 hgs (by decide) (by decide) (by decide))
                  clear hO4 hD4 hG4 hst4 hgs HQ HQE hrow1 hrow2 hrow3 hrow4
                  have HQF : Hid (many rec (nu s.data.toList 10 2) q3 = .ok (ad, q4)) := HQ4
                  have HL := Lib.hid (left_any s s r q4 2 (y4.setCell ⟨B1, 5, none⟩ (.slice A4 m4 c4)) HS4.out.rd hql4 hs)
                  by_cases hlt4 : q4 < s.size
                  · have hRe : Hid (R = .error 7) := by show _ = _; rw [← hR4.out]; exact msg4_more HQF.out (by rw [← SZ.out]; exact hlt4)
                    have hgt : (0 : Int) < (s.size : Int) - q4 := by omega
                    go_wp2_with fail
                    generalize y4.setCell ⟨B1, 5, none⟩ (.slice A4 m4 c4) = w8 at HS4 HL HW1 HW2 HW3 HW4 ⊢
                    refine HL.out.mono ?_
                    rintro e w9 ⟨rfl, m9, rfl⟩
                    have HE := Lib.hid (grown_drewN (HS4.out.only G.out) m9)
                    go_wp2_with fail
                    rw [hRe.out]
                    exact ⟨rfl, rfl, HE.out⟩
                  · have hRe : Hid (R = .ok ⟨x1, x2, qs, an, ns, ad⟩) := by show _ = _; rw [← hR4.out, msg4_ok HQF.out (by rw [← SZ.out]; omega), HX1.out, HX2.out]
                    have hle : (s.size : Int) - q4 ≤ 0 := by omega
                    go_wp2_with fail
                    generalize y4.setCell ⟨B1, 5, none⟩ (.slice A4 m4 c4) = w8 at HS4 HL HW1 HW2 HW3 HW4 ⊢
                    refine HL.out.mono ?_
                    rintro e w9 ⟨rfl, m9, rfl⟩
                    have hst9 := HS4.out.drewN m9
                    have hv1 : (w8.drewN m9).ownsRow g 62 3 (.slice A1 m1 c1) ca (qnCs qs) := by have := HW1.out; rw [HLE1.out] at this; exact this
                    have hv2 : RowRecs (w8.drewN m9) g (.slice A2 m2 c2) an := HW2.out.drewN m9
                    have hv3 : RowRecs (w8.drewN m9) g (.slice A3 m3 c3) ns := HW3.out.drewN m9
                    have hv4 : RowRecs (w8.drewN m9) g (.slice A4 m4 c4) ad := HW4.out.drewN m9
                    generalize w8.drewN m9 = w9 at hst9 hv1 hv2 hv3 hv4 ⊢
                    have d0 := cell_of_row _ _ 0 _ _ _ hst9.b1
                    have d1 := cell_of_row _ _ 1 _ _ _ hst9.b1
                    have d2 := cell_of_row _ _ 2 _ _ _ hst9.b1
                    have d3 := cell_of_row _ _ 3 _ _ _ hst9.b1
                    have d4 := cell_of_row _ _ 4 _ _ _ hst9.b1
                    have d5 := cell_of_row _ _ 5 _ _ _ hst9.b1
                    have e0 := cell_of_row _ _ 0 _ _ _ hst9.b0
                    have e1 := cell_of_row _ _ 1 _ _ _ hst9.b0
                    have e2 := cell_of_row _ _ 2 _ _ _ hst9.b0
                    have e3 := cell_of_row _ _ 3 _ _ _ hst9.b0
                    have e4 := cell_of_row _ _ 4 _ _ _ hst9.b0
                    have e5 := cell_of_row _ _ 5 _ _ _ hst9.b0
                    have ef : ∀ i, w9.frozen? ⟨g, i, none⟩ = false := fun i => by simp [World.frozen?, hst9.b0]
                    have hgs0 := only_setCell (grown_refl w9 (some g)) (p := ⟨g, 0, none⟩) (.inl rfl) (.int .u16 x1)
                    have hgs1 := only_setCell hgs0 (p := ⟨g, 1, none⟩) (.inl rfl) (.int .u16 x2)
                    have hgs2 := only_setCell hgs1 (p := ⟨g, 2, none⟩) (.inl rfl) ((.slice A1 m1 c1))
                    have hgs3 := only_setCell hgs2 (p := ⟨g, 3, none⟩) (.inl rfl) ((.slice A2 m2 c2))
                    have hgs4 := only_setCell hgs3 (p := ⟨g, 4, none⟩) (.inl rfl) ((.slice A3 m3 c3))
                    have hgs := only_setCell hgs4 (p := ⟨g, 5, none⟩) (.inl rfl) ((.slice A4 m4 c4))
                    have HF := Lib.hid (kept_grown (hst9.kept.own hgs hst9.size (fun k e => by injection e with e; exact Nat.le_of_eq e)) G.out)
                    have HV1 := Lib.hid (hv1.kept hgs (row_ne hst9.b0 hv1 (by decide)))
                    have HV2 := Lib.hid (hv2.block hst9.b0 hgs (by decide) (by decide) (by decide))
                    have HV3 := Lib.hid (hv3.block hst9.b0 hgs (by decide) (by decide) (by decide))
                    have HV4 := Lib.hid (hv4.block hst9.b0 hgs (by decide) (by decide) (by decide))
                    clear hgs hgs0 hgs1 hgs2 hgs3 hgs4 hst9 hv1 hv2 hv3 hv4
                    go_wp2_with fail
                    rw [hRe.out]
                    refine bodyPost_ret (v := .agg #[.int .u16 x1, .int .u16 x2, (.slice A1 m1 c1), (.slice A2 m2 c2), (.slice A3 m3 c3), (.slice A4 m4 c4)]) (by simp [results, Try.results56, go_sem, e0, e1, e2, e3, e4, e5]) rfl ⟨(.slice A1 m1 c1), (.slice A2 m2 c2), (.slice A3 m3 c3), (.slice A4 m4 c4), rfl, ?_, ?_, ?_, ?_, HF.out⟩
                    · rw [G.out, HLE1.out]; exact HV1.out
                    · rw [G.out]; exact HV2.out
                    · rw [G.out]; exact HV3.out
                    · rw [G.out]; exact HV4.out
  · exact message_short s r R w hs hrl G.out HD0.out HBL.out (by omega) (by show _ = _; rw [← hR.out]; exact msg_short (by rw [← SZ.out]; omega))
end Go.Proofs.Ytpmmjmnleoicjaa
