/- Texts of one proof, one behind the other: RdrMsg, RdrCatch, RdrRead, RecsRow. -/
import Derived.Test.YtihkmdojakalbaaProg
import Derived.Test.YtihkmdojakalbaaBytes
import Derived.Test.YtihkmdojakalbaaWriteSparesProofG1
import Derived.Test.YtihkmdojakalbaaWriteSparesProofG2
import Derived.Test.YtihkmdojakalbaaRecMath
import Derived.Test.YtihkmdojakalbaaWriteSparesProofG3
import Derived.Test.YtihkmdojakalbaaStrs
import Derived.Test.YtihkmdojakalbaaNums
import Derived.Test.YtihkmdojakalbaaRecAt
import Derived.WalkKit
import Derived.Lib.Hide
import Derived.Laws.Rows
import Derived.Laws.AppendOwn
import Derived.Outline
import Derived.IntWalk
import Derived.WalkSpells
import Derived.WalkLawsBesides
import Derived.Defers
import Derived.Recover
import Derived.Laws.ResultCell

/- The contract of a message's reader: the whole message, given that of a record. For texts of at most 10^6 bytes. -/
namespace Go.Proofs.Ytihkmdojakalbaa
open Go.RowKit NumMath NmMath Bytes MsgMath RecMath

set_option maxHeartbeats 4000000 in
set_option maxRecDepth 100000 in
theorem message_any (s : ByteArray) (r : Nat) (rec : Nat → Except Nat (Rec × Nat)) (R : Except Nat Msg) (w : World) (h : RdrAt w r s s 0 2) (hs : s.size ≤ 1000000) (hrec : Hid (0 < nu s.data.toList 6 2 + nu s.data.toList 8 2 + nu s.data.toList 10 2 → RecReads r s rec)) (hR : Hid (msg rec s.data.toList = R)) :
    Calls Try.prog 24 #[.pointer (some ⟨r, 0, none⟩)] w (MsgEnd w r R) := by
  have SZ := Lib.hid (Lib.size_eq s)
  have hrl := h.lt
  obtain ⟨g, hg⟩ : ∃ g, w.heap.size = g := ⟨_, rfl⟩
  have G := Lib.hid hg
  have hBl : Below g w (w.alloc (.cells #[.int .u16 0, .int .u16 0, .slice none 0 0, .slice none 0 0, .slice none 0 0, .slice none 0 0] 27)) := (Below.refl _ _).alloc (by omega) _
  have hb0 : (w.alloc (.cells #[.int .u16 0, .int .u16 0, .slice none 0 0, .slice none 0 0, .slice none 0 0, .slice none 0 0] 27)).heap[g]? = some (.cells #[.int .u16 0, .int .u16 0, .slice none 0 0, .slice none 0 0, .slice none 0 0, .slice none 0 0] 27 (0, 0)) := by rw [← hg]; exact heap_alloc_new w _
  have hd0 := h.below hBl (by omega)
  have hsz0 : (w.alloc (.cells #[.int .u16 0, .int .u16 0, .slice none 0 0, .slice none 0 0, .slice none 0 0, .slice none 0 0] 27)).heap.size = g + 1 := by simp [hg]
  have HD0 := Lib.hid hd0
  have HB0 := Lib.hid hb0
  have HBL := Lib.hid hBl
  clear hd0 hb0 hBl h
  by_cases h12 : 12 ≤ s.size
  · obtain ⟨x1, hx1⟩ : ∃ x, nu s.data.toList 0 2 = x := ⟨_, rfl⟩
    obtain ⟨x2, hx2⟩ : ∃ x, nu s.data.toList 2 2 = x := ⟨_, rfl⟩
    have hx1l : x1 < 65536 := by rw [← hx1]; exact nu2_lt _ _
    have hx2l : x2 < 65536 := by rw [← hx2]; exact nu2_lt _ _
    have H1 := Lib.hid (number_yes s s r 0 2 2 x1 _ HD0.out (by decide) (by decide) (by omega) hs hx1)
    have H2 := Lib.hid (fun w' (hd : RdrAt w' r s s ((2 : Nat) : Int) 2) => number_yes s s r 2 2 2 x2 w' hd (by decide) (by decide) (by omega) hs hx2)
    have HX1 := Lib.hid hx1
    have HX2 := Lib.hid hx2
    have hcl4 : ∀ k, nu s.data.toList k 2 < 65536 := fun k => nu2_lt _ _
    have HCL := Lib.hid hcl4
    clear hx1 hx2 hcl4
    go_enter Try.func24, Try.ntmps24
    go_wp2_with fail
    refine H1.out.mono ?_
    rintro e w1 ⟨rfl, hD1, hG1⟩
    have HD1 := Lib.hid hD1
    have HG1 := Lib.hid hG1
    clear hD1 hG1
    go_wp2_with fail
    refine (H2.out _ HD1.out).mono ?_
    rintro e w2 ⟨rfl, hD2, hG2⟩
    have hg2 := grown_trans HG1.out hG2
    have hb0 : w2.heap[g]? = some (.cells #[.int .u16 0, .int .u16 0, .slice none 0 0, .slice none 0 0, .slice none 0 0, .slice none 0 0] 27 (0, 0)) := (grown_block hg2 (by omega) (by omega)).trans HB0.out
    have hs2 : g + 1 ≤ w2.heap.size := by have := hg2.size; omega
    have hk2 : Kept g r w w2 := ((Kept.refl g r w).below HBL.out).grown hg2 (by omega)
    obtain ⟨B1, hB1⟩ : ∃ B1, w2.heap.size = B1 := ⟨_, rfl⟩
    have HST : Hid (MsgSt w ((w2.alloc (.cells #[.int .u16 x1, .int .u16 x2, .slice none 0 0, .slice none 0 0, .slice none 0 0, .slice none 0 0] 27)).alloc (.cells #[.int .i64 0, .int .i64 0, .int .i64 0, .int .i64 0] 87)) g r s 4 g B1 (B1 + 1) #[.int .u16 x1, .int .u16 x2, .slice none 0 0, .slice none 0 0, .slice none 0 0, .slice none 0 0] (cntC s.data.toList 0) 87) := by
      refine ⟨by omega, Nat.le_refl _, by omega, by omega, by simp [hB1], ?_, ?_, ?_, ?_, ?_⟩
      · exact (hD2.held ((Below.refl _ _).alloc (Nat.le_refl _) _)).held ((Below.refl _ _).alloc (Nat.le_refl _) _)
      · exact old_at (old_at hb0)
      · exact old_at (new_at _ _ _ hB1.symm)
      · exact new_at _ _ _ (by simp [hB1])
      · exact (hk2.alloc (by omega) _).alloc (by simp; omega) _
    clear hD2 hG2 hg2 hb0 hs2 hk2
    go_wp2_with fail
    generalize (w2.alloc (.cells #[.int .u16 x1, .int .u16 x2, .slice none 0 0, .slice none 0 0, .slice none 0 0, .slice none 0 0] 27)).alloc (.cells #[.int .i64 0, .int .i64 0, .int .i64 0, .int .i64 0] 87) = w3 at *
    clear hB1 H1 H2 hsz0
    go_loopw [5, 14] (fun sm ct wr => ∃ j, sm = .int .i64 (cntS s.data.toList j : Nat) ∧ ct = .int .i64 j ∧ j ≤ 4 ∧ Hid (MsgSt w wr g r s (4 + 2 * j) g B1 (B1 + 1) #[.int .u16 x1, .int .u16 x2, .slice none 0 0, .slice none 0 0, .slice none 0 0, .slice none 0 0] (cntC s.data.toList j) 87)) (fun _ ct _ => 4 - (intOf ct).toNat)
    case atStart => exact ⟨0, rfl, rfl, by decide, HST⟩
    case round =>
      obtain ⟨j, rfl, rfl, hj, hST⟩ := hrel
      by_cases hlt : j < 4
      · obtain ⟨hc1, hc2⟩ := cnt_step s.data.toList hlt
        have hsl := cntS_lt s.data.toList j
        obtain ⟨S, hS⟩ : ∃ S, cntS s.data.toList j = S := ⟨_, rfl⟩
        obtain ⟨x, hx⟩ : ∃ x, nu s.data.toList (4 + 2 * j) 2 = x := ⟨_, rfl⟩
        rw [hS, hx] at hc2
        rw [hx] at hc1
        rw [hS] at hsl
        rw [hS]
        have hxl : x < 65536 := by rw [← hx]; exact nu2_lt _ _
        have HN := Lib.hid (number_yes s s r (4 + 2 * j) 2 2 x wr hST.out.rd (by decide) (by decide) (by omega) hs hx)
        have HC1 := Lib.hid hc1
        have HC2 := Lib.hid hc2
        obtain ⟨u0, hu0⟩ : ∃ u, (cntC s.data.toList j)[j]? = some u := by
          match j, hlt with
          | 0, _ => exact ⟨_, rfl⟩
          | 1, _ => exact ⟨_, rfl⟩
          | 2, _ => exact ⟨_, rfl⟩
          | 3, _ => exact ⟨_, rfl⟩
        have HU0 := Lib.hid hu0
        clear hx hS hc1 hc2 hu0
        go_wp2_with fail
        refine HN.out.mono ?_
        rintro e w4 ⟨rfl, hD4, hG4⟩
        have hst := hST.out.call (q := 4 + 2 * j + 2) hD4 hG4
        have hcell : w4.cell? ⟨B1 + 1, j, none⟩ = some u0 := (cell_of_row w4 _ j _ _ _ hst.b2).trans HU0.out
        have hfz : w4.frozen? ⟨B1 + 1, j, none⟩ = false := by simp [World.frozen?, hst.b2]
        have hst2 := Lib.hid (hst.set2 j (.int .i64 x))
        have HST5 : Hid (MsgSt w (w4.setCell ⟨B1 + 1, j, none⟩ (.int .i64 x)) g r s (4 + 2 * (j + 1)) g B1 (B1 + 1) #[.int .u16 x1, .int .u16 x2, .slice none 0 0, .slice none 0 0, .slice none 0 0, .slice none 0 0] (cntC s.data.toList (j + 1)) 87) := by
          have := hst2.out
          rw [HC1.out] at this
          exact this
        clear hD4 hG4 hst hST hst2
        go_wp2_with fail
        go_roundw
        case rel => exact ⟨j + 1, by rw [HC2.out]; go_num, by go_num, by omega, HST5⟩
        case measure => simp [intOf]; omega
      · have hj4 : j = 4 := by omega
        subst hj4
        have hsum : cntS s.data.toList 4 = nu s.data.toList 4 2 + nu s.data.toList 6 2 + nu s.data.toList 8 2 + nu s.data.toList 10 2 := rfl
        have hcc : cntC s.data.toList 4 = #[.int .i64 (nu s.data.toList 4 2 : Nat), .int .i64 (nu s.data.toList 6 2 : Nat), .int .i64 (nu s.data.toList 8 2 : Nat), .int .i64 (nu s.data.toList 10 2 : Nat)] := rfl
        rw [hcc] at hST
        rw [hsum]
        have hl4 := HCL.out 4; have hl6 := HCL.out 6; have hl8 := HCL.out 8; have hl10 := HCL.out 10
        obtain ⟨ca, hca⟩ : ∃ x, nu s.data.toList 4 2 = x := ⟨_, rfl⟩
        obtain ⟨cb, hcb⟩ : ∃ x, nu s.data.toList 6 2 = x := ⟨_, rfl⟩
        obtain ⟨cc, hcc2⟩ : ∃ x, nu s.data.toList 8 2 = x := ⟨_, rfl⟩
        obtain ⟨cd, hcd⟩ : ∃ x, nu s.data.toList 10 2 = x := ⟨_, rfl⟩
        rw [hca, hcb, hcc2, hcd]
        rw [hca, hcb, hcc2, hcd] at hST
        rw [hcb, hcc2, hcd] at hrec
        rw [hca] at hl4; rw [hcb] at hl6; rw [hcc2] at hl8; rw [hcd] at hl10
        have HCA := Lib.hid hca; have HCB := Lib.hid hcb; have HCC := Lib.hid hcc2; have HCD := Lib.hid hcd
        clear hsum hcc hca hcb hcc2 hcd HCL
        by_cases hbig : 256 < ca + cb + cc + cd
        · have hRe : Hid (R = .error 6) := by show _ = _; rw [← hR.out]; exact msg_full (by rw [← SZ.out]; exact h12) (by rw [HCA.out, HCB.out, HCC.out, HCD.out]; exact hbig)
          have hbi : (256 : Int) < ((ca + cb + cc + cd : Nat) : Int) := by omega
          have HE := Lib.hid (hST.out.only G.out)
          go_wp2_with fail
          rw [hRe.out]
          exact ⟨rfl, rfl, HE.out⟩
        · have hR1 : Hid (msg1 rec s.data.toList = R) := by show _ = _; rw [← hR.out]; exact (msg_some (by rw [← SZ.out]; exact h12) (by rw [HCA.out, HCB.out, HCC.out, HCD.out]; omega)).symm
          have hbi : ((ca + cb + cc + cd : Nat) : Int) ≤ (256 : Int) := by omega
          clear hR hbig
          obtain ⟨Q1, hQ1⟩ : ∃ Q1, many (qn s.data.toList) ca 12 = Q1 := ⟨_, rfl⟩
          have HQ := Lib.hid (questions_any s r ca 12 Q1 wr hST.out.rd hs (by decide) (by omega) hQ1)
          have HQE : Hid (many (qn s.data.toList) (nu s.data.toList 4 2) 12 = Q1) := by show _ = _; rw [HCA.out]; exact hQ1
          have ha1 : wr.cell? ⟨B1 + 1, 0, none⟩ = some (.int .i64 (ca : Nat)) := cell_of_row _ _ 0 _ _ _ hST.out.b2
          cases Q1 with
          | error x =>
            have hRe : Hid (R = .error x) := by show _ = _; rw [← hR1.out]; exact msg1_err HQE.out
            clear hQ1
            go_wp2_with fail
            refine HQ.out.mono ?_
            rintro e w9 ⟨rfl, hG9⟩
            have HE := Lib.hid (grown_trans (hST.out.only G.out) hG9)
            clear hG9
            go_wp2_with fail
            rw [hRe.out]
            exact ⟨rfl, rfl, HE.out⟩
          | ok Qq1 =>
            obtain ⟨qs, q1⟩ := Qq1
            have hql1 : q1 ≤ s.size := by rw [SZ.out]; exact many_le (fun _ a b c h => qn_next h) (by rw [← SZ.out]; exact h12) hQ1
            have hR2 : Hid (msg2 rec s.data.toList qs q1 = R) := by show _ = _; rw [← hR1.out]; exact (msg1_ok HQE.out).symm
            have HLE1 : Hid (qs.length = ca) := many_len hQ1
            have HQ1 : Hid (many (qn s.data.toList) (nu s.data.toList 4 2) 12 = .ok (qs, q1)) := HQE
            clear hQ1
            go_wp2_with fail
            refine HQ.out.mono ?_
            rintro e y1 ⟨v1, rfl, hO1, hD1, hG1⟩
            obtain ⟨A1, m1, c1, rfl⟩ := row_slice hO1
            have hst1 := hST.out.call hD1 hG1
            have hrow1 := row_low hO1 hST.out.size
            have hc1 : y1.cell? ⟨B1, 2, none⟩ = some (.slice none 0 0) := cell_of_row _ _ 2 _ _ _ hst1.b1
            have hf1 : ∀ i, y1.frozen? ⟨B1, i, none⟩ = false := fun i => by simp [World.frozen?, hst1.b1]
            have HS1 : Hid (MsgSt w (y1.setCell ⟨B1, 2, none⟩ (.slice A1 m1 c1)) g r s q1 g B1 (B1 + 1) #[.int .u16 x1, .int .u16 x2, (.slice A1 m1 c1), .slice none 0 0, .slice none 0 0, .slice none 0 0] #[.int .i64 (ca : Nat), .int .i64 (cb : Nat), .int .i64 (cc : Nat), .int .i64 (cd : Nat)] 87) := hst1.set1 2 (.slice A1 m1 c1)
            have hgs : y1.grownBy (y1.setCell ⟨B1, 2, none⟩ (.slice A1 m1 c1)) (some B1) := only_setCell (grown_refl _ _) (.inl rfl) _
            have HW1 := Lib.hid (hrow1.kept hgs (row_ne hst1.b1 hrow1 (by decide)))
            clear hO1 hD1 hG1 hst1 hgs HQ HQE hrow1
            obtain ⟨Q2, hQ2⟩ : ∃ Q, many rec cb q1 = Q := ⟨_, rfl⟩
            have HQ := Lib.hid (records_any s r cb q1 rec Q2 (y1.setCell ⟨B1, 2, none⟩ (.slice A1 m1 c1)) HS1.out.rd (by omega) hs (by omega) (fun h => hrec.out (by omega)) hQ2)
            have HQE : Hid (many rec (nu s.data.toList 6 2) q1 = Q2) := by show _ = _; rw [HCB.out]; exact hQ2
            have ha2 : (y1.setCell ⟨B1, 2, none⟩ (.slice A1 m1 c1)).cell? ⟨B1 + 1, 1, none⟩ = some (.int .i64 (cb : Nat)) := cell_of_row _ _ 1 _ _ _ HS1.out.b2
            cases Q2 with
            | error x =>
              have hRe : Hid (R = .error x) := by show _ = _; rw [← hR2.out]; exact msg2_err HQE.out
              clear hQ2
              go_wp2_with fail
              refine HQ.out.mono ?_
              rintro e w9 ⟨rfl, hG9⟩
              have HE := Lib.hid (grown_trans (HS1.out.only G.out) hG9)
              clear hG9
              go_wp2_with fail
              rw [hRe.out]
              exact ⟨rfl, rfl, HE.out⟩
            | ok Qq2 =>
              obtain ⟨an, q2⟩ := Qq2
              have hql2 : q2 ≤ s.size := many_le (fun h0 a b c h => (hrec.out (by omega)).2 a b c h) hql1 hQ2
              have hR3 : Hid (msg3 rec s.data.toList qs an q2 = R) := by show _ = _; rw [← hR2.out]; exact (msg2_ok HQE.out).symm
              have HLE2 : Hid (an.length = cb) := many_len hQ2
              have HQ2 : Hid (many rec (nu s.data.toList 6 2) q1 = .ok (an, q2)) := HQE
              clear hQ2
              go_wp2_with fail
              refine HQ.out.mono ?_
              rintro e y2 ⟨v2, rfl, hO2, hD2, hG2⟩
              obtain ⟨A2, m2, c2, rfl⟩ := hO2.slice
              have hst2 := HS1.out.call hD2 hG2
              have hrow1 := row_rdr HS1.out.rd HW1.out hG2 (by decide)
              have hrow2 := hO2.low HS1.out.size
              have hc2 : y2.cell? ⟨B1, 3, none⟩ = some (.slice none 0 0) := cell_of_row _ _ 3 _ _ _ hst2.b1
              have hf2 : ∀ i, y2.frozen? ⟨B1, i, none⟩ = false := fun i => by simp [World.frozen?, hst2.b1]
              have HS2 : Hid (MsgSt w (y2.setCell ⟨B1, 3, none⟩ (.slice A2 m2 c2)) g r s q2 g B1 (B1 + 1) #[.int .u16 x1, .int .u16 x2, (.slice A1 m1 c1), (.slice A2 m2 c2), .slice none 0 0, .slice none 0 0] #[.int .i64 (ca : Nat), .int .i64 (cb : Nat), .int .i64 (cc : Nat), .int .i64 (cd : Nat)] 87) := hst2.set1 3 (.slice A2 m2 c2)
              have hgs : y2.grownBy (y2.setCell ⟨B1, 3, none⟩ (.slice A2 m2 c2)) (some B1) := only_setCell (grown_refl _ _) (.inl rfl) _
              have HW1 := Lib.hid (hrow1.kept hgs (row_ne hst2.b1 hrow1 (by decide)))
              have HW2 := Lib.hid (hrow2.block hst2.b1 hgs (by decide) (by decide) (by decide))
              clear hO2 hD2 hG2 hst2 hgs HQ HQE hrow1 hrow2
              obtain ⟨Q3, hQ3⟩ : ∃ Q, many rec cc q2 = Q := ⟨_, rfl⟩
              have HQ := Lib.hid (records_any s r cc q2 rec Q3 (y2.setCell ⟨B1, 3, none⟩ (.slice A2 m2 c2)) HS2.out.rd (by omega) hs (by omega) (fun h => hrec.out (by omega)) hQ3)
              have HQE : Hid (many rec (nu s.data.toList 8 2) q2 = Q3) := by show _ = _; rw [HCC.out]; exact hQ3
              have ha3 : (y2.setCell ⟨B1, 3, none⟩ (.slice A2 m2 c2)).cell? ⟨B1 + 1, 2, none⟩ = some (.int .i64 (cc : Nat)) := cell_of_row _ _ 2 _ _ _ HS2.out.b2
              cases Q3 with
              | error x =>
                have hRe : Hid (R = .error x) := by show _ = _; rw [← hR3.out]; exact msg3_err HQE.out
                clear hQ3
                go_wp2_with fail
                refine HQ.out.mono ?_
                rintro e w9 ⟨rfl, hG9⟩
                have HE := Lib.hid (grown_trans (HS2.out.only G.out) hG9)
                clear hG9
                go_wp2_with fail
                rw [hRe.out]
                exact ⟨rfl, rfl, HE.out⟩
              | ok Qq3 =>
                obtain ⟨ns, q3⟩ := Qq3
                have hql3 : q3 ≤ s.size := many_le (fun h0 a b c h => (hrec.out (by omega)).2 a b c h) hql2 hQ3
                have hR4 : Hid (msg4 rec s.data.toList qs an ns q3 = R) := by show _ = _; rw [← hR3.out]; exact (msg3_ok HQE.out).symm
                have HLE3 : Hid (ns.length = cc) := many_len hQ3
                have HQ3 : Hid (many rec (nu s.data.toList 8 2) q2 = .ok (ns, q3)) := HQE
                clear hQ3
                go_wp2_with fail
                refine HQ.out.mono ?_
                rintro e y3 ⟨v3, rfl, hO3, hD3, hG3⟩
                obtain ⟨A3, m3, c3, rfl⟩ := hO3.slice
                have hst3 := HS2.out.call hD3 hG3
                have hrow1 := row_rdr HS2.out.rd HW1.out hG3 (by decide)
                have hrow2 := HW2.out.rdr HS2.out.rd hG3
                have hrow3 := hO3.low HS2.out.size
                have hc3 : y3.cell? ⟨B1, 4, none⟩ = some (.slice none 0 0) := cell_of_row _ _ 4 _ _ _ hst3.b1
                have hf3 : ∀ i, y3.frozen? ⟨B1, i, none⟩ = false := fun i => by simp [World.frozen?, hst3.b1]
                have HS3 : Hid (MsgSt w (y3.setCell ⟨B1, 4, none⟩ (.slice A3 m3 c3)) g r s q3 g B1 (B1 + 1) #[.int .u16 x1, .int .u16 x2, (.slice A1 m1 c1), (.slice A2 m2 c2), (.slice A3 m3 c3), .slice none 0 0] #[.int .i64 (ca : Nat), .int .i64 (cb : Nat), .int .i64 (cc : Nat), .int .i64 (cd : Nat)] 87) := hst3.set1 4 (.slice A3 m3 c3)
                have hgs : y3.grownBy (y3.setCell ⟨B1, 4, none⟩ (.slice A3 m3 c3)) (some B1) := only_setCell (grown_refl _ _) (.inl rfl) _
                have HW1 := Lib.hid (hrow1.kept hgs (row_ne hst3.b1 hrow1 (by decide)))
                have HW2 := Lib.hid (hrow2.block hst3.b1 hgs (by decide) (by decide) (by decide))
                have HW3 := Lib.hid (hrow3.block hst3.b1 hgs (by decide) (by decide) (by decide))
                clear hO3 hD3 hG3 hst3 hgs HQ HQE hrow1 hrow2 hrow3
                obtain ⟨Q4, hQ4⟩ : ∃ Q, many rec cd q3 = Q := ⟨_, rfl⟩
                have HQ := Lib.hid (records_any s r cd q3 rec Q4 (y3.setCell ⟨B1, 4, none⟩ (.slice A3 m3 c3)) HS3.out.rd (by omega) hs (by omega) (fun h => hrec.out (by omega)) hQ4)
                have HQE : Hid (many rec (nu s.data.toList 10 2) q3 = Q4) := by show _ = _; rw [HCD.out]; exact hQ4
                have ha4 : (y3.setCell ⟨B1, 4, none⟩ (.slice A3 m3 c3)).cell? ⟨B1 + 1, 3, none⟩ = some (.int .i64 (cd : Nat)) := cell_of_row _ _ 3 _ _ _ HS3.out.b2
                cases Q4 with
                | error x =>
                  have hRe : Hid (R = .error x) := by show _ = _; rw [← hR4.out]; exact msg4_err HQE.out
                  clear hQ4
                  go_wp2_with fail
                  refine HQ.out.mono ?_
                  rintro e w9 ⟨rfl, hG9⟩
                  have HE := Lib.hid (grown_trans (HS3.out.only G.out) hG9)
                  clear hG9
                  go_wp2_with fail
                  rw [hRe.out]
                  exact ⟨rfl, rfl, HE.out⟩
                | ok Qq4 =>
                  obtain ⟨ad, q4⟩ := Qq4
                  have hql4 : q4 ≤ s.size := many_le (fun h0 a b c h => (hrec.out (by omega)).2 a b c h) hql3 hQ4
                  have HLE4 : Hid (ad.length = cd) := many_len hQ4
                  have HQ4 : Hid (many rec (nu s.data.toList 10 2) q3 = .ok (ad, q4)) := HQE
                  clear hQ4
                  go_wp2_with fail
                  refine HQ.out.mono ?_
                  rintro e y4 ⟨v4, rfl, hO4, hD4, hG4⟩
                  obtain ⟨A4, m4, c4, rfl⟩ := hO4.slice
                  have hst4 := HS3.out.call hD4 hG4
                  have hrow1 := row_rdr HS3.out.rd HW1.out hG4 (by decide)
                  have hrow2 := HW2.out.rdr HS3.out.rd hG4
                  have hrow3 := HW3.out.rdr HS3.out.rd hG4
                  have hrow4 := hO4.low HS3.out.size
                  have hc4 : y4.cell? ⟨B1, 5, none⟩ = some (.slice none 0 0) := cell_of_row _ _ 5 _ _ _ hst4.b1
                  have hf4 : ∀ i, y4.frozen? ⟨B1, i, none⟩ = false := fun i => by simp [World.frozen?, hst4.b1]
                  have HS4 : Hid (MsgSt w (y4.setCell ⟨B1, 5, none⟩ (.slice A4 m4 c4)) g r s q4 g B1 (B1 + 1) #[.int .u16 x1, .int .u16 x2, (.slice A1 m1 c1), (.slice A2 m2 c2), (.slice A3 m3 c3), (.slice A4 m4 c4)] #[.int .i64 (ca : Nat), .int .i64 (cb : Nat), .int .i64 (cc : Nat), .int .i64 (cd : Nat)] 87) := hst4.set1 5 (.slice A4 m4 c4)
                  have hgs : y4.grownBy (y4.setCell ⟨B1, 5, none⟩ (.slice A4 m4 c4)) (some B1) := only_setCell (grown_refl _ _) (.inl rfl) _
                  have HW1 := Lib.hid (hrow1.kept hgs (row_ne hst4.b1 hrow1 (by decide)))
                  have HW2 := Lib.hid (hrow2.block hst4.b1 hgs (by decide) (by decide) (by decide))
                  have HW3 := Lib.hid (hrow3.block hst4.b1 hgs (by decide) (by decide) (by decide))
                  have HW4 := Lib.hid (hrow4.block hst4.b1 hgs (by decide) (by decide) (by decide))
                  clear hO4 hD4 hG4 hst4 hgs HQ HQE hrow1 hrow2 hrow3 hrow4
                  have HQF : Hid (many rec (nu s.data.toList 10 2) q3 = .ok (ad, q4)) := HQ4
                  have HL := Lib.hid (left_any s s r q4 2 (y4.setCell ⟨B1, 5, none⟩ (.slice A4 m4 c4)) HS4.out.rd hql4 hs)
                  by_cases hlt4 : q4 < s.size
                  · have hRe : Hid (R = .error 7) := by show _ = _; rw [← hR4.out]; exact msg4_more HQF.out (by rw [← SZ.out]; exact hlt4)
                    have hgt : (0 : Int) < (s.size : Int) - q4 := by omega
                    go_wp2_with fail
                    generalize y4.setCell ⟨B1, 5, none⟩ (.slice A4 m4 c4) = w8 at HS4 HL HW1 HW2 HW3 HW4 ⊢
                    refine HL.out.mono ?_
                    rintro e w9 ⟨rfl, m9, rfl⟩
                    have HE := Lib.hid (grown_drewN (HS4.out.only G.out) m9)
                    go_wp2_with fail
                    rw [hRe.out]
                    exact ⟨rfl, rfl, HE.out⟩
                  · have hRe : Hid (R = .ok ⟨x1, x2, qs, an, ns, ad⟩) := by show _ = _; rw [← hR4.out, msg4_ok HQF.out (by rw [← SZ.out]; omega), HX1.out, HX2.out]
                    have hle : (s.size : Int) - q4 ≤ 0 := by omega
                    go_wp2_with fail
                    generalize y4.setCell ⟨B1, 5, none⟩ (.slice A4 m4 c4) = w8 at HS4 HL HW1 HW2 HW3 HW4 ⊢
                    refine HL.out.mono ?_
                    rintro e w9 ⟨rfl, m9, rfl⟩
                    have hst9 := HS4.out.drewN m9
                    have hv1 : (w8.drewN m9).ownsRow g 44 3 (.slice A1 m1 c1) ca (qnCs qs) := by have := HW1.out; rw [HLE1.out] at this; exact this
                    have hv2 : RowRecs (w8.drewN m9) g (.slice A2 m2 c2) an := HW2.out.drewN m9
                    have hv3 : RowRecs (w8.drewN m9) g (.slice A3 m3 c3) ns := HW3.out.drewN m9
                    have hv4 : RowRecs (w8.drewN m9) g (.slice A4 m4 c4) ad := HW4.out.drewN m9
                    generalize w8.drewN m9 = w9 at hst9 hv1 hv2 hv3 hv4 ⊢
                    have d0 := cell_of_row _ _ 0 _ _ _ hst9.b1
                    have d1 := cell_of_row _ _ 1 _ _ _ hst9.b1
                    have d2 := cell_of_row _ _ 2 _ _ _ hst9.b1
                    have d3 := cell_of_row _ _ 3 _ _ _ hst9.b1
                    have d4 := cell_of_row _ _ 4 _ _ _ hst9.b1
                    have d5 := cell_of_row _ _ 5 _ _ _ hst9.b1
                    have e0 := cell_of_row _ _ 0 _ _ _ hst9.b0
                    have e1 := cell_of_row _ _ 1 _ _ _ hst9.b0
                    have e2 := cell_of_row _ _ 2 _ _ _ hst9.b0
                    have e3 := cell_of_row _ _ 3 _ _ _ hst9.b0
                    have e4 := cell_of_row _ _ 4 _ _ _ hst9.b0
                    have e5 := cell_of_row _ _ 5 _ _ _ hst9.b0
                    have ef : ∀ i, w9.frozen? ⟨g, i, none⟩ = false := fun i => by simp [World.frozen?, hst9.b0]
                    have hgs0 := only_setCell (grown_refl w9 (some g)) (p := ⟨g, 0, none⟩) (.inl rfl) (.int .u16 x1)
                    have hgs1 := only_setCell hgs0 (p := ⟨g, 1, none⟩) (.inl rfl) (.int .u16 x2)
                    have hgs2 := only_setCell hgs1 (p := ⟨g, 2, none⟩) (.inl rfl) ((.slice A1 m1 c1))
                    have hgs3 := only_setCell hgs2 (p := ⟨g, 3, none⟩) (.inl rfl) ((.slice A2 m2 c2))
                    have hgs4 := only_setCell hgs3 (p := ⟨g, 4, none⟩) (.inl rfl) ((.slice A3 m3 c3))
                    have hgs := only_setCell hgs4 (p := ⟨g, 5, none⟩) (.inl rfl) ((.slice A4 m4 c4))
                    have HF := Lib.hid (kept_grown (hst9.kept.own hgs hst9.size (fun k e => by injection e with e; exact Nat.le_of_eq e)) G.out)
                    have HV1 := Lib.hid (hv1.kept hgs (row_ne hst9.b0 hv1 (by decide)))
                    have HV2 := Lib.hid (hv2.block hst9.b0 hgs (by decide) (by decide) (by decide))
                    have HV3 := Lib.hid (hv3.block hst9.b0 hgs (by decide) (by decide) (by decide))
                    have HV4 := Lib.hid (hv4.block hst9.b0 hgs (by decide) (by decide) (by decide))
                    clear hgs hgs0 hgs1 hgs2 hgs3 hgs4 hst9 hv1 hv2 hv3 hv4
                    go_wp2_with fail
                    rw [hRe.out]
                    refine bodyPost_ret (v := .agg #[.int .u16 x1, .int .u16 x2, (.slice A1 m1 c1), (.slice A2 m2 c2), (.slice A3 m3 c3), (.slice A4 m4 c4)]) (by simp [results, Try.results24, go_sem, e0, e1, e2, e3, e4, e5]) rfl ⟨(.slice A1 m1 c1), (.slice A2 m2 c2), (.slice A3 m3 c3), (.slice A4 m4 c4), rfl, ?_, ?_, ?_, ?_, HF.out⟩
                    · rw [G.out, HLE1.out]; exact HV1.out
                    · rw [G.out]; exact HV2.out
                    · rw [G.out]; exact HV3.out
                    · rw [G.out]; exact HV4.out
  · exact message_short s r R w hs hrl G.out HD0.out HBL.out (by omega) (by show _ = _; rw [← hR.out]; exact msg_short (by rw [← SZ.out]; omega))
end Go.Proofs.Ytihkmdojakalbaa

/- The contract of dnsread's caught: the error that a reading gave up with, or none. No condition. -/
namespace Go.Proofs.Ytihkmdojakalbaa
open Go.RowKit

theorem assert_hit (v : Value) (w : World) : (Instr.typeAssert (.iface 28 v) 20 28 false).run Try.prog w = .ok v w := by kernel_rfl

theorem catch_panicking (q : Addr) (k : Nat) (x : Value) (w : World) (hc : w.cell? q = some x) (hz : w.frozen? q = false) :
    CallsD Try.prog 45 #[.pointer (some q)] (.panicking [{ v := .iface 28 (.int .i64 k), recovered := false }]) w fun e u' w' =>
      e = .returned (.tuple #[]) ∧ u' = .panicking [{ v := .iface 28 (.int .i64 k), recovered := true }] ∧ w' = w.setCell q (.int .i64 k) := by
  refine callsD_of_wpS Try.func45 rfl fun c₀ cs hu => ?_
  apply wpS_seq
  apply wpS_region
  simp [wpOpsS, go_sem, recoverD, hu, Try.ntmps45, Exit.thenS]
  apply wpS_seq
  apply wpS_region
  simp [wpOpsS, go_sem, Exit.thenS]
  refine wpS_cond (t := true) rfl ?_
  simp only [if_true]
  apply wpS_region
  simp [wpOpsS, go_sem, assert_hit, hc, hz, bodyPostS, results, Try.results45]

theorem catch_idle (q : Addr) (w : World) :
    CallsD Try.prog 45 #[.pointer (some q)] .returning w fun e u' w' => e = .returned (.tuple #[]) ∧ u' = .returning ∧ w' = w := by
  refine callsD_of_wpS Try.func45 rfl fun c₀ cs hu => ?_
  apply wpS_seq
  apply wpS_region
  simp [wpOpsS, go_sem, recoverD, hu, Try.ntmps45, Exit.thenS]
  apply wpS_seq
  apply wpS_region
  simp [wpOpsS, go_sem, Exit.thenS]
  refine wpS_cond (t := false) rfl ?_
  apply wpS_of_wp
  go_wp2_with fail
  simp [bodyPostS, results, Try.results45]
  cases c₀
  simp at hu
  subst hu
  rfl

theorem caught_noName (k : Nat) (cap : Array Value) (Q : World → Prop) (w : World)
    (hc : Calls Try.prog 43 cap (w.alloc (.cells #[.int .i64 0] 28)) fun e w' => e = gave k ∧ w'.heap[w.heap.size]? = some (.cells #[.int .i64 0] 28 (0, 0)) ∧ Q w') :
    Calls Try.prog 22 #[.func (.func 43) #[] cap] w fun e w' => e = .returned (.int .i64 k) ∧ ∃ w1, Q w1 ∧ w' = w1.setCell ⟨w.heap.size, 0, none⟩ (.int .i64 k) := by
  have hmf : ∀ (fn : Fn) (first cap : Array Value) (w : World), (Instr.makeFunc fn first cap).run Try.prog w = .ok (.func fn first cap) w := fun _ _ _ _ => rfl
  have HC := Lib.hid hc; clear hc
  go_enter_defers Try.func22, Try.ntmps22
  go_wp2_with fail
  refine HC.out.mono ?_
  rintro e w1 ⟨rfl, hblk, hQ⟩
  have hcb := cell_of_row w1 _ 0 _ _ _ hblk
  have hzb : w1.frozen? ⟨w.heap.size, 0, none⟩ = false := by simp [World.frozen?, hblk]
  have HQ := Lib.hid hQ; clear hQ hblk
  go_wp2_with fail
  refine leaves_cons (f := 45) (args := #[.pointer (some ⟨w.heap.size, 0, none⟩)]) (by simp) (by simp [go_sem]) ?_
  refine (catch_panicking ⟨w.heap.size, 0, none⟩ k _ _ hcb hzb).mono ?_
  rintro e u' w'' ⟨rfl, rfl, rfl⟩
  simp [Leaves, settle, results, Try.results22, go_sem, hcb]
  exact ⟨w1, HQ.out, rfl⟩

theorem caught_yesName (cap : Array Value) (Q : World → Prop) (w : World)
    (hc : Calls Try.prog 43 cap (w.alloc (.cells #[.int .i64 0] 28)) fun e w' => e = .returned (.tuple #[]) ∧ w'.heap[w.heap.size]? = some (.cells #[.int .i64 0] 28 (0, 0)) ∧ Q w') :
    Calls Try.prog 22 #[.func (.func 43) #[] cap] w fun e w' => e = .returned (.int .i64 0) ∧ ∃ w1, Q w1 ∧ w' = w1.setCell ⟨w.heap.size, 0, none⟩ (.int .i64 0) := by
  have hmf : ∀ (fn : Fn) (first cap : Array Value) (w : World), (Instr.makeFunc fn first cap).run Try.prog w = .ok (.func fn first cap) w := fun _ _ _ _ => rfl
  have HC := Lib.hid hc; clear hc
  go_enter_defers Try.func22, Try.ntmps22
  go_wp2_with fail
  refine HC.out.mono ?_
  rintro e w1 ⟨rfl, hblk, hQ⟩
  have hcb := cell_of_row w1 _ 0 _ _ _ hblk
  have hzb : w1.frozen? ⟨w.heap.size, 0, none⟩ = false := by simp [World.frozen?, hblk]
  have HQ := Lib.hid hQ; clear hQ hblk
  go_wp2_with fail
  refine leaves_cons (f := 45) (args := #[.pointer (some ⟨w.heap.size, 0, none⟩)]) (by simp) (by simp [go_sem]) ?_
  refine (catch_idle ⟨w.heap.size, 0, none⟩ _).mono ?_
  rintro e u' w'' ⟨rfl, rfl, rfl⟩
  simp [Leaves, settle, results, Try.results22, go_sem, hcb]
  exact ⟨w1, HQ.out, rfl⟩
theorem caught_noRead (k : Nat) (cap : Array Value) (Q : World → Prop) (w : World)
    (hc : Calls Try.prog 23 cap (w.alloc (.cells #[.int .i64 0] 28)) fun e w' => e = gave k ∧ w'.heap[w.heap.size]? = some (.cells #[.int .i64 0] 28 (0, 0)) ∧ Q w') :
    Calls Try.prog 22 #[.func (.func 23) #[] cap] w fun e w' => e = .returned (.int .i64 k) ∧ ∃ w1, Q w1 ∧ w' = w1.setCell ⟨w.heap.size, 0, none⟩ (.int .i64 k) := by
  have hmf : ∀ (fn : Fn) (first cap : Array Value) (w : World), (Instr.makeFunc fn first cap).run Try.prog w = .ok (.func fn first cap) w := fun _ _ _ _ => rfl
  have HC := Lib.hid hc; clear hc
  go_enter_defers Try.func22, Try.ntmps22
  go_wp2_with fail
  refine HC.out.mono ?_
  rintro e w1 ⟨rfl, hblk, hQ⟩
  have hcb := cell_of_row w1 _ 0 _ _ _ hblk
  have hzb : w1.frozen? ⟨w.heap.size, 0, none⟩ = false := by simp [World.frozen?, hblk]
  have HQ := Lib.hid hQ; clear hQ hblk
  go_wp2_with fail
  refine leaves_cons (f := 45) (args := #[.pointer (some ⟨w.heap.size, 0, none⟩)]) (by simp) (by simp [go_sem]) ?_
  refine (catch_panicking ⟨w.heap.size, 0, none⟩ k _ _ hcb hzb).mono ?_
  rintro e u' w'' ⟨rfl, rfl, rfl⟩
  simp [Leaves, settle, results, Try.results22, go_sem, hcb]
  exact ⟨w1, HQ.out, rfl⟩

theorem caught_yesRead (cap : Array Value) (Q : World → Prop) (w : World)
    (hc : Calls Try.prog 23 cap (w.alloc (.cells #[.int .i64 0] 28)) fun e w' => e = .returned (.tuple #[]) ∧ w'.heap[w.heap.size]? = some (.cells #[.int .i64 0] 28 (0, 0)) ∧ Q w') :
    Calls Try.prog 22 #[.func (.func 23) #[] cap] w fun e w' => e = .returned (.int .i64 0) ∧ ∃ w1, Q w1 ∧ w' = w1.setCell ⟨w.heap.size, 0, none⟩ (.int .i64 0) := by
  have hmf : ∀ (fn : Fn) (first cap : Array Value) (w : World), (Instr.makeFunc fn first cap).run Try.prog w = .ok (.func fn first cap) w := fun _ _ _ _ => rfl
  have HC := Lib.hid hc; clear hc
  go_enter_defers Try.func22, Try.ntmps22
  go_wp2_with fail
  refine HC.out.mono ?_
  rintro e w1 ⟨rfl, hblk, hQ⟩
  have hcb := cell_of_row w1 _ 0 _ _ _ hblk
  have hzb : w1.frozen? ⟨w.heap.size, 0, none⟩ = false := by simp [World.frozen?, hblk]
  have HQ := Lib.hid hQ; clear hQ hblk
  go_wp2_with fail
  refine leaves_cons (f := 45) (args := #[.pointer (some ⟨w.heap.size, 0, none⟩)]) (by simp) (by simp [go_sem]) ?_
  refine (catch_idle ⟨w.heap.size, 0, none⟩ _).mono ?_
  rintro e u' w'' ⟨rfl, rfl, rfl⟩
  simp [Leaves, settle, results, Try.results22, go_sem, hcb]
  exact ⟨w1, HQ.out, rfl⟩
end Go.Proofs.Ytihkmdojakalbaa

/- The contract of dnsread's Read, given that of a record. For texts of at most 10^6 bytes. -/
namespace Go.Proofs.Ytihkmdojakalbaa
open Go.RowKit NumMath NmMath Bytes MsgMath RecMath

/-- The rows of a message. -/
structure MsgRows (w : World) (g : Nat) (M : Msg) (vq va vn vx : Value) : Prop where
  q : w.ownsRow g 44 3 vq M.qs.length (qnCs M.qs)
  a : RowRecs w g va M.an
  n : RowRecs w g vn M.ns
  x : RowRecs w g vx M.ad
section
variable {w w' : World} {g g' r : Nat} {M : Msg} {vq va vn vx : Value}
theorem MsgRows.low (h : MsgRows w g M vq va vn vx) (hg : g' ≤ g) : MsgRows w g' M vq va vn vx := ⟨row_low h.q hg, h.a.low hg, h.n.low hg, h.x.low hg⟩
theorem MsgRows.below (h : MsgRows w g M vq va vn vx) (hB : Below w.heap.size w w') : MsgRows w' g M vq va vn vx := ⟨row_below h.q hB, h.a.below hB, h.n.below hB, h.x.below hB⟩
theorem MsgRows.block {e2 : TypeId} {cs : Array Value} {fz : Nat × Nat} (h : MsgRows w g M vq va vn vx) (hb : w.heap[r]? = some (.cells cs e2 fz)) (hg : w.grownBy w' (some r)) (h9 : 9 ≠ e2) (h43 : 46 ≠ e2) (h47 : 49 ≠ e2) (h41 : 44 ≠ e2) : MsgRows w' g M vq va vn vx :=
  ⟨h.q.kept hg (row_ne hb h.q h41), h.a.block hb hg h9 h43 h47, h.n.block hb hg h9 h43 h47, h.x.block hb hg h9 h43 h47⟩
theorem MsgRows.slices (h : MsgRows w g M vq va vn vx) : (∃ A m c, vq = .slice A m c) ∧ (∃ A m c, va = .slice A m c) ∧ (∃ A m c, vn = .slice A m c) ∧ (∃ A m c, vx = .slice A m c) := ⟨row_slice h.q, h.a.slice, h.n.slice, h.x.slice⟩
end
/-- What a store of a message into a block leaves. -/
def setMsg (w : World) (b : Nat) (x y : Value) (vq va vn vx : Value) : World := (((((w.setCell ⟨b, 0, none⟩ x).setCell ⟨b, 1, none⟩ y).setCell ⟨b, 2, none⟩ vq).setCell ⟨b, 3, none⟩ va).setCell ⟨b, 4, none⟩ vn).setCell ⟨b, 5, none⟩ vx
theorem setMsg_grown (w : World) (b : Nat) (x y vq va vn vx : Value) : w.grownBy (setMsg w b x y vq va vn vx) (some b) := by
  have h0 := only_setCell (grown_refl w (some b)) (p := ⟨b, 0, none⟩) (.inl rfl) x
  have h1 := only_setCell h0 (p := ⟨b, 1, none⟩) (.inl rfl) y
  have h2 := only_setCell h1 (p := ⟨b, 2, none⟩) (.inl rfl) vq
  have h3 := only_setCell h2 (p := ⟨b, 3, none⟩) (.inl rfl) va
  have h4 := only_setCell h3 (p := ⟨b, 4, none⟩) (.inl rfl) vn
  exact only_setCell h4 (p := ⟨b, 5, none⟩) (.inl rfl) vx
theorem set_row {W : World} {b i : Nat} {cs ds : Array Value} {t : TypeId} {v : Value} (h : W.heap[b]? = some (.cells cs t (0, 0))) (hd : cs.setIfInBounds i v = ds) : (W.setCell ⟨b, i, none⟩ v).heap[b]? = some (.cells ds t (0, 0)) := by
  subst hd
  simp [World.setCell, Array.getElem?_modify, h]
theorem setMsg_block {w : World} {b : Nat} {c0 c1 c2 c3 c4 c5 : Value} {t : TypeId} (x y vq va vn vx : Value) (h : w.heap[b]? = some (.cells #[c0, c1, c2, c3, c4, c5] t (0, 0))) : (setMsg w b x y vq va vn vx).heap[b]? = some (.cells #[x, y, vq, va, vn, vx] t (0, 0)) := by
  have h0 := set_row (i := 0) (v := x) h rfl
  have h1 := set_row (i := 1) (v := y) h0 rfl
  have h2 := set_row (i := 2) (v := vq) h1 rfl
  have h3 := set_row (i := 3) (v := va) h2 rfl
  have h4 := set_row (i := 4) (v := vn) h3 rfl
  exact set_row (i := 5) (v := vx) h4 rfl
/-- What the closure of Read leaves: the message in its block b, nothing else that stood has changed. -/
def ReadIn (b : Nat) (w : World) : Except Nat Msg → Ending → World → Prop
  | .error x, e, w' => e = gave x ∧ Below w.heap.size w w'
  | .ok M, e, w' => ∃ vq va vn vx, e = .returned (.tuple #[]) ∧ w'.heap[b]? = some (.cells #[.int .u16 M.id, .int .u16 M.flags, vq, va, vn, vx] 27 (0, 0)) ∧ MsgRows w' w.heap.size M vq va vn vx ∧ Kept w.heap.size b w w'

set_option maxHeartbeats 1000000 in
theorem readIn_any (s : ByteArray) (c b : Nat) (rec : Nat → Except Nat (Rec × Nat)) (R : Except Nat Msg) (w : World) (hc : w.heap[c]? = some (.cells #[.string s] 9 (0, 0))) (hb : w.heap[b]? = some (.cells #[.int .u16 0, .int .u16 0, .slice none 0 0, .slice none 0 0, .slice none 0 0, .slice none 0 0] 27 (0, 0))) (hbl : b < w.heap.size) (hs : s.size ≤ 1000000)
    (hrec : Hid (0 < nu s.data.toList 6 2 + nu s.data.toList 8 2 + nu s.data.toList 10 2 → RecReads w.heap.size s rec)) (hR : Hid (msg rec s.data.toList = R)) :
    Calls Try.prog 23 #[.pointer (some ⟨c, 0, none⟩), .pointer (some ⟨b, 0, none⟩)] w (ReadIn b w R) := by
  have h0 := cell_of_row w _ 0 _ _ _ hc
  have HA : Hid (RdrAt (w.alloc (.cells #[.string s, .string s, .int .i64 0, .int .i64 2] 56)) w.heap.size s s 0 2) := heap_alloc_new w _
  have HN := Lib.hid (message_any s w.heap.size rec R _ HA.out hs hrec hR)
  have HB := Lib.hid ((Below.refl w.heap.size w).alloc (Nat.le_refl _) (.cells #[.string s, .string s, .int .i64 0, .int .i64 2] 56))
  have HBB := Lib.hid hb; clear hb hc
  cases R with
  | error x =>
    go_enter Try.func23, Try.ntmps23
    go_wp2_with fail
    refine HN.out.mono ?_
    rintro e w1 ⟨rfl, hG⟩
    have HE := Lib.hid (below_of_grown HB.out hG (Nat.le_refl _) (by simp))
    clear hG
    go_wp2_with fail
    exact ⟨rfl, rfl, HE.out⟩
  | ok M =>
    go_enter Try.func23, Try.ntmps23
    go_wp2_with fail
    refine HN.out.mono ?_
    rintro e w1 ⟨vq, va, vn, vx, rfl, hq, ha, hn, hx, hG⟩
    have hE := below_of_grown HB.out hG (Nat.le_refl _) (by simp)
    have hrows : MsgRows w1 w.heap.size M vq va vn vx := ⟨row_low hq (by simp), ha.low (by simp), hn.low (by simp), hx.low (by simp)⟩
    have hb1 := (hE.block b hbl).trans HBB.out
    obtain ⟨⟨q1, q2, q3, rfl⟩, ⟨a1, a2, a3, rfl⟩, ⟨n1, n2, n3, rfl⟩, ⟨x1, x2, x3, rfl⟩⟩ := hrows.slices
    have e0 := cell_of_row _ _ 0 _ _ _ hb1
    have e1 := cell_of_row _ _ 1 _ _ _ hb1
    have e2 := cell_of_row _ _ 2 _ _ _ hb1
    have e3 := cell_of_row _ _ 3 _ _ _ hb1
    have e4 := cell_of_row _ _ 4 _ _ _ hb1
    have e5 := cell_of_row _ _ 5 _ _ _ hb1
    have ef : ∀ i, w1.frozen? ⟨b, i, none⟩ = false := fun i => by simp [World.frozen?, hb1]
    have HB1 := Lib.hid hb1
    have HRW := Lib.hid hrows
    have HE := Lib.hid hE
    clear hq ha hn hx hG hE hrows hb1
    go_wp2_with fail
    go_end0
    have hgs := setMsg_grown w1 b (.int .u16 M.id) (.int .u16 M.flags) (.slice q1 q2 q3) (.slice a1 a2 a3) (.slice n1 n2 n3) (.slice x1 x2 x3)
    refine ⟨_, _, _, _, rfl, setMsg_block _ _ _ _ _ _ HB1.out, HRW.out.block HB1.out hgs (by decide) (by decide) (by decide) (by decide), ?_⟩
    exact ((Kept.refl _ _ _).below HE.out).grown hgs HE.out.size

/-- The message came back, or the error. -/
def ReadRet (w : World) : Except Nat Msg → Ending → World → Prop
  | .error x, e, w' => e = .returned (.tuple #[.agg #[.int .u16 0, .int .u16 0, .slice none 0 0, .slice none 0 0, .slice none 0 0, .slice none 0 0], .int .i64 x]) ∧ Below w.heap.size w w'
  | .ok M, e, w' => ∃ vq va vn vx, e = .returned (.tuple #[.agg #[.int .u16 M.id, .int .u16 M.flags, vq, va, vn, vx], .int .i64 0]) ∧ MsgRows w' w.heap.size M vq va vn vx ∧ Below w.heap.size w w'
/-- The message of bytes, or the error. -/
def rd (rec : Nat → Except Nat (Rec × Nat)) (l : List UInt8) : Except Nat Msg := if 65535 < l.length then .error 3 else msg rec l

set_option maxHeartbeats 2000000 in
theorem read_long (s : ByteArray) (w : World) (hs : s.size ≤ 1000000) (hl : 65535 < s.size) :
    Calls Try.prog 10 #[.string s] w (ReadRet w (.error 3)) := by
  have hli : (65535 : Int) < s.size := by omega
  go_enter Try.func10, Try.ntmps10
  go_wp2_with fail
  refine bodyPost_ret (v := .tuple #[.agg #[.int .u16 0, .int .u16 0, .slice none 0 0, .slice none 0 0, .slice none 0 0, .slice none 0 0], .int .i64 3]) (by simp [results, Try.results10, go_sem]) rfl ⟨rfl, ?_⟩
  have h0 : Below w.heap.size w ((w.alloc (.cells #[.string s] 9)).alloc (.cells #[.int .u16 0, .int .u16 0, .slice none 0 0, .slice none 0 0, .slice none 0 0, .slice none 0 0] 27)) := ((Below.refl _ _).alloc (Nat.le_refl _) _).alloc (by simp) _
  first | exact h0 | exact (((((h0.setCell (by simp) _).setCell (by simp) _).setCell (by simp) _).setCell (by simp) _).setCell (by simp) _).setCell (by simp) _

set_option maxHeartbeats 4000000 in
theorem read_some (s : ByteArray) (rec : Nat → Except Nat (Rec × Nat)) (R : Except Nat Msg) (w : World) (hs : s.size ≤ 65535) (hrec : Hid (0 < nu s.data.toList 6 2 + nu s.data.toList 8 2 + nu s.data.toList 10 2 → ∀ r, RecReads r s rec)) (hR : Hid (msg rec s.data.toList = R)) :
    Calls Try.prog 10 #[.string s] w (ReadRet w R) := by
  have hmf : ∀ (fn : Fn) (first cap : Array Value) (w : World), (Instr.makeFunc fn first cap).run Try.prog w = .ok (.func fn first cap) w := fun _ _ _ _ => rfl
  have hli : (s.size : Int) ≤ 65535 := by omega
  obtain ⟨g, hg⟩ : ∃ g, w.heap.size = g := ⟨_, rfl⟩
  obtain ⟨w3, hw3⟩ : ∃ w3, (((w.alloc (.cells #[.string s] 9)).alloc (.cells #[.int .u16 0, .int .u16 0, .slice none 0 0, .slice none 0 0, .slice none 0 0, .slice none 0 0] 27)).alloc (.cells #[.int .u16 0, .int .u16 0, .slice none 0 0, .slice none 0 0, .slice none 0 0, .slice none 0 0] 27)) = w3 := ⟨_, rfl⟩
  have hw3s : w3.heap.size = g + 3 := by rw [← hw3, ← hg]; simp
  have hB3 : Below g w w3 := by
    rw [← hw3, ← hg]
    exact (((Below.refl _ _).alloc (Nat.le_refl _) _).alloc (by simp) _).alloc (by simp; omega) _
  have k0 : w3.heap[g]? = some (.cells #[.string s] 9 (0, 0)) := by rw [← hw3, ← hg]; exact old_at (old_at (new_at _ _ _ rfl))
  have k1 : w3.heap[g + 1]? = some (.cells #[.int .u16 0, .int .u16 0, .slice none 0 0, .slice none 0 0, .slice none 0 0, .slice none 0 0] 27 (0, 0)) := by rw [← hw3, ← hg]; exact old_at (new_at _ _ _ (by simp))
  have k2 : w3.heap[g + 2]? = some (.cells #[.int .u16 0, .int .u16 0, .slice none 0 0, .slice none 0 0, .slice none 0 0, .slice none 0 0] 27 (0, 0)) := by rw [← hw3, ← hg]; exact new_at _ _ _ (by simp)
  obtain ⟨w4, hw4⟩ : ∃ w4, w3.alloc (.cells #[.int .i64 0] 28) = w4 := ⟨_, rfl⟩
  have hw4s : w4.heap.size = g + 4 := by rw [← hw4]; simp [hw3s]
  have hB4 : Below (g + 3) w3 w4 := by rw [← hw4]; exact (Below.refl _ _).alloc (by omega) _
  have k3 : w4.heap[g + 3]? = some (.cells #[.int .i64 0] 28 (0, 0)) := by rw [← hw4, ← hw3s]; exact heap_alloc_new w3 _
  have hin := readIn_any s g (g + 2) rec R w4 ((hB4.block _ (by omega)).trans k0) ((hB4.block _ (by omega)).trans k2) (by omega) (by omega) (fun h => hrec.out h _) hR
  have G := Lib.hid hg
  cases R with
  | error x =>
    have HC := Lib.hid (caught_noRead x #[.pointer (some ⟨g, 0, none⟩), .pointer (some ⟨g + 2, 0, none⟩)] (fun w6 => Below (g + 4) w4 w6) w3 (by
      rw [hw4, hw3s]
      refine hin.mono ?_
      rintro e w6 ⟨rfl, hB⟩
      rw [hw4s] at hB
      exact ⟨rfl, (hB.block _ (by omega)).trans k3, hB⟩))
    rw [hw3s] at HC
    have HF : Hid (∀ w6, Below (g + 4) w4 w6 → Below g w (w6.setCell ⟨g + 3, 0, none⟩ (.int .i64 x)) ∧ (w6.setCell ⟨g + 3, 0, none⟩ (.int .i64 x)).heap[g + 1]? = some (.cells #[.int .u16 0, .int .u16 0, .slice none 0 0, .slice none 0 0, .slice none 0 0, .slice none 0 0] 27 (0, 0)) ∧ (w6.setCell ⟨g + 3, 0, none⟩ (.int .i64 x)).heap[g + 2]? = some (.cells #[.int .u16 0, .int .u16 0, .slice none 0 0, .slice none 0 0, .slice none 0 0, .slice none 0 0] 27 (0, 0))) := fun w6 hB => by
      refine ⟨((hB3.trans (hB4.mono (by omega))).trans (hB.mono (by omega))).setCell (by simp) _, ?_, ?_⟩
      · rw [Below.heap_setCell _ _ _ _ (by simp)]; exact ((hB.block _ (by omega)).trans (hB4.block _ (by omega))).trans k1
      · rw [Below.heap_setCell _ _ _ _ (by simp)]; exact ((hB.block _ (by omega)).trans (hB4.block _ (by omega))).trans k2
    clear hin hB3 hB4 k0 k1 k2 k3 hw4 hw4s hw3s hR hrec
    go_enter Try.func10, Try.ntmps10
    go_wp2_with fail
    refine HC.out.mono ?_
    rintro e w7 ⟨rfl, w6, hB6, rfl⟩
    obtain ⟨hB7, k1, k2⟩ := HF.out w6 hB6
    generalize w6.setCell ⟨g + 3, 0, none⟩ (.int .i64 x) = w7 at hB7 k1 k2 ⊢
    have d0 := cell_of_row _ _ 0 _ _ _ k2
    have d1 := cell_of_row _ _ 1 _ _ _ k2
    have d2 := cell_of_row _ _ 2 _ _ _ k2
    have d3 := cell_of_row _ _ 3 _ _ _ k2
    have d4 := cell_of_row _ _ 4 _ _ _ k2
    have d5 := cell_of_row _ _ 5 _ _ _ k2
    have e0 := cell_of_row _ _ 0 _ _ _ k1
    have e1 := cell_of_row _ _ 1 _ _ _ k1
    have e2 := cell_of_row _ _ 2 _ _ _ k1
    have e3 := cell_of_row _ _ 3 _ _ _ k1
    have e4 := cell_of_row _ _ 4 _ _ _ k1
    have e5 := cell_of_row _ _ 5 _ _ _ k1
    have ef : ∀ i, w7.frozen? ⟨g + 1, i, none⟩ = false := fun i => by simp [World.frozen?, k1]
    have HB7 := Lib.hid hB7
    clear hB6 hB7 k1 k2
    go_wp2_with fail
    refine bodyPost_ret (v := .tuple #[.agg #[.int .u16 0, .int .u16 0, .slice none 0 0, .slice none 0 0, .slice none 0 0, .slice none 0 0], .int .i64 x]) (by simp [results, Try.results10, go_sem, e0, e1, e2, e3, e4, e5]) rfl ⟨rfl, ?_⟩
    have hgs := setMsg_grown w7 (g + 1) (.int .u16 0) (.int .u16 0) (.slice none 0 0) (.slice none 0 0) (.slice none 0 0) (.slice none 0 0)
    exact (HB7.out.grown hgs (by have := HB7.out.size; have := G.out; omega) (fun k e => by injection e with e; omega)).mono (Nat.le_of_eq G.out)
  | ok M =>
    have HC := Lib.hid (caught_yesRead #[.pointer (some ⟨g, 0, none⟩), .pointer (some ⟨g + 2, 0, none⟩)] (fun w6 => ∃ vq va vn vx, w6.heap[g + 2]? = some (.cells #[.int .u16 M.id, .int .u16 M.flags, vq, va, vn, vx] 27 (0, 0)) ∧ MsgRows w6 (g + 4) M vq va vn vx ∧ Kept (g + 4) (g + 2) w4 w6) w3 (by
      rw [hw4, hw3s]
      refine hin.mono ?_
      rintro e w6 ⟨vq, va, vn, vx, rfl, h1, h2, h3⟩
      rw [hw4s] at h2 h3
      exact ⟨rfl, (h3.block _ (by omega) (by omega)).trans k3, vq, va, vn, vx, h1, h2, h3⟩))
    rw [hw3s] at HC
    have HF : Hid (∀ w6 vq va vn vx, w6.heap[g + 2]? = some (.cells #[.int .u16 M.id, .int .u16 M.flags, vq, va, vn, vx] 27 (0, 0)) → MsgRows w6 (g + 4) M vq va vn vx → Kept (g + 4) (g + 2) w4 w6 → Below g w (w6.setCell ⟨g + 3, 0, none⟩ (.int .i64 0)) ∧ (w6.setCell ⟨g + 3, 0, none⟩ (.int .i64 0)).heap[g + 1]? = some (.cells #[.int .u16 0, .int .u16 0, .slice none 0 0, .slice none 0 0, .slice none 0 0, .slice none 0 0] 27 (0, 0)) ∧ (w6.setCell ⟨g + 3, 0, none⟩ (.int .i64 0)).heap[g + 2]? = some (.cells #[.int .u16 M.id, .int .u16 M.flags, vq, va, vn, vx] 27 (0, 0)) ∧ MsgRows (w6.setCell ⟨g + 3, 0, none⟩ (.int .i64 0)) g M vq va vn vx) := fun w6 vq va vn vx h1 h2 h3 => by
      have hq : w6.heap[g + 3]? = some (.cells #[.int .i64 0] 28 (0, 0)) := (h3.block _ (by omega) (by omega)).trans k3
      have hgs := only_setCell (grown_refl w6 (some (g + 3))) (p := ⟨g + 3, 0, none⟩) (.inl rfl) (.int .i64 0)
      refine ⟨((hB3.trans (hB4.mono (by omega))).trans ((h3.mono (by omega)).to_below (by omega))).setCell (by simp) _, ?_, ?_, (h2.block hq hgs (by decide) (by decide) (by decide) (by decide)).low (by omega)⟩
      · rw [Below.heap_setCell _ _ _ _ (by simp)]; exact ((h3.block _ (by omega) (by omega)).trans (hB4.block _ (by omega))).trans k1
      · rw [Below.heap_setCell _ _ _ _ (by simp)]; exact h1
    clear hin hB3 hB4 k0 k1 k2 k3 hw4 hw4s hw3s hR hrec
    go_enter Try.func10, Try.ntmps10
    go_wp2_with fail
    refine HC.out.mono ?_
    rintro e w7 ⟨rfl, w6, ⟨vq, va, vn, vx, h1, h2, h3⟩, rfl⟩
    obtain ⟨hB7, k1, k2, hrows⟩ := HF.out w6 vq va vn vx h1 h2 h3
    clear h1 h2 h3
    generalize w6.setCell ⟨g + 3, 0, none⟩ (.int .i64 0) = w7 at hB7 k1 k2 hrows ⊢
    obtain ⟨⟨q1, q2, q3, rfl⟩, ⟨a1, a2, a3, rfl⟩, ⟨n1, n2, n3, rfl⟩, ⟨x1, x2, x3, rfl⟩⟩ := hrows.slices
    have d0 := cell_of_row _ _ 0 _ _ _ k2
    have d1 := cell_of_row _ _ 1 _ _ _ k2
    have d2 := cell_of_row _ _ 2 _ _ _ k2
    have d3 := cell_of_row _ _ 3 _ _ _ k2
    have d4 := cell_of_row _ _ 4 _ _ _ k2
    have d5 := cell_of_row _ _ 5 _ _ _ k2
    have e0 := cell_of_row _ _ 0 _ _ _ k1
    have e1 := cell_of_row _ _ 1 _ _ _ k1
    have e2 := cell_of_row _ _ 2 _ _ _ k1
    have e3 := cell_of_row _ _ 3 _ _ _ k1
    have e4 := cell_of_row _ _ 4 _ _ _ k1
    have e5 := cell_of_row _ _ 5 _ _ _ k1
    have ef : ∀ i, w7.frozen? ⟨g + 1, i, none⟩ = false := fun i => by simp [World.frozen?, k1]
    have hgs := setMsg_grown w7 (g + 1) (.int .u16 M.id) (.int .u16 M.flags) (.slice q1 q2 q3) (.slice a1 a2 a3) (.slice n1 n2 n3) (.slice x1 x2 x3)
    have HB7 := Lib.hid ((hB7.grown hgs (by have := hB7.size; have := G.out; omega) (fun k e => by injection e with e; omega)).mono (Nat.le_of_eq G.out))
    have HRW := Lib.hid ((hrows.block k1 hgs (by decide) (by decide) (by decide) (by decide)).low (Nat.le_of_eq G.out))
    clear hB7 k1 k2 hrows hgs
    go_wp2_with fail
    refine bodyPost_ret (v := .tuple #[.agg #[.int .u16 M.id, .int .u16 M.flags, .slice q1 q2 q3, .slice a1 a2 a3, .slice n1 n2 n3, .slice x1 x2 x3], .int .i64 0]) (by simp [results, Try.results10, go_sem, e0, e1, e2, e3, e4, e5]) rfl ⟨_, _, _, _, rfl, HRW.out, HB7.out⟩

theorem read_any (s : ByteArray) (rec : Nat → Except Nat (Rec × Nat)) (R : Except Nat Msg) (w : World) (hs : s.size ≤ 1000000) (hrec : Hid (s.size ≤ 65535 → 0 < nu s.data.toList 6 2 + nu s.data.toList 8 2 + nu s.data.toList 10 2 → ∀ r, RecReads r s rec)) (hR : Hid (rd rec s.data.toList = R)) :
    Calls Try.prog 10 #[.string s] w (ReadRet w R) := by
  by_cases hl : 65535 < s.size
  · have hRe : R = .error 3 := by rw [← hR.out]; exact if_pos (by rw [← Lib.size_eq]; exact hl)
    rw [hRe]
    exact read_long s w hs hl
  · refine read_some s rec R w (by omega) (fun h => hrec.out (by omega) h) ?_
    show _ = _
    rw [← hR.out]
    exact (if_neg (by rw [← Lib.size_eq]; exact hl)).symm
end Go.Proofs.Ytihkmdojakalbaa

/- Rows of questions and of records: what a call reads of them. No condition. -/
namespace Go.Proofs.Ytihkmdojakalbaa
open Go Go.RowKit Bytes Strs Nums MsgMath RecMath

theorem add_at (b k : Nat) : (⟨b, 0, none⟩ : Addr).add k = ⟨b, k, none⟩ := by
  by_cases h : k = 0
  · subst h; rfl
  · simp [Addr.add, h]
theorem qnCs_at {L : List Qn} : ∀ {k : Nat} (h : k < L.length), (qnCs L)[k * 3]? = some (.string (mk (L[k]).name)) := by
  induction L with
  | nil => intro k h; cases h
  | cons q L ih =>
    intro k h
    have e : qnCs (q :: L) = qnV q ++ qnCs L := rfl
    have hl : (qnV q).length = 3 := rfl
    rw [e]
    cases k with
    | zero => rfl
    | succ k =>
      rw [List.getElem?_append_right (by rw [hl]; omega), hl, show (k + 1) * 3 - 3 = k * 3 by omega, ih (by simpa using h)]
      simp
/-- The names of a row of questions. -/
def QnsAt (w : World) (G : Nat) (A : Option Addr) (L : List Qn) : Prop := ∀ k (h : k < L.length), ∃ bq, A = some ⟨bq, 0, none⟩ ∧ bq < G ∧ w.cell? ⟨bq, k * 3, none⟩ = some (.string (mk (L[k]).name))
theorem qns_of {w : World} {g : Nat} {v : Value} {L : List Qn} (h : w.ownsRow g 44 3 v L.length (qnCs L)) : ∃ A c, v = .slice A L.length c ∧ QnsAt w w.heap.size A L := by
  rcases h.2 with ⟨rfl, h0⟩ | ⟨b, cap, cur, rfl, _, _, _⟩
  · exact ⟨none, 0, by rw [h0], fun k hk => by omega⟩
  · refine ⟨_, cap, rfl, fun k hk => ⟨b, rfl, (h.lt b rfl).2, ?_⟩⟩
    have := h.cells (g := b) rfl (k * 3) _ (qnCs_at hk)
    rwa [add_at] at this
theorem QnsAt.on {w w' : World} {G : Nat} {A : Option Addr} {L : List Qn} (h : QnsAt w G A L) (hb : Below G w w') : QnsAt w' G A L := fun k hk => by
  obtain ⟨bq, e, hl, hc⟩ := h k hk
  exact ⟨bq, e, hl, (hb.cell (p := ⟨bq, k * 3, none⟩) hl).trans hc⟩
/-- The records of a row. -/
def RecsAt (w : World) (G : Nat) (A : Option Addr) (Z : List RecZ) : Prop := ∀ k (h : k < Z.length), ∃ bq A1 c1 A2 c2 A3 c3, A = some ⟨bq, 0, none⟩ ∧ bq < G ∧ RecAt w G (Z[k]).1 (mk (Z[k]).1.name) (Z[k]).1.kind (Z[k]).1.cls (Z[k]).1.ttl A1 (Z[k]).1.names.length A2 (Z[k]).1.nums.length A3 (Z[k]).1.texts.length ∧
  w.cell? ⟨bq, k * 7, none⟩ = some (.string (mk (Z[k]).1.name)) ∧ w.cell? ⟨bq, k * 7 + 1, none⟩ = some (.int .u16 (Z[k]).1.kind) ∧ w.cell? ⟨bq, k * 7 + 2, none⟩ = some (.int .u16 (Z[k]).1.cls) ∧ w.cell? ⟨bq, k * 7 + 3, none⟩ = some (.int .u32 (Z[k]).1.ttl) ∧ w.cell? ⟨bq, k * 7 + 4, none⟩ = some (.slice A1 (Z[k]).1.names.length c1) ∧ w.cell? ⟨bq, k * 7 + 5, none⟩ = some (.slice A2 (Z[k]).1.nums.length c2) ∧ w.cell? ⟨bq, k * 7 + 6, none⟩ = some (.slice A3 (Z[k]).1.texts.length c3)
theorem recs_of {w : World} {g g2 : Nat} {v : Value} {Z : List RecZ} (h : w.ownsRow g 49 7 v Z.length (recCs Z)) (hz : ∀ z ∈ Z, RecIn w g2 z.1 z.2.1 z.2.2.1 z.2.2.2) : ∃ A c, v = .slice A Z.length c ∧ RecsAt w w.heap.size A Z := by
  rcases h.2 with ⟨rfl, h0⟩ | ⟨b, cap, cur, rfl, _, _, _⟩
  · exact ⟨none, 0, by rw [h0], fun k hk => by omega⟩
  · refine ⟨_, cap, rfl, fun k hk => ?_⟩
    obtain ⟨A1, c1, A2, c2, A3, c3, e1, e2, e3, hat⟩ := (hz (Z[k]) (List.getElem_mem hk)).at_
    have cell : ∀ j, j < 7 → ∀ u, (recV (Z[k]).1 (Z[k]).2.1 (Z[k]).2.2.1 (Z[k]).2.2.2)[j]? = some u → w.cell? ⟨b, k * 7 + j, none⟩ = some u := fun j hj u hu => by
      have := h.cells (g := b) rfl (k * 7 + j) u (by rw [recCs_at hk hj]; exact hu)
      rwa [add_at] at this
    exact ⟨b, A1, c1, A2, c2, A3, c3, rfl, (h.lt b rfl).2, hat, cell 0 (by decide) _ rfl, cell 1 (by decide) _ rfl, cell 2 (by decide) _ rfl, cell 3 (by decide) _ rfl, cell 4 (by decide) _ (by rw [← e1]; rfl), cell 5 (by decide) _ (by rw [← e2]; rfl), cell 6 (by decide) _ (by rw [← e3]; rfl)⟩
theorem RecsAt.on {w w' : World} {G : Nat} {A : Option Addr} {Z : List RecZ} (h : RecsAt w G A Z) (hb : Below G w w') : RecsAt w' G A Z := fun k hk => by
  obtain ⟨bq, A1, c1, A2, c2, A3, c3, e, hl, hat, k0, k1, k2, k3, k4, k5, k6⟩ := h k hk
  exact ⟨bq, A1, c1, A2, c2, A3, c3, e, hl, hat.on hb (Nat.le_refl _), (hb.cell (p := ⟨bq, _, none⟩) hl).trans k0, (hb.cell (p := ⟨bq, _, none⟩) hl).trans k1, (hb.cell (p := ⟨bq, _, none⟩) hl).trans k2, (hb.cell (p := ⟨bq, _, none⟩) hl).trans k3, (hb.cell (p := ⟨bq, _, none⟩) hl).trans k4, (hb.cell (p := ⟨bq, _, none⟩) hl).trans k5, (hb.cell (p := ⟨bq, _, none⟩) hl).trans k6⟩
end Go.Proofs.Ytihkmdojakalbaa
