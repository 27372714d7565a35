/- Texts of one proof, one behind the other: RdrFillV, RdrFillS. -/
import Derived.Test.YtihkmdojakalbaaProg
import Derived.Test.YtihkmdojakalbaaReadMessagesProofG1
import Derived.Test.YtihkmdojakalbaaReadMessagesProofG2
import Derived.Test.YtihkmdojakalbaaReadMessagesProofG6
import Derived.Test.YtihkmdojakalbaaReadMessagesProofG7
import Derived.Test.YtihkmdojakalbaaReadMessagesProofG8
import Derived.WalkKit
import Derived.Lib.Hide
import Derived.Laws.Rows
import Derived.Outline
import Derived.IntWalk
import Derived.WalkSpells
import Derived.WalkLawsBesides
import Derived.Deep.RegionHeld3
import Derived.Deep.Draws
import Derived.Laws.EntriesVeiled

/- The contract of a message's reader: a record's data is put into it: SRV. For texts of at most 10^6 bytes. -/
namespace Go.Proofs.Ytihkmdojakalbaa
open Go.RowKit NumMath NmMath Bytes Strs Nums MsgMath RecMath DatMath

set_option maxHeartbeats 4000000 in
set_option maxRecDepth 100000 in
theorem fill_srv (a s x : ByteArray) (r b g kind l t p : Nat) (D : Except Nat Body) (w : World) (h : RdrAt w r a s (p : Int) 50) (hb : w.heap[b]? = some (.cells (recC x kind l t (.slice none 0 0) (.slice none 0 0) (.slice none 0 0)) 49 (0, 0))) (hgr : g ≤ r) (hgb : g ≤ b) (hrb : r ≠ b)
    (hsa : Hid (s.data.toList = a.data.toList.take s.size)) (ha : a.size ≤ 1000000) (hsz : s.size ≤ a.size) (hp : p ≤ s.size) (h6 : kind ≠ 6) (h33 : kind = 33) (hD : Hid (bodyE a.data.toList s.size kind p = D)) :
    Calls Try.prog 72 #[.pointer (some ⟨r, 0, none⟩), .pointer (some ⟨b, 0, none⟩)] w (FillEnd w g b x kind l t D) := by
  have hbl : b < w.heap.size := by
    rcases Nat.lt_or_ge b w.heap.size with hlt | hge
    · exact hlt
    · rw [Array.getElem?_eq_none hge] at hb; cases hb
  have hs : s.size ≤ 1000000 := by omega
  have HSH := Lib.hid (fun w => shape_is kind (shA kind) (shB kind) (shC kind) w rfl rfl rfl)
  have hst0 := fillSt_start w g r b kind a s p _ (.func (.func 89) #[.pointer (some ⟨r, 0, none⟩)] #[]) (by unfold namer; first | rw [if_neg h33] | rw [if_pos h33]) h hb hgr hgb hrb hbl
  have hb1 : (w.alloc (.cells #[.pointer (some ⟨r, 0, none⟩)] 54)).heap[b]? = some (.cells (recC x kind l t (.slice none 0 0) (.slice none 0 0) (.slice none 0 0)) 49 (0, 0)) := old_at hb
  have hb2 : ((w.alloc (.cells #[.pointer (some ⟨r, 0, none⟩)] 54)).alloc (.cells #[.func (.func 44) #[.pointer (some ⟨r, 0, none⟩)] #[]] 62)).heap[b]? = some (.cells (recC x kind l t (.slice none 0 0) (.slice none 0 0) (.slice none 0 0)) 49 (0, 0)) := old_at hb1
  have k1 := cell_of_row _ _ 1 _ _ _ hb1
  have k2 := cell_of_row _ _ 1 _ _ _ hb2
  have m1 := cell_of_row _ _ 1 _ _ _ hst0.b0
  have HST0 := Lib.hid hst0
  obtain ⟨na, hna⟩ : ∃ n, shA kind = n := ⟨_, rfl⟩
  obtain ⟨nb, hnb⟩ : ∃ n, shB kind = n := ⟨_, rfl⟩
  obtain ⟨nc, hnc⟩ : ∃ n, shC kind = n := ⟨_, rfl⟩
  have hna1 := shA_le kind
  have hnb1 := shB_le kind
  rw [hna] at hna1
  rw [hnb] at hnb1
  rw [hna, hnb, hnc] at HSH
  have NA := Lib.hid hna
  have NB := Lib.hid hnb
  have NC := Lib.hid hnc
  have b6 : ((kind : Int) == 6) = false := beq_eq_false_iff_ne.2 (by omega)
  have b33 : ((kind : Int) == 33) = true := beq_iff_eq.2 (by omega)
  have H6 := Lib.hid h6
  clear hst0 hb1 hb2 hb h hna hnb hnc h6 h33
  obtain ⟨Q1, hQ1⟩ : ∃ Q, many (numE a.data.toList s.size 2) nb p = Q := ⟨_, rfl⟩
  cases Q1 with
  | error z =>
    have hRe : Hid (D = .error z) := by (show _ = _; rw [← hD.out]; exact body_err1 H6.out (by rw [NB.out]; exact hQ1))
    go_enter Try.func72, Try.ntmps72
    go_wp2_with fail
    refine (HSH.out _).mono ?_
    rintro e w' ⟨rfl, rfl⟩
    go_wp2_with fail
    generalize (w.alloc (.cells #[.pointer (some ⟨r, 0, none⟩)] 54)).alloc (.cells #[.func (.func 89) #[.pointer (some ⟨r, 0, none⟩)] #[]] 62) = w0 at HST0 m1 ⊢
    obtain ⟨q, hq⟩ : ∃ q, w.heap.size = q := ⟨_, rfl⟩
    rw [hq] at HST0 ⊢
    clear hq k1 k2 m1 HSH
    have HC := Lib.hid (narrows_any a s r nb p (.error z) w0 HST0.out.rd hsa hs (by omega) (by omega) hQ1)
    refine HC.out.mono ?_
    rintro e wx ⟨rfl, hG⟩
    have HE := Lib.hid (HST0.out.gaveUp hG)
    clear hG HC
    go_wp2_with fail
    rw [hRe.out]
    exact ⟨rfl, rfl, HE.out⟩
  | ok lq1 =>
    obtain ⟨ns, p1⟩ := lq1
    have hp1 : p1 ≤ s.size := many_le (fun _ _ _ _ h => numE_end h) hp hQ1
    obtain ⟨Q2, hQ2⟩ : ∃ Q, many (nameE a.data.toList s.size kind) na p1 = Q := ⟨_, rfl⟩
    cases Q2 with
    | error z =>
      have hRe : Hid (D = .error z) := by (show _ = _; rw [← hD.out]; exact body_err2 H6.out (by rw [NB.out]; exact hQ1) (by rw [NA.out]; exact hQ2))
      go_enter Try.func72, Try.ntmps72
      go_wp2_with fail
      refine (HSH.out _).mono ?_
      rintro e w' ⟨rfl, rfl⟩
      go_wp2_with fail
      generalize (w.alloc (.cells #[.pointer (some ⟨r, 0, none⟩)] 54)).alloc (.cells #[.func (.func 89) #[.pointer (some ⟨r, 0, none⟩)] #[]] 62) = w0 at HST0 m1 ⊢
      obtain ⟨q, hq⟩ : ∃ q, w.heap.size = q := ⟨_, rfl⟩
      rw [hq] at HST0 ⊢
      clear hq k1 k2 m1 HSH
      have HC := Lib.hid (narrows_any a s r nb p (.ok (ns, p1)) w0 HST0.out.rd hsa hs (by omega) (by omega) hQ1)
      refine HC.out.mono ?_
      rintro e wx ⟨v, rfl, hO, hD, hG⟩
      obtain ⟨A2, m2, c2, rfl⟩ := row_slice hO
      have hst := HST0.out.call hD hG
      have hO1 := row_low hO HST0.out.sz
      have x5 := cell_of_row _ _ 5 _ _ _ hst.b0
      have xf : ∀ i, wx.frozen? ⟨b, i, none⟩ = false := fun i => by simp [World.frozen?, hst.b0]
      have hst2 : FillSt w (wx.setCell ⟨b, 5, none⟩ (.slice A2 m2 c2)) g r b q kind a s p1 (recC x kind l t (.slice none 0 0) (.slice A2 m2 c2) (.slice none 0 0)) := hst.set 5 (.slice A2 m2 c2)
      have HST1 := Lib.hid hst2
      have R2 := Lib.hid (hst.rowSet hO1 5 (.slice A2 m2 c2) (by decide))
      have x1 := cell_of_row _ _ 1 _ _ _ hst2.b0
      have xq := cell_of_row _ _ 0 _ _ _ hst2.ct.at0
      clear hO hD hG hst hO1 hst2 HC 
      go_wp2_with fail
      generalize wx.setCell ⟨b, 5, none⟩ (.slice A2 m2 c2) = w1 at HST1 R2  x1 xq ⊢
      clear x5 xf
      have HC := Lib.hid (boundeds_any a s r q kind na p1 (.error z) w1 HST1.out.rd HST1.out.ct (by have := HST1.out.rq; omega) (by have := HST1.out.rq; omega) hsa ha hsz (by omega) (by omega) hQ2)
      refine HC.out.mono ?_
      rintro e wx ⟨rfl, hG⟩
      have HE := Lib.hid (HST1.out.gaveUp hG)
      clear hG HC
      go_wp2_with fail
      rw [hRe.out]
      exact ⟨rfl, rfl, HE.out⟩
    | ok lq2 =>
      obtain ⟨nms, p2⟩ := lq2
      have hp2 : p2 ≤ s.size := many_le (fun _ _ _ _ h => nameE_end h) hp1 hQ2
      have hB : Hid (endE a.data.toList s.size kind nms ns p2 = D) := by (show _ = _; rw [← hD.out]; exact (body_ok H6.out (by rw [NB.out]; exact hQ1) (by rw [NA.out]; exact hQ2)).symm)
      by_cases hc : 0 < nc
      · have hci : (0 : Int) < (nc : Int) := by omega
        have hcs : 0 < shC kind := by rw [NC.out]; exact hc
        obtain ⟨Q3, hQ3⟩ : ∃ Q, textsE a.data.toList s.size kind p2 = Q := ⟨_, rfl⟩
        have HQ3 := Lib.hid hQ3
        cases Q3 with
        | error z =>
          have hRe : Hid (D = .error z) := by (show _ = _; rw [← hB.out]; exact endE_err hcs hQ3)
          clear hQ3
          go_enter Try.func72, Try.ntmps72
          go_wp2_with fail
          refine (HSH.out _).mono ?_
          rintro e w' ⟨rfl, rfl⟩
          go_wp2_with fail
          generalize (w.alloc (.cells #[.pointer (some ⟨r, 0, none⟩)] 54)).alloc (.cells #[.func (.func 89) #[.pointer (some ⟨r, 0, none⟩)] #[]] 62) = w0 at HST0 m1 ⊢
          obtain ⟨q, hq⟩ : ∃ q, w.heap.size = q := ⟨_, rfl⟩
          rw [hq] at HST0 ⊢
          clear hq k1 k2 m1 HSH
          have HC := Lib.hid (narrows_any a s r nb p (.ok (ns, p1)) w0 HST0.out.rd hsa hs (by omega) (by omega) hQ1)
          refine HC.out.mono ?_
          rintro e wx ⟨v, rfl, hO, hD, hG⟩
          obtain ⟨A2, m2, c2, rfl⟩ := row_slice hO
          have hst := HST0.out.call hD hG
          have hO1 := row_low hO HST0.out.sz
          have x5 := cell_of_row _ _ 5 _ _ _ hst.b0
          have xf : ∀ i, wx.frozen? ⟨b, i, none⟩ = false := fun i => by simp [World.frozen?, hst.b0]
          have hst2 : FillSt w (wx.setCell ⟨b, 5, none⟩ (.slice A2 m2 c2)) g r b q kind a s p1 (recC x kind l t (.slice none 0 0) (.slice A2 m2 c2) (.slice none 0 0)) := hst.set 5 (.slice A2 m2 c2)
          have HST1 := Lib.hid hst2
          have R2 := Lib.hid (hst.rowSet hO1 5 (.slice A2 m2 c2) (by decide))
          have x1 := cell_of_row _ _ 1 _ _ _ hst2.b0
          have xq := cell_of_row _ _ 0 _ _ _ hst2.ct.at0
          clear hO hD hG hst hO1 hst2 HC 
          go_wp2_with fail
          generalize wx.setCell ⟨b, 5, none⟩ (.slice A2 m2 c2) = w1 at HST1 R2  x1 xq ⊢
          clear x5 xf
          have HC := Lib.hid (boundeds_any a s r q kind na p1 (.ok (nms, p2)) w1 HST1.out.rd HST1.out.ct (by have := HST1.out.rq; omega) (by have := HST1.out.rq; omega) hsa ha hsz (by omega) (by omega) hQ2)
          refine HC.out.mono ?_
          rintro e wx ⟨v, rfl, hO, hD, hG⟩
          obtain ⟨A1, m1, c1, rfl⟩ := row_slice hO
          have hst := HST1.out.call hD hG
          have hO1 := row_low hO HST1.out.sz
          have R2a := HST1.out.rowCall R2.out hG (by decide)
          have x4 := cell_of_row _ _ 4 _ _ _ hst.b0
          have xf : ∀ i, wx.frozen? ⟨b, i, none⟩ = false := fun i => by simp [World.frozen?, hst.b0]
          have hst2 : FillSt w (wx.setCell ⟨b, 4, none⟩ (.slice A1 m1 c1)) g r b q kind a s p2 (recC x kind l t (.slice A1 m1 c1) (.slice A2 m2 c2) (.slice none 0 0)) := hst.set 4 (.slice A1 m1 c1)
          have HST2 := Lib.hid hst2
          have R1 := Lib.hid (hst.rowSet hO1 4 (.slice A1 m1 c1) (by decide))
          have R2b := Lib.hid (hst.rowSet R2a 4 (.slice A1 m1 c1) (by decide))
          have x1 := cell_of_row _ _ 1 _ _ _ hst2.b0
          have xq := cell_of_row _ _ 0 _ _ _ hst2.ct.at0
          clear hO hD hG hst hO1 hst2 HC R2a R2
          go_wp2_with fail
          generalize wx.setCell ⟨b, 4, none⟩ (.slice A1 m1 c1) = w2 at HST2 R1 R2b x1 xq ⊢
          clear x4 xf
          have R2 := R2b
          clear R2b
          have HST2d := Lib.hid HST2.out.drew
          go_region_with (go_at_call 96; refine (texts_bad HST2d.out hsa hs hp2 HQ3).mono ?_; rintro e wx (⟨rfl, hE⟩ | ⟨rfl, hF, hk0, hk1, hkf, hk6⟩); · (first | (rw [hRe.out]; exact ⟨rfl, rfl, hE.out⟩) | (go_simp; rw [hRe.out]; exact ⟨rfl, rfl, hE.out⟩)))
          all_goals exact hF.out.elim
        | ok lq3 =>
          obtain ⟨L, p3⟩ := lq3
          have hp3 : p3 ≤ s.size := textsE_end hQ3
          have hDv := hB
          clear hB
          go_enter Try.func72, Try.ntmps72
          go_wp2_with fail
          refine (HSH.out _).mono ?_
          rintro e w' ⟨rfl, rfl⟩
          go_wp2_with fail
          generalize (w.alloc (.cells #[.pointer (some ⟨r, 0, none⟩)] 54)).alloc (.cells #[.func (.func 89) #[.pointer (some ⟨r, 0, none⟩)] #[]] 62) = w0 at HST0 m1 ⊢
          obtain ⟨q, hq⟩ : ∃ q, w.heap.size = q := ⟨_, rfl⟩
          rw [hq] at HST0 ⊢
          clear hq k1 k2 m1 HSH
          have HC := Lib.hid (narrows_any a s r nb p (.ok (ns, p1)) w0 HST0.out.rd hsa hs (by omega) (by omega) hQ1)
          refine HC.out.mono ?_
          rintro e wx ⟨v, rfl, hO, hD, hG⟩
          obtain ⟨A2, m2, c2, rfl⟩ := row_slice hO
          have hst := HST0.out.call hD hG
          have hO1 := row_low hO HST0.out.sz
          have x5 := cell_of_row _ _ 5 _ _ _ hst.b0
          have xf : ∀ i, wx.frozen? ⟨b, i, none⟩ = false := fun i => by simp [World.frozen?, hst.b0]
          have hst2 : FillSt w (wx.setCell ⟨b, 5, none⟩ (.slice A2 m2 c2)) g r b q kind a s p1 (recC x kind l t (.slice none 0 0) (.slice A2 m2 c2) (.slice none 0 0)) := hst.set 5 (.slice A2 m2 c2)
          have HST1 := Lib.hid hst2
          have R2 := Lib.hid (hst.rowSet hO1 5 (.slice A2 m2 c2) (by decide))
          have x1 := cell_of_row _ _ 1 _ _ _ hst2.b0
          have xq := cell_of_row _ _ 0 _ _ _ hst2.ct.at0
          clear hO hD hG hst hO1 hst2 HC 
          go_wp2_with fail
          generalize wx.setCell ⟨b, 5, none⟩ (.slice A2 m2 c2) = w1 at HST1 R2  x1 xq ⊢
          clear x5 xf
          have HC := Lib.hid (boundeds_any a s r q kind na p1 (.ok (nms, p2)) w1 HST1.out.rd HST1.out.ct (by have := HST1.out.rq; omega) (by have := HST1.out.rq; omega) hsa ha hsz (by omega) (by omega) hQ2)
          refine HC.out.mono ?_
          rintro e wx ⟨v, rfl, hO, hD, hG⟩
          obtain ⟨A1, m1, c1, rfl⟩ := row_slice hO
          have hst := HST1.out.call hD hG
          have hO1 := row_low hO HST1.out.sz
          have R2a := HST1.out.rowCall R2.out hG (by decide)
          have x4 := cell_of_row _ _ 4 _ _ _ hst.b0
          have xf : ∀ i, wx.frozen? ⟨b, i, none⟩ = false := fun i => by simp [World.frozen?, hst.b0]
          have hst2 : FillSt w (wx.setCell ⟨b, 4, none⟩ (.slice A1 m1 c1)) g r b q kind a s p2 (recC x kind l t (.slice A1 m1 c1) (.slice A2 m2 c2) (.slice none 0 0)) := hst.set 4 (.slice A1 m1 c1)
          have HST2 := Lib.hid hst2
          have R1 := Lib.hid (hst.rowSet hO1 4 (.slice A1 m1 c1) (by decide))
          have R2b := Lib.hid (hst.rowSet R2a 4 (.slice A1 m1 c1) (by decide))
          have x1 := cell_of_row _ _ 1 _ _ _ hst2.b0
          have xq := cell_of_row _ _ 0 _ _ _ hst2.ct.at0
          clear hO hD hG hst hO1 hst2 HC R2a R2
          go_wp2_with fail
          generalize wx.setCell ⟨b, 4, none⟩ (.slice A1 m1 c1) = w2 at HST2 R1 R2b x1 xq ⊢
          clear x4 xf
          have R2 := R2b
          clear R2b
          have HST2d := Lib.hid HST2.out.drew
          have R1d : Hid (w2.drew.ownsRow g 9 1 (.slice A1 m1 c1) nms.length (strCs nms)) := R1.out
          have R2d : Hid (w2.drew.ownsRow g 46 1 (.slice A2 m2 c2) ns.length (numCs ns)) := R2.out
          go_region_held3 (fun w' => w'.cell? ⟨q, 0, none⟩ = some (.pointer (some ⟨r, 0, none⟩)) ∧ w'.cell? ⟨b, 1, none⟩ = some (.int .u16 kind)) (first | go_keep | exact ⟨cell_of_row _ _ 0 _ _ _ (hT.out.st.set 6 (.slice A3 m3 c3)).ct.at0, cell_of_row _ _ 1 _ _ _ (hT.out.st.set 6 (.slice A3 m3 c3)).b0⟩) (first | (go_at_call 96; refine (texts_good HST2d.out hsa hs hp2 HQ3).mono ?_; rintro e wx ⟨A3, m3, c3, rfl, hk0, hk1, hkf, hk6, hT⟩))
          have R1e := HST2d.out.rowCall R1d.out hT.out.gr (by decide)
          have R2e := HST2d.out.rowCall R2d.out hT.out.gr (by decide)
          have HST3 := Lib.hid (hT.out.st.set 6 (.slice A3 m3 c3))
          have R1 := Lib.hid (hT.out.st.rowSet R1e 6 (.slice A3 m3 c3) (by decide))
          have R2 := Lib.hid (hT.out.st.rowSet R2e 6 (.slice A3 m3 c3) (by decide))
          have R3 := Lib.hid (hT.out.st.rowSet hT.out.row 6 (.slice A3 m3 c3) (by decide))
          have xq := cell_of_row _ _ 0 _ _ _ HST3.out.ct.at0
          have HL := Lib.hid (left_any a s r p3 50 _ HST3.out.rd hp3 hs)
          clear R1e R2e hk0 hk1 hkf hk6 hT
          go_wp2_with fail
          generalize wx.setCell ⟨b, 6, none⟩ (.slice A3 m3 c3) = w3 at HST3 R1 R2 R3 HL xq ⊢
          by_cases hlt : p3 < s.size
          · have hRe : Hid (D = .error 50) := by (show _ = _; rw [← hDv.out]; exact endE_left hcs HQ3.out hlt)
            have hpos : (0 : Int) < (s.size : Int) - p3 := by omega
            refine HL.out.mono ?_
            rintro e wl ⟨rfl, m, rfl⟩
            have HE := Lib.hid (HST3.out.drewN m)
            clear HL hDv
            go_wp2_with fail
            rw [hRe.out]
            exact ⟨rfl, rfl, HE.out.bl⟩
          · have hRe : Hid (D = .ok ⟨nms, ns, L⟩) := by (show _ = _; rw [← hDv.out]; exact endE_ok hcs HQ3.out hlt)
            have hpos : ¬ ((0 : Int) < (s.size : Int) - p3) := by omega
            refine HL.out.mono ?_
            rintro e wl ⟨rfl, m, rfl⟩
            have HE := Lib.hid (HST3.out.drewN m)
            clear HL hDv
            go_wp2_with fail
            go_end0
            rw [hRe.out]
            exact ⟨_, _, _, rfl, HE.out.b0, R1.out, R2.out, R3.out, HE.out.bl⟩
      · have hci : ¬ ((0 : Int) < (nc : Int)) := by omega
        have hcs : shC kind = 0 := by rw [NC.out]; omega
        go_enter Try.func72, Try.ntmps72
        go_wp2_with fail
        refine (HSH.out _).mono ?_
        rintro e w' ⟨rfl, rfl⟩
        go_wp2_with fail
        generalize (w.alloc (.cells #[.pointer (some ⟨r, 0, none⟩)] 54)).alloc (.cells #[.func (.func 89) #[.pointer (some ⟨r, 0, none⟩)] #[]] 62) = w0 at HST0 m1 ⊢
        obtain ⟨q, hq⟩ : ∃ q, w.heap.size = q := ⟨_, rfl⟩
        rw [hq] at HST0 ⊢
        clear hq k1 k2 m1 HSH
        have HC := Lib.hid (narrows_any a s r nb p (.ok (ns, p1)) w0 HST0.out.rd hsa hs (by omega) (by omega) hQ1)
        refine HC.out.mono ?_
        rintro e wx ⟨v, rfl, hO, hD, hG⟩
        obtain ⟨A2, m2, c2, rfl⟩ := row_slice hO
        have hst := HST0.out.call hD hG
        have hO1 := row_low hO HST0.out.sz
        have x5 := cell_of_row _ _ 5 _ _ _ hst.b0
        have xf : ∀ i, wx.frozen? ⟨b, i, none⟩ = false := fun i => by simp [World.frozen?, hst.b0]
        have hst2 : FillSt w (wx.setCell ⟨b, 5, none⟩ (.slice A2 m2 c2)) g r b q kind a s p1 (recC x kind l t (.slice none 0 0) (.slice A2 m2 c2) (.slice none 0 0)) := hst.set 5 (.slice A2 m2 c2)
        have HST1 := Lib.hid hst2
        have R2 := Lib.hid (hst.rowSet hO1 5 (.slice A2 m2 c2) (by decide))
        have x1 := cell_of_row _ _ 1 _ _ _ hst2.b0
        have xq := cell_of_row _ _ 0 _ _ _ hst2.ct.at0
        clear hO hD hG hst hO1 hst2 HC 
        go_wp2_with fail
        generalize wx.setCell ⟨b, 5, none⟩ (.slice A2 m2 c2) = w1 at HST1 R2  x1 xq ⊢
        clear x5 xf
        have HC := Lib.hid (boundeds_any a s r q kind na p1 (.ok (nms, p2)) w1 HST1.out.rd HST1.out.ct (by have := HST1.out.rq; omega) (by have := HST1.out.rq; omega) hsa ha hsz (by omega) (by omega) hQ2)
        refine HC.out.mono ?_
        rintro e wx ⟨v, rfl, hO, hD, hG⟩
        obtain ⟨A1, m1, c1, rfl⟩ := row_slice hO
        have hst := HST1.out.call hD hG
        have hO1 := row_low hO HST1.out.sz
        have R2a := HST1.out.rowCall R2.out hG (by decide)
        have x4 := cell_of_row _ _ 4 _ _ _ hst.b0
        have xf : ∀ i, wx.frozen? ⟨b, i, none⟩ = false := fun i => by simp [World.frozen?, hst.b0]
        have hst2 : FillSt w (wx.setCell ⟨b, 4, none⟩ (.slice A1 m1 c1)) g r b q kind a s p2 (recC x kind l t (.slice A1 m1 c1) (.slice A2 m2 c2) (.slice none 0 0)) := hst.set 4 (.slice A1 m1 c1)
        have HST2 := Lib.hid hst2
        have R1 := Lib.hid (hst.rowSet hO1 4 (.slice A1 m1 c1) (by decide))
        have R2b := Lib.hid (hst.rowSet R2a 4 (.slice A1 m1 c1) (by decide))
        have x1 := cell_of_row _ _ 1 _ _ _ hst2.b0
        have xq := cell_of_row _ _ 0 _ _ _ hst2.ct.at0
        clear hO hD hG hst hO1 hst2 HC R2a R2
        go_wp2_with fail
        generalize wx.setCell ⟨b, 4, none⟩ (.slice A1 m1 c1) = w2 at HST2 R1 R2b x1 xq ⊢
        clear x4 xf
        have R2 := R2b
        clear R2b
        have HL := Lib.hid (left_any a s r p2 50 w2 HST2.out.rd hp2 hs)
        by_cases hlt : p2 < s.size
        · have hRe : Hid (D = .error 50) := by (show _ = _; exact (by rw [← hB.out]; exact endE_none_left hcs hlt))
          have hpos : (0 : Int) < (s.size : Int) - p2 := by omega
          refine HL.out.mono ?_
          rintro e wl ⟨rfl, m, rfl⟩
          have HE := Lib.hid (HST2.out.drewN m)
          clear HL
          go_wp2_with fail
          rw [hRe.out]
          exact ⟨rfl, rfl, HE.out.bl⟩
        · have hRe : Hid (D = .ok ⟨nms, ns, []⟩) := by (show _ = _; exact (by rw [← hB.out]; exact endE_none hcs hlt))
          have hpos : ¬ ((0 : Int) < (s.size : Int) - p2) := by omega
          refine HL.out.mono ?_
          rintro e wl ⟨rfl, m, rfl⟩
          have HE := Lib.hid (HST2.out.drewN m)
          clear HL
          go_wp2_with fail
          go_end0
          rw [hRe.out]
          exact ⟨_, _, _, rfl, HE.out.b0, R1.out, R2.out, World.ownsRow_nil _ _ _ _, HE.out.bl⟩
end Go.Proofs.Ytihkmdojakalbaa

/- The contract of a message's reader: a record's data is put into it: SOA. For texts of at most 10^6 bytes. -/
namespace Go.Proofs.Ytihkmdojakalbaa
open Go.RowKit NumMath NmMath Bytes Strs Nums MsgMath RecMath DatMath

set_option maxHeartbeats 4000000 in
set_option maxRecDepth 100000 in
theorem fill_soa (a s x : ByteArray) (r b g kind l t p : Nat) (D : Except Nat Body) (w : World) (h : RdrAt w r a s (p : Int) 50) (hb : w.heap[b]? = some (.cells (recC x kind l t (.slice none 0 0) (.slice none 0 0) (.slice none 0 0)) 49 (0, 0))) (hgr : g ≤ r) (hgb : g ≤ b) (hrb : r ≠ b)
    (hsa : Hid (s.data.toList = a.data.toList.take s.size)) (ha : a.size ≤ 1000000) (hsz : s.size ≤ a.size) (hp : p ≤ s.size) (h6 : kind = 6) (h33 : kind ≠ 33) (hD : Hid (bodyE a.data.toList s.size kind p = D)) :
    Calls Try.prog 72 #[.pointer (some ⟨r, 0, none⟩), .pointer (some ⟨b, 0, none⟩)] w (FillEnd w g b x kind l t D) := by
  have hbl : b < w.heap.size := by
    rcases Nat.lt_or_ge b w.heap.size with hlt | hge
    · exact hlt
    · rw [Array.getElem?_eq_none hge] at hb; cases hb
  have hs : s.size ≤ 1000000 := by omega
  have HSH := Lib.hid (fun w => shape_is kind (shA kind) (shB kind) (shC kind) w rfl rfl rfl)
  have hst0 := fillSt_start w g r b kind a s p _ (.func (.func 44) #[.pointer (some ⟨r, 0, none⟩)] #[]) (by unfold namer; first | rw [if_neg h33] | rw [if_pos h33]) h hb hgr hgb hrb hbl
  have hb1 : (w.alloc (.cells #[.pointer (some ⟨r, 0, none⟩)] 54)).heap[b]? = some (.cells (recC x kind l t (.slice none 0 0) (.slice none 0 0) (.slice none 0 0)) 49 (0, 0)) := old_at hb
  have hb2 : ((w.alloc (.cells #[.pointer (some ⟨r, 0, none⟩)] 54)).alloc (.cells #[.func (.func 44) #[.pointer (some ⟨r, 0, none⟩)] #[]] 62)).heap[b]? = some (.cells (recC x kind l t (.slice none 0 0) (.slice none 0 0) (.slice none 0 0)) 49 (0, 0)) := old_at hb1
  have k1 := cell_of_row _ _ 1 _ _ _ hb1
  have k2 := cell_of_row _ _ 1 _ _ _ hb2
  have m1 := cell_of_row _ _ 1 _ _ _ hst0.b0
  have HST0 := Lib.hid hst0
  obtain ⟨na, hna⟩ : ∃ n, shA kind = n := ⟨_, rfl⟩
  obtain ⟨nb, hnb⟩ : ∃ n, shB kind = n := ⟨_, rfl⟩
  obtain ⟨nc, hnc⟩ : ∃ n, shC kind = n := ⟨_, rfl⟩
  have hna1 := shA_le kind
  have hnb1 := shB_le kind
  rw [hna] at hna1
  rw [hnb] at hnb1
  rw [hna, hnb, hnc] at HSH
  have NA := Lib.hid hna
  have NB := Lib.hid hnb
  have NC := Lib.hid hnc
  have b6 : ((kind : Int) == 6) = true := beq_iff_eq.2 (by omega)
  have b33 : ((kind : Int) == 33) = false := beq_eq_false_iff_ne.2 (by omega)
  have H6 := Lib.hid h6
  clear hst0 hb1 hb2 hb h hna hnb hnc h6 h33
  obtain ⟨Q1, hQ1⟩ : ∃ Q, many (nameE a.data.toList s.size kind) na p = Q := ⟨_, rfl⟩
  cases Q1 with
  | error z =>
    have hRe : Hid (D = .error z) := by (show _ = _; rw [← hD.out]; exact body_err16 H6.out (by rw [NA.out]; exact hQ1))
    go_enter Try.func72, Try.ntmps72
    go_wp2_with fail
    refine (HSH.out _).mono ?_
    rintro e w' ⟨rfl, rfl⟩
    go_wp2_with fail
    generalize (w.alloc (.cells #[.pointer (some ⟨r, 0, none⟩)] 54)).alloc (.cells #[.func (.func 44) #[.pointer (some ⟨r, 0, none⟩)] #[]] 62) = w0 at HST0 m1 ⊢
    obtain ⟨q, hq⟩ : ∃ q, w.heap.size = q := ⟨_, rfl⟩
    rw [hq] at HST0 ⊢
    clear hq k1 k2 m1 HSH
    have HC := Lib.hid (boundeds_any a s r q kind na p (.error z) w0 HST0.out.rd HST0.out.ct (by have := HST0.out.rq; omega) (by have := HST0.out.rq; omega) hsa ha hsz (by omega) (by omega) hQ1)
    refine HC.out.mono ?_
    rintro e wx ⟨rfl, hG⟩
    have HE := Lib.hid (HST0.out.gaveUp hG)
    clear hG HC
    go_wp2_with fail
    rw [hRe.out]
    exact ⟨rfl, rfl, HE.out⟩
  | ok lq1 =>
    obtain ⟨nms, p1⟩ := lq1
    have hp1 : p1 ≤ s.size := many_le (fun _ _ _ _ h => nameE_end h) hp hQ1
    obtain ⟨Q2, hQ2⟩ : ∃ Q, many (numE a.data.toList s.size 4) nb p1 = Q := ⟨_, rfl⟩
    cases Q2 with
    | error z =>
      have hRe : Hid (D = .error z) := by (show _ = _; rw [← hD.out]; exact body_err26 H6.out (by rw [NA.out]; exact hQ1) (by rw [NB.out]; exact hQ2))
      go_enter Try.func72, Try.ntmps72
      go_wp2_with fail
      refine (HSH.out _).mono ?_
      rintro e w' ⟨rfl, rfl⟩
      go_wp2_with fail
      generalize (w.alloc (.cells #[.pointer (some ⟨r, 0, none⟩)] 54)).alloc (.cells #[.func (.func 44) #[.pointer (some ⟨r, 0, none⟩)] #[]] 62) = w0 at HST0 m1 ⊢
      obtain ⟨q, hq⟩ : ∃ q, w.heap.size = q := ⟨_, rfl⟩
      rw [hq] at HST0 ⊢
      clear hq k1 k2 m1 HSH
      have HC := Lib.hid (boundeds_any a s r q kind na p (.ok (nms, p1)) w0 HST0.out.rd HST0.out.ct (by have := HST0.out.rq; omega) (by have := HST0.out.rq; omega) hsa ha hsz (by omega) (by omega) hQ1)
      refine HC.out.mono ?_
      rintro e wx ⟨v, rfl, hO, hD, hG⟩
      obtain ⟨A1, m1, c1, rfl⟩ := row_slice hO
      have hst := HST0.out.call hD hG
      have hO1 := row_low hO HST0.out.sz
      have x4 := cell_of_row _ _ 4 _ _ _ hst.b0
      have xf : ∀ i, wx.frozen? ⟨b, i, none⟩ = false := fun i => by simp [World.frozen?, hst.b0]
      have hst2 : FillSt w (wx.setCell ⟨b, 4, none⟩ (.slice A1 m1 c1)) g r b q kind a s p1 (recC x kind l t (.slice A1 m1 c1) (.slice none 0 0) (.slice none 0 0)) := hst.set 4 (.slice A1 m1 c1)
      have HST1 := Lib.hid hst2
      have R1 := Lib.hid (hst.rowSet hO1 4 (.slice A1 m1 c1) (by decide))
      have x1 := cell_of_row _ _ 1 _ _ _ hst2.b0
      have xq := cell_of_row _ _ 0 _ _ _ hst2.ct.at0
      clear hO hD hG hst hO1 hst2 HC 
      go_wp2_with fail
      generalize wx.setCell ⟨b, 4, none⟩ (.slice A1 m1 c1) = w1 at HST1 R1  x1 xq ⊢
      clear x4 xf
      have HC := Lib.hid (wides_any a s r nb p1 (.error z) w1 HST1.out.rd hsa hs (by omega) (by omega) hQ2)
      refine HC.out.mono ?_
      rintro e wx ⟨rfl, hG⟩
      have HE := Lib.hid (HST1.out.gaveUp hG)
      clear hG HC
      go_wp2_with fail
      rw [hRe.out]
      exact ⟨rfl, rfl, HE.out⟩
    | ok lq2 =>
      obtain ⟨ns, p2⟩ := lq2
      have hp2 : p2 ≤ s.size := many_le (fun _ _ _ _ h => numE_end h) hp1 hQ2
      have hB : Hid (endE a.data.toList s.size kind nms ns p2 = D) := by (show _ = _; rw [← hD.out]; exact (body_ok6 H6.out (by rw [NA.out]; exact hQ1) (by rw [NB.out]; exact hQ2)).symm)
      by_cases hc : 0 < nc
      · have hci : (0 : Int) < (nc : Int) := by omega
        have hcs : 0 < shC kind := by rw [NC.out]; exact hc
        obtain ⟨Q3, hQ3⟩ : ∃ Q, textsE a.data.toList s.size kind p2 = Q := ⟨_, rfl⟩
        have HQ3 := Lib.hid hQ3
        cases Q3 with
        | error z =>
          have hRe : Hid (D = .error z) := by (show _ = _; rw [← hB.out]; exact endE_err hcs hQ3)
          clear hQ3
          go_enter Try.func72, Try.ntmps72
          go_wp2_with fail
          refine (HSH.out _).mono ?_
          rintro e w' ⟨rfl, rfl⟩
          go_wp2_with fail
          generalize (w.alloc (.cells #[.pointer (some ⟨r, 0, none⟩)] 54)).alloc (.cells #[.func (.func 44) #[.pointer (some ⟨r, 0, none⟩)] #[]] 62) = w0 at HST0 m1 ⊢
          obtain ⟨q, hq⟩ : ∃ q, w.heap.size = q := ⟨_, rfl⟩
          rw [hq] at HST0 ⊢
          clear hq k1 k2 m1 HSH
          have HC := Lib.hid (boundeds_any a s r q kind na p (.ok (nms, p1)) w0 HST0.out.rd HST0.out.ct (by have := HST0.out.rq; omega) (by have := HST0.out.rq; omega) hsa ha hsz (by omega) (by omega) hQ1)
          refine HC.out.mono ?_
          rintro e wx ⟨v, rfl, hO, hD, hG⟩
          obtain ⟨A1, m1, c1, rfl⟩ := row_slice hO
          have hst := HST0.out.call hD hG
          have hO1 := row_low hO HST0.out.sz
          have x4 := cell_of_row _ _ 4 _ _ _ hst.b0
          have xf : ∀ i, wx.frozen? ⟨b, i, none⟩ = false := fun i => by simp [World.frozen?, hst.b0]
          have hst2 : FillSt w (wx.setCell ⟨b, 4, none⟩ (.slice A1 m1 c1)) g r b q kind a s p1 (recC x kind l t (.slice A1 m1 c1) (.slice none 0 0) (.slice none 0 0)) := hst.set 4 (.slice A1 m1 c1)
          have HST1 := Lib.hid hst2
          have R1 := Lib.hid (hst.rowSet hO1 4 (.slice A1 m1 c1) (by decide))
          have x1 := cell_of_row _ _ 1 _ _ _ hst2.b0
          have xq := cell_of_row _ _ 0 _ _ _ hst2.ct.at0
          clear hO hD hG hst hO1 hst2 HC 
          go_wp2_with fail
          generalize wx.setCell ⟨b, 4, none⟩ (.slice A1 m1 c1) = w1 at HST1 R1  x1 xq ⊢
          clear x4 xf
          have HC := Lib.hid (wides_any a s r nb p1 (.ok (ns, p2)) w1 HST1.out.rd hsa hs (by omega) (by omega) hQ2)
          refine HC.out.mono ?_
          rintro e wx ⟨v, rfl, hO, hD, hG⟩
          obtain ⟨A2, m2, c2, rfl⟩ := row_slice hO
          have hst := HST1.out.call hD hG
          have hO1 := row_low hO HST1.out.sz
          have R1a := HST1.out.rowCall R1.out hG (by decide)
          have x5 := cell_of_row _ _ 5 _ _ _ hst.b0
          have xf : ∀ i, wx.frozen? ⟨b, i, none⟩ = false := fun i => by simp [World.frozen?, hst.b0]
          have hst2 : FillSt w (wx.setCell ⟨b, 5, none⟩ (.slice A2 m2 c2)) g r b q kind a s p2 (recC x kind l t (.slice A1 m1 c1) (.slice A2 m2 c2) (.slice none 0 0)) := hst.set 5 (.slice A2 m2 c2)
          have HST2 := Lib.hid hst2
          have R2 := Lib.hid (hst.rowSet hO1 5 (.slice A2 m2 c2) (by decide))
          have R1b := Lib.hid (hst.rowSet R1a 5 (.slice A2 m2 c2) (by decide))
          have x1 := cell_of_row _ _ 1 _ _ _ hst2.b0
          have xq := cell_of_row _ _ 0 _ _ _ hst2.ct.at0
          clear hO hD hG hst hO1 hst2 HC R1a R1
          go_wp2_with fail
          generalize wx.setCell ⟨b, 5, none⟩ (.slice A2 m2 c2) = w2 at HST2 R2 R1b x1 xq ⊢
          clear x5 xf
          have R1 := R1b
          clear R1b
          have HST2d := Lib.hid HST2.out.drew
          go_region_with (go_at_call 96; refine (texts_bad HST2d.out hsa hs hp2 HQ3).mono ?_; rintro e wx (⟨rfl, hE⟩ | ⟨rfl, hF, hk0, hk1, hkf, hk6⟩); · (first | (rw [hRe.out]; exact ⟨rfl, rfl, hE.out⟩) | (go_simp; rw [hRe.out]; exact ⟨rfl, rfl, hE.out⟩)))
          all_goals exact hF.out.elim
        | ok lq3 =>
          obtain ⟨L, p3⟩ := lq3
          have hp3 : p3 ≤ s.size := textsE_end hQ3
          have hDv := hB
          clear hB
          go_enter Try.func72, Try.ntmps72
          go_wp2_with fail
          refine (HSH.out _).mono ?_
          rintro e w' ⟨rfl, rfl⟩
          go_wp2_with fail
          generalize (w.alloc (.cells #[.pointer (some ⟨r, 0, none⟩)] 54)).alloc (.cells #[.func (.func 44) #[.pointer (some ⟨r, 0, none⟩)] #[]] 62) = w0 at HST0 m1 ⊢
          obtain ⟨q, hq⟩ : ∃ q, w.heap.size = q := ⟨_, rfl⟩
          rw [hq] at HST0 ⊢
          clear hq k1 k2 m1 HSH
          have HC := Lib.hid (boundeds_any a s r q kind na p (.ok (nms, p1)) w0 HST0.out.rd HST0.out.ct (by have := HST0.out.rq; omega) (by have := HST0.out.rq; omega) hsa ha hsz (by omega) (by omega) hQ1)
          refine HC.out.mono ?_
          rintro e wx ⟨v, rfl, hO, hD, hG⟩
          obtain ⟨A1, m1, c1, rfl⟩ := row_slice hO
          have hst := HST0.out.call hD hG
          have hO1 := row_low hO HST0.out.sz
          have x4 := cell_of_row _ _ 4 _ _ _ hst.b0
          have xf : ∀ i, wx.frozen? ⟨b, i, none⟩ = false := fun i => by simp [World.frozen?, hst.b0]
          have hst2 : FillSt w (wx.setCell ⟨b, 4, none⟩ (.slice A1 m1 c1)) g r b q kind a s p1 (recC x kind l t (.slice A1 m1 c1) (.slice none 0 0) (.slice none 0 0)) := hst.set 4 (.slice A1 m1 c1)
          have HST1 := Lib.hid hst2
          have R1 := Lib.hid (hst.rowSet hO1 4 (.slice A1 m1 c1) (by decide))
          have x1 := cell_of_row _ _ 1 _ _ _ hst2.b0
          have xq := cell_of_row _ _ 0 _ _ _ hst2.ct.at0
          clear hO hD hG hst hO1 hst2 HC 
          go_wp2_with fail
          generalize wx.setCell ⟨b, 4, none⟩ (.slice A1 m1 c1) = w1 at HST1 R1  x1 xq ⊢
          clear x4 xf
          have HC := Lib.hid (wides_any a s r nb p1 (.ok (ns, p2)) w1 HST1.out.rd hsa hs (by omega) (by omega) hQ2)
          refine HC.out.mono ?_
          rintro e wx ⟨v, rfl, hO, hD, hG⟩
          obtain ⟨A2, m2, c2, rfl⟩ := row_slice hO
          have hst := HST1.out.call hD hG
          have hO1 := row_low hO HST1.out.sz
          have R1a := HST1.out.rowCall R1.out hG (by decide)
          have x5 := cell_of_row _ _ 5 _ _ _ hst.b0
          have xf : ∀ i, wx.frozen? ⟨b, i, none⟩ = false := fun i => by simp [World.frozen?, hst.b0]
          have hst2 : FillSt w (wx.setCell ⟨b, 5, none⟩ (.slice A2 m2 c2)) g r b q kind a s p2 (recC x kind l t (.slice A1 m1 c1) (.slice A2 m2 c2) (.slice none 0 0)) := hst.set 5 (.slice A2 m2 c2)
          have HST2 := Lib.hid hst2
          have R2 := Lib.hid (hst.rowSet hO1 5 (.slice A2 m2 c2) (by decide))
          have R1b := Lib.hid (hst.rowSet R1a 5 (.slice A2 m2 c2) (by decide))
          have x1 := cell_of_row _ _ 1 _ _ _ hst2.b0
          have xq := cell_of_row _ _ 0 _ _ _ hst2.ct.at0
          clear hO hD hG hst hO1 hst2 HC R1a R1
          go_wp2_with fail
          generalize wx.setCell ⟨b, 5, none⟩ (.slice A2 m2 c2) = w2 at HST2 R2 R1b x1 xq ⊢
          clear x5 xf
          have R1 := R1b
          clear R1b
          have HST2d := Lib.hid HST2.out.drew
          have R1d : Hid (w2.drew.ownsRow g 9 1 (.slice A1 m1 c1) nms.length (strCs nms)) := R1.out
          have R2d : Hid (w2.drew.ownsRow g 46 1 (.slice A2 m2 c2) ns.length (numCs ns)) := R2.out
          go_region_held3 (fun w' => w'.cell? ⟨q, 0, none⟩ = some (.pointer (some ⟨r, 0, none⟩)) ∧ w'.cell? ⟨b, 1, none⟩ = some (.int .u16 kind)) (first | go_keep | exact ⟨cell_of_row _ _ 0 _ _ _ (hT.out.st.set 6 (.slice A3 m3 c3)).ct.at0, cell_of_row _ _ 1 _ _ _ (hT.out.st.set 6 (.slice A3 m3 c3)).b0⟩) (first | (go_at_call 96; refine (texts_good HST2d.out hsa hs hp2 HQ3).mono ?_; rintro e wx ⟨A3, m3, c3, rfl, hk0, hk1, hkf, hk6, hT⟩))
          have R1e := HST2d.out.rowCall R1d.out hT.out.gr (by decide)
          have R2e := HST2d.out.rowCall R2d.out hT.out.gr (by decide)
          have HST3 := Lib.hid (hT.out.st.set 6 (.slice A3 m3 c3))
          have R1 := Lib.hid (hT.out.st.rowSet R1e 6 (.slice A3 m3 c3) (by decide))
          have R2 := Lib.hid (hT.out.st.rowSet R2e 6 (.slice A3 m3 c3) (by decide))
          have R3 := Lib.hid (hT.out.st.rowSet hT.out.row 6 (.slice A3 m3 c3) (by decide))
          have xq := cell_of_row _ _ 0 _ _ _ HST3.out.ct.at0
          have HL := Lib.hid (left_any a s r p3 50 _ HST3.out.rd hp3 hs)
          clear R1e R2e hk0 hk1 hkf hk6 hT
          go_wp2_with fail
          generalize wx.setCell ⟨b, 6, none⟩ (.slice A3 m3 c3) = w3 at HST3 R1 R2 R3 HL xq ⊢
          by_cases hlt : p3 < s.size
          · have hRe : Hid (D = .error 50) := by (show _ = _; rw [← hDv.out]; exact endE_left hcs HQ3.out hlt)
            have hpos : (0 : Int) < (s.size : Int) - p3 := by omega
            refine HL.out.mono ?_
            rintro e wl ⟨rfl, m, rfl⟩
            have HE := Lib.hid (HST3.out.drewN m)
            clear HL hDv
            go_wp2_with fail
            rw [hRe.out]
            exact ⟨rfl, rfl, HE.out.bl⟩
          · have hRe : Hid (D = .ok ⟨nms, ns, L⟩) := by (show _ = _; rw [← hDv.out]; exact endE_ok hcs HQ3.out hlt)
            have hpos : ¬ ((0 : Int) < (s.size : Int) - p3) := by omega
            refine HL.out.mono ?_
            rintro e wl ⟨rfl, m, rfl⟩
            have HE := Lib.hid (HST3.out.drewN m)
            clear HL hDv
            go_wp2_with fail
            go_end0
            rw [hRe.out]
            exact ⟨_, _, _, rfl, HE.out.b0, R1.out, R2.out, R3.out, HE.out.bl⟩
      · have hci : ¬ ((0 : Int) < (nc : Int)) := by omega
        have hcs : shC kind = 0 := by rw [NC.out]; omega
        go_enter Try.func72, Try.ntmps72
        go_wp2_with fail
        refine (HSH.out _).mono ?_
        rintro e w' ⟨rfl, rfl⟩
        go_wp2_with fail
        generalize (w.alloc (.cells #[.pointer (some ⟨r, 0, none⟩)] 54)).alloc (.cells #[.func (.func 44) #[.pointer (some ⟨r, 0, none⟩)] #[]] 62) = w0 at HST0 m1 ⊢
        obtain ⟨q, hq⟩ : ∃ q, w.heap.size = q := ⟨_, rfl⟩
        rw [hq] at HST0 ⊢
        clear hq k1 k2 m1 HSH
        have HC := Lib.hid (boundeds_any a s r q kind na p (.ok (nms, p1)) w0 HST0.out.rd HST0.out.ct (by have := HST0.out.rq; omega) (by have := HST0.out.rq; omega) hsa ha hsz (by omega) (by omega) hQ1)
        refine HC.out.mono ?_
        rintro e wx ⟨v, rfl, hO, hD, hG⟩
        obtain ⟨A1, m1, c1, rfl⟩ := row_slice hO
        have hst := HST0.out.call hD hG
        have hO1 := row_low hO HST0.out.sz
        have x4 := cell_of_row _ _ 4 _ _ _ hst.b0
        have xf : ∀ i, wx.frozen? ⟨b, i, none⟩ = false := fun i => by simp [World.frozen?, hst.b0]
        have hst2 : FillSt w (wx.setCell ⟨b, 4, none⟩ (.slice A1 m1 c1)) g r b q kind a s p1 (recC x kind l t (.slice A1 m1 c1) (.slice none 0 0) (.slice none 0 0)) := hst.set 4 (.slice A1 m1 c1)
        have HST1 := Lib.hid hst2
        have R1 := Lib.hid (hst.rowSet hO1 4 (.slice A1 m1 c1) (by decide))
        have x1 := cell_of_row _ _ 1 _ _ _ hst2.b0
        have xq := cell_of_row _ _ 0 _ _ _ hst2.ct.at0
        clear hO hD hG hst hO1 hst2 HC 
        go_wp2_with fail
        generalize wx.setCell ⟨b, 4, none⟩ (.slice A1 m1 c1) = w1 at HST1 R1  x1 xq ⊢
        clear x4 xf
        have HC := Lib.hid (wides_any a s r nb p1 (.ok (ns, p2)) w1 HST1.out.rd hsa hs (by omega) (by omega) hQ2)
        refine HC.out.mono ?_
        rintro e wx ⟨v, rfl, hO, hD, hG⟩
        obtain ⟨A2, m2, c2, rfl⟩ := row_slice hO
        have hst := HST1.out.call hD hG
        have hO1 := row_low hO HST1.out.sz
        have R1a := HST1.out.rowCall R1.out hG (by decide)
        have x5 := cell_of_row _ _ 5 _ _ _ hst.b0
        have xf : ∀ i, wx.frozen? ⟨b, i, none⟩ = false := fun i => by simp [World.frozen?, hst.b0]
        have hst2 : FillSt w (wx.setCell ⟨b, 5, none⟩ (.slice A2 m2 c2)) g r b q kind a s p2 (recC x kind l t (.slice A1 m1 c1) (.slice A2 m2 c2) (.slice none 0 0)) := hst.set 5 (.slice A2 m2 c2)
        have HST2 := Lib.hid hst2
        have R2 := Lib.hid (hst.rowSet hO1 5 (.slice A2 m2 c2) (by decide))
        have R1b := Lib.hid (hst.rowSet R1a 5 (.slice A2 m2 c2) (by decide))
        have x1 := cell_of_row _ _ 1 _ _ _ hst2.b0
        have xq := cell_of_row _ _ 0 _ _ _ hst2.ct.at0
        clear hO hD hG hst hO1 hst2 HC R1a R1
        go_wp2_with fail
        generalize wx.setCell ⟨b, 5, none⟩ (.slice A2 m2 c2) = w2 at HST2 R2 R1b x1 xq ⊢
        clear x5 xf
        have R1 := R1b
        clear R1b
        have HL := Lib.hid (left_any a s r p2 50 w2 HST2.out.rd hp2 hs)
        by_cases hlt : p2 < s.size
        · have hRe : Hid (D = .error 50) := by (show _ = _; exact (by rw [← hB.out]; exact endE_none_left hcs hlt))
          have hpos : (0 : Int) < (s.size : Int) - p2 := by omega
          refine HL.out.mono ?_
          rintro e wl ⟨rfl, m, rfl⟩
          have HE := Lib.hid (HST2.out.drewN m)
          clear HL
          go_wp2_with fail
          rw [hRe.out]
          exact ⟨rfl, rfl, HE.out.bl⟩
        · have hRe : Hid (D = .ok ⟨nms, ns, []⟩) := by (show _ = _; exact (by rw [← hB.out]; exact endE_none hcs hlt))
          have hpos : ¬ ((0 : Int) < (s.size : Int) - p2) := by omega
          refine HL.out.mono ?_
          rintro e wl ⟨rfl, m, rfl⟩
          have HE := Lib.hid (HST2.out.drewN m)
          clear HL
          go_wp2_with fail
          go_end0
          rw [hRe.out]
          exact ⟨_, _, _, rfl, HE.out.b0, R1.out, R2.out, World.ownsRow_nil _ _ _ _, HE.out.bl⟩
end Go.Proofs.Ytihkmdojakalbaa
