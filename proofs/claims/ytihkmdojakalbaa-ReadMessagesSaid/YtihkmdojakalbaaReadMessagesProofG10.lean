/- Texts of one proof, one behind the other: RdrRecord, DatRight, Held, RecAt, DatSmall. -/
import Derived.Test.YtihkmdojakalbaaProg
import Derived.Test.YtihkmdojakalbaaReadMessagesProofG1
import Derived.Test.YtihkmdojakalbaaReadMessagesProofG2
import Derived.Test.YtihkmdojakalbaaReadMessagesProofG6
import Derived.Test.YtihkmdojakalbaaReadMessagesProofG3
import Derived.Test.YtihkmdojakalbaaReadMessagesProofG8
import Derived.Test.YtihkmdojakalbaaReadMessagesProofG9
import Derived.Test.YtihkmdojakalbaaReadMessagesProofG5
import Derived.WalkKit
import Derived.Lib.Hide
import Derived.Laws.Rows
import Derived.Outline
import Derived.IntWalk
import Derived.WalkSpells
import Derived.WalkLawsBesides
import Derived.Below

/- The contract of a message's reader: the next record. For texts of at most 10^6 bytes. -/
namespace Go.Proofs.Ytihkmdojakalbaa
open Go.RowKit NumMath NmMath Bytes Strs Nums MsgMath RecMath DatMath

theorem fill_any (a s x : ByteArray) (r b g kind l t p : Nat) (D : Except Nat Body) (w : World) (h : RdrAt w r a s (p : Int) 50) (hb : w.heap[b]? = some (.cells (recC x kind l t (.slice none 0 0) (.slice none 0 0) (.slice none 0 0)) 49 (0, 0))) (hgr : g ≤ r) (hgb : g ≤ b) (hrb : r ≠ b)
    (hsa : Hid (s.data.toList = a.data.toList.take s.size)) (ha : a.size ≤ 1000000) (hsz : s.size ≤ a.size) (hp : p ≤ s.size) (hD : Hid (bodyE a.data.toList s.size kind p = D)) :
    Calls Try.prog 72 #[.pointer (some ⟨r, 0, none⟩), .pointer (some ⟨b, 0, none⟩)] w (FillEnd w g b x kind l t D) := by
  by_cases h6 : kind = 6
  · exact fill_soa a s x r b g kind l t p D w h hb hgr hgb hrb hsa ha hsz hp h6 (by omega) hD
  · by_cases h33 : kind = 33
    · exact fill_srv a s x r b g kind l t p D w h hb hgr hgb hrb hsa ha hsz hp h6 h33 hD
    · exact fill_other a s x r b g kind l t p D w h hb hgr hgb hrb hsa ha hsz hp h6 h33 hD

/-- A store of a record into a block. -/
theorem setRec_by (w : World) (b : Nat) (c0 c1 c2 c3 c4 c5 c6 : Value) : w.grownBy (((((((w.setCell ⟨b, 0, none⟩ c0).setCell ⟨b, 1, none⟩ c1).setCell ⟨b, 2, none⟩ c2).setCell ⟨b, 3, none⟩ c3).setCell ⟨b, 4, none⟩ c4).setCell ⟨b, 5, none⟩ c5).setCell ⟨b, 6, none⟩ c6) (some b) := by
  have h0 := only_setCell (grown_refl w (some b)) (p := ⟨b, 0, none⟩) (.inl rfl) c0
  have h1 := only_setCell h0 (p := ⟨b, 1, none⟩) (.inl rfl) c1
  have h2 := only_setCell h1 (p := ⟨b, 2, none⟩) (.inl rfl) c2
  have h3 := only_setCell h2 (p := ⟨b, 3, none⟩) (.inl rfl) c3
  have h4 := only_setCell h3 (p := ⟨b, 4, none⟩) (.inl rfl) c4
  have h5 := only_setCell h4 (p := ⟨b, 5, none⟩) (.inl rfl) c5
  exact only_setCell h5 (p := ⟨b, 6, none⟩) (.inl rfl) c6
/-- The state within a record's reading: the result's block, the reader. -/
structure RcSt (w wr : World) (r B : Nat) (s : ByteArray) (p : Nat) : Prop where
  eB : w.heap.size = B
  rB : r < B
  lt : B < wr.heap.size
  rd : RdrAt wr r s s (p : Int) 2
  b0 : wr.heap[B]? = some (.cells #[.string ⟨#[]⟩, .int .u16 0, .int .u16 0, .int .u32 0, .slice none 0 0, .slice none 0 0, .slice none 0 0] 49 (0, 0))
  kept : Kept B r w wr
section
variable {w wr w' : World} {r B p q : Nat} {s : ByteArray}
theorem RcSt.call (h : RcSt w wr r B s p) (hd : RdrAt w' r s s (q : Int) 2) (hg : wr.grownBy w' (some r)) : RcSt w w' r B s q :=
  ⟨h.eB, h.rB, Nat.lt_of_lt_of_le h.lt hg.size, hd, (grown_block hg h.lt (by have := h.rB; omega)).trans h.b0, h.kept.grown hg (by have := h.lt; omega)⟩
theorem RcSt.gaveUp (h : RcSt w wr r B s p) (hg : wr.grownBy w' (some r)) : w.grownBy w' (some r) := kept_grown (h.kept.grown hg (by have := h.lt; omega)) h.eB
theorem RcSt.alloc (h : RcSt w wr r B s p) (o : Obj) : RcSt w (wr.alloc o) r B s p :=
  ⟨h.eB, h.rB, by have := h.lt; simp; omega, h.rd.held ((Below.refl _ _).alloc (Nat.le_refl _) _), old_at h.b0, h.kept.alloc (by have := h.lt; omega) o⟩
theorem RcSt.below {g : Nat} (h : RcSt w wr r B s p) (hb : Below g wr w') (hg : B < g) : RcSt w w' r B s p :=
  ⟨h.eB, h.rB, Nat.lt_of_lt_of_le h.lt hb.size, h.rd.below hb (by have := h.rB; omega), (hb.block B hg).trans h.b0, h.kept.below (hb.mono (by omega))⟩
end
theorem rcSt_start (w : World) (r B : Nat) (s : ByteArray) (p : Nat) (hB : w.heap.size = B) (h : RdrAt w r s s (p : Int) 2) : RcSt w (w.alloc (.cells #[.string ⟨#[]⟩, .int .u16 0, .int .u16 0, .int .u32 0, .slice none 0 0, .slice none 0 0, .slice none 0 0] 49)) r B s p := by
  have hl := h.lt
  refine ⟨hB, by omega, by simp; omega, h.held ((Below.refl _ _).alloc (Nat.le_refl _) _), by rw [← hB]; exact heap_alloc_new w _, (Kept.refl _ _ _).alloc (by omega) _⟩
theorem nu_whole {s : ByteArray} {p n : Nat} : be ((s.data.toList.drop p).take n) = nu s.data.toList p n := rfl

set_option maxHeartbeats 4000000 in
set_option maxRecDepth 100000 in
theorem record_any (s : ByteArray) (r p : Nat) (R : Except Nat (Rec × Nat)) (w : World) (h : RdrAt w r s s (p : Int) 2) (hs : s.size ≤ 1000000) (hp : p ≤ 9223372036854775807) (hR : Hid (recE s.data.toList p = R)) :
    Calls Try.prog 50 #[.pointer (some ⟨r, 0, none⟩)] w (RecEnd w r s R) := by
  have SZ := Lib.hid (Lib.size_eq s)
  obtain ⟨N, hN⟩ : ∃ N, nm s.data.toList s.data.toList.length 2 p p none [] = N := ⟨_, rfl⟩
  obtain ⟨B, hB⟩ : ∃ B, w.heap.size = B := ⟨_, rfl⟩
  have HS0 := Lib.hid (rcSt_start w r B s p hB h)
  have HN := Lib.hid (pointed_any s s r 2 p N _ HS0.out.rd (nmAt_list rfl) hs hs hp (by (show _ = _; rw [SZ.out]; exact hN)))
  clear h
  cases N with
  | error x =>
    have hRe : Hid (R = .error x) := by show _ = _; rw [← hR.out]; exact recE_err hN
    clear hN hR
    go_enter Try.func50, Try.ntmps50
    go_wp2_with fail
    refine HN.out.mono ?_
    rintro e w1 ⟨rfl, hG⟩
    have HE := Lib.hid (HS0.out.gaveUp hG)
    clear hG
    go_wp2_with fail
    rw [hRe.out]
    exact ⟨rfl, rfl, HE.out⟩
  | ok oq =>
    obtain ⟨o, q⟩ := oq
    have hq0 := nm_next (Nat.le_refl _) (fun x e => by cases e) hN
    rw [← SZ.out] at hq0
    have hH : Hid (headE s.data.toList o q = R) := by show _ = _; rw [← hR.out]; exact (recE_ok hN).symm
    clear hN hR
    by_cases h10 : q + 10 ≤ s.size
    · have h10l : q + 10 ≤ s.data.toList.length := by rw [← SZ.out]; exact h10
      obtain ⟨k, hk⟩ : ∃ x, nu s.data.toList q 2 = x := ⟨_, rfl⟩
      have hkl : k < 65536 := by rw [← hk]; exact nu2_lt _ _
      have Hk := Lib.hid (fun w' (hd : RdrAt w' r s s ((q : Nat) : Int) 2) => number_yes s s r q 2 2 k w' hd (by decide) (by decide) (by omega) hs hk)
      have Ek := Lib.hid hk
      clear hk
      obtain ⟨c, hc⟩ : ∃ x, nu s.data.toList (q + 2) 2 = x := ⟨_, rfl⟩
      have hcl : c < 65536 := by rw [← hc]; exact nu2_lt _ _
      have Hc := Lib.hid (fun w' (hd : RdrAt w' r s s ((q + 2 : Nat) : Int) 2) => number_yes s s r (q + 2) 2 2 c w' hd (by decide) (by decide) (by omega) hs hc)
      have Ec := Lib.hid hc
      clear hc
      obtain ⟨t, ht⟩ : ∃ x, nu s.data.toList (q + 4) 4 = x := ⟨_, rfl⟩
      have htl : t < 4294967296 := by rw [← ht]; exact nu4_lt _ _
      have Ht := Lib.hid (fun w' (hd : RdrAt w' r s s ((q + 4 : Nat) : Int) 2) => number_yes s s r (q + 4) 4 2 t w' hd (by decide) (by decide) (by omega) hs ht)
      have Et := Lib.hid ht
      clear ht
      obtain ⟨n, hn⟩ : ∃ x, nu s.data.toList (q + 8) 2 = x := ⟨_, rfl⟩
      have hnl : n < 65536 := by rw [← hn]; exact nu2_lt _ _
      have Hn := Lib.hid (fun w' (hd : RdrAt w' r s s ((q + 8 : Nat) : Int) 2) => number_yes s s r (q + 8) 2 2 n w' hd (by decide) (by decide) (by omega) hs hn)
      have En := Lib.hid hn
      clear hn
      by_cases hin : q + 10 + n ≤ s.size
      · obtain ⟨tt, htt⟩ : ∃ tt, s.extract 0 (q + 10 + n) = tt := ⟨_, rfl⟩
        have hts : tt.size = q + 10 + n := by rw [← htt, ByteArray.size_extract]; omega
        have htl : Hid (tt.data.toList = s.data.toList.take tt.size) := by show _ = _; rw [hts, ← htt, extract_list]; rfl
        have HD := Lib.hid (fun w' (hd : RdrAt w' r s s ((q + 10 : Nat) : Int) 2) => data_yes s tt r (q + 10) n w' hd hin hs htt)
        obtain ⟨D, hD⟩ : ∃ D, bodyE s.data.toList (q + 10 + n) k (q + 10) = D := ⟨_, rfl⟩
        have HDD : Hid (bodyE s.data.toList tt.size k (q + 10) = D) := by (show _ = _; rw [hts]; exact hD)
        have hRv : Hid (lateE o k c t (q + 10 + n) D = R) := by
          show _ = _
          rw [← hH.out, headE_ok h10l (by rw [En.out, ← SZ.out]; exact hin), En.out, Ek.out, Ec.out, Et.out, hD]
        have HTS := Lib.hid hts
        clear htt hD hH hts
        cases D with
        | error z =>
          have hRe : Hid (R = .error z) := by show _ = _; rw [← hRv.out]; rfl
          clear hRv
          go_enter Try.func50, Try.ntmps50
          go_wp2_with fail
          refine HN.out.mono ?_
          rintro e w1 ⟨rfl, hD1, hG1⟩
          have HS1 := Lib.hid (HS0.out.call hD1 hG1)
          clear hD1 hG1 HN
          go_wp2_with fail
          refine (Hk.out _ HS1.out.rd).mono ?_
          rintro e w2 ⟨rfl, hD, hG⟩
          have HS2 := Lib.hid (HS1.out.call hD hG)
          clear hD hG Hk
          go_wp2_with fail
          refine (Hc.out _ HS2.out.rd).mono ?_
          rintro e w3 ⟨rfl, hD, hG⟩
          have HS3 := Lib.hid (HS2.out.call hD hG)
          clear hD hG Hc
          go_wp2_with fail
          refine (Ht.out _ HS3.out.rd).mono ?_
          rintro e w4 ⟨rfl, hD, hG⟩
          have HS4 := Lib.hid (HS3.out.call hD hG)
          clear hD hG Ht
          obtain ⟨B1, hB1⟩ : ∃ B, w4.heap.size = B := ⟨_, rfl⟩
          have hBB : B < B1 := by have := HS4.out.lt; omega
          have hone : (w4.alloc (.cells (recC (mk o) k c t (.slice none 0 0) (.slice none 0 0) (.slice none 0 0)) 49)).heap[B1]? = some (.cells (recC (mk o) k c t (.slice none 0 0) (.slice none 0 0) (.slice none 0 0)) 49 (0, 0)) := by rw [← hB1]; exact heap_alloc_new w4 _
          have honel : B1 < (w4.alloc (.cells (recC (mk o) k c t (.slice none 0 0) (.slice none 0 0) (.slice none 0 0)) 49)).heap.size := by rw [← hB1]; simp
          have HS4a := Lib.hid (HS4.out.alloc (.cells (recC (mk o) k c t (.slice none 0 0) (.slice none 0 0) (.slice none 0 0)) 49))
          have HONE := Lib.hid hone
          have HONEL := Lib.hid honel
          clear hone honel
          go_wp2_with fail
          clear hB1
          generalize w4.alloc (.cells (recC (mk o) k c t (.slice none 0 0) (.slice none 0 0) (.slice none 0 0)) 49) = w4a at HS4a HONE HONEL ⊢
          have HS4 := HS4a
          clear HS4a
          refine (Hn.out _ HS4.out.rd).mono ?_
          rintro e w5 ⟨rfl, hD, hG⟩
          have HS5 := Lib.hid (HS4.out.call hD hG)
          have HB5 : Hid (w5.heap[B1]? = some (.cells (recC (mk o) k c t (.slice none 0 0) (.slice none 0 0) (.slice none 0 0)) 49 (0, 0))) := (grown_block hG HONEL.out (by have := HS4.out.rB; omega)).trans HONE.out
          have HB5L : Hid (B1 < w5.heap.size) := Nat.lt_of_lt_of_le HONEL.out hG.size
          clear hD hG Hn
          go_wp2_with fail
          refine (HD.out _ HS5.out.rd).mono ?_
          rintro e w6 ⟨qs, rfl, hqs, hDs, hDr, hG6⟩
          have HS6 := Lib.hid (HS5.out.call hDr hG6)
          have hB6 : w6.heap[B1]? = some (.cells (recC (mk o) k c t (.slice none 0 0) (.slice none 0 0) (.slice none 0 0)) 49 (0, 0)) := (grown_block hG6 HB5L.out (by have := HS5.out.rB; omega)).trans HB5.out
          have HF := Lib.hid (fill_any s tt (mk o) qs B1 B1 k c t (q + 10) _ w6 hDs hB6 (by have := HB5L.out; omega) (Nat.le_refl _) (by have := HB5L.out; omega) htl hs (by rw [HTS.out]; omega) (by rw [HTS.out]; omega) HDD)
          clear hqs hDs hDr hG6 hB6 HD
          go_wp2_with fail
          refine HF.out.mono ?_
          rintro e w7 ⟨rfl, hE⟩
          have HE := Lib.hid (kept_grown (HS6.out.below hE hBB).kept HS6.out.eB)
          clear hE HF
          go_wp2_with fail
          rw [hRe.out]
          exact ⟨rfl, rfl, HE.out⟩
        | ok D =>
          by_cases hlate : 2147483647 < t ∧ k ≠ 41
          · have hRe : Hid (R = .error 1) := by show _ = _; rw [← hRv.out]; exact if_pos hlate
            obtain ⟨hl1, hl2⟩ := hlate
            have hl1i : (2147483647 : Int) < (t : Int) := by omega
            have hl2i : ((k : Int) != 41) = true := bne_iff_ne.2 (by omega)
            clear hRv hl1 hl2
            go_enter Try.func50, Try.ntmps50
            go_wp2_with fail
            refine HN.out.mono ?_
            rintro e w1 ⟨rfl, hD1, hG1⟩
            have HS1 := Lib.hid (HS0.out.call hD1 hG1)
            clear hD1 hG1 HN
            go_wp2_with fail
            refine (Hk.out _ HS1.out.rd).mono ?_
            rintro e w2 ⟨rfl, hD, hG⟩
            have HS2 := Lib.hid (HS1.out.call hD hG)
            clear hD hG Hk
            go_wp2_with fail
            refine (Hc.out _ HS2.out.rd).mono ?_
            rintro e w3 ⟨rfl, hD, hG⟩
            have HS3 := Lib.hid (HS2.out.call hD hG)
            clear hD hG Hc
            go_wp2_with fail
            refine (Ht.out _ HS3.out.rd).mono ?_
            rintro e w4 ⟨rfl, hD, hG⟩
            have HS4 := Lib.hid (HS3.out.call hD hG)
            clear hD hG Ht
            obtain ⟨B1, hB1⟩ : ∃ B, w4.heap.size = B := ⟨_, rfl⟩
            have hBB : B < B1 := by have := HS4.out.lt; omega
            have hone : (w4.alloc (.cells (recC (mk o) k c t (.slice none 0 0) (.slice none 0 0) (.slice none 0 0)) 49)).heap[B1]? = some (.cells (recC (mk o) k c t (.slice none 0 0) (.slice none 0 0) (.slice none 0 0)) 49 (0, 0)) := by rw [← hB1]; exact heap_alloc_new w4 _
            have honel : B1 < (w4.alloc (.cells (recC (mk o) k c t (.slice none 0 0) (.slice none 0 0) (.slice none 0 0)) 49)).heap.size := by rw [← hB1]; simp
            have HS4a := Lib.hid (HS4.out.alloc (.cells (recC (mk o) k c t (.slice none 0 0) (.slice none 0 0) (.slice none 0 0)) 49))
            have HONE := Lib.hid hone
            have HONEL := Lib.hid honel
            clear hone honel
            go_wp2_with fail
            clear hB1
            generalize w4.alloc (.cells (recC (mk o) k c t (.slice none 0 0) (.slice none 0 0) (.slice none 0 0)) 49) = w4a at HS4a HONE HONEL ⊢
            have HS4 := HS4a
            clear HS4a
            refine (Hn.out _ HS4.out.rd).mono ?_
            rintro e w5 ⟨rfl, hD, hG⟩
            have HS5 := Lib.hid (HS4.out.call hD hG)
            have HB5 : Hid (w5.heap[B1]? = some (.cells (recC (mk o) k c t (.slice none 0 0) (.slice none 0 0) (.slice none 0 0)) 49 (0, 0))) := (grown_block hG HONEL.out (by have := HS4.out.rB; omega)).trans HONE.out
            have HB5L : Hid (B1 < w5.heap.size) := Nat.lt_of_lt_of_le HONEL.out hG.size
            clear hD hG Hn
            go_wp2_with fail
            refine (HD.out _ HS5.out.rd).mono ?_
            rintro e w6 ⟨qs, rfl, hqs, hDs, hDr, hG6⟩
            have HS6 := Lib.hid (HS5.out.call hDr hG6)
            have hB6 : w6.heap[B1]? = some (.cells (recC (mk o) k c t (.slice none 0 0) (.slice none 0 0) (.slice none 0 0)) 49 (0, 0)) := (grown_block hG6 HB5L.out (by have := HS5.out.rB; omega)).trans HB5.out
            have HF := Lib.hid (fill_any s tt (mk o) qs B1 B1 k c t (q + 10) _ w6 hDs hB6 (by have := HB5L.out; omega) (Nat.le_refl _) (by have := HB5L.out; omega) htl hs (by rw [HTS.out]; omega) (by rw [HTS.out]; omega) HDD)
            clear hqs hDs hDr hG6 hB6 HD
            go_wp2_with fail
            refine HF.out.mono ?_
            rintro e w7 ⟨v1, v2, v3, rfl, hb7, hO1, hO2, hO3, hB7⟩
            obtain ⟨A1, m1, c1, rfl⟩ := row_slice hO1
            obtain ⟨A2, m2, c2, rfl⟩ := row_slice hO2
            obtain ⟨A3, m3, c3, rfl⟩ := row_slice hO3
            have HS7 := Lib.hid (HS6.out.below hB7 hBB)
            have g0 := cell_of_row _ _ 0 _ _ _ hb7
            have g1 := cell_of_row _ _ 1 _ _ _ hb7
            have g2 := cell_of_row _ _ 2 _ _ _ hb7
            have g3 := cell_of_row _ _ 3 _ _ _ hb7
            have g4 := cell_of_row _ _ 4 _ _ _ hb7
            have g5 := cell_of_row _ _ 5 _ _ _ hb7
            have g6 := cell_of_row _ _ 6 _ _ _ hb7
            have HO1 := Lib.hid hO1
            have HO2 := Lib.hid hO2
            have HO3 := Lib.hid hO3
            clear hb7 hO1 hO2 hO3 hB7 HF
            have HE := Lib.hid (kept_grown HS7.out.kept HS7.out.eB)
            go_wp2_with fail
            rw [hRe.out]
            exact ⟨rfl, rfl, HE.out⟩
          · have hRe : Hid (R = .ok (⟨o, k, c, t, D.names, D.nums, D.texts⟩, q + 10 + n)) := by show _ = _; rw [← hRv.out]; exact if_neg hlate
            have htest : (¬ ((2147483647 : Int) < (t : Int)) ∧ True) ∨ (((2147483647 : Int) < (t : Int)) ∧ ((k : Int) != 41) = false) := by
              by_cases ht : 2147483647 < t
              · exact .inr ⟨by omega, bne_eq_false_iff_eq.2 (by have : k = 41 := Classical.byContradiction fun hk => hlate ⟨ht, hk⟩; omega)⟩
              · exact .inl ⟨by omega, trivial⟩
            have HTT := Lib.hid htest
            clear hRv hlate htest
            go_enter Try.func50, Try.ntmps50
            go_wp2_with fail
            refine HN.out.mono ?_
            rintro e w1 ⟨rfl, hD1, hG1⟩
            have HS1 := Lib.hid (HS0.out.call hD1 hG1)
            clear hD1 hG1 HN
            go_wp2_with fail
            refine (Hk.out _ HS1.out.rd).mono ?_
            rintro e w2 ⟨rfl, hD, hG⟩
            have HS2 := Lib.hid (HS1.out.call hD hG)
            clear hD hG Hk
            go_wp2_with fail
            refine (Hc.out _ HS2.out.rd).mono ?_
            rintro e w3 ⟨rfl, hD, hG⟩
            have HS3 := Lib.hid (HS2.out.call hD hG)
            clear hD hG Hc
            go_wp2_with fail
            refine (Ht.out _ HS3.out.rd).mono ?_
            rintro e w4 ⟨rfl, hD, hG⟩
            have HS4 := Lib.hid (HS3.out.call hD hG)
            clear hD hG Ht
            obtain ⟨B1, hB1⟩ : ∃ B, w4.heap.size = B := ⟨_, rfl⟩
            have hBB : B < B1 := by have := HS4.out.lt; omega
            have hone : (w4.alloc (.cells (recC (mk o) k c t (.slice none 0 0) (.slice none 0 0) (.slice none 0 0)) 49)).heap[B1]? = some (.cells (recC (mk o) k c t (.slice none 0 0) (.slice none 0 0) (.slice none 0 0)) 49 (0, 0)) := by rw [← hB1]; exact heap_alloc_new w4 _
            have honel : B1 < (w4.alloc (.cells (recC (mk o) k c t (.slice none 0 0) (.slice none 0 0) (.slice none 0 0)) 49)).heap.size := by rw [← hB1]; simp
            have HS4a := Lib.hid (HS4.out.alloc (.cells (recC (mk o) k c t (.slice none 0 0) (.slice none 0 0) (.slice none 0 0)) 49))
            have HONE := Lib.hid hone
            have HONEL := Lib.hid honel
            clear hone honel
            go_wp2_with fail
            clear hB1
            generalize w4.alloc (.cells (recC (mk o) k c t (.slice none 0 0) (.slice none 0 0) (.slice none 0 0)) 49) = w4a at HS4a HONE HONEL ⊢
            have HS4 := HS4a
            clear HS4a
            refine (Hn.out _ HS4.out.rd).mono ?_
            rintro e w5 ⟨rfl, hD, hG⟩
            have HS5 := Lib.hid (HS4.out.call hD hG)
            have HB5 : Hid (w5.heap[B1]? = some (.cells (recC (mk o) k c t (.slice none 0 0) (.slice none 0 0) (.slice none 0 0)) 49 (0, 0))) := (grown_block hG HONEL.out (by have := HS4.out.rB; omega)).trans HONE.out
            have HB5L : Hid (B1 < w5.heap.size) := Nat.lt_of_lt_of_le HONEL.out hG.size
            clear hD hG Hn
            go_wp2_with fail
            refine (HD.out _ HS5.out.rd).mono ?_
            rintro e w6 ⟨qs, rfl, hqs, hDs, hDr, hG6⟩
            have HS6 := Lib.hid (HS5.out.call hDr hG6)
            have hB6 : w6.heap[B1]? = some (.cells (recC (mk o) k c t (.slice none 0 0) (.slice none 0 0) (.slice none 0 0)) 49 (0, 0)) := (grown_block hG6 HB5L.out (by have := HS5.out.rB; omega)).trans HB5.out
            have HF := Lib.hid (fill_any s tt (mk o) qs B1 B1 k c t (q + 10) _ w6 hDs hB6 (by have := HB5L.out; omega) (Nat.le_refl _) (by have := HB5L.out; omega) htl hs (by rw [HTS.out]; omega) (by rw [HTS.out]; omega) HDD)
            clear hqs hDs hDr hG6 hB6 HD
            go_wp2_with fail
            refine HF.out.mono ?_
            rintro e w7 ⟨v1, v2, v3, rfl, hb7, hO1, hO2, hO3, hB7⟩
            obtain ⟨A1, m1, c1, rfl⟩ := row_slice hO1
            obtain ⟨A2, m2, c2, rfl⟩ := row_slice hO2
            obtain ⟨A3, m3, c3, rfl⟩ := row_slice hO3
            have HS7 := Lib.hid (HS6.out.below hB7 hBB)
            have g0 := cell_of_row _ _ 0 _ _ _ hb7
            have g1 := cell_of_row _ _ 1 _ _ _ hb7
            have g2 := cell_of_row _ _ 2 _ _ _ hb7
            have g3 := cell_of_row _ _ 3 _ _ _ hb7
            have g4 := cell_of_row _ _ 4 _ _ _ hb7
            have g5 := cell_of_row _ _ 5 _ _ _ hb7
            have g6 := cell_of_row _ _ 6 _ _ _ hb7
            have HO1 := Lib.hid hO1
            have HO2 := Lib.hid hO2
            have HO3 := Lib.hid hO3
            clear hb7 hO1 hO2 hO3 hB7 HF
            have e0 := cell_of_row _ _ 0 _ _ _ HS7.out.b0
            have e1 := cell_of_row _ _ 1 _ _ _ HS7.out.b0
            have e2 := cell_of_row _ _ 2 _ _ _ HS7.out.b0
            have e3 := cell_of_row _ _ 3 _ _ _ HS7.out.b0
            have e4 := cell_of_row _ _ 4 _ _ _ HS7.out.b0
            have e5 := cell_of_row _ _ 5 _ _ _ HS7.out.b0
            have e6 := cell_of_row _ _ 6 _ _ _ HS7.out.b0
            have ef : ∀ i, w7.frozen? ⟨B, i, none⟩ = false := fun i => by simp [World.frozen?, HS7.out.b0]
            have HE : Hid (RecIn (((((((w7.setCell ⟨B, 0, none⟩ (.string (mk o))).setCell ⟨B, 1, none⟩ (.int .u16 k)).setCell ⟨B, 2, none⟩ (.int .u16 c)).setCell ⟨B, 3, none⟩ (.int .u32 t)).setCell ⟨B, 4, none⟩ (.slice A1 m1 c1)).setCell ⟨B, 5, none⟩ (.slice A2 m2 c2)).setCell ⟨B, 6, none⟩ (.slice A3 m3 c3)) w.heap.size ⟨o, k, c, t, D.names, D.nums, D.texts⟩ (.slice A1 m1 c1) (.slice A2 m2 c2) (.slice A3 m3 c3) ∧
                RdrAt (((((((w7.setCell ⟨B, 0, none⟩ (.string (mk o))).setCell ⟨B, 1, none⟩ (.int .u16 k)).setCell ⟨B, 2, none⟩ (.int .u16 c)).setCell ⟨B, 3, none⟩ (.int .u32 t)).setCell ⟨B, 4, none⟩ (.slice A1 m1 c1)).setCell ⟨B, 5, none⟩ (.slice A2 m2 c2)).setCell ⟨B, 6, none⟩ (.slice A3 m3 c3)) r s s ((q + 10 + n : Nat) : Int) 2 ∧
                w.grownBy (((((((w7.setCell ⟨B, 0, none⟩ (.string (mk o))).setCell ⟨B, 1, none⟩ (.int .u16 k)).setCell ⟨B, 2, none⟩ (.int .u16 c)).setCell ⟨B, 3, none⟩ (.int .u32 t)).setCell ⟨B, 4, none⟩ (.slice A1 m1 c1)).setCell ⟨B, 5, none⟩ (.slice A2 m2 c2)).setCell ⟨B, 6, none⟩ (.slice A3 m3 c3)) (some r)) := by
              have hg9 := setRec_by w7 B (.string (mk o)) (.int .u16 k) (.int .u16 c) (.int .u32 t) (.slice A1 m1 c1) (.slice A2 m2 c2) (.slice A3 m3 c3)
              have hlow : w.heap.size ≤ B1 := by have := HS7.out.eB; omega
              refine ⟨⟨row_low (HO1.out.kept hg9 (row_ne HS7.out.b0 HO1.out (by decide))) hlow, row_low (HO2.out.kept hg9 (row_ne HS7.out.b0 HO2.out (by decide))) hlow, row_low (HO3.out.kept hg9 (row_ne HS7.out.b0 HO3.out (by decide))) hlow⟩, HS7.out.rd.other hg9 (by have := HS7.out.rB; omega), ?_⟩
              exact kept_grown (HS7.out.kept.own hg9 (by have := HS7.out.lt; omega) (fun k e => by injection e with e; omega)) HS7.out.eB
            rcases HTT.out with ⟨ht, _⟩ | ⟨ht, hk41⟩
            all_goals
              go_wp2_with fail
              refine bodyPost_ret (v := .agg #[.string (mk o), .int .u16 k, .int .u16 c, .int .u32 t, .slice A1 m1 c1, .slice A2 m2 c2, .slice A3 m3 c3]) (by simp [results, Try.results50, go_sem, e0, e1, e2, e3, e4, e5, e6]) rfl ?_
              rw [hRe.out]
              exact ⟨_, _, _, rfl, HE.out.1, HE.out.2.1, HE.out.2.2⟩
      · have hRe : Hid (R = .error 2) := by show _ = _; rw [← hH.out]; exact headE_cut h10l (by rw [En.out, ← SZ.out]; omega)
        have HX := Lib.hid (fun w' (hd : RdrAt w' r s s ((q + 10 : Nat) : Int) 2) => data_no s r (q + 10) n w' hd h10 (by omega) hs)
        clear hH
        go_enter Try.func50, Try.ntmps50
        go_wp2_with fail
        refine HN.out.mono ?_
        rintro e w1 ⟨rfl, hD1, hG1⟩
        have HS1 := Lib.hid (HS0.out.call hD1 hG1)
        clear hD1 hG1 HN
        go_wp2_with fail
        refine (Hk.out _ HS1.out.rd).mono ?_
        rintro e w2 ⟨rfl, hD, hG⟩
        have HS2 := Lib.hid (HS1.out.call hD hG)
        clear hD hG Hk
        go_wp2_with fail
        refine (Hc.out _ HS2.out.rd).mono ?_
        rintro e w3 ⟨rfl, hD, hG⟩
        have HS3 := Lib.hid (HS2.out.call hD hG)
        clear hD hG Hc
        go_wp2_with fail
        refine (Ht.out _ HS3.out.rd).mono ?_
        rintro e w4 ⟨rfl, hD, hG⟩
        have HS4 := Lib.hid (HS3.out.call hD hG)
        clear hD hG Ht
        obtain ⟨B1, hB1⟩ : ∃ B, w4.heap.size = B := ⟨_, rfl⟩
        have hBB : B < B1 := by have := HS4.out.lt; omega
        have hone : (w4.alloc (.cells (recC (mk o) k c t (.slice none 0 0) (.slice none 0 0) (.slice none 0 0)) 49)).heap[B1]? = some (.cells (recC (mk o) k c t (.slice none 0 0) (.slice none 0 0) (.slice none 0 0)) 49 (0, 0)) := by rw [← hB1]; exact heap_alloc_new w4 _
        have honel : B1 < (w4.alloc (.cells (recC (mk o) k c t (.slice none 0 0) (.slice none 0 0) (.slice none 0 0)) 49)).heap.size := by rw [← hB1]; simp
        have HS4a := Lib.hid (HS4.out.alloc (.cells (recC (mk o) k c t (.slice none 0 0) (.slice none 0 0) (.slice none 0 0)) 49))
        have HONE := Lib.hid hone
        have HONEL := Lib.hid honel
        clear hone honel
        go_wp2_with fail
        clear hB1
        generalize w4.alloc (.cells (recC (mk o) k c t (.slice none 0 0) (.slice none 0 0) (.slice none 0 0)) 49) = w4a at HS4a HONE HONEL ⊢
        have HS4 := HS4a
        clear HS4a
        refine (Hn.out _ HS4.out.rd).mono ?_
        rintro e w5 ⟨rfl, hD, hG⟩
        have HS5 := Lib.hid (HS4.out.call hD hG)
        have HB5 : Hid (w5.heap[B1]? = some (.cells (recC (mk o) k c t (.slice none 0 0) (.slice none 0 0) (.slice none 0 0)) 49 (0, 0))) := (grown_block hG HONEL.out (by have := HS4.out.rB; omega)).trans HONE.out
        have HB5L : Hid (B1 < w5.heap.size) := Nat.lt_of_lt_of_le HONEL.out hG.size
        clear hD hG Hn
        go_wp2_with fail
        refine (HX.out _ HS5.out.rd).mono ?_
        rintro e wx ⟨rfl, hG⟩
        have HE := Lib.hid (HS5.out.gaveUp hG)
        clear hG
        go_wp2_with fail
        rw [hRe.out]
        exact ⟨rfl, rfl, HE.out⟩
    · have hRe : Hid (R = .error 2) := by show _ = _; rw [← hH.out]; exact headE_short (by rw [← SZ.out]; omega)
      clear hH
      by_cases h2 : q + 2 ≤ s.size
      · obtain ⟨k, hk⟩ : ∃ x, nu s.data.toList q 2 = x := ⟨_, rfl⟩
        have hkl : k < 65536 := by rw [← hk]; exact nu2_lt _ _
        have Hk := Lib.hid (fun w' (hd : RdrAt w' r s s ((q : Nat) : Int) 2) => number_yes s s r q 2 2 k w' hd (by decide) (by decide) (by omega) hs hk)
        have Ek := Lib.hid hk
        clear hk
        by_cases h4 : q + 4 ≤ s.size
        · obtain ⟨c, hc⟩ : ∃ x, nu s.data.toList (q + 2) 2 = x := ⟨_, rfl⟩
          have hcl : c < 65536 := by rw [← hc]; exact nu2_lt _ _
          have Hc := Lib.hid (fun w' (hd : RdrAt w' r s s ((q + 2 : Nat) : Int) 2) => number_yes s s r (q + 2) 2 2 c w' hd (by decide) (by decide) (by omega) hs hc)
          have Ec := Lib.hid hc
          clear hc
          by_cases h8 : q + 8 ≤ s.size
          · obtain ⟨t, ht⟩ : ∃ x, nu s.data.toList (q + 4) 4 = x := ⟨_, rfl⟩
            have htl : t < 4294967296 := by rw [← ht]; exact nu4_lt _ _
            have Ht := Lib.hid (fun w' (hd : RdrAt w' r s s ((q + 4 : Nat) : Int) 2) => number_yes s s r (q + 4) 4 2 t w' hd (by decide) (by decide) (by omega) hs ht)
            have Et := Lib.hid ht
            clear ht
            have HX := Lib.hid (fun w' (hd : RdrAt w' r s s ((q + 8 : Nat) : Int) 2) => number_no s s r 2 ((q + 8 : Nat) : Int) 2 w' hd hs (by decide) (by omega) (by omega) (holds_no (n := s.size) (p := q + 8) (m := 2) (by omega)))
            go_enter Try.func50, Try.ntmps50
            go_wp2_with fail
            refine HN.out.mono ?_
            rintro e w1 ⟨rfl, hD1, hG1⟩
            have HS1 := Lib.hid (HS0.out.call hD1 hG1)
            clear hD1 hG1 HN
            go_wp2_with fail
            refine (Hk.out _ HS1.out.rd).mono ?_
            rintro e w2 ⟨rfl, hD, hG⟩
            have HS2 := Lib.hid (HS1.out.call hD hG)
            clear hD hG Hk
            go_wp2_with fail
            refine (Hc.out _ HS2.out.rd).mono ?_
            rintro e w3 ⟨rfl, hD, hG⟩
            have HS3 := Lib.hid (HS2.out.call hD hG)
            clear hD hG Hc
            go_wp2_with fail
            refine (Ht.out _ HS3.out.rd).mono ?_
            rintro e w4 ⟨rfl, hD, hG⟩
            have HS4 := Lib.hid (HS3.out.call hD hG)
            clear hD hG Ht
            obtain ⟨B1, hB1⟩ : ∃ B, w4.heap.size = B := ⟨_, rfl⟩
            have hBB : B < B1 := by have := HS4.out.lt; omega
            have hone : (w4.alloc (.cells (recC (mk o) k c t (.slice none 0 0) (.slice none 0 0) (.slice none 0 0)) 49)).heap[B1]? = some (.cells (recC (mk o) k c t (.slice none 0 0) (.slice none 0 0) (.slice none 0 0)) 49 (0, 0)) := by rw [← hB1]; exact heap_alloc_new w4 _
            have honel : B1 < (w4.alloc (.cells (recC (mk o) k c t (.slice none 0 0) (.slice none 0 0) (.slice none 0 0)) 49)).heap.size := by rw [← hB1]; simp
            have HS4a := Lib.hid (HS4.out.alloc (.cells (recC (mk o) k c t (.slice none 0 0) (.slice none 0 0) (.slice none 0 0)) 49))
            have HONE := Lib.hid hone
            have HONEL := Lib.hid honel
            clear hone honel
            go_wp2_with fail
            clear hB1
            generalize w4.alloc (.cells (recC (mk o) k c t (.slice none 0 0) (.slice none 0 0) (.slice none 0 0)) 49) = w4a at HS4a HONE HONEL ⊢
            have HS4 := HS4a
            clear HS4a
            refine (HX.out _ HS4.out.rd).mono ?_
            rintro e wx ⟨rfl, m, rfl⟩
            have HE := Lib.hid (HS4.out.gaveUp (grown_drewN (grown_refl _ _) m))
            go_wp2_with fail
            rw [hRe.out]
            exact ⟨rfl, rfl, HE.out⟩
          · have HX := Lib.hid (fun w' (hd : RdrAt w' r s s ((q + 4 : Nat) : Int) 2) => number_no s s r 2 ((q + 4 : Nat) : Int) 4 w' hd hs (by decide) (by omega) (by omega) (holds_no (n := s.size) (p := q + 4) (m := 4) (by omega)))
            go_enter Try.func50, Try.ntmps50
            go_wp2_with fail
            refine HN.out.mono ?_
            rintro e w1 ⟨rfl, hD1, hG1⟩
            have HS1 := Lib.hid (HS0.out.call hD1 hG1)
            clear hD1 hG1 HN
            go_wp2_with fail
            refine (Hk.out _ HS1.out.rd).mono ?_
            rintro e w2 ⟨rfl, hD, hG⟩
            have HS2 := Lib.hid (HS1.out.call hD hG)
            clear hD hG Hk
            go_wp2_with fail
            refine (Hc.out _ HS2.out.rd).mono ?_
            rintro e w3 ⟨rfl, hD, hG⟩
            have HS3 := Lib.hid (HS2.out.call hD hG)
            clear hD hG Hc
            go_wp2_with fail
            refine (HX.out _ HS3.out.rd).mono ?_
            rintro e wx ⟨rfl, m, rfl⟩
            have HE := Lib.hid (HS3.out.gaveUp (grown_drewN (grown_refl _ _) m))
            go_wp2_with fail
            rw [hRe.out]
            exact ⟨rfl, rfl, HE.out⟩
        · have HX := Lib.hid (fun w' (hd : RdrAt w' r s s ((q + 2 : Nat) : Int) 2) => number_no s s r 2 ((q + 2 : Nat) : Int) 2 w' hd hs (by decide) (by omega) (by omega) (holds_no (n := s.size) (p := q + 2) (m := 2) (by omega)))
          go_enter Try.func50, Try.ntmps50
          go_wp2_with fail
          refine HN.out.mono ?_
          rintro e w1 ⟨rfl, hD1, hG1⟩
          have HS1 := Lib.hid (HS0.out.call hD1 hG1)
          clear hD1 hG1 HN
          go_wp2_with fail
          refine (Hk.out _ HS1.out.rd).mono ?_
          rintro e w2 ⟨rfl, hD, hG⟩
          have HS2 := Lib.hid (HS1.out.call hD hG)
          clear hD hG Hk
          go_wp2_with fail
          refine (HX.out _ HS2.out.rd).mono ?_
          rintro e wx ⟨rfl, m, rfl⟩
          have HE := Lib.hid (HS2.out.gaveUp (grown_drewN (grown_refl _ _) m))
          go_wp2_with fail
          rw [hRe.out]
          exact ⟨rfl, rfl, HE.out⟩
      · have HX := Lib.hid (fun w' (hd : RdrAt w' r s s ((q : Nat) : Int) 2) => number_no s s r 2 ((q : Nat) : Int) 2 w' hd hs (by decide) (by omega) (by omega) (holds_no (n := s.size) (p := q) (m := 2) (by omega)))
        go_enter Try.func50, Try.ntmps50
        go_wp2_with fail
        refine HN.out.mono ?_
        rintro e w1 ⟨rfl, hD1, hG1⟩
        have HS1 := Lib.hid (HS0.out.call hD1 hG1)
        clear hD1 hG1 HN
        go_wp2_with fail
        refine (HX.out _ HS1.out.rd).mono ?_
        rintro e wx ⟨rfl, m, rfl⟩
        have HE := Lib.hid (HS1.out.gaveUp (grown_drewN (grown_refl _ _) m))
        go_wp2_with fail
        rw [hRe.out]
        exact ⟨rfl, rfl, HE.out⟩

theorem recReads (s : ByteArray) (r : Nat) (hs : s.size ≤ 1000000) : RecReads r s (recE s.data.toList) :=
  ⟨fun w p h hp => record_any s r p _ w h hs hp rfl, fun _ _ _ h => by rw [Lib.size_eq]; exact recE_next h⟩
end Go.Proofs.Ytihkmdojakalbaa

/- What is read of any bytes is right: names are names, records have their types' shapes. No program, no condition. -/
namespace Go.Proofs.Ytihkmdojakalbaa.DatMath
open Go Bytes NameMath NmMath RecMath MsgMath StMath

theorem run_wire {l : List UInt8} {E K p : Nat} {o : List UInt8} (hE : E ≤ l.length) : ∀ {o' : List UInt8} {q : Nat} {A : List (List UInt8)}, o = wire A → A.all okLab = true → run l E K p o = .ok (o', q) → ∃ A', A'.all okLab = true ∧ o' = wire A' := by
  fun_induction run l E K p o with
  | case1 p o h h0 => intro o' q A e hA h; injection h with h; injection h with h1 h2; subst h1; exact ⟨A, hA, e⟩
  | case2 => intro o' q A e hA h; cases h
  | case3 => intro o' q A e hA h; cases h
  | case4 p o h h0 h1 h2 h3 ih =>
    intro o' q A e hA hr
    have hl : (cut l (p + 1) (bt l p)).length = bt l p := cut_len (by omega)
    have hof : UInt8.ofNat (cut l (p + 1) (bt l p)).length = l.getD p 0 := by rw [hl]; unfold bt; rw [UInt8.ofNat_toNat]
    refine ih (A := A ++ [cut l (p + 1) (bt l p)]) ?_ ?_ hr
    · rw [wire_snoc, hof, ← cut_head (by omega), e]
    · rw [List.all_append, hA, List.all_cons, okLab_iff.2 (by rw [hl]; omega)]
      rfl
  | case5 => intro o' q A e hA h; cases h
  | case6 => intro o' q A e hA h; cases h
theorem name_of {A : List (List UInt8)} {o : List UInt8} (hA : A.all okLab = true) (e : o = wire A) (h : o.length ≤ 254) : isN (o ++ [0]) = true := by
  subst e
  refine isN_of (L := A) (labels_name hA ?_)
  rw [nameL_len]
  omega
theorem nm_isN {l : List UInt8} {E K p b : Nat} {next : Option Nat} {o : List UInt8} (hE : E ≤ l.length) : ∀ {o' : List UInt8} {n : Nat} {A : List (List UInt8)}, o = wire A → A.all okLab = true → o.length ≤ 254 → nm l E K p b next o = .ok (o', n) → isN o' = true := by
  fun_induction nm l E K p b next o with
  | case1 => intro o' n A e hA ho h; cases h
  | case2 E K p b next o o1 q hr h0 =>
    intro o' n A e hA ho h
    injection h with h
    injection h with h1 h2
    subst h1
    obtain ⟨A', a1, a2⟩ := run_wire hE e hA hr
    exact name_of a1 a2 ((run_ok hr).2.2.2 ho)
  | case3 E K p b next o o1 q hr h0 h1 h2 ih =>
    intro o' n A e hA ho h
    obtain ⟨A', a1, a2⟩ := run_wire hE e hA hr
    exact ih (Nat.le_refl _) a2 a1 ((run_ok hr).2.2.2 ho) h
  | case4 => intro o' n A e hA ho h; cases h
  | case5 => intro o' n A e hA ho h; cases h
theorem nm_name {l : List UInt8} {E K p b n : Nat} {o : List UInt8} (hE : E ≤ l.length) (h : nm l E K p b none [] = .ok (o, n)) : isN o = true :=
  nm_isN hE (A := []) rfl rfl (Nat.zero_le _) h
theorem bare_name {l : List UInt8} {E K p n : Nat} {o : List UInt8} (hE : E ≤ l.length) (h : bare l E K p [] = .ok (o, n)) : isN o = true := by
  unfold bare at h
  split at h
  · cases h
  · next o1 q hr =>
    split at h
    · injection h with h
      injection h with h1 h2
      subst h1
      obtain ⟨A', a1, a2⟩ := run_wire hE (A := []) rfl rfl hr
      exact name_of a1 a2 ((run_ok hr).2.2.2 (Nat.zero_le _))
    · cases h
theorem nameE_name {l : List UInt8} {E kind p n : Nat} {o : List UInt8} (hE : E ≤ l.length) (h : nameE l E kind p = .ok (o, n)) : isN o = true := by
  unfold nameE at h
  split at h
  · cases h
  · split at h
    · exact bare_name hE h
    · exact nm_name hE h
theorem qn_name {l : List UInt8} {p q : Nat} {Q : Qn} (h : qn l p = .ok (Q, q)) : isN Q.name = true := by
  unfold qn at h
  split at h
  · cases h
  · next o q0 hn =>
    split at h
    · injection h with h
      injection h with h1 h2
      subst h1
      exact nm_name (Nat.le_refl _) hn
    · cases h
theorem many_all {α : Type} {f : Nat → Except Nat (α × Nat)} {P : α → Prop} (hf : ∀ p x q, f p = .ok (x, q) → P x) : ∀ {n p q : Nat} {L : List α}, many f n p = .ok (L, q) → ∀ x ∈ L, P x := by
  intro n
  induction n with
  | zero => intro p q L h; injection h with h; injection h with h _; subst h; intro x hx; cases hx
  | succ n ih =>
    intro p q L h
    rw [many] at h
    split at h
    · cases h
    · next x r hx =>
      split at h
      · cases h
      · next xs s hxs =>
        injection h with h
        injection h with h _
        subst h
        intro y hy
        rcases List.mem_cons.1 hy with rfl | hy
        · exact hf _ _ _ hx
        · exact ih hxs y hy
theorem numE_two {l : List UInt8} {E p q x : Nat} (h : numE l E 2 p = .ok (x, q)) : x < 65536 := by
  unfold numE at h
  split at h
  · injection h with h; injection h with h _; subst h; exact nu2_lt _ _
  · cases h
theorem bulk_app (k : Nat) (A B : List (List UInt8)) : bulk k (A ++ B) = bulk k A + bulk k B := by
  induction A with
  | nil => simp [bulk]
  | cons x A ih => rw [List.cons_append, bulk, bulk, ih]; omega
theorem txtE_right {l : List UInt8} {E p q : Nat} {out L : List (List UInt8)} (hE : E ≤ l.length) (hp : p ≤ E) (h : txtE l E out p = .ok (L, q)) (ho : ∀ x ∈ out, x.length ≤ 255) : (∀ x ∈ L, x.length ≤ 255) ∧ bulk 16 L = bulk 16 out + (E - p) ∧ out.length ≤ L.length := by
  revert hp h ho
  fun_induction txtE l E out p with
  | case1 out p h h2 ih =>
    intro hp hr ho
    have hl : (cut l (p + 1) (bt l p)).length = bt l p := cut_len (by omega)
    have hb := bt_lt l p
    obtain ⟨i1, i2, i3⟩ := ih (by omega) hr (fun x hx => by
      rcases List.mem_append.1 hx with hx | hx
      · exact ho x hx
      · rw [List.mem_singleton] at hx; subst hx; omega)
    refine ⟨i1, ?_, ?_⟩
    · rw [i2, bulk_app]
      simp only [bulk, if_true, hl]
      omega
    · rw [List.length_append] at i3; omega
  | case2 => intro hp h; cases h
  | case3 out p h1 =>
    intro hp h ho
    injection h with h
    injection h with h _
    subst h
    exact ⟨ho, by omega, Nat.le_refl _⟩
theorem textsE_right {l : List UInt8} {E kind p q : Nat} {L : List (List UInt8)} (hE : E ≤ l.length) (hp : p ≤ E) (hn : E - p ≤ 65535) (h : textsE l E kind p = .ok (L, q)) : L.any (badText kind) = false ∧ bulk kind L ≤ 65535 ∧ (kind = 16 → 0 < L.length) ∧ (kind ≠ 16 → L.length = 1) := by
  have part : ∀ n, n ≤ 16 → partE l E n p = .ok (L, q) → L = [cut l p n] ∧ (cut l p n).length = n := by
    intro n _ h
    unfold partE at h
    split at h
    · injection h with h; injection h with h _; exact ⟨h.symm, cut_len (by omega)⟩
    · cases h
  unfold textsE at h
  split at h
  · next hk =>
    obtain ⟨rfl, hl⟩ := part 4 (by decide) h
    subst hk
    refine ⟨?_, ?_, fun h => by omega, fun _ => rfl⟩
    · simp [badText, hl]
    · simp [bulk, hl]
  · next hk1 =>
    split at h
    · next hk =>
      obtain ⟨rfl, hl⟩ := part 16 (by decide) h
      subst hk
      refine ⟨?_, ?_, fun h => by omega, fun _ => rfl⟩
      · simp [badText, hl]
      · simp [bulk, hl]
    · next hk28 =>
      split at h
      · next hk =>
        subst hk
        split at h
        · next hlt =>
          obtain ⟨r1, r2, r3⟩ := txtE_right hE hp h (fun x hx => by cases hx)
          refine ⟨?_, ?_, fun _ => ?_, fun h => absurd rfl h⟩
          · rw [List.any_eq_false]
            intro x hx
            have := r1 x hx
            simp [badText]
            omega
          · rw [r2]; simp [bulk]; omega
          · rcases L with _ | ⟨x, L⟩
            · simp [bulk] at r2; omega
            · simp
        · cases h
      · next hk16 =>
        injection h with h
        injection h with h _
        subst h
        refine ⟨?_, ?_, fun h => absurd h hk16, fun _ => rfl⟩
        · simp [badText, hk16, hk1, hk28]
        · simp only [bulk, if_neg hk16]
          have : (cut l p (E - p)).length ≤ E - p := by unfold cut; rw [List.length_take]; omega
          omega
/-- What a body is like that was read. -/
structure Right (kind : Nat) (D : Body) : Prop where
  names : D.names.any badName = false
  nums : D.nums.any (badNum kind) = false
  texts : D.texts.any (badText kind) = false
  bulk : bulk kind D.texts ≤ 65535
  a : D.names.length = shA kind
  b : D.nums.length = shB kind
  c : (kind = 16 ∧ 0 < D.texts.length) ∨ (kind ≠ 16 ∧ D.texts.length = shC kind)
theorem endE_right {l : List UInt8} {E kind p : Nat} {nms : List (List UInt8)} {ns : List Nat} {D : Body} (hE : E ≤ l.length) (hp : p ≤ E) (hn : E - p ≤ 65535) (h : endE l E kind nms ns p = .ok D) : D.names = nms ∧ D.nums = ns ∧ D.texts.any (badText kind) = false ∧ RecMath.bulk kind D.texts ≤ 65535 ∧ ((kind = 16 ∧ 0 < D.texts.length) ∨ (kind ≠ 16 ∧ D.texts.length = shC kind)) := by
  unfold endE at h
  split at h
  · next hc =>
    split at h
    · cases h
    · next L q ht =>
      split at h
      · cases h
      · injection h with h
        subst h
        obtain ⟨r1, r2, r3, r4⟩ := textsE_right hE hp hn ht
        refine ⟨rfl, rfl, r1, r2, ?_⟩
        have h1 : shC kind = 1 := by
          have : shC kind ≤ 1 := by unfold shC; repeat' split
                                    all_goals omega
          omega
        by_cases hk : kind = 16
        · exact .inl ⟨hk, r3 hk⟩
        · exact .inr ⟨hk, by rw [r4 hk, h1]⟩
  · next hc =>
    split at h
    · cases h
    · injection h with h
      subst h
      refine ⟨rfl, rfl, rfl, Nat.zero_le _, ?_⟩
      by_cases hk : kind = 16
      · subst hk; exact absurd (by decide) hc
      · exact .inr ⟨hk, by show 0 = _; omega⟩
theorem names_right {l : List UInt8} {E kind n p q : Nat} {nms : List (List UInt8)} (hE : E ≤ l.length) (h : many (nameE l E kind) n p = .ok (nms, q)) : nms.any badName = false := by
  rw [List.any_eq_false]
  intro x hx
  have := many_all (P := fun x => isN x = true) (fun _ _ _ h => nameE_name hE h) h x hx
  unfold badName
  rw [this]
  simp
theorem bodyE_right {l : List UInt8} {E kind p : Nat} {D : Body} (hE : E ≤ l.length) (hp : p ≤ E) (hn : E - p ≤ 65535) (h : bodyE l E kind p = .ok D) : Right kind D := by
  unfold bodyE at h
  split at h
  · next hk =>
    split at h
    · cases h
    · next nms q h1 =>
      have hq : p ≤ q ∧ q ≤ E := ⟨many_ge (fun _ _ _ h => nameE_up h) h1, many_le (fun _ _ _ _ h => nameE_end h) hp h1⟩
      split at h
      · cases h
      · next ns r h2 =>
        have hr : q ≤ r ∧ r ≤ E := ⟨many_ge (fun _ _ _ h => numE_up h) h2, many_le (fun _ _ _ _ h => numE_end h) hq.2 h2⟩
        subst hk
        obtain ⟨e1, e2, e3, e4, e5⟩ := endE_right hE hr.2 (by omega) h
        refine ⟨by rw [e1]; exact names_right hE h1, ?_, e3, e4, by rw [e1, many_len h1]; rfl, by rw [e2, many_len h2]; rfl, e5⟩
        rw [List.any_eq_false]
        intro x _
        simp [badNum]
  · next hk =>
    split at h
    · cases h
    · next ns q h1 =>
      have hq : p ≤ q ∧ q ≤ E := ⟨many_ge (fun _ _ _ h => numE_up h) h1, many_le (fun _ _ _ _ h => numE_end h) hp h1⟩
      split at h
      · cases h
      · next nms r h2 =>
        have hr : q ≤ r ∧ r ≤ E := ⟨many_ge (fun _ _ _ h => nameE_up h) h2, many_le (fun _ _ _ _ h => nameE_end h) hq.2 h2⟩
        obtain ⟨e1, e2, e3, e4, e5⟩ := endE_right hE hr.2 (by omega) h
        refine ⟨by rw [e1]; exact names_right hE h2, ?_, e3, e4, by rw [e1, many_len h2], by rw [e2, many_len h1], e5⟩
        rw [e2, List.any_eq_false]
        intro x hx
        have := many_all (P := fun x => x < 65536) (fun _ _ _ h => numE_two h) h1 x hx
        simp [badNum]
        omega
theorem right_check {kind cls ttl : Nat} {n : List UInt8} {D : Body} (hn : isN n = true) (h : Right kind D) : checkE ⟨n, kind, cls, ttl, D.names, D.nums, D.texts⟩ = if 2147483647 < ttl ∧ kind ≠ 41 then 1 else 0 := by
  have h1 : namesB ⟨n, kind, cls, ttl, D.names, D.nums, D.texts⟩ = true := by
    unfold namesB badName
    simp only
    rw [hn, show (D.names.any fun l => !isN l) = false from h.names]
    rfl
  have h2 : okB ⟨n, kind, cls, ttl, D.names, D.nums, D.texts⟩ = true := by
    unfold okB shapedB cntOk fitsB
    simp only
    rw [h.nums, h.texts, decide_eq_true (And.intro h.a (And.intro h.b h.c)), decide_eq_true h.bulk]
    rfl
  unfold checkE
  rw [h1, h2]
  simp only [lateB, Bool.true_eq_false, if_false, decide_eq_true_eq]
/-- A record that was read is right. -/
theorem recE_right {l : List UInt8} {p q : Nat} {R : Rec} (h : recE l p = .ok (R, q)) : checkE R = 0 := by
  unfold recE at h
  split at h
  · cases h
  · next n q0 hn =>
    have hN := nm_name (Nat.le_refl _) hn
    unfold headE at h
    split at h
    · split at h
      · next h1 h2 =>
        unfold lateE at h
        split at h
        · cases h
        · next D hD =>
          split at h
          · cases h
          · next hl =>
            injection h with h
            injection h with h _
            subst h
            have hnn := nu2_lt l (q0 + 8)
            rw [right_check hN (bodyE_right h2 (by omega) (by omega) hD), if_neg hl]
      · cases h
    · cases h
/-- A message that was read: its bytes, its names, its records. -/
theorem msg_whole {l : List UInt8} {M : Msg} (h : msg (recE l) l = .ok M) : 12 ≤ l.length ∧ M.qs.length + (M.an.length + M.ns.length + M.ad.length) ≤ 256 ∧ (∀ Q ∈ M.qs, isN Q.name = true) ∧ ∀ R ∈ M.an ++ M.ns ++ M.ad, ∃ p q, recE l p = .ok (R, q) := by
  have hrec : ∀ {n p q : Nat} {L : List Rec}, many (recE l) n p = .ok (L, q) → ∀ R ∈ L, ∃ p q, recE l p = .ok (R, q) := fun h => many_all (fun p x q h => ⟨p, q, h⟩) h
  unfold msg at h
  split at h
  · cases h
  · next h1 =>
    split at h
    · cases h
    · next h2 =>
      unfold msg1 at h
      split at h
      · cases h
      · next qs q hq =>
        unfold msg2 at h
        split at h
        · cases h
        · next an q2 ha =>
          unfold msg3 at h
          split at h
          · cases h
          · next ns q3 hn =>
            unfold msg4 at h
            split at h
            · cases h
            · next ad q4 hx =>
              split at h
              · cases h
              · injection h with h
                subst h
                refine ⟨by omega, ?_, many_all (fun _ _ _ h => qn_name h) hq, fun R hR => ?_⟩
                · show qs.length + (an.length + ns.length + ad.length) ≤ 256
                  rw [many_len hq, many_len ha, many_len hn, many_len hx]; omega
                · rcases List.mem_append.1 hR with hR | hR
                  · rcases List.mem_append.1 hR with hR | hR
                    · exact hrec ha R hR
                    · exact hrec hn R hR
                  · exact hrec hx R hR
end Go.Proofs.Ytihkmdojakalbaa.DatMath

/- Nothing that stood has changed: under a name. No condition. -/
namespace Go.Proofs.Ytihkmdojakalbaa
open Go Go.RowKit

/-- Nothing that stood in world w has changed. -/
def Held (w w' : World) : Prop := Below w.heap.size w w'
end Go.Proofs.Ytihkmdojakalbaa

/- A record as a call has it: its fields, and its lists in memory. No condition. -/
namespace Go.Proofs.Ytihkmdojakalbaa
open Go.RowKit Bytes Strs Nums RecMath

/-- These fields are the record's; its lists lie below block B. -/
structure RecAt (w : World) (B : Nat) (R : Rec) (x : ByteArray) (k l t : Nat) (A1 : Option Addr) (n1 : Nat) (A2 : Option Addr) (n2 : Nat) (A3 : Option Addr) (n3 : Nat) : Prop where
  name : x.data.toList = R.name
  kind : R.kind = k
  cls : R.cls = l
  ttl : R.ttl = t
  len1 : R.names.length = n1
  len2 : R.nums.length = n2
  len3 : R.texts.length = n3
  rd1 : RdS w B A1 R.names
  rd2 : RdN w B A2 R.nums
  rd3 : RdS w B A3 R.texts
theorem RecAt.on {w w' : World} {B B' : Nat} {R : Rec} {x : ByteArray} {k l t : Nat} {A1 : Option Addr} {n1 : Nat} {A2 : Option Addr} {n2 : Nat} {A3 : Option Addr} {n3 : Nat} (h : RecAt w B R x k l t A1 n1 A2 n2 A3 n3) (hb : Below B w w') (hB : B ≤ B') : RecAt w' B' R x k l t A1 n1 A2 n2 A3 n3 :=
  ⟨h.name, h.kind, h.cls, h.ttl, h.len1, h.len2, h.len3, h.rd1.on hb hB, h.rd2.on hb hB, h.rd3.on hb hB⟩
/-- A record that can be gone through. -/
structure Small (R : Rec) : Prop where
  name : R.name.length ≤ 100000
  n1 : R.names.length ≤ 100000
  s1 : ∀ k, k < R.names.length → (R.names.getD k []).length ≤ 100000
  n2 : R.nums.length ≤ 100000
  u2 : ∀ k, k < R.nums.length → R.nums.getD k 0 ≤ 4294967295
  n3 : R.texts.length ≤ 100000
  s3 : ∀ k, k < R.texts.length → (R.texts.getD k []).length ≤ 100000
section
variable {w : World} {B : Nat} {R : Rec} {x : ByteArray} {k l t : Nat} {A1 : Option Addr} {n1 : Nat} {A2 : Option Addr} {n2 : Nat} {A3 : Option Addr} {n3 : Nat}
theorem RecAt.size (h : RecAt w B R x k l t A1 n1 A2 n2 A3 n3) (hS : Small R) : x.size ≤ 100000 := by rw [Lib.size_eq, h.name]; exact hS.name
theorem RecAt.m1 (h : RecAt w B R x k l t A1 n1 A2 n2 A3 n3) (hS : Small R) : n1 ≤ 100000 := by rw [← h.len1]; exact hS.n1
theorem RecAt.m2 (h : RecAt w B R x k l t A1 n1 A2 n2 A3 n3) (hS : Small R) : n2 ≤ 100000 := by rw [← h.len2]; exact hS.n2
theorem RecAt.m3 (h : RecAt w B R x k l t A1 n1 A2 n2 A3 n3) (hS : Small R) : n3 ≤ 100000 := by rw [← h.len3]; exact hS.n3
theorem RecAt.s1 (h : RecAt w B R x k l t A1 n1 A2 n2 A3 n3) (hS : Small R) : Hid (∀ k, k < n1 → (R.names.getD k []).length ≤ 1000000) := fun k hk => Nat.le_trans (hS.s1 k (by rw [h.len1]; exact hk)) (by decide)
theorem RecAt.s3 (h : RecAt w B R x k l t A1 n1 A2 n2 A3 n3) (hS : Small R) : Hid (∀ k, k < n3 → (R.texts.getD k []).length ≤ 1000000) := fun k hk => Nat.le_trans (hS.s3 k (by rw [h.len3]; exact hk)) (by decide)
theorem RecAt.box (h : RecAt w w.heap.size R x k l t A1 n1 A2 n2 A3 n3) (o : Obj) : RecAt (w.alloc o) (w.alloc o).heap.size R x k l t A1 n1 A2 n2 A3 n3 := h.on ((Below.refl _ _).alloc (Nat.le_refl _) o) (by simp)
end
end Go.Proofs.Ytihkmdojakalbaa

/- What was read can be gone through, and is right. No condition. -/
namespace Go.Proofs.Ytihkmdojakalbaa
open Go Bytes NameMath NmMath RecMath MsgMath StMath DatMath

theorem endE_nums {l : List UInt8} {E kind p : Nat} {nms : List (List UInt8)} {ns : List Nat} {D : Body} (h : endE l E kind nms ns p = .ok D) : D.nums = ns := by
  unfold endE at h
  split at h
  · split at h
    · cases h
    · split at h
      · cases h
      · injection h with h; subst h; rfl
  · split at h
    · cases h
    · injection h with h; subst h; rfl
theorem numE_four {l : List UInt8} {E p q x : Nat} (h : numE l E 4 p = .ok (x, q)) : x < 4294967296 := by
  unfold numE at h
  split at h
  · injection h with h; injection h with h _; subst h; exact nu4_lt _ _
  · cases h
theorem bodyE_nums {l : List UInt8} {E kind p : Nat} {D : Body} (h : bodyE l E kind p = .ok D) : ∀ x ∈ D.nums, x < 4294967296 := by
  unfold bodyE at h
  split at h
  · split at h
    · cases h
    · split at h
      · cases h
      · next h2 => rw [endE_nums h]; exact many_all (fun _ _ _ h => numE_four h) h2
  · split at h
    · cases h
    · next h1 =>
      split at h
      · cases h
      · rw [endE_nums h]; exact fun x hx => Nat.lt_of_lt_of_le (many_all (P := fun x => x < 65536) (fun _ _ _ h => numE_two h) h1 x hx) (by decide)
theorem recE_nums {l : List UInt8} {p q : Nat} {R : Rec} (h : recE l p = .ok (R, q)) : (∀ x ∈ R.nums, x < 4294967296) ∧ R.kind < 65536 ∧ R.cls < 65536 ∧ R.ttl < 4294967296 := by
  unfold recE at h
  split at h
  · cases h
  · unfold headE at h
    split at h
    · split at h
      · unfold lateE at h
        split at h
        · cases h
        · next D hD =>
          split at h
          · cases h
          · injection h with h
            injection h with h _
            subst h
            exact ⟨bodyE_nums hD, nu2_lt _ _, nu2_lt _ _, nu4_lt _ _⟩
      · cases h
    · cases h
theorem mem_getD {α : Type} {L : List α} {k : Nat} {d : α} (h : k < L.length) : L.getD k d ∈ L := by
  rw [List.getD_eq_getElem?_getD, List.getElem?_eq_getElem h]
  exact List.getElem_mem h
theorem bulk_count {L : List (List UInt8)} : L.length ≤ bulk 16 L := by
  induction L with
  | nil => exact Nat.zero_le _
  | cons x L ih => simp only [List.length_cons, bulk, if_true]; omega
theorem bulk_mem {k : Nat} {L : List (List UInt8)} {x : List UInt8} (h : x ∈ L) : x.length ≤ bulk k L := by
  induction L with
  | nil => cases h
  | cons y L ih =>
    rw [bulk]
    rcases List.mem_cons.1 h with rfl | h
    · omega
    · have := ih h; omega
theorem small_of {R : Rec} (hc : checkE R = 0) (hn : ∀ x ∈ R.nums, x < 4294967296) : Small R := by
  obtain ⟨h1, h2, _⟩ := check_ok hc
  obtain ⟨h3, _, _, h6⟩ := okB_cnt h2
  obtain ⟨c1, c2, c3⟩ := cnt_of h3
  have ha := shA_le R.kind
  have hb := shB_le R.kind
  unfold namesB at h1
  rw [Bool.and_eq_true] at h1
  have isn : ∀ l : List UInt8, badName l = false → l.length ≤ 100000 := fun l h => by
    obtain ⟨L, hL⟩ := isN_some (s := l) (by unfold badName at h; simpa using h)
    have := (labels_some hL).2.2
    omega
  have hnm : R.names.any badName = false := by simpa using h1.2
  refine ⟨isn _ (by simpa using h1.1), by omega, fun k hk => isn _ ?_, by omega, fun k hk => by have := hn _ (mem_getD (d := 0) hk); omega, ?_, fun k hk => by have := bulk_mem (k := R.kind) (mem_getD (d := []) hk); omega⟩
  · rw [List.any_eq_false] at hnm
    exact Bool.eq_false_iff.2 (hnm _ (mem_getD hk))
  · rcases c3 with ⟨hk, _⟩ | ⟨_, hl⟩
    · rw [hk] at h6
      have := bulk_count (L := R.texts)
      omega
    · have : shC R.kind ≤ 1 := by unfold shC; repeat' split
                                  all_goals omega
      omega
/-- A message that was read. -/
theorem msg_right {l : List UInt8} {M : Msg} (h : rd (recE l) l = .ok M) : l.length ≤ 65535 ∧ 12 ≤ l.length ∧ M.qs.length + (M.an.length + M.ns.length + M.ad.length) ≤ 256 ∧ (∀ Q ∈ M.qs, isN Q.name = true) ∧ ∀ R ∈ M.an ++ M.ns ++ M.ad, checkE R = 0 ∧ Small R := by
  unfold rd at h
  split at h
  · cases h
  · next hl =>
    obtain ⟨h1, h2, h3, h4⟩ := msg_whole h
    exact ⟨by omega, h1, h2, h3, fun R hR => by obtain ⟨p, q, hr⟩ := h4 R hR; exact ⟨recE_right hr, small_of (recE_right hr) (recE_nums hr).1⟩⟩
end Go.Proofs.Ytihkmdojakalbaa
