/- The contract of a message's reader: the next record. For texts of at most 10^6 bytes. -/
import Derived.Test.YtngbifdenbfepaaProg
import Derived.Test.YtngbifdenbfepaaBytes
import Derived.Test.YtngbifdenbfepaaStrs
import Derived.Test.YtngbifdenbfepaaNums
import Derived.Test.YtngbifdenbfepaaNmMath
import Derived.Test.YtngbifdenbfepaaNmAt
import Derived.Test.YtngbifdenbfepaaMsgMath
import Derived.Test.YtngbifdenbfepaaRecMath
import Derived.Test.YtngbifdenbfepaaDatMath
import Derived.Test.YtngbifdenbfepaaDatMore
import Derived.Test.YtngbifdenbfepaaKept
import Derived.Test.YtngbifdenbfepaaOwnRow
import Derived.Test.YtngbifdenbfepaaRecRow
import Derived.Test.YtngbifdenbfepaaRdr
import Derived.Test.YtngbifdenbfepaaRdrText
import Derived.Test.YtngbifdenbfepaaRdrName
import Derived.Test.YtngbifdenbfepaaRdrRecs
import Derived.Test.YtngbifdenbfepaaRdrData
import Derived.Test.YtngbifdenbfepaaRdrFill
import Derived.Test.YtngbifdenbfepaaRdrFillV
import Derived.Test.YtngbifdenbfepaaRdrFillS
import Derived.WalkKit
import Derived.Lib.Hide
import Derived.Laws.Rows
import Derived.Outline
import Derived.IntWalk
import Derived.WalkSpells
import Derived.WalkLawsBesides
namespace Go.Proofs.Ytngbifdenbfepaa
open Go.RowKit NumMath NmMath Bytes Strs Nums MsgMath RecMath DatMath

theorem fill_any (a s x : ByteArray) (r b g kind l t p : Nat) (D : Except Nat Body) (w : World) (h : RdrAt w r a s (p : Int) 50) (hb : w.heap[b]? = some (.cells (recC x kind l t (.slice none 0 0) (.slice none 0 0) (.slice none 0 0)) 47 (0, 0))) (hgr : g ≤ r) (hgb : g ≤ b) (hrb : r ≠ b)
    (hsa : Hid (s.data.toList = a.data.toList.take s.size)) (ha : a.size ≤ 1000000) (hsz : s.size ≤ a.size) (hp : p ≤ s.size) (hD : Hid (bodyE a.data.toList s.size kind p = D)) :
    Calls Try.prog 45 #[.pointer (some ⟨r, 0, none⟩), .pointer (some ⟨b, 0, none⟩)] w (FillEnd w g b x kind l t D) := by
  by_cases h6 : kind = 6
  · exact fill_soa a s x r b g kind l t p D w h hb hgr hgb hrb hsa ha hsz hp h6 (by omega) hD
  · by_cases h33 : kind = 33
    · exact fill_srv a s x r b g kind l t p D w h hb hgr hgb hrb hsa ha hsz hp h6 h33 hD
    · exact fill_other a s x r b g kind l t p D w h hb hgr hgb hrb hsa ha hsz hp h6 h33 hD

/-- A store of a record into a block. -/
theorem setRec_by (w : World) (b : Nat) (c0 c1 c2 c3 c4 c5 c6 : Value) : w.grownBy (((((((w.setCell ⟨b, 0, none⟩ c0).setCell ⟨b, 1, none⟩ c1).setCell ⟨b, 2, none⟩ c2).setCell ⟨b, 3, none⟩ c3).setCell ⟨b, 4, none⟩ c4).setCell ⟨b, 5, none⟩ c5).setCell ⟨b, 6, none⟩ c6) (some b) := by
  have h0 := only_setCell (grown_refl w (some b)) (p := ⟨b, 0, none⟩) (.inl rfl) c0
  have h1 := only_setCell h0 (p := ⟨b, 1, none⟩) (.inl rfl) c1
  have h2 := only_setCell h1 (p := ⟨b, 2, none⟩) (.inl rfl) c2
  have h3 := only_setCell h2 (p := ⟨b, 3, none⟩) (.inl rfl) c3
  have h4 := only_setCell h3 (p := ⟨b, 4, none⟩) (.inl rfl) c4
  have h5 := only_setCell h4 (p := ⟨b, 5, none⟩) (.inl rfl) c5
  exact only_setCell h5 (p := ⟨b, 6, none⟩) (.inl rfl) c6
/-- The state within a record's reading: the result's block, the reader. -/
structure RcSt (w wr : World) (r B : Nat) (s : ByteArray) (p : Nat) : Prop where
  eB : w.heap.size = B
  rB : r < B
  lt : B < wr.heap.size
  rd : RdrAt wr r s s (p : Int) 2
  b0 : wr.heap[B]? = some (.cells #[.string ⟨#[]⟩, .int .u16 0, .int .u16 0, .int .u32 0, .slice none 0 0, .slice none 0 0, .slice none 0 0] 47 (0, 0))
  kept : Kept B r w wr
section
variable {w wr w' : World} {r B p q : Nat} {s : ByteArray}
theorem RcSt.call (h : RcSt w wr r B s p) (hd : RdrAt w' r s s (q : Int) 2) (hg : wr.grownBy w' (some r)) : RcSt w w' r B s q :=
  ⟨h.eB, h.rB, Nat.lt_of_lt_of_le h.lt hg.size, hd, (grown_block hg h.lt (by have := h.rB; omega)).trans h.b0, h.kept.grown hg (by have := h.lt; omega)⟩
theorem RcSt.gaveUp (h : RcSt w wr r B s p) (hg : wr.grownBy w' (some r)) : w.grownBy w' (some r) := kept_grown (h.kept.grown hg (by have := h.lt; omega)) h.eB
theorem RcSt.alloc (h : RcSt w wr r B s p) (o : Obj) : RcSt w (wr.alloc o) r B s p :=
  ⟨h.eB, h.rB, by have := h.lt; simp; omega, h.rd.held ((Below.refl _ _).alloc (Nat.le_refl _) _), old_at h.b0, h.kept.alloc (by have := h.lt; omega) o⟩
theorem RcSt.below {g : Nat} (h : RcSt w wr r B s p) (hb : Below g wr w') (hg : B < g) : RcSt w w' r B s p :=
  ⟨h.eB, h.rB, Nat.lt_of_lt_of_le h.lt hb.size, h.rd.below hb (by have := h.rB; omega), (hb.block B hg).trans h.b0, h.kept.below (hb.mono (by omega))⟩
end
theorem rcSt_start (w : World) (r B : Nat) (s : ByteArray) (p : Nat) (hB : w.heap.size = B) (h : RdrAt w r s s (p : Int) 2) : RcSt w (w.alloc (.cells #[.string ⟨#[]⟩, .int .u16 0, .int .u16 0, .int .u32 0, .slice none 0 0, .slice none 0 0, .slice none 0 0] 47)) r B s p := by
  have hl := h.lt
  refine ⟨hB, by omega, by simp; omega, h.held ((Below.refl _ _).alloc (Nat.le_refl _) _), by rw [← hB]; exact heap_alloc_new w _, (Kept.refl _ _ _).alloc (by omega) _⟩
theorem nu_whole {s : ByteArray} {p n : Nat} : be ((s.data.toList.drop p).take n) = nu s.data.toList p n := rfl

set_option maxHeartbeats 4000000 in
set_option maxRecDepth 100000 in
theorem record_any (s : ByteArray) (r p : Nat) (R : Except Nat (Rec × Nat)) (w : World) (h : RdrAt w r s s (p : Int) 2) (hs : s.size ≤ 1000000) (hp : p ≤ 9223372036854775807) (hR : Hid (recE s.data.toList p = R)) :
    Calls Try.prog 36 #[.pointer (some ⟨r, 0, none⟩)] w (RecEnd w r s R) := by
  have SZ := Lib.hid (Lib.size_eq s)
  obtain ⟨N, hN⟩ : ∃ N, nm s.data.toList s.data.toList.length 2 p p none [] = N := ⟨_, rfl⟩
  obtain ⟨B, hB⟩ : ∃ B, w.heap.size = B := ⟨_, rfl⟩
  have HS0 := Lib.hid (rcSt_start w r B s p hB h)
  have HN := Lib.hid (pointed_any s s r 2 p N _ HS0.out.rd (nmAt_list rfl) hs hs hp (by (show _ = _; rw [SZ.out]; exact hN)))
  clear h
  cases N with
  | error x =>
    have hRe : Hid (R = .error x) := by show _ = _; rw [← hR.out]; exact recE_err hN
    clear hN hR
    go_enter Try.func36, Try.ntmps36
    go_wp2_with fail
    refine HN.out.mono ?_
    rintro e w1 ⟨rfl, hG⟩
    have HE := Lib.hid (HS0.out.gaveUp hG)
    clear hG
    go_wp2_with fail
    rw [hRe.out]
    exact ⟨rfl, rfl, HE.out⟩
  | ok oq =>
    obtain ⟨o, q⟩ := oq
    have hq0 := nm_next (Nat.le_refl _) (fun x e => by cases e) hN
    rw [← SZ.out] at hq0
    have hH : Hid (headE s.data.toList o q = R) := by show _ = _; rw [← hR.out]; exact (recE_ok hN).symm
    clear hN hR
    by_cases h10 : q + 10 ≤ s.size
    · have h10l : q + 10 ≤ s.data.toList.length := by rw [← SZ.out]; exact h10
      obtain ⟨k, hk⟩ : ∃ x, nu s.data.toList q 2 = x := ⟨_, rfl⟩
      have hkl : k < 65536 := by rw [← hk]; exact nu2_lt _ _
      have Hk := Lib.hid (fun w' (hd : RdrAt w' r s s ((q : Nat) : Int) 2) => number_yes s s r q 2 2 k w' hd (by decide) (by decide) (by omega) hs hk)
      have Ek := Lib.hid hk
      clear hk
      obtain ⟨c, hc⟩ : ∃ x, nu s.data.toList (q + 2) 2 = x := ⟨_, rfl⟩
      have hcl : c < 65536 := by rw [← hc]; exact nu2_lt _ _
      have Hc := Lib.hid (fun w' (hd : RdrAt w' r s s ((q + 2 : Nat) : Int) 2) => number_yes s s r (q + 2) 2 2 c w' hd (by decide) (by decide) (by omega) hs hc)
      have Ec := Lib.hid hc
      clear hc
      obtain ⟨t, ht⟩ : ∃ x, nu s.data.toList (q + 4) 4 = x := ⟨_, rfl⟩
      have htl : t < 4294967296 := by rw [← ht]; exact nu4_lt _ _
      have Ht := Lib.hid (fun w' (hd : RdrAt w' r s s ((q + 4 : Nat) : Int) 2) => number_yes s s r (q + 4) 4 2 t w' hd (by decide) (by decide) (by omega) hs ht)
      have Et := Lib.hid ht
      clear ht
      obtain ⟨n, hn⟩ : ∃ x, nu s.data.toList (q + 8) 2 = x := ⟨_, rfl⟩
      have hnl : n < 65536 := by rw [← hn]; exact nu2_lt _ _
      have Hn := Lib.hid (fun w' (hd : RdrAt w' r s s ((q + 8 : Nat) : Int) 2) => number_yes s s r (q + 8) 2 2 n w' hd (by decide) (by decide) (by omega) hs hn)
      have En := Lib.hid hn
      clear hn
      by_cases hin : q + 10 + n ≤ s.size
      · obtain ⟨tt, htt⟩ : ∃ tt, s.extract 0 (q + 10 + n) = tt := ⟨_, rfl⟩
        have hts : tt.size = q + 10 + n := by rw [← htt, ByteArray.size_extract]; omega
        have htl : Hid (tt.data.toList = s.data.toList.take tt.size) := by show _ = _; rw [hts, ← htt, extract_list]; rfl
        have HD := Lib.hid (fun w' (hd : RdrAt w' r s s ((q + 10 : Nat) : Int) 2) => data_yes s tt r (q + 10) n w' hd hin hs htt)
        obtain ⟨D, hD⟩ : ∃ D, bodyE s.data.toList (q + 10 + n) k (q + 10) = D := ⟨_, rfl⟩
        have HDD : Hid (bodyE s.data.toList tt.size k (q + 10) = D) := by (show _ = _; rw [hts]; exact hD)
        have hRv : Hid (lateE o k c t (q + 10 + n) D = R) := by
          show _ = _
          rw [← hH.out, headE_ok h10l (by rw [En.out, ← SZ.out]; exact hin), En.out, Ek.out, Ec.out, Et.out, hD]
        have HTS := Lib.hid hts
        clear htt hD hH hts
        cases D with
        | error z =>
          have hRe : Hid (R = .error z) := by show _ = _; rw [← hRv.out]; rfl
          clear hRv
          go_enter Try.func36, Try.ntmps36
          go_wp2_with fail
          refine HN.out.mono ?_
          rintro e w1 ⟨rfl, hD1, hG1⟩
          have HS1 := Lib.hid (HS0.out.call hD1 hG1)
          clear hD1 hG1 HN
          go_wp2_with fail
          refine (Hk.out _ HS1.out.rd).mono ?_
          rintro e w2 ⟨rfl, hD, hG⟩
          have HS2 := Lib.hid (HS1.out.call hD hG)
          clear hD hG Hk
          go_wp2_with fail
          refine (Hc.out _ HS2.out.rd).mono ?_
          rintro e w3 ⟨rfl, hD, hG⟩
          have HS3 := Lib.hid (HS2.out.call hD hG)
          clear hD hG Hc
          go_wp2_with fail
          refine (Ht.out _ HS3.out.rd).mono ?_
          rintro e w4 ⟨rfl, hD, hG⟩
          have HS4 := Lib.hid (HS3.out.call hD hG)
          clear hD hG Ht
          obtain ⟨B1, hB1⟩ : ∃ B, w4.heap.size = B := ⟨_, rfl⟩
          have hBB : B < B1 := by have := HS4.out.lt; omega
          have hone : (w4.alloc (.cells (recC (mk o) k c t (.slice none 0 0) (.slice none 0 0) (.slice none 0 0)) 47)).heap[B1]? = some (.cells (recC (mk o) k c t (.slice none 0 0) (.slice none 0 0) (.slice none 0 0)) 47 (0, 0)) := by rw [← hB1]; exact heap_alloc_new w4 _
          have honel : B1 < (w4.alloc (.cells (recC (mk o) k c t (.slice none 0 0) (.slice none 0 0) (.slice none 0 0)) 47)).heap.size := by rw [← hB1]; simp
          have HS4a := Lib.hid (HS4.out.alloc (.cells (recC (mk o) k c t (.slice none 0 0) (.slice none 0 0) (.slice none 0 0)) 47))
          have HONE := Lib.hid hone
          have HONEL := Lib.hid honel
          clear hone honel
          go_wp2_with fail
          clear hB1
          generalize w4.alloc (.cells (recC (mk o) k c t (.slice none 0 0) (.slice none 0 0) (.slice none 0 0)) 47) = w4a at HS4a HONE HONEL ⊢
          have HS4 := HS4a
          clear HS4a
          refine (Hn.out _ HS4.out.rd).mono ?_
          rintro e w5 ⟨rfl, hD, hG⟩
          have HS5 := Lib.hid (HS4.out.call hD hG)
          have HB5 : Hid (w5.heap[B1]? = some (.cells (recC (mk o) k c t (.slice none 0 0) (.slice none 0 0) (.slice none 0 0)) 47 (0, 0))) := (grown_block hG HONEL.out (by have := HS4.out.rB; omega)).trans HONE.out
          have HB5L : Hid (B1 < w5.heap.size) := Nat.lt_of_lt_of_le HONEL.out hG.size
          clear hD hG Hn
          go_wp2_with fail
          refine (HD.out _ HS5.out.rd).mono ?_
          rintro e w6 ⟨qs, rfl, hqs, hDs, hDr, hG6⟩
          have HS6 := Lib.hid (HS5.out.call hDr hG6)
          have hB6 : w6.heap[B1]? = some (.cells (recC (mk o) k c t (.slice none 0 0) (.slice none 0 0) (.slice none 0 0)) 47 (0, 0)) := (grown_block hG6 HB5L.out (by have := HS5.out.rB; omega)).trans HB5.out
          have HF := Lib.hid (fill_any s tt (mk o) qs B1 B1 k c t (q + 10) _ w6 hDs hB6 (by have := HB5L.out; omega) (Nat.le_refl _) (by have := HB5L.out; omega) htl hs (by rw [HTS.out]; omega) (by rw [HTS.out]; omega) HDD)
          clear hqs hDs hDr hG6 hB6 HD
          go_wp2_with fail
          refine HF.out.mono ?_
          rintro e w7 ⟨rfl, hE⟩
          have HE := Lib.hid (kept_grown (HS6.out.below hE hBB).kept HS6.out.eB)
          clear hE HF
          go_wp2_with fail
          rw [hRe.out]
          exact ⟨rfl, rfl, HE.out⟩
        | ok D =>
          by_cases hlate : 2147483647 < t ∧ k ≠ 41
          · have hRe : Hid (R = .error 1) := by show _ = _; rw [← hRv.out]; exact if_pos hlate
            obtain ⟨hl1, hl2⟩ := hlate
            have hl1i : (2147483647 : Int) < (t : Int) := by omega
            have hl2i : ((k : Int) != 41) = true := bne_iff_ne.2 (by omega)
            clear hRv hl1 hl2
            go_enter Try.func36, Try.ntmps36
            go_wp2_with fail
            refine HN.out.mono ?_
            rintro e w1 ⟨rfl, hD1, hG1⟩
            have HS1 := Lib.hid (HS0.out.call hD1 hG1)
            clear hD1 hG1 HN
            go_wp2_with fail
            refine (Hk.out _ HS1.out.rd).mono ?_
            rintro e w2 ⟨rfl, hD, hG⟩
            have HS2 := Lib.hid (HS1.out.call hD hG)
            clear hD hG Hk
            go_wp2_with fail
            refine (Hc.out _ HS2.out.rd).mono ?_
            rintro e w3 ⟨rfl, hD, hG⟩
            have HS3 := Lib.hid (HS2.out.call hD hG)
            clear hD hG Hc
            go_wp2_with fail
            refine (Ht.out _ HS3.out.rd).mono ?_
            rintro e w4 ⟨rfl, hD, hG⟩
            have HS4 := Lib.hid (HS3.out.call hD hG)
            clear hD hG Ht
            obtain ⟨B1, hB1⟩ : ∃ B, w4.heap.size = B := ⟨_, rfl⟩
            have hBB : B < B1 := by have := HS4.out.lt; omega
            have hone : (w4.alloc (.cells (recC (mk o) k c t (.slice none 0 0) (.slice none 0 0) (.slice none 0 0)) 47)).heap[B1]? = some (.cells (recC (mk o) k c t (.slice none 0 0) (.slice none 0 0) (.slice none 0 0)) 47 (0, 0)) := by rw [← hB1]; exact heap_alloc_new w4 _
            have honel : B1 < (w4.alloc (.cells (recC (mk o) k c t (.slice none 0 0) (.slice none 0 0) (.slice none 0 0)) 47)).heap.size := by rw [← hB1]; simp
            have HS4a := Lib.hid (HS4.out.alloc (.cells (recC (mk o) k c t (.slice none 0 0) (.slice none 0 0) (.slice none 0 0)) 47))
            have HONE := Lib.hid hone
            have HONEL := Lib.hid honel
            clear hone honel
            go_wp2_with fail
            clear hB1
            generalize w4.alloc (.cells (recC (mk o) k c t (.slice none 0 0) (.slice none 0 0) (.slice none 0 0)) 47) = w4a at HS4a HONE HONEL ⊢
            have HS4 := HS4a
            clear HS4a
            refine (Hn.out _ HS4.out.rd).mono ?_
            rintro e w5 ⟨rfl, hD, hG⟩
            have HS5 := Lib.hid (HS4.out.call hD hG)
            have HB5 : Hid (w5.heap[B1]? = some (.cells (recC (mk o) k c t (.slice none 0 0) (.slice none 0 0) (.slice none 0 0)) 47 (0, 0))) := (grown_block hG HONEL.out (by have := HS4.out.rB; omega)).trans HONE.out
            have HB5L : Hid (B1 < w5.heap.size) := Nat.lt_of_lt_of_le HONEL.out hG.size
            clear hD hG Hn
            go_wp2_with fail
            refine (HD.out _ HS5.out.rd).mono ?_
            rintro e w6 ⟨qs, rfl, hqs, hDs, hDr, hG6⟩
            have HS6 := Lib.hid (HS5.out.call hDr hG6)
            have hB6 : w6.heap[B1]? = some (.cells (recC (mk o) k c t (.slice none 0 0) (.slice none 0 0) (.slice none 0 0)) 47 (0, 0)) := (grown_block hG6 HB5L.out (by have := HS5.out.rB; omega)).trans HB5.out
            have HF := Lib.hid (fill_any s tt (mk o) qs B1 B1 k c t (q + 10) _ w6 hDs hB6 (by have := HB5L.out; omega) (Nat.le_refl _) (by have := HB5L.out; omega) htl hs (by rw [HTS.out]; omega) (by rw [HTS.out]; omega) HDD)
            clear hqs hDs hDr hG6 hB6 HD
            go_wp2_with fail
            refine HF.out.mono ?_
            rintro e w7 ⟨v1, v2, v3, rfl, hb7, hO1, hO2, hO3, hB7⟩
            obtain ⟨A1, m1, c1, rfl⟩ := row_slice hO1
            obtain ⟨A2, m2, c2, rfl⟩ := row_slice hO2
            obtain ⟨A3, m3, c3, rfl⟩ := row_slice hO3
            have HS7 := Lib.hid (HS6.out.below hB7 hBB)
            have g0 := cell_of_row _ _ 0 _ _ _ hb7
            have g1 := cell_of_row _ _ 1 _ _ _ hb7
            have g2 := cell_of_row _ _ 2 _ _ _ hb7
            have g3 := cell_of_row _ _ 3 _ _ _ hb7
            have g4 := cell_of_row _ _ 4 _ _ _ hb7
            have g5 := cell_of_row _ _ 5 _ _ _ hb7
            have g6 := cell_of_row _ _ 6 _ _ _ hb7
            have HO1 := Lib.hid hO1
            have HO2 := Lib.hid hO2
            have HO3 := Lib.hid hO3
            clear hb7 hO1 hO2 hO3 hB7 HF
            have HE := Lib.hid (kept_grown HS7.out.kept HS7.out.eB)
            go_wp2_with fail
            rw [hRe.out]
            exact ⟨rfl, rfl, HE.out⟩
          · have hRe : Hid (R = .ok (⟨o, k, c, t, D.names, D.nums, D.texts⟩, q + 10 + n)) := by show _ = _; rw [← hRv.out]; exact if_neg hlate
            have htest : (¬ ((2147483647 : Int) < (t : Int)) ∧ True) ∨ (((2147483647 : Int) < (t : Int)) ∧ ((k : Int) != 41) = false) := by
              by_cases ht : 2147483647 < t
              · exact .inr ⟨by omega, bne_eq_false_iff_eq.2 (by have : k = 41 := Classical.byContradiction fun hk => hlate ⟨ht, hk⟩; omega)⟩
              · exact .inl ⟨by omega, trivial⟩
            have HTT := Lib.hid htest
            clear hRv hlate htest
            go_enter Try.func36, Try.ntmps36
            go_wp2_with fail
            refine HN.out.mono ?_
            rintro e w1 ⟨rfl, hD1, hG1⟩
            have HS1 := Lib.hid (HS0.out.call hD1 hG1)
            clear hD1 hG1 HN
            go_wp2_with fail
            refine (Hk.out _ HS1.out.rd).mono ?_
            rintro e w2 ⟨rfl, hD, hG⟩
            have HS2 := Lib.hid (HS1.out.call hD hG)
            clear hD hG Hk
            go_wp2_with fail
            refine (Hc.out _ HS2.out.rd).mono ?_
            rintro e w3 ⟨rfl, hD, hG⟩
            have HS3 := Lib.hid (HS2.out.call hD hG)
            clear hD hG Hc
            go_wp2_with fail
            refine (Ht.out _ HS3.out.rd).mono ?_
            rintro e w4 ⟨rfl, hD, hG⟩
            have HS4 := Lib.hid (HS3.out.call hD hG)
            clear hD hG Ht
            obtain ⟨B1, hB1⟩ : ∃ B, w4.heap.size = B := ⟨_, rfl⟩
            have hBB : B < B1 := by have := HS4.out.lt; omega
            have hone : (w4.alloc (.cells (recC (mk o) k c t (.slice none 0 0) (.slice none 0 0) (.slice none 0 0)) 47)).heap[B1]? = some (.cells (recC (mk o) k c t (.slice none 0 0) (.slice none 0 0) (.slice none 0 0)) 47 (0, 0)) := by rw [← hB1]; exact heap_alloc_new w4 _
            have honel : B1 < (w4.alloc (.cells (recC (mk o) k c t (.slice none 0 0) (.slice none 0 0) (.slice none 0 0)) 47)).heap.size := by rw [← hB1]; simp
            have HS4a := Lib.hid (HS4.out.alloc (.cells (recC (mk o) k c t (.slice none 0 0) (.slice none 0 0) (.slice none 0 0)) 47))
            have HONE := Lib.hid hone
            have HONEL := Lib.hid honel
            clear hone honel
            go_wp2_with fail
            clear hB1
            generalize w4.alloc (.cells (recC (mk o) k c t (.slice none 0 0) (.slice none 0 0) (.slice none 0 0)) 47) = w4a at HS4a HONE HONEL ⊢
            have HS4 := HS4a
            clear HS4a
            refine (Hn.out _ HS4.out.rd).mono ?_
            rintro e w5 ⟨rfl, hD, hG⟩
            have HS5 := Lib.hid (HS4.out.call hD hG)
            have HB5 : Hid (w5.heap[B1]? = some (.cells (recC (mk o) k c t (.slice none 0 0) (.slice none 0 0) (.slice none 0 0)) 47 (0, 0))) := (grown_block hG HONEL.out (by have := HS4.out.rB; omega)).trans HONE.out
            have HB5L : Hid (B1 < w5.heap.size) := Nat.lt_of_lt_of_le HONEL.out hG.size
            clear hD hG Hn
            go_wp2_with fail
            refine (HD.out _ HS5.out.rd).mono ?_
            rintro e w6 ⟨qs, rfl, hqs, hDs, hDr, hG6⟩
            have HS6 := Lib.hid (HS5.out.call hDr hG6)
            have hB6 : w6.heap[B1]? = some (.cells (recC (mk o) k c t (.slice none 0 0) (.slice none 0 0) (.slice none 0 0)) 47 (0, 0)) := (grown_block hG6 HB5L.out (by have := HS5.out.rB; omega)).trans HB5.out
            have HF := Lib.hid (fill_any s tt (mk o) qs B1 B1 k c t (q + 10) _ w6 hDs hB6 (by have := HB5L.out; omega) (Nat.le_refl _) (by have := HB5L.out; omega) htl hs (by rw [HTS.out]; omega) (by rw [HTS.out]; omega) HDD)
            clear hqs hDs hDr hG6 hB6 HD
            go_wp2_with fail
            refine HF.out.mono ?_
            rintro e w7 ⟨v1, v2, v3, rfl, hb7, hO1, hO2, hO3, hB7⟩
            obtain ⟨A1, m1, c1, rfl⟩ := row_slice hO1
            obtain ⟨A2, m2, c2, rfl⟩ := row_slice hO2
            obtain ⟨A3, m3, c3, rfl⟩ := row_slice hO3
            have HS7 := Lib.hid (HS6.out.below hB7 hBB)
            have g0 := cell_of_row _ _ 0 _ _ _ hb7
            have g1 := cell_of_row _ _ 1 _ _ _ hb7
            have g2 := cell_of_row _ _ 2 _ _ _ hb7
            have g3 := cell_of_row _ _ 3 _ _ _ hb7
            have g4 := cell_of_row _ _ 4 _ _ _ hb7
            have g5 := cell_of_row _ _ 5 _ _ _ hb7
            have g6 := cell_of_row _ _ 6 _ _ _ hb7
            have HO1 := Lib.hid hO1
            have HO2 := Lib.hid hO2
            have HO3 := Lib.hid hO3
            clear hb7 hO1 hO2 hO3 hB7 HF
            have e0 := cell_of_row _ _ 0 _ _ _ HS7.out.b0
            have e1 := cell_of_row _ _ 1 _ _ _ HS7.out.b0
            have e2 := cell_of_row _ _ 2 _ _ _ HS7.out.b0
            have e3 := cell_of_row _ _ 3 _ _ _ HS7.out.b0
            have e4 := cell_of_row _ _ 4 _ _ _ HS7.out.b0
            have e5 := cell_of_row _ _ 5 _ _ _ HS7.out.b0
            have e6 := cell_of_row _ _ 6 _ _ _ HS7.out.b0
            have ef : ∀ i, w7.frozen? ⟨B, i, none⟩ = false := fun i => by simp [World.frozen?, HS7.out.b0]
            have HE : Hid (RecIn (((((((w7.setCell ⟨B, 0, none⟩ (.string (mk o))).setCell ⟨B, 1, none⟩ (.int .u16 k)).setCell ⟨B, 2, none⟩ (.int .u16 c)).setCell ⟨B, 3, none⟩ (.int .u32 t)).setCell ⟨B, 4, none⟩ (.slice A1 m1 c1)).setCell ⟨B, 5, none⟩ (.slice A2 m2 c2)).setCell ⟨B, 6, none⟩ (.slice A3 m3 c3)) w.heap.size ⟨o, k, c, t, D.names, D.nums, D.texts⟩ (.slice A1 m1 c1) (.slice A2 m2 c2) (.slice A3 m3 c3) ∧
                RdrAt (((((((w7.setCell ⟨B, 0, none⟩ (.string (mk o))).setCell ⟨B, 1, none⟩ (.int .u16 k)).setCell ⟨B, 2, none⟩ (.int .u16 c)).setCell ⟨B, 3, none⟩ (.int .u32 t)).setCell ⟨B, 4, none⟩ (.slice A1 m1 c1)).setCell ⟨B, 5, none⟩ (.slice A2 m2 c2)).setCell ⟨B, 6, none⟩ (.slice A3 m3 c3)) r s s ((q + 10 + n : Nat) : Int) 2 ∧
                w.grownBy (((((((w7.setCell ⟨B, 0, none⟩ (.string (mk o))).setCell ⟨B, 1, none⟩ (.int .u16 k)).setCell ⟨B, 2, none⟩ (.int .u16 c)).setCell ⟨B, 3, none⟩ (.int .u32 t)).setCell ⟨B, 4, none⟩ (.slice A1 m1 c1)).setCell ⟨B, 5, none⟩ (.slice A2 m2 c2)).setCell ⟨B, 6, none⟩ (.slice A3 m3 c3)) (some r)) := by
              have hg9 := setRec_by w7 B (.string (mk o)) (.int .u16 k) (.int .u16 c) (.int .u32 t) (.slice A1 m1 c1) (.slice A2 m2 c2) (.slice A3 m3 c3)
              have hlow : w.heap.size ≤ B1 := by have := HS7.out.eB; omega
              refine ⟨⟨row_low (HO1.out.kept hg9 (row_ne HS7.out.b0 HO1.out (by decide))) hlow, row_low (HO2.out.kept hg9 (row_ne HS7.out.b0 HO2.out (by decide))) hlow, row_low (HO3.out.kept hg9 (row_ne HS7.out.b0 HO3.out (by decide))) hlow⟩, HS7.out.rd.other hg9 (by have := HS7.out.rB; omega), ?_⟩
              exact kept_grown (HS7.out.kept.own hg9 (by have := HS7.out.lt; omega) (fun k e => by injection e with e; omega)) HS7.out.eB
            rcases HTT.out with ⟨ht, _⟩ | ⟨ht, hk41⟩
            all_goals
              go_wp2_with fail
              refine bodyPost_ret (v := .agg #[.string (mk o), .int .u16 k, .int .u16 c, .int .u32 t, .slice A1 m1 c1, .slice A2 m2 c2, .slice A3 m3 c3]) (by simp [results, Try.results36, go_sem, e0, e1, e2, e3, e4, e5, e6]) rfl ?_
              rw [hRe.out]
              exact ⟨_, _, _, rfl, HE.out.1, HE.out.2.1, HE.out.2.2⟩
      · have hRe : Hid (R = .error 2) := by show _ = _; rw [← hH.out]; exact headE_cut h10l (by rw [En.out, ← SZ.out]; omega)
        have HX := Lib.hid (fun w' (hd : RdrAt w' r s s ((q + 10 : Nat) : Int) 2) => data_no s r (q + 10) n w' hd h10 (by omega) hs)
        clear hH
        go_enter Try.func36, Try.ntmps36
        go_wp2_with fail
        refine HN.out.mono ?_
        rintro e w1 ⟨rfl, hD1, hG1⟩
        have HS1 := Lib.hid (HS0.out.call hD1 hG1)
        clear hD1 hG1 HN
        go_wp2_with fail
        refine (Hk.out _ HS1.out.rd).mono ?_
        rintro e w2 ⟨rfl, hD, hG⟩
        have HS2 := Lib.hid (HS1.out.call hD hG)
        clear hD hG Hk
        go_wp2_with fail
        refine (Hc.out _ HS2.out.rd).mono ?_
        rintro e w3 ⟨rfl, hD, hG⟩
        have HS3 := Lib.hid (HS2.out.call hD hG)
        clear hD hG Hc
        go_wp2_with fail
        refine (Ht.out _ HS3.out.rd).mono ?_
        rintro e w4 ⟨rfl, hD, hG⟩
        have HS4 := Lib.hid (HS3.out.call hD hG)
        clear hD hG Ht
        obtain ⟨B1, hB1⟩ : ∃ B, w4.heap.size = B := ⟨_, rfl⟩
        have hBB : B < B1 := by have := HS4.out.lt; omega
        have hone : (w4.alloc (.cells (recC (mk o) k c t (.slice none 0 0) (.slice none 0 0) (.slice none 0 0)) 47)).heap[B1]? = some (.cells (recC (mk o) k c t (.slice none 0 0) (.slice none 0 0) (.slice none 0 0)) 47 (0, 0)) := by rw [← hB1]; exact heap_alloc_new w4 _
        have honel : B1 < (w4.alloc (.cells (recC (mk o) k c t (.slice none 0 0) (.slice none 0 0) (.slice none 0 0)) 47)).heap.size := by rw [← hB1]; simp
        have HS4a := Lib.hid (HS4.out.alloc (.cells (recC (mk o) k c t (.slice none 0 0) (.slice none 0 0) (.slice none 0 0)) 47))
        have HONE := Lib.hid hone
        have HONEL := Lib.hid honel
        clear hone honel
        go_wp2_with fail
        clear hB1
        generalize w4.alloc (.cells (recC (mk o) k c t (.slice none 0 0) (.slice none 0 0) (.slice none 0 0)) 47) = w4a at HS4a HONE HONEL ⊢
        have HS4 := HS4a
        clear HS4a
        refine (Hn.out _ HS4.out.rd).mono ?_
        rintro e w5 ⟨rfl, hD, hG⟩
        have HS5 := Lib.hid (HS4.out.call hD hG)
        have HB5 : Hid (w5.heap[B1]? = some (.cells (recC (mk o) k c t (.slice none 0 0) (.slice none 0 0) (.slice none 0 0)) 47 (0, 0))) := (grown_block hG HONEL.out (by have := HS4.out.rB; omega)).trans HONE.out
        have HB5L : Hid (B1 < w5.heap.size) := Nat.lt_of_lt_of_le HONEL.out hG.size
        clear hD hG Hn
        go_wp2_with fail
        refine (HX.out _ HS5.out.rd).mono ?_
        rintro e wx ⟨rfl, hG⟩
        have HE := Lib.hid (HS5.out.gaveUp hG)
        clear hG
        go_wp2_with fail
        rw [hRe.out]
        exact ⟨rfl, rfl, HE.out⟩
    · have hRe : Hid (R = .error 2) := by show _ = _; rw [← hH.out]; exact headE_short (by rw [← SZ.out]; omega)
      clear hH
      by_cases h2 : q + 2 ≤ s.size
      · obtain ⟨k, hk⟩ : ∃ x, nu s.data.toList q 2 = x := ⟨_, rfl⟩
        have hkl : k < 65536 := by rw [← hk]; exact nu2_lt _ _
        have Hk := Lib.hid (fun w' (hd : RdrAt w' r s s ((q : Nat) : Int) 2) => number_yes s s r q 2 2 k w' hd (by decide) (by decide) (by omega) hs hk)
        have Ek := Lib.hid hk
        clear hk
        by_cases h4 : q + 4 ≤ s.size
        · obtain ⟨c, hc⟩ : ∃ x, nu s.data.toList (q + 2) 2 = x := ⟨_, rfl⟩
          have hcl : c < 65536 := by rw [← hc]; exact nu2_lt _ _
          have Hc := Lib.hid (fun w' (hd : RdrAt w' r s s ((q + 2 : Nat) : Int) 2) => number_yes s s r (q + 2) 2 2 c w' hd (by decide) (by decide) (by omega) hs hc)
          have Ec := Lib.hid hc
          clear hc
          by_cases h8 : q + 8 ≤ s.size
          · obtain ⟨t, ht⟩ : ∃ x, nu s.data.toList (q + 4) 4 = x := ⟨_, rfl⟩
            have htl : t < 4294967296 := by rw [← ht]; exact nu4_lt _ _
            have Ht := Lib.hid (fun w' (hd : RdrAt w' r s s ((q + 4 : Nat) : Int) 2) => number_yes s s r (q + 4) 4 2 t w' hd (by decide) (by decide) (by omega) hs ht)
            have Et := Lib.hid ht
            clear ht
            have HX := Lib.hid (fun w' (hd : RdrAt w' r s s ((q + 8 : Nat) : Int) 2) => number_no s s r 2 ((q + 8 : Nat) : Int) 2 w' hd hs (by decide) (by omega) (by omega) (holds_no (n := s.size) (p := q + 8) (m := 2) (by omega)))
            go_enter Try.func36, Try.ntmps36
            go_wp2_with fail
            refine HN.out.mono ?_
            rintro e w1 ⟨rfl, hD1, hG1⟩
            have HS1 := Lib.hid (HS0.out.call hD1 hG1)
            clear hD1 hG1 HN
            go_wp2_with fail
            refine (Hk.out _ HS1.out.rd).mono ?_
            rintro e w2 ⟨rfl, hD, hG⟩
            have HS2 := Lib.hid (HS1.out.call hD hG)
            clear hD hG Hk
            go_wp2_with fail
            refine (Hc.out _ HS2.out.rd).mono ?_
            rintro e w3 ⟨rfl, hD, hG⟩
            have HS3 := Lib.hid (HS2.out.call hD hG)
            clear hD hG Hc
            go_wp2_with fail
            refine (Ht.out _ HS3.out.rd).mono ?_
            rintro e w4 ⟨rfl, hD, hG⟩
            have HS4 := Lib.hid (HS3.out.call hD hG)
            clear hD hG Ht
            obtain ⟨B1, hB1⟩ : ∃ B, w4.heap.size = B := ⟨_, rfl⟩
            have hBB : B < B1 := by have := HS4.out.lt; omega
            have hone : (w4.alloc (.cells (recC (mk o) k c t (.slice none 0 0) (.slice none 0 0) (.slice none 0 0)) 47)).heap[B1]? = some (.cells (recC (mk o) k c t (.slice none 0 0) (.slice none 0 0) (.slice none 0 0)) 47 (0, 0)) := by rw [← hB1]; exact heap_alloc_new w4 _
            have honel : B1 < (w4.alloc (.cells (recC (mk o) k c t (.slice none 0 0) (.slice none 0 0) (.slice none 0 0)) 47)).heap.size := by rw [← hB1]; simp
            have HS4a := Lib.hid (HS4.out.alloc (.cells (recC (mk o) k c t (.slice none 0 0) (.slice none 0 0) (.slice none 0 0)) 47))
            have HONE := Lib.hid hone
            have HONEL := Lib.hid honel
            clear hone honel
            go_wp2_with fail
            clear hB1
            generalize w4.alloc (.cells (recC (mk o) k c t (.slice none 0 0) (.slice none 0 0) (.slice none 0 0)) 47) = w4a at HS4a HONE HONEL ⊢
            have HS4 := HS4a
            clear HS4a
            refine (HX.out _ HS4.out.rd).mono ?_
            rintro e wx ⟨rfl, m, rfl⟩
            have HE := Lib.hid (HS4.out.gaveUp (grown_drewN (grown_refl _ _) m))
            go_wp2_with fail
            rw [hRe.out]
            exact ⟨rfl, rfl, HE.out⟩
          · have HX := Lib.hid (fun w' (hd : RdrAt w' r s s ((q + 4 : Nat) : Int) 2) => number_no s s r 2 ((q + 4 : Nat) : Int) 4 w' hd hs (by decide) (by omega) (by omega) (holds_no (n := s.size) (p := q + 4) (m := 4) (by omega)))
            go_enter Try.func36, Try.ntmps36
            go_wp2_with fail
            refine HN.out.mono ?_
            rintro e w1 ⟨rfl, hD1, hG1⟩
            have HS1 := Lib.hid (HS0.out.call hD1 hG1)
            clear hD1 hG1 HN
            go_wp2_with fail
            refine (Hk.out _ HS1.out.rd).mono ?_
            rintro e w2 ⟨rfl, hD, hG⟩
            have HS2 := Lib.hid (HS1.out.call hD hG)
            clear hD hG Hk
            go_wp2_with fail
            refine (Hc.out _ HS2.out.rd).mono ?_
            rintro e w3 ⟨rfl, hD, hG⟩
            have HS3 := Lib.hid (HS2.out.call hD hG)
            clear hD hG Hc
            go_wp2_with fail
            refine (HX.out _ HS3.out.rd).mono ?_
            rintro e wx ⟨rfl, m, rfl⟩
            have HE := Lib.hid (HS3.out.gaveUp (grown_drewN (grown_refl _ _) m))
            go_wp2_with fail
            rw [hRe.out]
            exact ⟨rfl, rfl, HE.out⟩
        · have HX := Lib.hid (fun w' (hd : RdrAt w' r s s ((q + 2 : Nat) : Int) 2) => number_no s s r 2 ((q + 2 : Nat) : Int) 2 w' hd hs (by decide) (by omega) (by omega) (holds_no (n := s.size) (p := q + 2) (m := 2) (by omega)))
          go_enter Try.func36, Try.ntmps36
          go_wp2_with fail
          refine HN.out.mono ?_
          rintro e w1 ⟨rfl, hD1, hG1⟩
          have HS1 := Lib.hid (HS0.out.call hD1 hG1)
          clear hD1 hG1 HN
          go_wp2_with fail
          refine (Hk.out _ HS1.out.rd).mono ?_
          rintro e w2 ⟨rfl, hD, hG⟩
          have HS2 := Lib.hid (HS1.out.call hD hG)
          clear hD hG Hk
          go_wp2_with fail
          refine (HX.out _ HS2.out.rd).mono ?_
          rintro e wx ⟨rfl, m, rfl⟩
          have HE := Lib.hid (HS2.out.gaveUp (grown_drewN (grown_refl _ _) m))
          go_wp2_with fail
          rw [hRe.out]
          exact ⟨rfl, rfl, HE.out⟩
      · have HX := Lib.hid (fun w' (hd : RdrAt w' r s s ((q : Nat) : Int) 2) => number_no s s r 2 ((q : Nat) : Int) 2 w' hd hs (by decide) (by omega) (by omega) (holds_no (n := s.size) (p := q) (m := 2) (by omega)))
        go_enter Try.func36, Try.ntmps36
        go_wp2_with fail
        refine HN.out.mono ?_
        rintro e w1 ⟨rfl, hD1, hG1⟩
        have HS1 := Lib.hid (HS0.out.call hD1 hG1)
        clear hD1 hG1 HN
        go_wp2_with fail
        refine (HX.out _ HS1.out.rd).mono ?_
        rintro e wx ⟨rfl, m, rfl⟩
        have HE := Lib.hid (HS1.out.gaveUp (grown_drewN (grown_refl _ _) m))
        go_wp2_with fail
        rw [hRe.out]
        exact ⟨rfl, rfl, HE.out⟩

theorem recReads (s : ByteArray) (r : Nat) (hs : s.size ≤ 1000000) : RecReads r s (recE s.data.toList) :=
  ⟨fun w p h hp => record_any s r p _ w h hs hp rfl, fun _ _ _ h => by rw [Lib.size_eq]; exact recE_next h⟩
end Go.Proofs.Ytngbifdenbfepaa
