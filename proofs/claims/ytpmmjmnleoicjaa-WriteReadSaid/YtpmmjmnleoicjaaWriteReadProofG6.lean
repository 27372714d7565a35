/- Texts of one proof, one behind the other: RdrFill, RdrFillV, RdrFillS, RdrRecord. -/
import Derived.Test.YtpmmjmnleoicjaaProg
import Derived.Test.YtpmmjmnleoicjaaBytes
import Derived.Test.YtpmmjmnleoicjaaStrs
import Derived.Test.YtpmmjmnleoicjaaNums
import Derived.Test.YtpmmjmnleoicjaaNmMath
import Derived.Test.YtpmmjmnleoicjaaRecMath
import Derived.Test.YtpmmjmnleoicjaaMsgMath
import Derived.Test.YtpmmjmnleoicjaaWriteReadProofG1
import Derived.Test.YtpmmjmnleoicjaaRecShape
import Derived.Test.YtpmmjmnleoicjaaKept
import Derived.Test.YtpmmjmnleoicjaaOwnRow
import Derived.Test.YtpmmjmnleoicjaaRdr
import Derived.Test.YtpmmjmnleoicjaaRdrText
import Derived.Test.YtpmmjmnleoicjaaWriteReadProofG5
import Derived.Test.YtpmmjmnleoicjaaNmAt
import Derived.Test.YtpmmjmnleoicjaaRecRow
import Derived.Test.YtpmmjmnleoicjaaRdrName
import Derived.Test.YtpmmjmnleoicjaaRdrRecs
import Derived.WalkKit
import Derived.Lib.Hide
import Derived.Laws.Rows
import Derived.Outline
import Derived.IntWalk
import Derived.WalkSpells
import Derived.WalkLawsBesides
import Derived.Deep.RegionHeld3
import Derived.Deep.Draws
import Derived.Laws.EntriesVeiled

/- The contract of a message's reader: a record's data is put into it. For texts of at most 10^6 bytes. -/
namespace Go.Proofs.Ytpmmjmnleoicjaa
open Go.RowKit NumMath NmMath Bytes Strs Nums MsgMath RecMath DatMath

/-- The cells of a record, its lists apart. -/
abbrev recC (x : ByteArray) (k l t : Nat) (v1 v2 v3 : Value) : Array Value := #[.string x, .int .u16 k, .int .u16 l, .int .u32 t, v1, v2, v3]
/-- The data was put into the record, or the reading gave up. -/
def FillEnd (w : World) (g b : Nat) (x : ByteArray) (k l t : Nat) : Except Nat Body → Ending → World → Prop
  | .error z, e, w' => e = gave z ∧ Below g w w'
  | .ok D, e, w' => ∃ v1 v2 v3, e = .returned (.tuple #[]) ∧ w'.heap[b]? = some (.cells (recC x k l t v1 v2 v3) 60 (0, 0)) ∧ w'.ownsRow g 9 1 v1 D.names.length (strCs D.names) ∧ w'.ownsRow g 50 1 v2 D.nums.length (numCs D.nums) ∧ w'.ownsRow g 9 1 v3 D.texts.length (strCs D.texts) ∧ Below g w w'
/-- The state within: the reader in its block, the record in its own, the two cells of the closure behind them. -/
structure FillSt (w wr : World) (g r b q kind : Nat) (a s : ByteArray) (p : Nat) (c : Array Value) : Prop where
  gr : g ≤ r
  gb : g ≤ b
  rb : r ≠ b
  rq : r < q
  bq : b < q
  rd : RdrAt wr r a s (p : Int) 50
  b0 : wr.heap[b]? = some (.cells c 60 (0, 0))
  ct : Catch wr r q kind
  bl : Below g w wr
section
variable {w wr w' : World} {g r b q kind p p' : Nat} {a s : ByteArray} {c : Array Value}
theorem FillSt.sz (h : FillSt w wr g r b q kind a s p c) : g ≤ wr.heap.size := by have := h.rd.lt; have := h.gr; omega
theorem FillSt.call (h : FillSt w wr g r b q kind a s p c) (hd : RdrAt w' r a s (p' : Int) 50) (hg : wr.grownBy w' (some r)) : FillSt w w' g r b q kind a s p' c :=
  ⟨h.gr, h.gb, h.rb, h.rq, h.bq, hd, (grown_block hg (by have := h.ct.lt; have := h.bq; omega) (fun e => h.rb e.symm)).trans h.b0, h.ct.grown hg (by have := h.rq; omega) (by have := h.rq; omega), below_of_grown h.bl hg h.gr h.sz⟩
theorem FillSt.gaveUp (h : FillSt w wr g r b q kind a s p c) (hg : wr.grownBy w' (some r)) : Below g w w' := below_of_grown h.bl hg h.gr h.sz
theorem FillSt.set (h : FillSt w wr g r b q kind a s p c) (i : Nat) (v : Value) : FillSt w (wr.setCell ⟨b, i, none⟩ v) g r b q kind a s p (c.setIfInBounds i v) := by
  have h1 := h.rb; have h2 := h.bq; have h3 := h.ct.lt
  refine ⟨h.gr, h.gb, h1, h.rq, h2, h.rd.far (by simpa using h1) _, ?_, ⟨by simpa [World.setCell] using h3, ?_, ?_⟩, ?_⟩
  · simp [World.setCell, Array.getElem?_modify, h.b0]
  · rw [Below.heap_setCell _ _ _ _ (by simp only; omega)]; exact h.ct.at0
  · rw [Below.heap_setCell _ _ _ _ (by simp only; omega)]; exact h.ct.at1
  · exact below_of_grown h.bl (only_setCell (g := b) (grown_refl _ _) (p := ⟨b, i, none⟩) (.inl rfl) v) h.gb h.sz
theorem FillSt.drewN (h : FillSt w wr g r b q kind a s p c) (n : Nat) : FillSt w (wr.drewN n) g r b q kind a s p c := ⟨h.gr, h.gb, h.rb, h.rq, h.bq, h.rd, h.b0, ⟨h.ct.lt, h.ct.at0, h.ct.at1⟩, below_drewN h.bl n⟩
theorem FillSt.drew (h : FillSt w wr g r b q kind a s p c) : FillSt w wr.drew g r b q kind a s p c := ⟨h.gr, h.gb, h.rb, h.rq, h.bq, h.rd, h.b0, ⟨h.ct.lt, h.ct.at0, h.ct.at1⟩, ⟨h.bl.os, h.bl.tape, h.bl.output, h.bl.size, h.bl.block⟩⟩
theorem FillSt.rowCall {e : TypeId} {sz n : Nat} {v : Value} {xs : List Value} (h : FillSt w wr g r b q kind a s p c) (hv : wr.ownsRow g e sz v n xs) (hg : wr.grownBy w' (some r)) (he : e ≠ 91) : w'.ownsRow g e sz v n xs := row_rdr h.rd hv hg he
theorem FillSt.rowSet {e : TypeId} {sz n : Nat} {v : Value} {xs : List Value} (h : FillSt w wr g r b q kind a s p c) (hv : wr.ownsRow g e sz v n xs) (i : Nat) (u : Value) (he : e ≠ 60) : (wr.setCell ⟨b, i, none⟩ u).ownsRow g e sz v n xs :=
  hv.kept (only_setCell (g := b) (grown_refl wr (some b)) (p := ⟨b, i, none⟩) (.inl rfl) u) (row_ne h.b0 hv he)
end
theorem fillSt_start (w : World) (g r b kind : Nat) (a s : ByteArray) (p : Nat) (c : Array Value) (f : Value) (hf : namer r kind = f) (h : RdrAt w r a s (p : Int) 50) (hb : w.heap[b]? = some (.cells c 60 (0, 0))) (hgr : g ≤ r) (hgb : g ≤ b) (hrb : r ≠ b) (hbl : b < w.heap.size) :
    FillSt w ((w.alloc (.cells #[.pointer (some ⟨r, 0, none⟩)] 89)).alloc (.cells #[f] 147)) g r b w.heap.size kind a s p c := by
  subst hf
  have hr := h.lt
  refine ⟨hgr, hgb, hrb, hr, hbl, (h.held ((Below.refl _ _).alloc (Nat.le_refl _) _)).held ((Below.refl _ _).alloc (Nat.le_refl _) _), old_at (old_at hb), ⟨by simp, old_at (new_at _ _ _ rfl), new_at _ _ _ (by simp)⟩, ?_⟩
  exact ((Below.refl g w).alloc (by omega) _).alloc (by simp; omega) _
/-- The texts gave up: said as what a statement that reads beside can bear (its other way never comes). -/
theorem texts_bad {w wr : World} {g r b q kind p z : Nat} {a s : ByteArray} {c : Array Value} (h : FillSt w wr g r b q kind a s p c) (hsa : Hid (s.data.toList = a.data.toList.take s.size)) (hs : s.size ≤ 1000000) (hp : p ≤ s.size) (hR : Hid (textsE a.data.toList s.size kind p = .error z)) :
    Calls Try.prog 143 #[.pointer (some ⟨r, 0, none⟩), .int .u16 kind] wr fun e w' => (e = gave z ∧ Hid (Below g w w')) ∨ (e = .returned (.slice none 0 0) ∧ Hid False ∧ w'.cell? ⟨q, 0, none⟩ = some (.pointer (some ⟨r, 0, none⟩)) ∧ w'.cell? ⟨b, 1, none⟩ = some (.int .u16 kind) ∧ w'.frozen? ⟨b, 6, none⟩ = false ∧ w'.cell? ⟨b, 6, none⟩ = some (.slice none 0 0)) :=
  (texts_any a s r p kind _ wr h.rd hsa hs hp hR).mono fun _ _ hE => .inl ⟨hE.1, h.gaveUp hE.2⟩
/-- What the texts leave. -/
structure TextsDone (w wr w' : World) (g r b q kind p : Nat) (a s : ByteArray) (c : Array Value) (v : Value) (L : List (List UInt8)) : Prop where
  st : FillSt w w' g r b q kind a s p c
  row : w'.ownsRow g 9 1 v L.length (strCs L)
  gr : wr.grownBy w' (some r)
/-- The texts, among the cells that the statement reads beside. -/
theorem texts_good {w wr : World} {g r b q kind p p' : Nat} {a s x : ByteArray} {l t : Nat} {v1 v2 : Value} {L : List (List UInt8)} (h : FillSt w wr g r b q kind a s p (recC x kind l t v1 v2 (.slice none 0 0))) (hsa : Hid (s.data.toList = a.data.toList.take s.size)) (hs : s.size ≤ 1000000) (hp : p ≤ s.size) (hR : Hid (textsE a.data.toList s.size kind p = .ok (L, p'))) :
    Calls Try.prog 143 #[.pointer (some ⟨r, 0, none⟩), .int .u16 kind] wr fun e w' => ∃ A m k, e = .returned (.slice A m k) ∧ w'.cell? ⟨q, 0, none⟩ = some (.pointer (some ⟨r, 0, none⟩)) ∧ w'.cell? ⟨b, 1, none⟩ = some (.int .u16 kind) ∧ w'.frozen? ⟨b, 6, none⟩ = false ∧ w'.cell? ⟨b, 6, none⟩ = some (.slice none 0 0) ∧ Hid (TextsDone w wr w' g r b q kind p' a s (recC x kind l t v1 v2 (.slice none 0 0)) (.slice A m k) L) := by
  refine (texts_any a s r p kind _ wr h.rd hsa hs hp hR).mono fun e w' hE => ?_
  obtain ⟨v, rfl, hO, hD, hG⟩ := hE
  obtain ⟨A, m, k, rfl⟩ := row_slice hO
  have hst := h.call hD hG
  exact ⟨A, m, k, rfl, cell_of_row _ _ 0 _ _ _ hst.ct.at0, cell_of_row _ _ 1 _ _ _ hst.b0, by simp [World.frozen?, hst.b0], cell_of_row _ _ 6 _ _ _ hst.b0, hst, row_low hO h.sz, hG⟩
set_option maxHeartbeats 4000000 in
set_option maxRecDepth 100000 in
theorem fill_other (a s x : ByteArray) (r b g kind l t p : Nat) (D : Except Nat Body) (w : World) (h : RdrAt w r a s (p : Int) 50) (hb : w.heap[b]? = some (.cells (recC x kind l t (.slice none 0 0) (.slice none 0 0) (.slice none 0 0)) 60 (0, 0))) (hgr : g ≤ r) (hgb : g ≤ b) (hrb : r ≠ b)
    (hsa : Hid (s.data.toList = a.data.toList.take s.size)) (ha : a.size ≤ 1000000) (hsz : s.size ≤ a.size) (hp : p ≤ s.size) (h6 : kind ≠ 6) (h33 : kind ≠ 33) (hD : Hid (bodyE a.data.toList s.size kind p = D)) :
    Calls Try.prog 123 #[.pointer (some ⟨r, 0, none⟩), .pointer (some ⟨b, 0, none⟩)] w (FillEnd w g b x kind l t D) := by
  have hbl : b < w.heap.size := by
    rcases Nat.lt_or_ge b w.heap.size with hlt | hge
    · exact hlt
    · rw [Array.getElem?_eq_none hge] at hb; cases hb
  have hs : s.size ≤ 1000000 := by omega
  have HSH := Lib.hid (fun w => shape_is kind (shA kind) (shB kind) (shC kind) w rfl rfl rfl)
  have hst0 := fillSt_start w g r b kind a s p _ (.func (.func 121) #[.pointer (some ⟨r, 0, none⟩)] #[]) (by unfold namer; first | rw [if_neg h33] | rw [if_pos h33]) h hb hgr hgb hrb hbl
  have hb1 : (w.alloc (.cells #[.pointer (some ⟨r, 0, none⟩)] 89)).heap[b]? = some (.cells (recC x kind l t (.slice none 0 0) (.slice none 0 0) (.slice none 0 0)) 60 (0, 0)) := old_at hb
  have hb2 : ((w.alloc (.cells #[.pointer (some ⟨r, 0, none⟩)] 89)).alloc (.cells #[.func (.func 121) #[.pointer (some ⟨r, 0, none⟩)] #[]] 147)).heap[b]? = some (.cells (recC x kind l t (.slice none 0 0) (.slice none 0 0) (.slice none 0 0)) 60 (0, 0)) := old_at hb1
  have k1 := cell_of_row _ _ 1 _ _ _ hb1
  have k2 := cell_of_row _ _ 1 _ _ _ hb2
  have m1 := cell_of_row _ _ 1 _ _ _ hst0.b0
  have HST0 := Lib.hid hst0
  obtain ⟨na, hna⟩ : ∃ n, shA kind = n := ⟨_, rfl⟩
  obtain ⟨nb, hnb⟩ : ∃ n, shB kind = n := ⟨_, rfl⟩
  obtain ⟨nc, hnc⟩ : ∃ n, shC kind = n := ⟨_, rfl⟩
  have hna1 := shA_le kind
  have hnb1 := shB_le kind
  rw [hna] at hna1
  rw [hnb] at hnb1
  rw [hna, hnb, hnc] at HSH
  have NA := Lib.hid hna
  have NB := Lib.hid hnb
  have NC := Lib.hid hnc
  have b6 : ((kind : Int) == 6) = false := beq_eq_false_iff_ne.2 (by omega)
  have b33 : ((kind : Int) == 33) = false := beq_eq_false_iff_ne.2 (by omega)
  have H6 := Lib.hid h6
  clear hst0 hb1 hb2 hb h hna hnb hnc h6 h33
  obtain ⟨Q1, hQ1⟩ : ∃ Q, many (numE a.data.toList s.size 2) nb p = Q := ⟨_, rfl⟩
  cases Q1 with
  | error z =>
    have hRe : Hid (D = .error z) := by (show _ = _; rw [← hD.out]; exact body_err1 H6.out (by rw [NB.out]; exact hQ1))
    go_enter Try.func123, Try.ntmps123
    go_wp2_with fail
    refine (HSH.out _).mono ?_
    rintro e w' ⟨rfl, rfl⟩
    go_wp2_with fail
    generalize (w.alloc (.cells #[.pointer (some ⟨r, 0, none⟩)] 89)).alloc (.cells #[.func (.func 121) #[.pointer (some ⟨r, 0, none⟩)] #[]] 147) = w0 at HST0 m1 ⊢
    obtain ⟨q, hq⟩ : ∃ q, w.heap.size = q := ⟨_, rfl⟩
    rw [hq] at HST0 ⊢
    clear hq k1 k2 m1 HSH
    have HC := Lib.hid (narrows_any a s r nb p (.error z) w0 HST0.out.rd hsa hs (by omega) (by omega) hQ1)
    refine HC.out.mono ?_
    rintro e wx ⟨rfl, hG⟩
    have HE := Lib.hid (HST0.out.gaveUp hG)
    clear hG HC
    go_wp2_with fail
    rw [hRe.out]
    exact ⟨rfl, rfl, HE.out⟩
  | ok lq1 =>
    obtain ⟨ns, p1⟩ := lq1
    have hp1 : p1 ≤ s.size := many_le (fun _ _ _ _ h => numE_end h) hp hQ1
    obtain ⟨Q2, hQ2⟩ : ∃ Q, many (nameE a.data.toList s.size kind) na p1 = Q := ⟨_, rfl⟩
    cases Q2 with
    | error z =>
      have hRe : Hid (D = .error z) := by (show _ = _; rw [← hD.out]; exact body_err2 H6.out (by rw [NB.out]; exact hQ1) (by rw [NA.out]; exact hQ2))
      go_enter Try.func123, Try.ntmps123
      go_wp2_with fail
      refine (HSH.out _).mono ?_
      rintro e w' ⟨rfl, rfl⟩
      go_wp2_with fail
      generalize (w.alloc (.cells #[.pointer (some ⟨r, 0, none⟩)] 89)).alloc (.cells #[.func (.func 121) #[.pointer (some ⟨r, 0, none⟩)] #[]] 147) = w0 at HST0 m1 ⊢
      obtain ⟨q, hq⟩ : ∃ q, w.heap.size = q := ⟨_, rfl⟩
      rw [hq] at HST0 ⊢
      clear hq k1 k2 m1 HSH
      have HC := Lib.hid (narrows_any a s r nb p (.ok (ns, p1)) w0 HST0.out.rd hsa hs (by omega) (by omega) hQ1)
      refine HC.out.mono ?_
      rintro e wx ⟨v, rfl, hO, hD, hG⟩
      obtain ⟨A2, m2, c2, rfl⟩ := row_slice hO
      have hst := HST0.out.call hD hG
      have hO1 := row_low hO HST0.out.sz
      have x5 := cell_of_row _ _ 5 _ _ _ hst.b0
      have xf : ∀ i, wx.frozen? ⟨b, i, none⟩ = false := fun i => by simp [World.frozen?, hst.b0]
      have hst2 : FillSt w (wx.setCell ⟨b, 5, none⟩ (.slice A2 m2 c2)) g r b q kind a s p1 (recC x kind l t (.slice none 0 0) (.slice A2 m2 c2) (.slice none 0 0)) := hst.set 5 (.slice A2 m2 c2)
      have HST1 := Lib.hid hst2
      have R2 := Lib.hid (hst.rowSet hO1 5 (.slice A2 m2 c2) (by decide))
      have x1 := cell_of_row _ _ 1 _ _ _ hst2.b0
      have xq := cell_of_row _ _ 0 _ _ _ hst2.ct.at0
      clear hO hD hG hst hO1 hst2 HC 
      go_wp2_with fail
      generalize wx.setCell ⟨b, 5, none⟩ (.slice A2 m2 c2) = w1 at HST1 R2  x1 xq ⊢
      clear x5 xf
      have HC := Lib.hid (boundeds_any a s r q kind na p1 (.error z) w1 HST1.out.rd HST1.out.ct (by have := HST1.out.rq; omega) (by have := HST1.out.rq; omega) hsa ha hsz (by omega) (by omega) hQ2)
      refine HC.out.mono ?_
      rintro e wx ⟨rfl, hG⟩
      have HE := Lib.hid (HST1.out.gaveUp hG)
      clear hG HC
      go_wp2_with fail
      rw [hRe.out]
      exact ⟨rfl, rfl, HE.out⟩
    | ok lq2 =>
      obtain ⟨nms, p2⟩ := lq2
      have hp2 : p2 ≤ s.size := many_le (fun _ _ _ _ h => nameE_end h) hp1 hQ2
      have hB : Hid (endE a.data.toList s.size kind nms ns p2 = D) := by (show _ = _; rw [← hD.out]; exact (body_ok H6.out (by rw [NB.out]; exact hQ1) (by rw [NA.out]; exact hQ2)).symm)
      by_cases hc : 0 < nc
      · have hci : (0 : Int) < (nc : Int) := by omega
        have hcs : 0 < shC kind := by rw [NC.out]; exact hc
        obtain ⟨Q3, hQ3⟩ : ∃ Q, textsE a.data.toList s.size kind p2 = Q := ⟨_, rfl⟩
        have HQ3 := Lib.hid hQ3
        cases Q3 with
        | error z =>
          have hRe : Hid (D = .error z) := by (show _ = _; rw [← hB.out]; exact endE_err hcs hQ3)
          clear hQ3
          go_enter Try.func123, Try.ntmps123
          go_wp2_with fail
          refine (HSH.out _).mono ?_
          rintro e w' ⟨rfl, rfl⟩
          go_wp2_with fail
          generalize (w.alloc (.cells #[.pointer (some ⟨r, 0, none⟩)] 89)).alloc (.cells #[.func (.func 121) #[.pointer (some ⟨r, 0, none⟩)] #[]] 147) = w0 at HST0 m1 ⊢
          obtain ⟨q, hq⟩ : ∃ q, w.heap.size = q := ⟨_, rfl⟩
          rw [hq] at HST0 ⊢
          clear hq k1 k2 m1 HSH
          have HC := Lib.hid (narrows_any a s r nb p (.ok (ns, p1)) w0 HST0.out.rd hsa hs (by omega) (by omega) hQ1)
          refine HC.out.mono ?_
          rintro e wx ⟨v, rfl, hO, hD, hG⟩
          obtain ⟨A2, m2, c2, rfl⟩ := row_slice hO
          have hst := HST0.out.call hD hG
          have hO1 := row_low hO HST0.out.sz
          have x5 := cell_of_row _ _ 5 _ _ _ hst.b0
          have xf : ∀ i, wx.frozen? ⟨b, i, none⟩ = false := fun i => by simp [World.frozen?, hst.b0]
          have hst2 : FillSt w (wx.setCell ⟨b, 5, none⟩ (.slice A2 m2 c2)) g r b q kind a s p1 (recC x kind l t (.slice none 0 0) (.slice A2 m2 c2) (.slice none 0 0)) := hst.set 5 (.slice A2 m2 c2)
          have HST1 := Lib.hid hst2
          have R2 := Lib.hid (hst.rowSet hO1 5 (.slice A2 m2 c2) (by decide))
          have x1 := cell_of_row _ _ 1 _ _ _ hst2.b0
          have xq := cell_of_row _ _ 0 _ _ _ hst2.ct.at0
          clear hO hD hG hst hO1 hst2 HC 
          go_wp2_with fail
          generalize wx.setCell ⟨b, 5, none⟩ (.slice A2 m2 c2) = w1 at HST1 R2  x1 xq ⊢
          clear x5 xf
          have HC := Lib.hid (boundeds_any a s r q kind na p1 (.ok (nms, p2)) w1 HST1.out.rd HST1.out.ct (by have := HST1.out.rq; omega) (by have := HST1.out.rq; omega) hsa ha hsz (by omega) (by omega) hQ2)
          refine HC.out.mono ?_
          rintro e wx ⟨v, rfl, hO, hD, hG⟩
          obtain ⟨A1, m1, c1, rfl⟩ := row_slice hO
          have hst := HST1.out.call hD hG
          have hO1 := row_low hO HST1.out.sz
          have R2a := HST1.out.rowCall R2.out hG (by decide)
          have x4 := cell_of_row _ _ 4 _ _ _ hst.b0
          have xf : ∀ i, wx.frozen? ⟨b, i, none⟩ = false := fun i => by simp [World.frozen?, hst.b0]
          have hst2 : FillSt w (wx.setCell ⟨b, 4, none⟩ (.slice A1 m1 c1)) g r b q kind a s p2 (recC x kind l t (.slice A1 m1 c1) (.slice A2 m2 c2) (.slice none 0 0)) := hst.set 4 (.slice A1 m1 c1)
          have HST2 := Lib.hid hst2
          have R1 := Lib.hid (hst.rowSet hO1 4 (.slice A1 m1 c1) (by decide))
          have R2b := Lib.hid (hst.rowSet R2a 4 (.slice A1 m1 c1) (by decide))
          have x1 := cell_of_row _ _ 1 _ _ _ hst2.b0
          have xq := cell_of_row _ _ 0 _ _ _ hst2.ct.at0
          clear hO hD hG hst hO1 hst2 HC R2a R2
          go_wp2_with fail
          generalize wx.setCell ⟨b, 4, none⟩ (.slice A1 m1 c1) = w2 at HST2 R1 R2b x1 xq ⊢
          clear x4 xf
          have R2 := R2b
          clear R2b
          have HST2d := Lib.hid HST2.out.drew
          go_region_with (go_at_call 143; refine (texts_bad HST2d.out hsa hs hp2 HQ3).mono ?_; rintro e wx (⟨rfl, hE⟩ | ⟨rfl, hF, hk0, hk1, hkf, hk6⟩); · (first | (rw [hRe.out]; exact ⟨rfl, rfl, hE.out⟩) | (go_simp; rw [hRe.out]; exact ⟨rfl, rfl, hE.out⟩)))
          all_goals exact hF.out.elim
        | ok lq3 =>
          obtain ⟨L, p3⟩ := lq3
          have hp3 : p3 ≤ s.size := textsE_end hQ3
          have hDv := hB
          clear hB
          go_enter Try.func123, Try.ntmps123
          go_wp2_with fail
          refine (HSH.out _).mono ?_
          rintro e w' ⟨rfl, rfl⟩
          go_wp2_with fail
          generalize (w.alloc (.cells #[.pointer (some ⟨r, 0, none⟩)] 89)).alloc (.cells #[.func (.func 121) #[.pointer (some ⟨r, 0, none⟩)] #[]] 147) = w0 at HST0 m1 ⊢
          obtain ⟨q, hq⟩ : ∃ q, w.heap.size = q := ⟨_, rfl⟩
          rw [hq] at HST0 ⊢
          clear hq k1 k2 m1 HSH
          have HC := Lib.hid (narrows_any a s r nb p (.ok (ns, p1)) w0 HST0.out.rd hsa hs (by omega) (by omega) hQ1)
          refine HC.out.mono ?_
          rintro e wx ⟨v, rfl, hO, hD, hG⟩
          obtain ⟨A2, m2, c2, rfl⟩ := row_slice hO
          have hst := HST0.out.call hD hG
          have hO1 := row_low hO HST0.out.sz
          have x5 := cell_of_row _ _ 5 _ _ _ hst.b0
          have xf : ∀ i, wx.frozen? ⟨b, i, none⟩ = false := fun i => by simp [World.frozen?, hst.b0]
          have hst2 : FillSt w (wx.setCell ⟨b, 5, none⟩ (.slice A2 m2 c2)) g r b q kind a s p1 (recC x kind l t (.slice none 0 0) (.slice A2 m2 c2) (.slice none 0 0)) := hst.set 5 (.slice A2 m2 c2)
          have HST1 := Lib.hid hst2
          have R2 := Lib.hid (hst.rowSet hO1 5 (.slice A2 m2 c2) (by decide))
          have x1 := cell_of_row _ _ 1 _ _ _ hst2.b0
          have xq := cell_of_row _ _ 0 _ _ _ hst2.ct.at0
          clear hO hD hG hst hO1 hst2 HC 
          go_wp2_with fail
          generalize wx.setCell ⟨b, 5, none⟩ (.slice A2 m2 c2) = w1 at HST1 R2  x1 xq ⊢
          clear x5 xf
          have HC := Lib.hid (boundeds_any a s r q kind na p1 (.ok (nms, p2)) w1 HST1.out.rd HST1.out.ct (by have := HST1.out.rq; omega) (by have := HST1.out.rq; omega) hsa ha hsz (by omega) (by omega) hQ2)
          refine HC.out.mono ?_
          rintro e wx ⟨v, rfl, hO, hD, hG⟩
          obtain ⟨A1, m1, c1, rfl⟩ := row_slice hO
          have hst := HST1.out.call hD hG
          have hO1 := row_low hO HST1.out.sz
          have R2a := HST1.out.rowCall R2.out hG (by decide)
          have x4 := cell_of_row _ _ 4 _ _ _ hst.b0
          have xf : ∀ i, wx.frozen? ⟨b, i, none⟩ = false := fun i => by simp [World.frozen?, hst.b0]
          have hst2 : FillSt w (wx.setCell ⟨b, 4, none⟩ (.slice A1 m1 c1)) g r b q kind a s p2 (recC x kind l t (.slice A1 m1 c1) (.slice A2 m2 c2) (.slice none 0 0)) := hst.set 4 (.slice A1 m1 c1)
          have HST2 := Lib.hid hst2
          have R1 := Lib.hid (hst.rowSet hO1 4 (.slice A1 m1 c1) (by decide))
          have R2b := Lib.hid (hst.rowSet R2a 4 (.slice A1 m1 c1) (by decide))
          have x1 := cell_of_row _ _ 1 _ _ _ hst2.b0
          have xq := cell_of_row _ _ 0 _ _ _ hst2.ct.at0
          clear hO hD hG hst hO1 hst2 HC R2a R2
          go_wp2_with fail
          generalize wx.setCell ⟨b, 4, none⟩ (.slice A1 m1 c1) = w2 at HST2 R1 R2b x1 xq ⊢
          clear x4 xf
          have R2 := R2b
          clear R2b
          have HST2d := Lib.hid HST2.out.drew
          have R1d : Hid (w2.drew.ownsRow g 9 1 (.slice A1 m1 c1) nms.length (strCs nms)) := R1.out
          have R2d : Hid (w2.drew.ownsRow g 50 1 (.slice A2 m2 c2) ns.length (numCs ns)) := R2.out
          go_region_held3 (fun w' => w'.cell? ⟨q, 0, none⟩ = some (.pointer (some ⟨r, 0, none⟩)) ∧ w'.cell? ⟨b, 1, none⟩ = some (.int .u16 kind)) (first | go_keep | exact ⟨cell_of_row _ _ 0 _ _ _ (hT.out.st.set 6 (.slice A3 m3 c3)).ct.at0, cell_of_row _ _ 1 _ _ _ (hT.out.st.set 6 (.slice A3 m3 c3)).b0⟩) (first | (go_at_call 143; refine (texts_good HST2d.out hsa hs hp2 HQ3).mono ?_; rintro e wx ⟨A3, m3, c3, rfl, hk0, hk1, hkf, hk6, hT⟩))
          have R1e := HST2d.out.rowCall R1d.out hT.out.gr (by decide)
          have R2e := HST2d.out.rowCall R2d.out hT.out.gr (by decide)
          have HST3 := Lib.hid (hT.out.st.set 6 (.slice A3 m3 c3))
          have R1 := Lib.hid (hT.out.st.rowSet R1e 6 (.slice A3 m3 c3) (by decide))
          have R2 := Lib.hid (hT.out.st.rowSet R2e 6 (.slice A3 m3 c3) (by decide))
          have R3 := Lib.hid (hT.out.st.rowSet hT.out.row 6 (.slice A3 m3 c3) (by decide))
          have xq := cell_of_row _ _ 0 _ _ _ HST3.out.ct.at0
          have HL := Lib.hid (left_any a s r p3 50 _ HST3.out.rd hp3 hs)
          clear R1e R2e hk0 hk1 hkf hk6 hT
          go_wp2_with fail
          generalize wx.setCell ⟨b, 6, none⟩ (.slice A3 m3 c3) = w3 at HST3 R1 R2 R3 HL xq ⊢
          by_cases hlt : p3 < s.size
          · have hRe : Hid (D = .error 50) := by (show _ = _; rw [← hDv.out]; exact endE_left hcs HQ3.out hlt)
            have hpos : (0 : Int) < (s.size : Int) - p3 := by omega
            refine HL.out.mono ?_
            rintro e wl ⟨rfl, m, rfl⟩
            have HE := Lib.hid (HST3.out.drewN m)
            clear HL hDv
            go_wp2_with fail
            rw [hRe.out]
            exact ⟨rfl, rfl, HE.out.bl⟩
          · have hRe : Hid (D = .ok ⟨nms, ns, L⟩) := by (show _ = _; rw [← hDv.out]; exact endE_ok hcs HQ3.out hlt)
            have hpos : ¬ ((0 : Int) < (s.size : Int) - p3) := by omega
            refine HL.out.mono ?_
            rintro e wl ⟨rfl, m, rfl⟩
            have HE := Lib.hid (HST3.out.drewN m)
            clear HL hDv
            go_wp2_with fail
            go_end0
            rw [hRe.out]
            exact ⟨_, _, _, rfl, HE.out.b0, R1.out, R2.out, R3.out, HE.out.bl⟩
      · have hci : ¬ ((0 : Int) < (nc : Int)) := by omega
        have hcs : shC kind = 0 := by rw [NC.out]; omega
        go_enter Try.func123, Try.ntmps123
        go_wp2_with fail
        refine (HSH.out _).mono ?_
        rintro e w' ⟨rfl, rfl⟩
        go_wp2_with fail
        generalize (w.alloc (.cells #[.pointer (some ⟨r, 0, none⟩)] 89)).alloc (.cells #[.func (.func 121) #[.pointer (some ⟨r, 0, none⟩)] #[]] 147) = w0 at HST0 m1 ⊢
        obtain ⟨q, hq⟩ : ∃ q, w.heap.size = q := ⟨_, rfl⟩
        rw [hq] at HST0 ⊢
        clear hq k1 k2 m1 HSH
        have HC := Lib.hid (narrows_any a s r nb p (.ok (ns, p1)) w0 HST0.out.rd hsa hs (by omega) (by omega) hQ1)
        refine HC.out.mono ?_
        rintro e wx ⟨v, rfl, hO, hD, hG⟩
        obtain ⟨A2, m2, c2, rfl⟩ := row_slice hO
        have hst := HST0.out.call hD hG
        have hO1 := row_low hO HST0.out.sz
        have x5 := cell_of_row _ _ 5 _ _ _ hst.b0
        have xf : ∀ i, wx.frozen? ⟨b, i, none⟩ = false := fun i => by simp [World.frozen?, hst.b0]
        have hst2 : FillSt w (wx.setCell ⟨b, 5, none⟩ (.slice A2 m2 c2)) g r b q kind a s p1 (recC x kind l t (.slice none 0 0) (.slice A2 m2 c2) (.slice none 0 0)) := hst.set 5 (.slice A2 m2 c2)
        have HST1 := Lib.hid hst2
        have R2 := Lib.hid (hst.rowSet hO1 5 (.slice A2 m2 c2) (by decide))
        have x1 := cell_of_row _ _ 1 _ _ _ hst2.b0
        have xq := cell_of_row _ _ 0 _ _ _ hst2.ct.at0
        clear hO hD hG hst hO1 hst2 HC 
        go_wp2_with fail
        generalize wx.setCell ⟨b, 5, none⟩ (.slice A2 m2 c2) = w1 at HST1 R2  x1 xq ⊢
        clear x5 xf
        have HC := Lib.hid (boundeds_any a s r q kind na p1 (.ok (nms, p2)) w1 HST1.out.rd HST1.out.ct (by have := HST1.out.rq; omega) (by have := HST1.out.rq; omega) hsa ha hsz (by omega) (by omega) hQ2)
        refine HC.out.mono ?_
        rintro e wx ⟨v, rfl, hO, hD, hG⟩
        obtain ⟨A1, m1, c1, rfl⟩ := row_slice hO
        have hst := HST1.out.call hD hG
        have hO1 := row_low hO HST1.out.sz
        have R2a := HST1.out.rowCall R2.out hG (by decide)
        have x4 := cell_of_row _ _ 4 _ _ _ hst.b0
        have xf : ∀ i, wx.frozen? ⟨b, i, none⟩ = false := fun i => by simp [World.frozen?, hst.b0]
        have hst2 : FillSt w (wx.setCell ⟨b, 4, none⟩ (.slice A1 m1 c1)) g r b q kind a s p2 (recC x kind l t (.slice A1 m1 c1) (.slice A2 m2 c2) (.slice none 0 0)) := hst.set 4 (.slice A1 m1 c1)
        have HST2 := Lib.hid hst2
        have R1 := Lib.hid (hst.rowSet hO1 4 (.slice A1 m1 c1) (by decide))
        have R2b := Lib.hid (hst.rowSet R2a 4 (.slice A1 m1 c1) (by decide))
        have x1 := cell_of_row _ _ 1 _ _ _ hst2.b0
        have xq := cell_of_row _ _ 0 _ _ _ hst2.ct.at0
        clear hO hD hG hst hO1 hst2 HC R2a R2
        go_wp2_with fail
        generalize wx.setCell ⟨b, 4, none⟩ (.slice A1 m1 c1) = w2 at HST2 R1 R2b x1 xq ⊢
        clear x4 xf
        have R2 := R2b
        clear R2b
        have HL := Lib.hid (left_any a s r p2 50 w2 HST2.out.rd hp2 hs)
        by_cases hlt : p2 < s.size
        · have hRe : Hid (D = .error 50) := by (show _ = _; exact (by rw [← hB.out]; exact endE_none_left hcs hlt))
          have hpos : (0 : Int) < (s.size : Int) - p2 := by omega
          refine HL.out.mono ?_
          rintro e wl ⟨rfl, m, rfl⟩
          have HE := Lib.hid (HST2.out.drewN m)
          clear HL
          go_wp2_with fail
          rw [hRe.out]
          exact ⟨rfl, rfl, HE.out.bl⟩
        · have hRe : Hid (D = .ok ⟨nms, ns, []⟩) := by (show _ = _; exact (by rw [← hB.out]; exact endE_none hcs hlt))
          have hpos : ¬ ((0 : Int) < (s.size : Int) - p2) := by omega
          refine HL.out.mono ?_
          rintro e wl ⟨rfl, m, rfl⟩
          have HE := Lib.hid (HST2.out.drewN m)
          clear HL
          go_wp2_with fail
          go_end0
          rw [hRe.out]
          exact ⟨_, _, _, rfl, HE.out.b0, R1.out, R2.out, World.ownsRow_nil _ _ _ _, HE.out.bl⟩
end Go.Proofs.Ytpmmjmnleoicjaa

/- The contract of a message's reader: a record's data is put into it: SRV. For texts of at most 10^6 bytes. -/
namespace Go.Proofs.Ytpmmjmnleoicjaa
open Go.RowKit NumMath NmMath Bytes Strs Nums MsgMath RecMath DatMath

set_option maxHeartbeats 4000000 in
set_option maxRecDepth 100000 in
theorem fill_srv (a s x : ByteArray) (r b g kind l t p : Nat) (D : Except Nat Body) (w : World) (h : RdrAt w r a s (p : Int) 50) (hb : w.heap[b]? = some (.cells (recC x kind l t (.slice none 0 0) (.slice none 0 0) (.slice none 0 0)) 60 (0, 0))) (hgr : g ≤ r) (hgb : g ≤ b) (hrb : r ≠ b)
    (hsa : Hid (s.data.toList = a.data.toList.take s.size)) (ha : a.size ≤ 1000000) (hsz : s.size ≤ a.size) (hp : p ≤ s.size) (h6 : kind ≠ 6) (h33 : kind = 33) (hD : Hid (bodyE a.data.toList s.size kind p = D)) :
    Calls Try.prog 123 #[.pointer (some ⟨r, 0, none⟩), .pointer (some ⟨b, 0, none⟩)] w (FillEnd w g b x kind l t D) := by
  have hbl : b < w.heap.size := by
    rcases Nat.lt_or_ge b w.heap.size with hlt | hge
    · exact hlt
    · rw [Array.getElem?_eq_none hge] at hb; cases hb
  have hs : s.size ≤ 1000000 := by omega
  have HSH := Lib.hid (fun w => shape_is kind (shA kind) (shB kind) (shC kind) w rfl rfl rfl)
  have hst0 := fillSt_start w g r b kind a s p _ (.func (.func 136) #[.pointer (some ⟨r, 0, none⟩)] #[]) (by unfold namer; first | rw [if_neg h33] | rw [if_pos h33]) h hb hgr hgb hrb hbl
  have hb1 : (w.alloc (.cells #[.pointer (some ⟨r, 0, none⟩)] 89)).heap[b]? = some (.cells (recC x kind l t (.slice none 0 0) (.slice none 0 0) (.slice none 0 0)) 60 (0, 0)) := old_at hb
  have hb2 : ((w.alloc (.cells #[.pointer (some ⟨r, 0, none⟩)] 89)).alloc (.cells #[.func (.func 121) #[.pointer (some ⟨r, 0, none⟩)] #[]] 147)).heap[b]? = some (.cells (recC x kind l t (.slice none 0 0) (.slice none 0 0) (.slice none 0 0)) 60 (0, 0)) := old_at hb1
  have k1 := cell_of_row _ _ 1 _ _ _ hb1
  have k2 := cell_of_row _ _ 1 _ _ _ hb2
  have m1 := cell_of_row _ _ 1 _ _ _ hst0.b0
  have HST0 := Lib.hid hst0
  obtain ⟨na, hna⟩ : ∃ n, shA kind = n := ⟨_, rfl⟩
  obtain ⟨nb, hnb⟩ : ∃ n, shB kind = n := ⟨_, rfl⟩
  obtain ⟨nc, hnc⟩ : ∃ n, shC kind = n := ⟨_, rfl⟩
  have hna1 := shA_le kind
  have hnb1 := shB_le kind
  rw [hna] at hna1
  rw [hnb] at hnb1
  rw [hna, hnb, hnc] at HSH
  have NA := Lib.hid hna
  have NB := Lib.hid hnb
  have NC := Lib.hid hnc
  have b6 : ((kind : Int) == 6) = false := beq_eq_false_iff_ne.2 (by omega)
  have b33 : ((kind : Int) == 33) = true := beq_iff_eq.2 (by omega)
  have H6 := Lib.hid h6
  clear hst0 hb1 hb2 hb h hna hnb hnc h6 h33
  obtain ⟨Q1, hQ1⟩ : ∃ Q, many (numE a.data.toList s.size 2) nb p = Q := ⟨_, rfl⟩
  cases Q1 with
  | error z =>
    have hRe : Hid (D = .error z) := by (show _ = _; rw [← hD.out]; exact body_err1 H6.out (by rw [NB.out]; exact hQ1))
    go_enter Try.func123, Try.ntmps123
    go_wp2_with fail
    refine (HSH.out _).mono ?_
    rintro e w' ⟨rfl, rfl⟩
    go_wp2_with fail
    generalize (w.alloc (.cells #[.pointer (some ⟨r, 0, none⟩)] 89)).alloc (.cells #[.func (.func 136) #[.pointer (some ⟨r, 0, none⟩)] #[]] 147) = w0 at HST0 m1 ⊢
    obtain ⟨q, hq⟩ : ∃ q, w.heap.size = q := ⟨_, rfl⟩
    rw [hq] at HST0 ⊢
    clear hq k1 k2 m1 HSH
    have HC := Lib.hid (narrows_any a s r nb p (.error z) w0 HST0.out.rd hsa hs (by omega) (by omega) hQ1)
    refine HC.out.mono ?_
    rintro e wx ⟨rfl, hG⟩
    have HE := Lib.hid (HST0.out.gaveUp hG)
    clear hG HC
    go_wp2_with fail
    rw [hRe.out]
    exact ⟨rfl, rfl, HE.out⟩
  | ok lq1 =>
    obtain ⟨ns, p1⟩ := lq1
    have hp1 : p1 ≤ s.size := many_le (fun _ _ _ _ h => numE_end h) hp hQ1
    obtain ⟨Q2, hQ2⟩ : ∃ Q, many (nameE a.data.toList s.size kind) na p1 = Q := ⟨_, rfl⟩
    cases Q2 with
    | error z =>
      have hRe : Hid (D = .error z) := by (show _ = _; rw [← hD.out]; exact body_err2 H6.out (by rw [NB.out]; exact hQ1) (by rw [NA.out]; exact hQ2))
      go_enter Try.func123, Try.ntmps123
      go_wp2_with fail
      refine (HSH.out _).mono ?_
      rintro e w' ⟨rfl, rfl⟩
      go_wp2_with fail
      generalize (w.alloc (.cells #[.pointer (some ⟨r, 0, none⟩)] 89)).alloc (.cells #[.func (.func 136) #[.pointer (some ⟨r, 0, none⟩)] #[]] 147) = w0 at HST0 m1 ⊢
      obtain ⟨q, hq⟩ : ∃ q, w.heap.size = q := ⟨_, rfl⟩
      rw [hq] at HST0 ⊢
      clear hq k1 k2 m1 HSH
      have HC := Lib.hid (narrows_any a s r nb p (.ok (ns, p1)) w0 HST0.out.rd hsa hs (by omega) (by omega) hQ1)
      refine HC.out.mono ?_
      rintro e wx ⟨v, rfl, hO, hD, hG⟩
      obtain ⟨A2, m2, c2, rfl⟩ := row_slice hO
      have hst := HST0.out.call hD hG
      have hO1 := row_low hO HST0.out.sz
      have x5 := cell_of_row _ _ 5 _ _ _ hst.b0
      have xf : ∀ i, wx.frozen? ⟨b, i, none⟩ = false := fun i => by simp [World.frozen?, hst.b0]
      have hst2 : FillSt w (wx.setCell ⟨b, 5, none⟩ (.slice A2 m2 c2)) g r b q kind a s p1 (recC x kind l t (.slice none 0 0) (.slice A2 m2 c2) (.slice none 0 0)) := hst.set 5 (.slice A2 m2 c2)
      have HST1 := Lib.hid hst2
      have R2 := Lib.hid (hst.rowSet hO1 5 (.slice A2 m2 c2) (by decide))
      have x1 := cell_of_row _ _ 1 _ _ _ hst2.b0
      have xq := cell_of_row _ _ 0 _ _ _ hst2.ct.at0
      clear hO hD hG hst hO1 hst2 HC 
      go_wp2_with fail
      generalize wx.setCell ⟨b, 5, none⟩ (.slice A2 m2 c2) = w1 at HST1 R2  x1 xq ⊢
      clear x5 xf
      have HC := Lib.hid (boundeds_any a s r q kind na p1 (.error z) w1 HST1.out.rd HST1.out.ct (by have := HST1.out.rq; omega) (by have := HST1.out.rq; omega) hsa ha hsz (by omega) (by omega) hQ2)
      refine HC.out.mono ?_
      rintro e wx ⟨rfl, hG⟩
      have HE := Lib.hid (HST1.out.gaveUp hG)
      clear hG HC
      go_wp2_with fail
      rw [hRe.out]
      exact ⟨rfl, rfl, HE.out⟩
    | ok lq2 =>
      obtain ⟨nms, p2⟩ := lq2
      have hp2 : p2 ≤ s.size := many_le (fun _ _ _ _ h => nameE_end h) hp1 hQ2
      have hB : Hid (endE a.data.toList s.size kind nms ns p2 = D) := by (show _ = _; rw [← hD.out]; exact (body_ok H6.out (by rw [NB.out]; exact hQ1) (by rw [NA.out]; exact hQ2)).symm)
      by_cases hc : 0 < nc
      · have hci : (0 : Int) < (nc : Int) := by omega
        have hcs : 0 < shC kind := by rw [NC.out]; exact hc
        obtain ⟨Q3, hQ3⟩ : ∃ Q, textsE a.data.toList s.size kind p2 = Q := ⟨_, rfl⟩
        have HQ3 := Lib.hid hQ3
        cases Q3 with
        | error z =>
          have hRe : Hid (D = .error z) := by (show _ = _; rw [← hB.out]; exact endE_err hcs hQ3)
          clear hQ3
          go_enter Try.func123, Try.ntmps123
          go_wp2_with fail
          refine (HSH.out _).mono ?_
          rintro e w' ⟨rfl, rfl⟩
          go_wp2_with fail
          generalize (w.alloc (.cells #[.pointer (some ⟨r, 0, none⟩)] 89)).alloc (.cells #[.func (.func 136) #[.pointer (some ⟨r, 0, none⟩)] #[]] 147) = w0 at HST0 m1 ⊢
          obtain ⟨q, hq⟩ : ∃ q, w.heap.size = q := ⟨_, rfl⟩
          rw [hq] at HST0 ⊢
          clear hq k1 k2 m1 HSH
          have HC := Lib.hid (narrows_any a s r nb p (.ok (ns, p1)) w0 HST0.out.rd hsa hs (by omega) (by omega) hQ1)
          refine HC.out.mono ?_
          rintro e wx ⟨v, rfl, hO, hD, hG⟩
          obtain ⟨A2, m2, c2, rfl⟩ := row_slice hO
          have hst := HST0.out.call hD hG
          have hO1 := row_low hO HST0.out.sz
          have x5 := cell_of_row _ _ 5 _ _ _ hst.b0
          have xf : ∀ i, wx.frozen? ⟨b, i, none⟩ = false := fun i => by simp [World.frozen?, hst.b0]
          have hst2 : FillSt w (wx.setCell ⟨b, 5, none⟩ (.slice A2 m2 c2)) g r b q kind a s p1 (recC x kind l t (.slice none 0 0) (.slice A2 m2 c2) (.slice none 0 0)) := hst.set 5 (.slice A2 m2 c2)
          have HST1 := Lib.hid hst2
          have R2 := Lib.hid (hst.rowSet hO1 5 (.slice A2 m2 c2) (by decide))
          have x1 := cell_of_row _ _ 1 _ _ _ hst2.b0
          have xq := cell_of_row _ _ 0 _ _ _ hst2.ct.at0
          clear hO hD hG hst hO1 hst2 HC 
          go_wp2_with fail
          generalize wx.setCell ⟨b, 5, none⟩ (.slice A2 m2 c2) = w1 at HST1 R2  x1 xq ⊢
          clear x5 xf
          have HC := Lib.hid (boundeds_any a s r q kind na p1 (.ok (nms, p2)) w1 HST1.out.rd HST1.out.ct (by have := HST1.out.rq; omega) (by have := HST1.out.rq; omega) hsa ha hsz (by omega) (by omega) hQ2)
          refine HC.out.mono ?_
          rintro e wx ⟨v, rfl, hO, hD, hG⟩
          obtain ⟨A1, m1, c1, rfl⟩ := row_slice hO
          have hst := HST1.out.call hD hG
          have hO1 := row_low hO HST1.out.sz
          have R2a := HST1.out.rowCall R2.out hG (by decide)
          have x4 := cell_of_row _ _ 4 _ _ _ hst.b0
          have xf : ∀ i, wx.frozen? ⟨b, i, none⟩ = false := fun i => by simp [World.frozen?, hst.b0]
          have hst2 : FillSt w (wx.setCell ⟨b, 4, none⟩ (.slice A1 m1 c1)) g r b q kind a s p2 (recC x kind l t (.slice A1 m1 c1) (.slice A2 m2 c2) (.slice none 0 0)) := hst.set 4 (.slice A1 m1 c1)
          have HST2 := Lib.hid hst2
          have R1 := Lib.hid (hst.rowSet hO1 4 (.slice A1 m1 c1) (by decide))
          have R2b := Lib.hid (hst.rowSet R2a 4 (.slice A1 m1 c1) (by decide))
          have x1 := cell_of_row _ _ 1 _ _ _ hst2.b0
          have xq := cell_of_row _ _ 0 _ _ _ hst2.ct.at0
          clear hO hD hG hst hO1 hst2 HC R2a R2
          go_wp2_with fail
          generalize wx.setCell ⟨b, 4, none⟩ (.slice A1 m1 c1) = w2 at HST2 R1 R2b x1 xq ⊢
          clear x4 xf
          have R2 := R2b
          clear R2b
          have HST2d := Lib.hid HST2.out.drew
          go_region_with (go_at_call 143; refine (texts_bad HST2d.out hsa hs hp2 HQ3).mono ?_; rintro e wx (⟨rfl, hE⟩ | ⟨rfl, hF, hk0, hk1, hkf, hk6⟩); · (first | (rw [hRe.out]; exact ⟨rfl, rfl, hE.out⟩) | (go_simp; rw [hRe.out]; exact ⟨rfl, rfl, hE.out⟩)))
          all_goals exact hF.out.elim
        | ok lq3 =>
          obtain ⟨L, p3⟩ := lq3
          have hp3 : p3 ≤ s.size := textsE_end hQ3
          have hDv := hB
          clear hB
          go_enter Try.func123, Try.ntmps123
          go_wp2_with fail
          refine (HSH.out _).mono ?_
          rintro e w' ⟨rfl, rfl⟩
          go_wp2_with fail
          generalize (w.alloc (.cells #[.pointer (some ⟨r, 0, none⟩)] 89)).alloc (.cells #[.func (.func 136) #[.pointer (some ⟨r, 0, none⟩)] #[]] 147) = w0 at HST0 m1 ⊢
          obtain ⟨q, hq⟩ : ∃ q, w.heap.size = q := ⟨_, rfl⟩
          rw [hq] at HST0 ⊢
          clear hq k1 k2 m1 HSH
          have HC := Lib.hid (narrows_any a s r nb p (.ok (ns, p1)) w0 HST0.out.rd hsa hs (by omega) (by omega) hQ1)
          refine HC.out.mono ?_
          rintro e wx ⟨v, rfl, hO, hD, hG⟩
          obtain ⟨A2, m2, c2, rfl⟩ := row_slice hO
          have hst := HST0.out.call hD hG
          have hO1 := row_low hO HST0.out.sz
          have x5 := cell_of_row _ _ 5 _ _ _ hst.b0
          have xf : ∀ i, wx.frozen? ⟨b, i, none⟩ = false := fun i => by simp [World.frozen?, hst.b0]
          have hst2 : FillSt w (wx.setCell ⟨b, 5, none⟩ (.slice A2 m2 c2)) g r b q kind a s p1 (recC x kind l t (.slice none 0 0) (.slice A2 m2 c2) (.slice none 0 0)) := hst.set 5 (.slice A2 m2 c2)
          have HST1 := Lib.hid hst2
          have R2 := Lib.hid (hst.rowSet hO1 5 (.slice A2 m2 c2) (by decide))
          have x1 := cell_of_row _ _ 1 _ _ _ hst2.b0
          have xq := cell_of_row _ _ 0 _ _ _ hst2.ct.at0
          clear hO hD hG hst hO1 hst2 HC 
          go_wp2_with fail
          generalize wx.setCell ⟨b, 5, none⟩ (.slice A2 m2 c2) = w1 at HST1 R2  x1 xq ⊢
          clear x5 xf
          have HC := Lib.hid (boundeds_any a s r q kind na p1 (.ok (nms, p2)) w1 HST1.out.rd HST1.out.ct (by have := HST1.out.rq; omega) (by have := HST1.out.rq; omega) hsa ha hsz (by omega) (by omega) hQ2)
          refine HC.out.mono ?_
          rintro e wx ⟨v, rfl, hO, hD, hG⟩
          obtain ⟨A1, m1, c1, rfl⟩ := row_slice hO
          have hst := HST1.out.call hD hG
          have hO1 := row_low hO HST1.out.sz
          have R2a := HST1.out.rowCall R2.out hG (by decide)
          have x4 := cell_of_row _ _ 4 _ _ _ hst.b0
          have xf : ∀ i, wx.frozen? ⟨b, i, none⟩ = false := fun i => by simp [World.frozen?, hst.b0]
          have hst2 : FillSt w (wx.setCell ⟨b, 4, none⟩ (.slice A1 m1 c1)) g r b q kind a s p2 (recC x kind l t (.slice A1 m1 c1) (.slice A2 m2 c2) (.slice none 0 0)) := hst.set 4 (.slice A1 m1 c1)
          have HST2 := Lib.hid hst2
          have R1 := Lib.hid (hst.rowSet hO1 4 (.slice A1 m1 c1) (by decide))
          have R2b := Lib.hid (hst.rowSet R2a 4 (.slice A1 m1 c1) (by decide))
          have x1 := cell_of_row _ _ 1 _ _ _ hst2.b0
          have xq := cell_of_row _ _ 0 _ _ _ hst2.ct.at0
          clear hO hD hG hst hO1 hst2 HC R2a R2
          go_wp2_with fail
          generalize wx.setCell ⟨b, 4, none⟩ (.slice A1 m1 c1) = w2 at HST2 R1 R2b x1 xq ⊢
          clear x4 xf
          have R2 := R2b
          clear R2b
          have HST2d := Lib.hid HST2.out.drew
          have R1d : Hid (w2.drew.ownsRow g 9 1 (.slice A1 m1 c1) nms.length (strCs nms)) := R1.out
          have R2d : Hid (w2.drew.ownsRow g 50 1 (.slice A2 m2 c2) ns.length (numCs ns)) := R2.out
          go_region_held3 (fun w' => w'.cell? ⟨q, 0, none⟩ = some (.pointer (some ⟨r, 0, none⟩)) ∧ w'.cell? ⟨b, 1, none⟩ = some (.int .u16 kind)) (first | go_keep | exact ⟨cell_of_row _ _ 0 _ _ _ (hT.out.st.set 6 (.slice A3 m3 c3)).ct.at0, cell_of_row _ _ 1 _ _ _ (hT.out.st.set 6 (.slice A3 m3 c3)).b0⟩) (first | (go_at_call 143; refine (texts_good HST2d.out hsa hs hp2 HQ3).mono ?_; rintro e wx ⟨A3, m3, c3, rfl, hk0, hk1, hkf, hk6, hT⟩))
          have R1e := HST2d.out.rowCall R1d.out hT.out.gr (by decide)
          have R2e := HST2d.out.rowCall R2d.out hT.out.gr (by decide)
          have HST3 := Lib.hid (hT.out.st.set 6 (.slice A3 m3 c3))
          have R1 := Lib.hid (hT.out.st.rowSet R1e 6 (.slice A3 m3 c3) (by decide))
          have R2 := Lib.hid (hT.out.st.rowSet R2e 6 (.slice A3 m3 c3) (by decide))
          have R3 := Lib.hid (hT.out.st.rowSet hT.out.row 6 (.slice A3 m3 c3) (by decide))
          have xq := cell_of_row _ _ 0 _ _ _ HST3.out.ct.at0
          have HL := Lib.hid (left_any a s r p3 50 _ HST3.out.rd hp3 hs)
          clear R1e R2e hk0 hk1 hkf hk6 hT
          go_wp2_with fail
          generalize wx.setCell ⟨b, 6, none⟩ (.slice A3 m3 c3) = w3 at HST3 R1 R2 R3 HL xq ⊢
          by_cases hlt : p3 < s.size
          · have hRe : Hid (D = .error 50) := by (show _ = _; rw [← hDv.out]; exact endE_left hcs HQ3.out hlt)
            have hpos : (0 : Int) < (s.size : Int) - p3 := by omega
            refine HL.out.mono ?_
            rintro e wl ⟨rfl, m, rfl⟩
            have HE := Lib.hid (HST3.out.drewN m)
            clear HL hDv
            go_wp2_with fail
            rw [hRe.out]
            exact ⟨rfl, rfl, HE.out.bl⟩
          · have hRe : Hid (D = .ok ⟨nms, ns, L⟩) := by (show _ = _; rw [← hDv.out]; exact endE_ok hcs HQ3.out hlt)
            have hpos : ¬ ((0 : Int) < (s.size : Int) - p3) := by omega
            refine HL.out.mono ?_
            rintro e wl ⟨rfl, m, rfl⟩
            have HE := Lib.hid (HST3.out.drewN m)
            clear HL hDv
            go_wp2_with fail
            go_end0
            rw [hRe.out]
            exact ⟨_, _, _, rfl, HE.out.b0, R1.out, R2.out, R3.out, HE.out.bl⟩
      · have hci : ¬ ((0 : Int) < (nc : Int)) := by omega
        have hcs : shC kind = 0 := by rw [NC.out]; omega
        go_enter Try.func123, Try.ntmps123
        go_wp2_with fail
        refine (HSH.out _).mono ?_
        rintro e w' ⟨rfl, rfl⟩
        go_wp2_with fail
        generalize (w.alloc (.cells #[.pointer (some ⟨r, 0, none⟩)] 89)).alloc (.cells #[.func (.func 136) #[.pointer (some ⟨r, 0, none⟩)] #[]] 147) = w0 at HST0 m1 ⊢
        obtain ⟨q, hq⟩ : ∃ q, w.heap.size = q := ⟨_, rfl⟩
        rw [hq] at HST0 ⊢
        clear hq k1 k2 m1 HSH
        have HC := Lib.hid (narrows_any a s r nb p (.ok (ns, p1)) w0 HST0.out.rd hsa hs (by omega) (by omega) hQ1)
        refine HC.out.mono ?_
        rintro e wx ⟨v, rfl, hO, hD, hG⟩
        obtain ⟨A2, m2, c2, rfl⟩ := row_slice hO
        have hst := HST0.out.call hD hG
        have hO1 := row_low hO HST0.out.sz
        have x5 := cell_of_row _ _ 5 _ _ _ hst.b0
        have xf : ∀ i, wx.frozen? ⟨b, i, none⟩ = false := fun i => by simp [World.frozen?, hst.b0]
        have hst2 : FillSt w (wx.setCell ⟨b, 5, none⟩ (.slice A2 m2 c2)) g r b q kind a s p1 (recC x kind l t (.slice none 0 0) (.slice A2 m2 c2) (.slice none 0 0)) := hst.set 5 (.slice A2 m2 c2)
        have HST1 := Lib.hid hst2
        have R2 := Lib.hid (hst.rowSet hO1 5 (.slice A2 m2 c2) (by decide))
        have x1 := cell_of_row _ _ 1 _ _ _ hst2.b0
        have xq := cell_of_row _ _ 0 _ _ _ hst2.ct.at0
        clear hO hD hG hst hO1 hst2 HC 
        go_wp2_with fail
        generalize wx.setCell ⟨b, 5, none⟩ (.slice A2 m2 c2) = w1 at HST1 R2  x1 xq ⊢
        clear x5 xf
        have HC := Lib.hid (boundeds_any a s r q kind na p1 (.ok (nms, p2)) w1 HST1.out.rd HST1.out.ct (by have := HST1.out.rq; omega) (by have := HST1.out.rq; omega) hsa ha hsz (by omega) (by omega) hQ2)
        refine HC.out.mono ?_
        rintro e wx ⟨v, rfl, hO, hD, hG⟩
        obtain ⟨A1, m1, c1, rfl⟩ := row_slice hO
        have hst := HST1.out.call hD hG
        have hO1 := row_low hO HST1.out.sz
        have R2a := HST1.out.rowCall R2.out hG (by decide)
        have x4 := cell_of_row _ _ 4 _ _ _ hst.b0
        have xf : ∀ i, wx.frozen? ⟨b, i, none⟩ = false := fun i => by simp [World.frozen?, hst.b0]
        have hst2 : FillSt w (wx.setCell ⟨b, 4, none⟩ (.slice A1 m1 c1)) g r b q kind a s p2 (recC x kind l t (.slice A1 m1 c1) (.slice A2 m2 c2) (.slice none 0 0)) := hst.set 4 (.slice A1 m1 c1)
        have HST2 := Lib.hid hst2
        have R1 := Lib.hid (hst.rowSet hO1 4 (.slice A1 m1 c1) (by decide))
        have R2b := Lib.hid (hst.rowSet R2a 4 (.slice A1 m1 c1) (by decide))
        have x1 := cell_of_row _ _ 1 _ _ _ hst2.b0
        have xq := cell_of_row _ _ 0 _ _ _ hst2.ct.at0
        clear hO hD hG hst hO1 hst2 HC R2a R2
        go_wp2_with fail
        generalize wx.setCell ⟨b, 4, none⟩ (.slice A1 m1 c1) = w2 at HST2 R1 R2b x1 xq ⊢
        clear x4 xf
        have R2 := R2b
        clear R2b
        have HL := Lib.hid (left_any a s r p2 50 w2 HST2.out.rd hp2 hs)
        by_cases hlt : p2 < s.size
        · have hRe : Hid (D = .error 50) := by (show _ = _; exact (by rw [← hB.out]; exact endE_none_left hcs hlt))
          have hpos : (0 : Int) < (s.size : Int) - p2 := by omega
          refine HL.out.mono ?_
          rintro e wl ⟨rfl, m, rfl⟩
          have HE := Lib.hid (HST2.out.drewN m)
          clear HL
          go_wp2_with fail
          rw [hRe.out]
          exact ⟨rfl, rfl, HE.out.bl⟩
        · have hRe : Hid (D = .ok ⟨nms, ns, []⟩) := by (show _ = _; exact (by rw [← hB.out]; exact endE_none hcs hlt))
          have hpos : ¬ ((0 : Int) < (s.size : Int) - p2) := by omega
          refine HL.out.mono ?_
          rintro e wl ⟨rfl, m, rfl⟩
          have HE := Lib.hid (HST2.out.drewN m)
          clear HL
          go_wp2_with fail
          go_end0
          rw [hRe.out]
          exact ⟨_, _, _, rfl, HE.out.b0, R1.out, R2.out, World.ownsRow_nil _ _ _ _, HE.out.bl⟩
end Go.Proofs.Ytpmmjmnleoicjaa

/- The contract of a message's reader: a record's data is put into it: SOA. For texts of at most 10^6 bytes. -/
namespace Go.Proofs.Ytpmmjmnleoicjaa
open Go.RowKit NumMath NmMath Bytes Strs Nums MsgMath RecMath DatMath

set_option maxHeartbeats 4000000 in
set_option maxRecDepth 100000 in
theorem fill_soa (a s x : ByteArray) (r b g kind l t p : Nat) (D : Except Nat Body) (w : World) (h : RdrAt w r a s (p : Int) 50) (hb : w.heap[b]? = some (.cells (recC x kind l t (.slice none 0 0) (.slice none 0 0) (.slice none 0 0)) 60 (0, 0))) (hgr : g ≤ r) (hgb : g ≤ b) (hrb : r ≠ b)
    (hsa : Hid (s.data.toList = a.data.toList.take s.size)) (ha : a.size ≤ 1000000) (hsz : s.size ≤ a.size) (hp : p ≤ s.size) (h6 : kind = 6) (h33 : kind ≠ 33) (hD : Hid (bodyE a.data.toList s.size kind p = D)) :
    Calls Try.prog 123 #[.pointer (some ⟨r, 0, none⟩), .pointer (some ⟨b, 0, none⟩)] w (FillEnd w g b x kind l t D) := by
  have hbl : b < w.heap.size := by
    rcases Nat.lt_or_ge b w.heap.size with hlt | hge
    · exact hlt
    · rw [Array.getElem?_eq_none hge] at hb; cases hb
  have hs : s.size ≤ 1000000 := by omega
  have HSH := Lib.hid (fun w => shape_is kind (shA kind) (shB kind) (shC kind) w rfl rfl rfl)
  have hst0 := fillSt_start w g r b kind a s p _ (.func (.func 121) #[.pointer (some ⟨r, 0, none⟩)] #[]) (by unfold namer; first | rw [if_neg h33] | rw [if_pos h33]) h hb hgr hgb hrb hbl
  have hb1 : (w.alloc (.cells #[.pointer (some ⟨r, 0, none⟩)] 89)).heap[b]? = some (.cells (recC x kind l t (.slice none 0 0) (.slice none 0 0) (.slice none 0 0)) 60 (0, 0)) := old_at hb
  have hb2 : ((w.alloc (.cells #[.pointer (some ⟨r, 0, none⟩)] 89)).alloc (.cells #[.func (.func 121) #[.pointer (some ⟨r, 0, none⟩)] #[]] 147)).heap[b]? = some (.cells (recC x kind l t (.slice none 0 0) (.slice none 0 0) (.slice none 0 0)) 60 (0, 0)) := old_at hb1
  have k1 := cell_of_row _ _ 1 _ _ _ hb1
  have k2 := cell_of_row _ _ 1 _ _ _ hb2
  have m1 := cell_of_row _ _ 1 _ _ _ hst0.b0
  have HST0 := Lib.hid hst0
  obtain ⟨na, hna⟩ : ∃ n, shA kind = n := ⟨_, rfl⟩
  obtain ⟨nb, hnb⟩ : ∃ n, shB kind = n := ⟨_, rfl⟩
  obtain ⟨nc, hnc⟩ : ∃ n, shC kind = n := ⟨_, rfl⟩
  have hna1 := shA_le kind
  have hnb1 := shB_le kind
  rw [hna] at hna1
  rw [hnb] at hnb1
  rw [hna, hnb, hnc] at HSH
  have NA := Lib.hid hna
  have NB := Lib.hid hnb
  have NC := Lib.hid hnc
  have b6 : ((kind : Int) == 6) = true := beq_iff_eq.2 (by omega)
  have b33 : ((kind : Int) == 33) = false := beq_eq_false_iff_ne.2 (by omega)
  have H6 := Lib.hid h6
  clear hst0 hb1 hb2 hb h hna hnb hnc h6 h33
  obtain ⟨Q1, hQ1⟩ : ∃ Q, many (nameE a.data.toList s.size kind) na p = Q := ⟨_, rfl⟩
  cases Q1 with
  | error z =>
    have hRe : Hid (D = .error z) := by (show _ = _; rw [← hD.out]; exact body_err16 H6.out (by rw [NA.out]; exact hQ1))
    go_enter Try.func123, Try.ntmps123
    go_wp2_with fail
    refine (HSH.out _).mono ?_
    rintro e w' ⟨rfl, rfl⟩
    go_wp2_with fail
    generalize (w.alloc (.cells #[.pointer (some ⟨r, 0, none⟩)] 89)).alloc (.cells #[.func (.func 121) #[.pointer (some ⟨r, 0, none⟩)] #[]] 147) = w0 at HST0 m1 ⊢
    obtain ⟨q, hq⟩ : ∃ q, w.heap.size = q := ⟨_, rfl⟩
    rw [hq] at HST0 ⊢
    clear hq k1 k2 m1 HSH
    have HC := Lib.hid (boundeds_any a s r q kind na p (.error z) w0 HST0.out.rd HST0.out.ct (by have := HST0.out.rq; omega) (by have := HST0.out.rq; omega) hsa ha hsz (by omega) (by omega) hQ1)
    refine HC.out.mono ?_
    rintro e wx ⟨rfl, hG⟩
    have HE := Lib.hid (HST0.out.gaveUp hG)
    clear hG HC
    go_wp2_with fail
    rw [hRe.out]
    exact ⟨rfl, rfl, HE.out⟩
  | ok lq1 =>
    obtain ⟨nms, p1⟩ := lq1
    have hp1 : p1 ≤ s.size := many_le (fun _ _ _ _ h => nameE_end h) hp hQ1
    obtain ⟨Q2, hQ2⟩ : ∃ Q, many (numE a.data.toList s.size 4) nb p1 = Q := ⟨_, rfl⟩
    cases Q2 with
    | error z =>
      have hRe : Hid (D = .error z) := by (show _ = _; rw [← hD.out]; exact body_err26 H6.out (by rw [NA.out]; exact hQ1) (by rw [NB.out]; exact hQ2))
      go_enter Try.func123, Try.ntmps123
      go_wp2_with fail
      refine (HSH.out _).mono ?_
      rintro e w' ⟨rfl, rfl⟩
      go_wp2_with fail
      generalize (w.alloc (.cells #[.pointer (some ⟨r, 0, none⟩)] 89)).alloc (.cells #[.func (.func 121) #[.pointer (some ⟨r, 0, none⟩)] #[]] 147) = w0 at HST0 m1 ⊢
      obtain ⟨q, hq⟩ : ∃ q, w.heap.size = q := ⟨_, rfl⟩
      rw [hq] at HST0 ⊢
      clear hq k1 k2 m1 HSH
      have HC := Lib.hid (boundeds_any a s r q kind na p (.ok (nms, p1)) w0 HST0.out.rd HST0.out.ct (by have := HST0.out.rq; omega) (by have := HST0.out.rq; omega) hsa ha hsz (by omega) (by omega) hQ1)
      refine HC.out.mono ?_
      rintro e wx ⟨v, rfl, hO, hD, hG⟩
      obtain ⟨A1, m1, c1, rfl⟩ := row_slice hO
      have hst := HST0.out.call hD hG
      have hO1 := row_low hO HST0.out.sz
      have x4 := cell_of_row _ _ 4 _ _ _ hst.b0
      have xf : ∀ i, wx.frozen? ⟨b, i, none⟩ = false := fun i => by simp [World.frozen?, hst.b0]
      have hst2 : FillSt w (wx.setCell ⟨b, 4, none⟩ (.slice A1 m1 c1)) g r b q kind a s p1 (recC x kind l t (.slice A1 m1 c1) (.slice none 0 0) (.slice none 0 0)) := hst.set 4 (.slice A1 m1 c1)
      have HST1 := Lib.hid hst2
      have R1 := Lib.hid (hst.rowSet hO1 4 (.slice A1 m1 c1) (by decide))
      have x1 := cell_of_row _ _ 1 _ _ _ hst2.b0
      have xq := cell_of_row _ _ 0 _ _ _ hst2.ct.at0
      clear hO hD hG hst hO1 hst2 HC 
      go_wp2_with fail
      generalize wx.setCell ⟨b, 4, none⟩ (.slice A1 m1 c1) = w1 at HST1 R1  x1 xq ⊢
      clear x4 xf
      have HC := Lib.hid (wides_any a s r nb p1 (.error z) w1 HST1.out.rd hsa hs (by omega) (by omega) hQ2)
      refine HC.out.mono ?_
      rintro e wx ⟨rfl, hG⟩
      have HE := Lib.hid (HST1.out.gaveUp hG)
      clear hG HC
      go_wp2_with fail
      rw [hRe.out]
      exact ⟨rfl, rfl, HE.out⟩
    | ok lq2 =>
      obtain ⟨ns, p2⟩ := lq2
      have hp2 : p2 ≤ s.size := many_le (fun _ _ _ _ h => numE_end h) hp1 hQ2
      have hB : Hid (endE a.data.toList s.size kind nms ns p2 = D) := by (show _ = _; rw [← hD.out]; exact (body_ok6 H6.out (by rw [NA.out]; exact hQ1) (by rw [NB.out]; exact hQ2)).symm)
      by_cases hc : 0 < nc
      · have hci : (0 : Int) < (nc : Int) := by omega
        have hcs : 0 < shC kind := by rw [NC.out]; exact hc
        obtain ⟨Q3, hQ3⟩ : ∃ Q, textsE a.data.toList s.size kind p2 = Q := ⟨_, rfl⟩
        have HQ3 := Lib.hid hQ3
        cases Q3 with
        | error z =>
          have hRe : Hid (D = .error z) := by (show _ = _; rw [← hB.out]; exact endE_err hcs hQ3)
          clear hQ3
          go_enter Try.func123, Try.ntmps123
          go_wp2_with fail
          refine (HSH.out _).mono ?_
          rintro e w' ⟨rfl, rfl⟩
          go_wp2_with fail
          generalize (w.alloc (.cells #[.pointer (some ⟨r, 0, none⟩)] 89)).alloc (.cells #[.func (.func 121) #[.pointer (some ⟨r, 0, none⟩)] #[]] 147) = w0 at HST0 m1 ⊢
          obtain ⟨q, hq⟩ : ∃ q, w.heap.size = q := ⟨_, rfl⟩
          rw [hq] at HST0 ⊢
          clear hq k1 k2 m1 HSH
          have HC := Lib.hid (boundeds_any a s r q kind na p (.ok (nms, p1)) w0 HST0.out.rd HST0.out.ct (by have := HST0.out.rq; omega) (by have := HST0.out.rq; omega) hsa ha hsz (by omega) (by omega) hQ1)
          refine HC.out.mono ?_
          rintro e wx ⟨v, rfl, hO, hD, hG⟩
          obtain ⟨A1, m1, c1, rfl⟩ := row_slice hO
          have hst := HST0.out.call hD hG
          have hO1 := row_low hO HST0.out.sz
          have x4 := cell_of_row _ _ 4 _ _ _ hst.b0
          have xf : ∀ i, wx.frozen? ⟨b, i, none⟩ = false := fun i => by simp [World.frozen?, hst.b0]
          have hst2 : FillSt w (wx.setCell ⟨b, 4, none⟩ (.slice A1 m1 c1)) g r b q kind a s p1 (recC x kind l t (.slice A1 m1 c1) (.slice none 0 0) (.slice none 0 0)) := hst.set 4 (.slice A1 m1 c1)
          have HST1 := Lib.hid hst2
          have R1 := Lib.hid (hst.rowSet hO1 4 (.slice A1 m1 c1) (by decide))
          have x1 := cell_of_row _ _ 1 _ _ _ hst2.b0
          have xq := cell_of_row _ _ 0 _ _ _ hst2.ct.at0
          clear hO hD hG hst hO1 hst2 HC 
          go_wp2_with fail
          generalize wx.setCell ⟨b, 4, none⟩ (.slice A1 m1 c1) = w1 at HST1 R1  x1 xq ⊢
          clear x4 xf
          have HC := Lib.hid (wides_any a s r nb p1 (.ok (ns, p2)) w1 HST1.out.rd hsa hs (by omega) (by omega) hQ2)
          refine HC.out.mono ?_
          rintro e wx ⟨v, rfl, hO, hD, hG⟩
          obtain ⟨A2, m2, c2, rfl⟩ := row_slice hO
          have hst := HST1.out.call hD hG
          have hO1 := row_low hO HST1.out.sz
          have R1a := HST1.out.rowCall R1.out hG (by decide)
          have x5 := cell_of_row _ _ 5 _ _ _ hst.b0
          have xf : ∀ i, wx.frozen? ⟨b, i, none⟩ = false := fun i => by simp [World.frozen?, hst.b0]
          have hst2 : FillSt w (wx.setCell ⟨b, 5, none⟩ (.slice A2 m2 c2)) g r b q kind a s p2 (recC x kind l t (.slice A1 m1 c1) (.slice A2 m2 c2) (.slice none 0 0)) := hst.set 5 (.slice A2 m2 c2)
          have HST2 := Lib.hid hst2
          have R2 := Lib.hid (hst.rowSet hO1 5 (.slice A2 m2 c2) (by decide))
          have R1b := Lib.hid (hst.rowSet R1a 5 (.slice A2 m2 c2) (by decide))
          have x1 := cell_of_row _ _ 1 _ _ _ hst2.b0
          have xq := cell_of_row _ _ 0 _ _ _ hst2.ct.at0
          clear hO hD hG hst hO1 hst2 HC R1a R1
          go_wp2_with fail
          generalize wx.setCell ⟨b, 5, none⟩ (.slice A2 m2 c2) = w2 at HST2 R2 R1b x1 xq ⊢
          clear x5 xf
          have R1 := R1b
          clear R1b
          have HST2d := Lib.hid HST2.out.drew
          go_region_with (go_at_call 143; refine (texts_bad HST2d.out hsa hs hp2 HQ3).mono ?_; rintro e wx (⟨rfl, hE⟩ | ⟨rfl, hF, hk0, hk1, hkf, hk6⟩); · (first | (rw [hRe.out]; exact ⟨rfl, rfl, hE.out⟩) | (go_simp; rw [hRe.out]; exact ⟨rfl, rfl, hE.out⟩)))
          all_goals exact hF.out.elim
        | ok lq3 =>
          obtain ⟨L, p3⟩ := lq3
          have hp3 : p3 ≤ s.size := textsE_end hQ3
          have hDv := hB
          clear hB
          go_enter Try.func123, Try.ntmps123
          go_wp2_with fail
          refine (HSH.out _).mono ?_
          rintro e w' ⟨rfl, rfl⟩
          go_wp2_with fail
          generalize (w.alloc (.cells #[.pointer (some ⟨r, 0, none⟩)] 89)).alloc (.cells #[.func (.func 121) #[.pointer (some ⟨r, 0, none⟩)] #[]] 147) = w0 at HST0 m1 ⊢
          obtain ⟨q, hq⟩ : ∃ q, w.heap.size = q := ⟨_, rfl⟩
          rw [hq] at HST0 ⊢
          clear hq k1 k2 m1 HSH
          have HC := Lib.hid (boundeds_any a s r q kind na p (.ok (nms, p1)) w0 HST0.out.rd HST0.out.ct (by have := HST0.out.rq; omega) (by have := HST0.out.rq; omega) hsa ha hsz (by omega) (by omega) hQ1)
          refine HC.out.mono ?_
          rintro e wx ⟨v, rfl, hO, hD, hG⟩
          obtain ⟨A1, m1, c1, rfl⟩ := row_slice hO
          have hst := HST0.out.call hD hG
          have hO1 := row_low hO HST0.out.sz
          have x4 := cell_of_row _ _ 4 _ _ _ hst.b0
          have xf : ∀ i, wx.frozen? ⟨b, i, none⟩ = false := fun i => by simp [World.frozen?, hst.b0]
          have hst2 : FillSt w (wx.setCell ⟨b, 4, none⟩ (.slice A1 m1 c1)) g r b q kind a s p1 (recC x kind l t (.slice A1 m1 c1) (.slice none 0 0) (.slice none 0 0)) := hst.set 4 (.slice A1 m1 c1)
          have HST1 := Lib.hid hst2
          have R1 := Lib.hid (hst.rowSet hO1 4 (.slice A1 m1 c1) (by decide))
          have x1 := cell_of_row _ _ 1 _ _ _ hst2.b0
          have xq := cell_of_row _ _ 0 _ _ _ hst2.ct.at0
          clear hO hD hG hst hO1 hst2 HC 
          go_wp2_with fail
          generalize wx.setCell ⟨b, 4, none⟩ (.slice A1 m1 c1) = w1 at HST1 R1  x1 xq ⊢
          clear x4 xf
          have HC := Lib.hid (wides_any a s r nb p1 (.ok (ns, p2)) w1 HST1.out.rd hsa hs (by omega) (by omega) hQ2)
          refine HC.out.mono ?_
          rintro e wx ⟨v, rfl, hO, hD, hG⟩
          obtain ⟨A2, m2, c2, rfl⟩ := row_slice hO
          have hst := HST1.out.call hD hG
          have hO1 := row_low hO HST1.out.sz
          have R1a := HST1.out.rowCall R1.out hG (by decide)
          have x5 := cell_of_row _ _ 5 _ _ _ hst.b0
          have xf : ∀ i, wx.frozen? ⟨b, i, none⟩ = false := fun i => by simp [World.frozen?, hst.b0]
          have hst2 : FillSt w (wx.setCell ⟨b, 5, none⟩ (.slice A2 m2 c2)) g r b q kind a s p2 (recC x kind l t (.slice A1 m1 c1) (.slice A2 m2 c2) (.slice none 0 0)) := hst.set 5 (.slice A2 m2 c2)
          have HST2 := Lib.hid hst2
          have R2 := Lib.hid (hst.rowSet hO1 5 (.slice A2 m2 c2) (by decide))
          have R1b := Lib.hid (hst.rowSet R1a 5 (.slice A2 m2 c2) (by decide))
          have x1 := cell_of_row _ _ 1 _ _ _ hst2.b0
          have xq := cell_of_row _ _ 0 _ _ _ hst2.ct.at0
          clear hO hD hG hst hO1 hst2 HC R1a R1
          go_wp2_with fail
          generalize wx.setCell ⟨b, 5, none⟩ (.slice A2 m2 c2) = w2 at HST2 R2 R1b x1 xq ⊢
          clear x5 xf
          have R1 := R1b
          clear R1b
          have HST2d := Lib.hid HST2.out.drew
          have R1d : Hid (w2.drew.ownsRow g 9 1 (.slice A1 m1 c1) nms.length (strCs nms)) := R1.out
          have R2d : Hid (w2.drew.ownsRow g 50 1 (.slice A2 m2 c2) ns.length (numCs ns)) := R2.out
          go_region_held3 (fun w' => w'.cell? ⟨q, 0, none⟩ = some (.pointer (some ⟨r, 0, none⟩)) ∧ w'.cell? ⟨b, 1, none⟩ = some (.int .u16 kind)) (first | go_keep | exact ⟨cell_of_row _ _ 0 _ _ _ (hT.out.st.set 6 (.slice A3 m3 c3)).ct.at0, cell_of_row _ _ 1 _ _ _ (hT.out.st.set 6 (.slice A3 m3 c3)).b0⟩) (first | (go_at_call 143; refine (texts_good HST2d.out hsa hs hp2 HQ3).mono ?_; rintro e wx ⟨A3, m3, c3, rfl, hk0, hk1, hkf, hk6, hT⟩))
          have R1e := HST2d.out.rowCall R1d.out hT.out.gr (by decide)
          have R2e := HST2d.out.rowCall R2d.out hT.out.gr (by decide)
          have HST3 := Lib.hid (hT.out.st.set 6 (.slice A3 m3 c3))
          have R1 := Lib.hid (hT.out.st.rowSet R1e 6 (.slice A3 m3 c3) (by decide))
          have R2 := Lib.hid (hT.out.st.rowSet R2e 6 (.slice A3 m3 c3) (by decide))
          have R3 := Lib.hid (hT.out.st.rowSet hT.out.row 6 (.slice A3 m3 c3) (by decide))
          have xq := cell_of_row _ _ 0 _ _ _ HST3.out.ct.at0
          have HL := Lib.hid (left_any a s r p3 50 _ HST3.out.rd hp3 hs)
          clear R1e R2e hk0 hk1 hkf hk6 hT
          go_wp2_with fail
          generalize wx.setCell ⟨b, 6, none⟩ (.slice A3 m3 c3) = w3 at HST3 R1 R2 R3 HL xq ⊢
          by_cases hlt : p3 < s.size
          · have hRe : Hid (D = .error 50) := by (show _ = _; rw [← hDv.out]; exact endE_left hcs HQ3.out hlt)
            have hpos : (0 : Int) < (s.size : Int) - p3 := by omega
            refine HL.out.mono ?_
            rintro e wl ⟨rfl, m, rfl⟩
            have HE := Lib.hid (HST3.out.drewN m)
            clear HL hDv
            go_wp2_with fail
            rw [hRe.out]
            exact ⟨rfl, rfl, HE.out.bl⟩
          · have hRe : Hid (D = .ok ⟨nms, ns, L⟩) := by (show _ = _; rw [← hDv.out]; exact endE_ok hcs HQ3.out hlt)
            have hpos : ¬ ((0 : Int) < (s.size : Int) - p3) := by omega
            refine HL.out.mono ?_
            rintro e wl ⟨rfl, m, rfl⟩
            have HE := Lib.hid (HST3.out.drewN m)
            clear HL hDv
            go_wp2_with fail
            go_end0
            rw [hRe.out]
            exact ⟨_, _, _, rfl, HE.out.b0, R1.out, R2.out, R3.out, HE.out.bl⟩
      · have hci : ¬ ((0 : Int) < (nc : Int)) := by omega
        have hcs : shC kind = 0 := by rw [NC.out]; omega
        go_enter Try.func123, Try.ntmps123
        go_wp2_with fail
        refine (HSH.out _).mono ?_
        rintro e w' ⟨rfl, rfl⟩
        go_wp2_with fail
        generalize (w.alloc (.cells #[.pointer (some ⟨r, 0, none⟩)] 89)).alloc (.cells #[.func (.func 121) #[.pointer (some ⟨r, 0, none⟩)] #[]] 147) = w0 at HST0 m1 ⊢
        obtain ⟨q, hq⟩ : ∃ q, w.heap.size = q := ⟨_, rfl⟩
        rw [hq] at HST0 ⊢
        clear hq k1 k2 m1 HSH
        have HC := Lib.hid (boundeds_any a s r q kind na p (.ok (nms, p1)) w0 HST0.out.rd HST0.out.ct (by have := HST0.out.rq; omega) (by have := HST0.out.rq; omega) hsa ha hsz (by omega) (by omega) hQ1)
        refine HC.out.mono ?_
        rintro e wx ⟨v, rfl, hO, hD, hG⟩
        obtain ⟨A1, m1, c1, rfl⟩ := row_slice hO
        have hst := HST0.out.call hD hG
        have hO1 := row_low hO HST0.out.sz
        have x4 := cell_of_row _ _ 4 _ _ _ hst.b0
        have xf : ∀ i, wx.frozen? ⟨b, i, none⟩ = false := fun i => by simp [World.frozen?, hst.b0]
        have hst2 : FillSt w (wx.setCell ⟨b, 4, none⟩ (.slice A1 m1 c1)) g r b q kind a s p1 (recC x kind l t (.slice A1 m1 c1) (.slice none 0 0) (.slice none 0 0)) := hst.set 4 (.slice A1 m1 c1)
        have HST1 := Lib.hid hst2
        have R1 := Lib.hid (hst.rowSet hO1 4 (.slice A1 m1 c1) (by decide))
        have x1 := cell_of_row _ _ 1 _ _ _ hst2.b0
        have xq := cell_of_row _ _ 0 _ _ _ hst2.ct.at0
        clear hO hD hG hst hO1 hst2 HC 
        go_wp2_with fail
        generalize wx.setCell ⟨b, 4, none⟩ (.slice A1 m1 c1) = w1 at HST1 R1  x1 xq ⊢
        clear x4 xf
        have HC := Lib.hid (wides_any a s r nb p1 (.ok (ns, p2)) w1 HST1.out.rd hsa hs (by omega) (by omega) hQ2)
        refine HC.out.mono ?_
        rintro e wx ⟨v, rfl, hO, hD, hG⟩
        obtain ⟨A2, m2, c2, rfl⟩ := row_slice hO
        have hst := HST1.out.call hD hG
        have hO1 := row_low hO HST1.out.sz
        have R1a := HST1.out.rowCall R1.out hG (by decide)
        have x5 := cell_of_row _ _ 5 _ _ _ hst.b0
        have xf : ∀ i, wx.frozen? ⟨b, i, none⟩ = false := fun i => by simp [World.frozen?, hst.b0]
        have hst2 : FillSt w (wx.setCell ⟨b, 5, none⟩ (.slice A2 m2 c2)) g r b q kind a s p2 (recC x kind l t (.slice A1 m1 c1) (.slice A2 m2 c2) (.slice none 0 0)) := hst.set 5 (.slice A2 m2 c2)
        have HST2 := Lib.hid hst2
        have R2 := Lib.hid (hst.rowSet hO1 5 (.slice A2 m2 c2) (by decide))
        have R1b := Lib.hid (hst.rowSet R1a 5 (.slice A2 m2 c2) (by decide))
        have x1 := cell_of_row _ _ 1 _ _ _ hst2.b0
        have xq := cell_of_row _ _ 0 _ _ _ hst2.ct.at0
        clear hO hD hG hst hO1 hst2 HC R1a R1
        go_wp2_with fail
        generalize wx.setCell ⟨b, 5, none⟩ (.slice A2 m2 c2) = w2 at HST2 R2 R1b x1 xq ⊢
        clear x5 xf
        have R1 := R1b
        clear R1b
        have HL := Lib.hid (left_any a s r p2 50 w2 HST2.out.rd hp2 hs)
        by_cases hlt : p2 < s.size
        · have hRe : Hid (D = .error 50) := by (show _ = _; exact (by rw [← hB.out]; exact endE_none_left hcs hlt))
          have hpos : (0 : Int) < (s.size : Int) - p2 := by omega
          refine HL.out.mono ?_
          rintro e wl ⟨rfl, m, rfl⟩
          have HE := Lib.hid (HST2.out.drewN m)
          clear HL
          go_wp2_with fail
          rw [hRe.out]
          exact ⟨rfl, rfl, HE.out.bl⟩
        · have hRe : Hid (D = .ok ⟨nms, ns, []⟩) := by (show _ = _; exact (by rw [← hB.out]; exact endE_none hcs hlt))
          have hpos : ¬ ((0 : Int) < (s.size : Int) - p2) := by omega
          refine HL.out.mono ?_
          rintro e wl ⟨rfl, m, rfl⟩
          have HE := Lib.hid (HST2.out.drewN m)
          clear HL
          go_wp2_with fail
          go_end0
          rw [hRe.out]
          exact ⟨_, _, _, rfl, HE.out.b0, R1.out, R2.out, World.ownsRow_nil _ _ _ _, HE.out.bl⟩
end Go.Proofs.Ytpmmjmnleoicjaa

/- The contract of a message's reader: the next record. For texts of at most 10^6 bytes. -/
namespace Go.Proofs.Ytpmmjmnleoicjaa
open Go.RowKit NumMath NmMath Bytes Strs Nums MsgMath RecMath DatMath

theorem fill_any (a s x : ByteArray) (r b g kind l t p : Nat) (D : Except Nat Body) (w : World) (h : RdrAt w r a s (p : Int) 50) (hb : w.heap[b]? = some (.cells (recC x kind l t (.slice none 0 0) (.slice none 0 0) (.slice none 0 0)) 60 (0, 0))) (hgr : g ≤ r) (hgb : g ≤ b) (hrb : r ≠ b)
    (hsa : Hid (s.data.toList = a.data.toList.take s.size)) (ha : a.size ≤ 1000000) (hsz : s.size ≤ a.size) (hp : p ≤ s.size) (hD : Hid (bodyE a.data.toList s.size kind p = D)) :
    Calls Try.prog 123 #[.pointer (some ⟨r, 0, none⟩), .pointer (some ⟨b, 0, none⟩)] w (FillEnd w g b x kind l t D) := by
  by_cases h6 : kind = 6
  · exact fill_soa a s x r b g kind l t p D w h hb hgr hgb hrb hsa ha hsz hp h6 (by omega) hD
  · by_cases h33 : kind = 33
    · exact fill_srv a s x r b g kind l t p D w h hb hgr hgb hrb hsa ha hsz hp h6 h33 hD
    · exact fill_other a s x r b g kind l t p D w h hb hgr hgb hrb hsa ha hsz hp h6 h33 hD

/-- A store of a record into a block. -/
theorem setRec_by (w : World) (b : Nat) (c0 c1 c2 c3 c4 c5 c6 : Value) : w.grownBy (((((((w.setCell ⟨b, 0, none⟩ c0).setCell ⟨b, 1, none⟩ c1).setCell ⟨b, 2, none⟩ c2).setCell ⟨b, 3, none⟩ c3).setCell ⟨b, 4, none⟩ c4).setCell ⟨b, 5, none⟩ c5).setCell ⟨b, 6, none⟩ c6) (some b) := by
  have h0 := only_setCell (grown_refl w (some b)) (p := ⟨b, 0, none⟩) (.inl rfl) c0
  have h1 := only_setCell h0 (p := ⟨b, 1, none⟩) (.inl rfl) c1
  have h2 := only_setCell h1 (p := ⟨b, 2, none⟩) (.inl rfl) c2
  have h3 := only_setCell h2 (p := ⟨b, 3, none⟩) (.inl rfl) c3
  have h4 := only_setCell h3 (p := ⟨b, 4, none⟩) (.inl rfl) c4
  have h5 := only_setCell h4 (p := ⟨b, 5, none⟩) (.inl rfl) c5
  exact only_setCell h5 (p := ⟨b, 6, none⟩) (.inl rfl) c6
/-- The state within a record's reading: the result's block, the reader. -/
structure RcSt (w wr : World) (r B : Nat) (s : ByteArray) (p : Nat) : Prop where
  eB : w.heap.size = B
  rB : r < B
  lt : B < wr.heap.size
  rd : RdrAt wr r s s (p : Int) 2
  b0 : wr.heap[B]? = some (.cells #[.string ⟨#[]⟩, .int .u16 0, .int .u16 0, .int .u32 0, .slice none 0 0, .slice none 0 0, .slice none 0 0] 60 (0, 0))
  kept : Kept B r w wr
section
variable {w wr w' : World} {r B p q : Nat} {s : ByteArray}
theorem RcSt.call (h : RcSt w wr r B s p) (hd : RdrAt w' r s s (q : Int) 2) (hg : wr.grownBy w' (some r)) : RcSt w w' r B s q :=
  ⟨h.eB, h.rB, Nat.lt_of_lt_of_le h.lt hg.size, hd, (grown_block hg h.lt (by have := h.rB; omega)).trans h.b0, h.kept.grown hg (by have := h.lt; omega)⟩
theorem RcSt.gaveUp (h : RcSt w wr r B s p) (hg : wr.grownBy w' (some r)) : w.grownBy w' (some r) := kept_grown (h.kept.grown hg (by have := h.lt; omega)) h.eB
theorem RcSt.alloc (h : RcSt w wr r B s p) (o : Obj) : RcSt w (wr.alloc o) r B s p :=
  ⟨h.eB, h.rB, by have := h.lt; simp; omega, h.rd.held ((Below.refl _ _).alloc (Nat.le_refl _) _), old_at h.b0, h.kept.alloc (by have := h.lt; omega) o⟩
theorem RcSt.below {g : Nat} (h : RcSt w wr r B s p) (hb : Below g wr w') (hg : B < g) : RcSt w w' r B s p :=
  ⟨h.eB, h.rB, Nat.lt_of_lt_of_le h.lt hb.size, h.rd.below hb (by have := h.rB; omega), (hb.block B hg).trans h.b0, h.kept.below (hb.mono (by omega))⟩
end
theorem rcSt_start (w : World) (r B : Nat) (s : ByteArray) (p : Nat) (hB : w.heap.size = B) (h : RdrAt w r s s (p : Int) 2) : RcSt w (w.alloc (.cells #[.string ⟨#[]⟩, .int .u16 0, .int .u16 0, .int .u32 0, .slice none 0 0, .slice none 0 0, .slice none 0 0] 60)) r B s p := by
  have hl := h.lt
  refine ⟨hB, by omega, by simp; omega, h.held ((Below.refl _ _).alloc (Nat.le_refl _) _), by rw [← hB]; exact heap_alloc_new w _, (Kept.refl _ _ _).alloc (by omega) _⟩
theorem nu_whole {s : ByteArray} {p n : Nat} : be ((s.data.toList.drop p).take n) = nu s.data.toList p n := rfl

set_option maxHeartbeats 4000000 in
set_option maxRecDepth 100000 in
theorem record_any (s : ByteArray) (r p : Nat) (R : Except Nat (Rec × Nat)) (w : World) (h : RdrAt w r s s (p : Int) 2) (hs : s.size ≤ 1000000) (hp : p ≤ 9223372036854775807) (hR : Hid (recE s.data.toList p = R)) :
    Calls Try.prog 100 #[.pointer (some ⟨r, 0, none⟩)] w (RecEnd w r s R) := by
  have SZ := Lib.hid (Lib.size_eq s)
  obtain ⟨N, hN⟩ : ∃ N, nm s.data.toList s.data.toList.length 2 p p none [] = N := ⟨_, rfl⟩
  obtain ⟨B, hB⟩ : ∃ B, w.heap.size = B := ⟨_, rfl⟩
  have HS0 := Lib.hid (rcSt_start w r B s p hB h)
  have HN := Lib.hid (pointed_any s s r 2 p N _ HS0.out.rd (nmAt_list rfl) hs hs hp (by (show _ = _; rw [SZ.out]; exact hN)))
  clear h
  cases N with
  | error x =>
    have hRe : Hid (R = .error x) := by show _ = _; rw [← hR.out]; exact recE_err hN
    clear hN hR
    go_enter Try.func100, Try.ntmps100
    go_wp2_with fail
    refine HN.out.mono ?_
    rintro e w1 ⟨rfl, hG⟩
    have HE := Lib.hid (HS0.out.gaveUp hG)
    clear hG
    go_wp2_with fail
    rw [hRe.out]
    exact ⟨rfl, rfl, HE.out⟩
  | ok oq =>
    obtain ⟨o, q⟩ := oq
    have hq0 := nm_next (Nat.le_refl _) (fun x e => by cases e) hN
    rw [← SZ.out] at hq0
    have hH : Hid (headE s.data.toList o q = R) := by show _ = _; rw [← hR.out]; exact (recE_ok hN).symm
    clear hN hR
    by_cases h10 : q + 10 ≤ s.size
    · have h10l : q + 10 ≤ s.data.toList.length := by rw [← SZ.out]; exact h10
      obtain ⟨k, hk⟩ : ∃ x, nu s.data.toList q 2 = x := ⟨_, rfl⟩
      have hkl : k < 65536 := by rw [← hk]; exact nu2_lt _ _
      have Hk := Lib.hid (fun w' (hd : RdrAt w' r s s ((q : Nat) : Int) 2) => number_yes s s r q 2 2 k w' hd (by decide) (by decide) (by omega) hs hk)
      have Ek := Lib.hid hk
      clear hk
      obtain ⟨c, hc⟩ : ∃ x, nu s.data.toList (q + 2) 2 = x := ⟨_, rfl⟩
      have hcl : c < 65536 := by rw [← hc]; exact nu2_lt _ _
      have Hc := Lib.hid (fun w' (hd : RdrAt w' r s s ((q + 2 : Nat) : Int) 2) => number_yes s s r (q + 2) 2 2 c w' hd (by decide) (by decide) (by omega) hs hc)
      have Ec := Lib.hid hc
      clear hc
      obtain ⟨t, ht⟩ : ∃ x, nu s.data.toList (q + 4) 4 = x := ⟨_, rfl⟩
      have htl : t < 4294967296 := by rw [← ht]; exact nu4_lt _ _
      have Ht := Lib.hid (fun w' (hd : RdrAt w' r s s ((q + 4 : Nat) : Int) 2) => number_yes s s r (q + 4) 4 2 t w' hd (by decide) (by decide) (by omega) hs ht)
      have Et := Lib.hid ht
      clear ht
      obtain ⟨n, hn⟩ : ∃ x, nu s.data.toList (q + 8) 2 = x := ⟨_, rfl⟩
      have hnl : n < 65536 := by rw [← hn]; exact nu2_lt _ _
      have Hn := Lib.hid (fun w' (hd : RdrAt w' r s s ((q + 8 : Nat) : Int) 2) => number_yes s s r (q + 8) 2 2 n w' hd (by decide) (by decide) (by omega) hs hn)
      have En := Lib.hid hn
      clear hn
      by_cases hin : q + 10 + n ≤ s.size
      · obtain ⟨tt, htt⟩ : ∃ tt, s.extract 0 (q + 10 + n) = tt := ⟨_, rfl⟩
        have hts : tt.size = q + 10 + n := by rw [← htt, ByteArray.size_extract]; omega
        have htl : Hid (tt.data.toList = s.data.toList.take tt.size) := by show _ = _; rw [hts, ← htt, extract_list]; rfl
        have HD := Lib.hid (fun w' (hd : RdrAt w' r s s ((q + 10 : Nat) : Int) 2) => data_yes s tt r (q + 10) n w' hd hin hs htt)
        obtain ⟨D, hD⟩ : ∃ D, bodyE s.data.toList (q + 10 + n) k (q + 10) = D := ⟨_, rfl⟩
        have HDD : Hid (bodyE s.data.toList tt.size k (q + 10) = D) := by (show _ = _; rw [hts]; exact hD)
        have hRv : Hid (lateE o k c t (q + 10 + n) D = R) := by
          show _ = _
          rw [← hH.out, headE_ok h10l (by rw [En.out, ← SZ.out]; exact hin), En.out, Ek.out, Ec.out, Et.out, hD]
        have HTS := Lib.hid hts
        clear htt hD hH hts
        cases D with
        | error z =>
          have hRe : Hid (R = .error z) := by show _ = _; rw [← hRv.out]; rfl
          clear hRv
          go_enter Try.func100, Try.ntmps100
          go_wp2_with fail
          refine HN.out.mono ?_
          rintro e w1 ⟨rfl, hD1, hG1⟩
          have HS1 := Lib.hid (HS0.out.call hD1 hG1)
          clear hD1 hG1 HN
          go_wp2_with fail
          refine (Hk.out _ HS1.out.rd).mono ?_
          rintro e w2 ⟨rfl, hD, hG⟩
          have HS2 := Lib.hid (HS1.out.call hD hG)
          clear hD hG Hk
          go_wp2_with fail
          refine (Hc.out _ HS2.out.rd).mono ?_
          rintro e w3 ⟨rfl, hD, hG⟩
          have HS3 := Lib.hid (HS2.out.call hD hG)
          clear hD hG Hc
          go_wp2_with fail
          refine (Ht.out _ HS3.out.rd).mono ?_
          rintro e w4 ⟨rfl, hD, hG⟩
          have HS4 := Lib.hid (HS3.out.call hD hG)
          clear hD hG Ht
          obtain ⟨B1, hB1⟩ : ∃ B, w4.heap.size = B := ⟨_, rfl⟩
          have hBB : B < B1 := by have := HS4.out.lt; omega
          have hone : (w4.alloc (.cells (recC (mk o) k c t (.slice none 0 0) (.slice none 0 0) (.slice none 0 0)) 60)).heap[B1]? = some (.cells (recC (mk o) k c t (.slice none 0 0) (.slice none 0 0) (.slice none 0 0)) 60 (0, 0)) := by rw [← hB1]; exact heap_alloc_new w4 _
          have honel : B1 < (w4.alloc (.cells (recC (mk o) k c t (.slice none 0 0) (.slice none 0 0) (.slice none 0 0)) 60)).heap.size := by rw [← hB1]; simp
          have HS4a := Lib.hid (HS4.out.alloc (.cells (recC (mk o) k c t (.slice none 0 0) (.slice none 0 0) (.slice none 0 0)) 60))
          have HONE := Lib.hid hone
          have HONEL := Lib.hid honel
          clear hone honel
          go_wp2_with fail
          clear hB1
          generalize w4.alloc (.cells (recC (mk o) k c t (.slice none 0 0) (.slice none 0 0) (.slice none 0 0)) 60) = w4a at HS4a HONE HONEL ⊢
          have HS4 := HS4a
          clear HS4a
          refine (Hn.out _ HS4.out.rd).mono ?_
          rintro e w5 ⟨rfl, hD, hG⟩
          have HS5 := Lib.hid (HS4.out.call hD hG)
          have HB5 : Hid (w5.heap[B1]? = some (.cells (recC (mk o) k c t (.slice none 0 0) (.slice none 0 0) (.slice none 0 0)) 60 (0, 0))) := (grown_block hG HONEL.out (by have := HS4.out.rB; omega)).trans HONE.out
          have HB5L : Hid (B1 < w5.heap.size) := Nat.lt_of_lt_of_le HONEL.out hG.size
          clear hD hG Hn
          go_wp2_with fail
          refine (HD.out _ HS5.out.rd).mono ?_
          rintro e w6 ⟨qs, rfl, hqs, hDs, hDr, hG6⟩
          have HS6 := Lib.hid (HS5.out.call hDr hG6)
          have hB6 : w6.heap[B1]? = some (.cells (recC (mk o) k c t (.slice none 0 0) (.slice none 0 0) (.slice none 0 0)) 60 (0, 0)) := (grown_block hG6 HB5L.out (by have := HS5.out.rB; omega)).trans HB5.out
          have HF := Lib.hid (fill_any s tt (mk o) qs B1 B1 k c t (q + 10) _ w6 hDs hB6 (by have := HB5L.out; omega) (Nat.le_refl _) (by have := HB5L.out; omega) htl hs (by rw [HTS.out]; omega) (by rw [HTS.out]; omega) HDD)
          clear hqs hDs hDr hG6 hB6 HD
          go_wp2_with fail
          refine HF.out.mono ?_
          rintro e w7 ⟨rfl, hE⟩
          have HE := Lib.hid (kept_grown (HS6.out.below hE hBB).kept HS6.out.eB)
          clear hE HF
          go_wp2_with fail
          rw [hRe.out]
          exact ⟨rfl, rfl, HE.out⟩
        | ok D =>
          by_cases hlate : 2147483647 < t ∧ k ≠ 41
          · have hRe : Hid (R = .error 1) := by show _ = _; rw [← hRv.out]; exact if_pos hlate
            obtain ⟨hl1, hl2⟩ := hlate
            have hl1i : (2147483647 : Int) < (t : Int) := by omega
            have hl2i : ((k : Int) != 41) = true := bne_iff_ne.2 (by omega)
            clear hRv hl1 hl2
            go_enter Try.func100, Try.ntmps100
            go_wp2_with fail
            refine HN.out.mono ?_
            rintro e w1 ⟨rfl, hD1, hG1⟩
            have HS1 := Lib.hid (HS0.out.call hD1 hG1)
            clear hD1 hG1 HN
            go_wp2_with fail
            refine (Hk.out _ HS1.out.rd).mono ?_
            rintro e w2 ⟨rfl, hD, hG⟩
            have HS2 := Lib.hid (HS1.out.call hD hG)
            clear hD hG Hk
            go_wp2_with fail
            refine (Hc.out _ HS2.out.rd).mono ?_
            rintro e w3 ⟨rfl, hD, hG⟩
            have HS3 := Lib.hid (HS2.out.call hD hG)
            clear hD hG Hc
            go_wp2_with fail
            refine (Ht.out _ HS3.out.rd).mono ?_
            rintro e w4 ⟨rfl, hD, hG⟩
            have HS4 := Lib.hid (HS3.out.call hD hG)
            clear hD hG Ht
            obtain ⟨B1, hB1⟩ : ∃ B, w4.heap.size = B := ⟨_, rfl⟩
            have hBB : B < B1 := by have := HS4.out.lt; omega
            have hone : (w4.alloc (.cells (recC (mk o) k c t (.slice none 0 0) (.slice none 0 0) (.slice none 0 0)) 60)).heap[B1]? = some (.cells (recC (mk o) k c t (.slice none 0 0) (.slice none 0 0) (.slice none 0 0)) 60 (0, 0)) := by rw [← hB1]; exact heap_alloc_new w4 _
            have honel : B1 < (w4.alloc (.cells (recC (mk o) k c t (.slice none 0 0) (.slice none 0 0) (.slice none 0 0)) 60)).heap.size := by rw [← hB1]; simp
            have HS4a := Lib.hid (HS4.out.alloc (.cells (recC (mk o) k c t (.slice none 0 0) (.slice none 0 0) (.slice none 0 0)) 60))
            have HONE := Lib.hid hone
            have HONEL := Lib.hid honel
            clear hone honel
            go_wp2_with fail
            clear hB1
            generalize w4.alloc (.cells (recC (mk o) k c t (.slice none 0 0) (.slice none 0 0) (.slice none 0 0)) 60) = w4a at HS4a HONE HONEL ⊢
            have HS4 := HS4a
            clear HS4a
            refine (Hn.out _ HS4.out.rd).mono ?_
            rintro e w5 ⟨rfl, hD, hG⟩
            have HS5 := Lib.hid (HS4.out.call hD hG)
            have HB5 : Hid (w5.heap[B1]? = some (.cells (recC (mk o) k c t (.slice none 0 0) (.slice none 0 0) (.slice none 0 0)) 60 (0, 0))) := (grown_block hG HONEL.out (by have := HS4.out.rB; omega)).trans HONE.out
            have HB5L : Hid (B1 < w5.heap.size) := Nat.lt_of_lt_of_le HONEL.out hG.size
            clear hD hG Hn
            go_wp2_with fail
            refine (HD.out _ HS5.out.rd).mono ?_
            rintro e w6 ⟨qs, rfl, hqs, hDs, hDr, hG6⟩
            have HS6 := Lib.hid (HS5.out.call hDr hG6)
            have hB6 : w6.heap[B1]? = some (.cells (recC (mk o) k c t (.slice none 0 0) (.slice none 0 0) (.slice none 0 0)) 60 (0, 0)) := (grown_block hG6 HB5L.out (by have := HS5.out.rB; omega)).trans HB5.out
            have HF := Lib.hid (fill_any s tt (mk o) qs B1 B1 k c t (q + 10) _ w6 hDs hB6 (by have := HB5L.out; omega) (Nat.le_refl _) (by have := HB5L.out; omega) htl hs (by rw [HTS.out]; omega) (by rw [HTS.out]; omega) HDD)
            clear hqs hDs hDr hG6 hB6 HD
            go_wp2_with fail
            refine HF.out.mono ?_
            rintro e w7 ⟨v1, v2, v3, rfl, hb7, hO1, hO2, hO3, hB7⟩
            obtain ⟨A1, m1, c1, rfl⟩ := row_slice hO1
            obtain ⟨A2, m2, c2, rfl⟩ := row_slice hO2
            obtain ⟨A3, m3, c3, rfl⟩ := row_slice hO3
            have HS7 := Lib.hid (HS6.out.below hB7 hBB)
            have g0 := cell_of_row _ _ 0 _ _ _ hb7
            have g1 := cell_of_row _ _ 1 _ _ _ hb7
            have g2 := cell_of_row _ _ 2 _ _ _ hb7
            have g3 := cell_of_row _ _ 3 _ _ _ hb7
            have g4 := cell_of_row _ _ 4 _ _ _ hb7
            have g5 := cell_of_row _ _ 5 _ _ _ hb7
            have g6 := cell_of_row _ _ 6 _ _ _ hb7
            have HO1 := Lib.hid hO1
            have HO2 := Lib.hid hO2
            have HO3 := Lib.hid hO3
            clear hb7 hO1 hO2 hO3 hB7 HF
            have HE := Lib.hid (kept_grown HS7.out.kept HS7.out.eB)
            go_wp2_with fail
            rw [hRe.out]
            exact ⟨rfl, rfl, HE.out⟩
          · have hRe : Hid (R = .ok (⟨o, k, c, t, D.names, D.nums, D.texts⟩, q + 10 + n)) := by show _ = _; rw [← hRv.out]; exact if_neg hlate
            have htest : (¬ ((2147483647 : Int) < (t : Int)) ∧ True) ∨ (((2147483647 : Int) < (t : Int)) ∧ ((k : Int) != 41) = false) := by
              by_cases ht : 2147483647 < t
              · exact .inr ⟨by omega, bne_eq_false_iff_eq.2 (by have : k = 41 := Classical.byContradiction fun hk => hlate ⟨ht, hk⟩; omega)⟩
              · exact .inl ⟨by omega, trivial⟩
            have HTT := Lib.hid htest
            clear hRv hlate htest
            go_enter Try.func100, Try.ntmps100
            go_wp2_with fail
            refine HN.out.mono ?_
            rintro e w1 ⟨rfl, hD1, hG1⟩
            have HS1 := Lib.hid (HS0.out.call hD1 hG1)
            clear hD1 hG1 HN
            go_wp2_with fail
            refine (Hk.out _ HS1.out.rd).mono ?_
            rintro e w2 ⟨rfl, hD, hG⟩
            have HS2 := Lib.hid (HS1.out.call hD hG)
            clear hD hG Hk
            go_wp2_with fail
            refine (Hc.out _ HS2.out.rd).mono ?_
            rintro e w3 ⟨rfl, hD, hG⟩
            have HS3 := Lib.hid (HS2.out.call hD hG)
            clear hD hG Hc
            go_wp2_with fail
            refine (Ht.out _ HS3.out.rd).mono ?_
            rintro e w4 ⟨rfl, hD, hG⟩
            have HS4 := Lib.hid (HS3.out.call hD hG)
            clear hD hG Ht
            obtain ⟨B1, hB1⟩ : ∃ B, w4.heap.size = B := ⟨_, rfl⟩
            have hBB : B < B1 := by have := HS4.out.lt; omega
            have hone : (w4.alloc (.cells (recC (mk o) k c t (.slice none 0 0) (.slice none 0 0) (.slice none 0 0)) 60)).heap[B1]? = some (.cells (recC (mk o) k c t (.slice none 0 0) (.slice none 0 0) (.slice none 0 0)) 60 (0, 0)) := by rw [← hB1]; exact heap_alloc_new w4 _
            have honel : B1 < (w4.alloc (.cells (recC (mk o) k c t (.slice none 0 0) (.slice none 0 0) (.slice none 0 0)) 60)).heap.size := by rw [← hB1]; simp
            have HS4a := Lib.hid (HS4.out.alloc (.cells (recC (mk o) k c t (.slice none 0 0) (.slice none 0 0) (.slice none 0 0)) 60))
            have HONE := Lib.hid hone
            have HONEL := Lib.hid honel
            clear hone honel
            go_wp2_with fail
            clear hB1
            generalize w4.alloc (.cells (recC (mk o) k c t (.slice none 0 0) (.slice none 0 0) (.slice none 0 0)) 60) = w4a at HS4a HONE HONEL ⊢
            have HS4 := HS4a
            clear HS4a
            refine (Hn.out _ HS4.out.rd).mono ?_
            rintro e w5 ⟨rfl, hD, hG⟩
            have HS5 := Lib.hid (HS4.out.call hD hG)
            have HB5 : Hid (w5.heap[B1]? = some (.cells (recC (mk o) k c t (.slice none 0 0) (.slice none 0 0) (.slice none 0 0)) 60 (0, 0))) := (grown_block hG HONEL.out (by have := HS4.out.rB; omega)).trans HONE.out
            have HB5L : Hid (B1 < w5.heap.size) := Nat.lt_of_lt_of_le HONEL.out hG.size
            clear hD hG Hn
            go_wp2_with fail
            refine (HD.out _ HS5.out.rd).mono ?_
            rintro e w6 ⟨qs, rfl, hqs, hDs, hDr, hG6⟩
            have HS6 := Lib.hid (HS5.out.call hDr hG6)
            have hB6 : w6.heap[B1]? = some (.cells (recC (mk o) k c t (.slice none 0 0) (.slice none 0 0) (.slice none 0 0)) 60 (0, 0)) := (grown_block hG6 HB5L.out (by have := HS5.out.rB; omega)).trans HB5.out
            have HF := Lib.hid (fill_any s tt (mk o) qs B1 B1 k c t (q + 10) _ w6 hDs hB6 (by have := HB5L.out; omega) (Nat.le_refl _) (by have := HB5L.out; omega) htl hs (by rw [HTS.out]; omega) (by rw [HTS.out]; omega) HDD)
            clear hqs hDs hDr hG6 hB6 HD
            go_wp2_with fail
            refine HF.out.mono ?_
            rintro e w7 ⟨v1, v2, v3, rfl, hb7, hO1, hO2, hO3, hB7⟩
            obtain ⟨A1, m1, c1, rfl⟩ := row_slice hO1
            obtain ⟨A2, m2, c2, rfl⟩ := row_slice hO2
            obtain ⟨A3, m3, c3, rfl⟩ := row_slice hO3
            have HS7 := Lib.hid (HS6.out.below hB7 hBB)
            have g0 := cell_of_row _ _ 0 _ _ _ hb7
            have g1 := cell_of_row _ _ 1 _ _ _ hb7
            have g2 := cell_of_row _ _ 2 _ _ _ hb7
            have g3 := cell_of_row _ _ 3 _ _ _ hb7
            have g4 := cell_of_row _ _ 4 _ _ _ hb7
            have g5 := cell_of_row _ _ 5 _ _ _ hb7
            have g6 := cell_of_row _ _ 6 _ _ _ hb7
            have HO1 := Lib.hid hO1
            have HO2 := Lib.hid hO2
            have HO3 := Lib.hid hO3
            clear hb7 hO1 hO2 hO3 hB7 HF
            have e0 := cell_of_row _ _ 0 _ _ _ HS7.out.b0
            have e1 := cell_of_row _ _ 1 _ _ _ HS7.out.b0
            have e2 := cell_of_row _ _ 2 _ _ _ HS7.out.b0
            have e3 := cell_of_row _ _ 3 _ _ _ HS7.out.b0
            have e4 := cell_of_row _ _ 4 _ _ _ HS7.out.b0
            have e5 := cell_of_row _ _ 5 _ _ _ HS7.out.b0
            have e6 := cell_of_row _ _ 6 _ _ _ HS7.out.b0
            have ef : ∀ i, w7.frozen? ⟨B, i, none⟩ = false := fun i => by simp [World.frozen?, HS7.out.b0]
            have HE : Hid (RecIn (((((((w7.setCell ⟨B, 0, none⟩ (.string (mk o))).setCell ⟨B, 1, none⟩ (.int .u16 k)).setCell ⟨B, 2, none⟩ (.int .u16 c)).setCell ⟨B, 3, none⟩ (.int .u32 t)).setCell ⟨B, 4, none⟩ (.slice A1 m1 c1)).setCell ⟨B, 5, none⟩ (.slice A2 m2 c2)).setCell ⟨B, 6, none⟩ (.slice A3 m3 c3)) w.heap.size ⟨o, k, c, t, D.names, D.nums, D.texts⟩ (.slice A1 m1 c1) (.slice A2 m2 c2) (.slice A3 m3 c3) ∧
                RdrAt (((((((w7.setCell ⟨B, 0, none⟩ (.string (mk o))).setCell ⟨B, 1, none⟩ (.int .u16 k)).setCell ⟨B, 2, none⟩ (.int .u16 c)).setCell ⟨B, 3, none⟩ (.int .u32 t)).setCell ⟨B, 4, none⟩ (.slice A1 m1 c1)).setCell ⟨B, 5, none⟩ (.slice A2 m2 c2)).setCell ⟨B, 6, none⟩ (.slice A3 m3 c3)) r s s ((q + 10 + n : Nat) : Int) 2 ∧
                w.grownBy (((((((w7.setCell ⟨B, 0, none⟩ (.string (mk o))).setCell ⟨B, 1, none⟩ (.int .u16 k)).setCell ⟨B, 2, none⟩ (.int .u16 c)).setCell ⟨B, 3, none⟩ (.int .u32 t)).setCell ⟨B, 4, none⟩ (.slice A1 m1 c1)).setCell ⟨B, 5, none⟩ (.slice A2 m2 c2)).setCell ⟨B, 6, none⟩ (.slice A3 m3 c3)) (some r)) := by
              have hg9 := setRec_by w7 B (.string (mk o)) (.int .u16 k) (.int .u16 c) (.int .u32 t) (.slice A1 m1 c1) (.slice A2 m2 c2) (.slice A3 m3 c3)
              have hlow : w.heap.size ≤ B1 := by have := HS7.out.eB; omega
              refine ⟨⟨row_low (HO1.out.kept hg9 (row_ne HS7.out.b0 HO1.out (by decide))) hlow, row_low (HO2.out.kept hg9 (row_ne HS7.out.b0 HO2.out (by decide))) hlow, row_low (HO3.out.kept hg9 (row_ne HS7.out.b0 HO3.out (by decide))) hlow⟩, HS7.out.rd.other hg9 (by have := HS7.out.rB; omega), ?_⟩
              exact kept_grown (HS7.out.kept.own hg9 (by have := HS7.out.lt; omega) (fun k e => by injection e with e; omega)) HS7.out.eB
            rcases HTT.out with ⟨ht, _⟩ | ⟨ht, hk41⟩
            all_goals
              go_wp2_with fail
              refine bodyPost_ret (v := .agg #[.string (mk o), .int .u16 k, .int .u16 c, .int .u32 t, .slice A1 m1 c1, .slice A2 m2 c2, .slice A3 m3 c3]) (by simp [results, Try.results100, go_sem, e0, e1, e2, e3, e4, e5, e6]) rfl ?_
              rw [hRe.out]
              exact ⟨_, _, _, rfl, HE.out.1, HE.out.2.1, HE.out.2.2⟩
      · have hRe : Hid (R = .error 2) := by show _ = _; rw [← hH.out]; exact headE_cut h10l (by rw [En.out, ← SZ.out]; omega)
        have HX := Lib.hid (fun w' (hd : RdrAt w' r s s ((q + 10 : Nat) : Int) 2) => data_no s r (q + 10) n w' hd h10 (by omega) hs)
        clear hH
        go_enter Try.func100, Try.ntmps100
        go_wp2_with fail
        refine HN.out.mono ?_
        rintro e w1 ⟨rfl, hD1, hG1⟩
        have HS1 := Lib.hid (HS0.out.call hD1 hG1)
        clear hD1 hG1 HN
        go_wp2_with fail
        refine (Hk.out _ HS1.out.rd).mono ?_
        rintro e w2 ⟨rfl, hD, hG⟩
        have HS2 := Lib.hid (HS1.out.call hD hG)
        clear hD hG Hk
        go_wp2_with fail
        refine (Hc.out _ HS2.out.rd).mono ?_
        rintro e w3 ⟨rfl, hD, hG⟩
        have HS3 := Lib.hid (HS2.out.call hD hG)
        clear hD hG Hc
        go_wp2_with fail
        refine (Ht.out _ HS3.out.rd).mono ?_
        rintro e w4 ⟨rfl, hD, hG⟩
        have HS4 := Lib.hid (HS3.out.call hD hG)
        clear hD hG Ht
        obtain ⟨B1, hB1⟩ : ∃ B, w4.heap.size = B := ⟨_, rfl⟩
        have hBB : B < B1 := by have := HS4.out.lt; omega
        have hone : (w4.alloc (.cells (recC (mk o) k c t (.slice none 0 0) (.slice none 0 0) (.slice none 0 0)) 60)).heap[B1]? = some (.cells (recC (mk o) k c t (.slice none 0 0) (.slice none 0 0) (.slice none 0 0)) 60 (0, 0)) := by rw [← hB1]; exact heap_alloc_new w4 _
        have honel : B1 < (w4.alloc (.cells (recC (mk o) k c t (.slice none 0 0) (.slice none 0 0) (.slice none 0 0)) 60)).heap.size := by rw [← hB1]; simp
        have HS4a := Lib.hid (HS4.out.alloc (.cells (recC (mk o) k c t (.slice none 0 0) (.slice none 0 0) (.slice none 0 0)) 60))
        have HONE := Lib.hid hone
        have HONEL := Lib.hid honel
        clear hone honel
        go_wp2_with fail
        clear hB1
        generalize w4.alloc (.cells (recC (mk o) k c t (.slice none 0 0) (.slice none 0 0) (.slice none 0 0)) 60) = w4a at HS4a HONE HONEL ⊢
        have HS4 := HS4a
        clear HS4a
        refine (Hn.out _ HS4.out.rd).mono ?_
        rintro e w5 ⟨rfl, hD, hG⟩
        have HS5 := Lib.hid (HS4.out.call hD hG)
        have HB5 : Hid (w5.heap[B1]? = some (.cells (recC (mk o) k c t (.slice none 0 0) (.slice none 0 0) (.slice none 0 0)) 60 (0, 0))) := (grown_block hG HONEL.out (by have := HS4.out.rB; omega)).trans HONE.out
        have HB5L : Hid (B1 < w5.heap.size) := Nat.lt_of_lt_of_le HONEL.out hG.size
        clear hD hG Hn
        go_wp2_with fail
        refine (HX.out _ HS5.out.rd).mono ?_
        rintro e wx ⟨rfl, hG⟩
        have HE := Lib.hid (HS5.out.gaveUp hG)
        clear hG
        go_wp2_with fail
        rw [hRe.out]
        exact ⟨rfl, rfl, HE.out⟩
    · have hRe : Hid (R = .error 2) := by show _ = _; rw [← hH.out]; exact headE_short (by rw [← SZ.out]; omega)
      clear hH
      by_cases h2 : q + 2 ≤ s.size
      · obtain ⟨k, hk⟩ : ∃ x, nu s.data.toList q 2 = x := ⟨_, rfl⟩
        have hkl : k < 65536 := by rw [← hk]; exact nu2_lt _ _
        have Hk := Lib.hid (fun w' (hd : RdrAt w' r s s ((q : Nat) : Int) 2) => number_yes s s r q 2 2 k w' hd (by decide) (by decide) (by omega) hs hk)
        have Ek := Lib.hid hk
        clear hk
        by_cases h4 : q + 4 ≤ s.size
        · obtain ⟨c, hc⟩ : ∃ x, nu s.data.toList (q + 2) 2 = x := ⟨_, rfl⟩
          have hcl : c < 65536 := by rw [← hc]; exact nu2_lt _ _
          have Hc := Lib.hid (fun w' (hd : RdrAt w' r s s ((q + 2 : Nat) : Int) 2) => number_yes s s r (q + 2) 2 2 c w' hd (by decide) (by decide) (by omega) hs hc)
          have Ec := Lib.hid hc
          clear hc
          by_cases h8 : q + 8 ≤ s.size
          · obtain ⟨t, ht⟩ : ∃ x, nu s.data.toList (q + 4) 4 = x := ⟨_, rfl⟩
            have htl : t < 4294967296 := by rw [← ht]; exact nu4_lt _ _
            have Ht := Lib.hid (fun w' (hd : RdrAt w' r s s ((q + 4 : Nat) : Int) 2) => number_yes s s r (q + 4) 4 2 t w' hd (by decide) (by decide) (by omega) hs ht)
            have Et := Lib.hid ht
            clear ht
            have HX := Lib.hid (fun w' (hd : RdrAt w' r s s ((q + 8 : Nat) : Int) 2) => number_no s s r 2 ((q + 8 : Nat) : Int) 2 w' hd hs (by decide) (by omega) (by omega) (holds_no (n := s.size) (p := q + 8) (m := 2) (by omega)))
            go_enter Try.func100, Try.ntmps100
            go_wp2_with fail
            refine HN.out.mono ?_
            rintro e w1 ⟨rfl, hD1, hG1⟩
            have HS1 := Lib.hid (HS0.out.call hD1 hG1)
            clear hD1 hG1 HN
            go_wp2_with fail
            refine (Hk.out _ HS1.out.rd).mono ?_
            rintro e w2 ⟨rfl, hD, hG⟩
            have HS2 := Lib.hid (HS1.out.call hD hG)
            clear hD hG Hk
            go_wp2_with fail
            refine (Hc.out _ HS2.out.rd).mono ?_
            rintro e w3 ⟨rfl, hD, hG⟩
            have HS3 := Lib.hid (HS2.out.call hD hG)
            clear hD hG Hc
            go_wp2_with fail
            refine (Ht.out _ HS3.out.rd).mono ?_
            rintro e w4 ⟨rfl, hD, hG⟩
            have HS4 := Lib.hid (HS3.out.call hD hG)
            clear hD hG Ht
            obtain ⟨B1, hB1⟩ : ∃ B, w4.heap.size = B := ⟨_, rfl⟩
            have hBB : B < B1 := by have := HS4.out.lt; omega
            have hone : (w4.alloc (.cells (recC (mk o) k c t (.slice none 0 0) (.slice none 0 0) (.slice none 0 0)) 60)).heap[B1]? = some (.cells (recC (mk o) k c t (.slice none 0 0) (.slice none 0 0) (.slice none 0 0)) 60 (0, 0)) := by rw [← hB1]; exact heap_alloc_new w4 _
            have honel : B1 < (w4.alloc (.cells (recC (mk o) k c t (.slice none 0 0) (.slice none 0 0) (.slice none 0 0)) 60)).heap.size := by rw [← hB1]; simp
            have HS4a := Lib.hid (HS4.out.alloc (.cells (recC (mk o) k c t (.slice none 0 0) (.slice none 0 0) (.slice none 0 0)) 60))
            have HONE := Lib.hid hone
            have HONEL := Lib.hid honel
            clear hone honel
            go_wp2_with fail
            clear hB1
            generalize w4.alloc (.cells (recC (mk o) k c t (.slice none 0 0) (.slice none 0 0) (.slice none 0 0)) 60) = w4a at HS4a HONE HONEL ⊢
            have HS4 := HS4a
            clear HS4a
            refine (HX.out _ HS4.out.rd).mono ?_
            rintro e wx ⟨rfl, m, rfl⟩
            have HE := Lib.hid (HS4.out.gaveUp (grown_drewN (grown_refl _ _) m))
            go_wp2_with fail
            rw [hRe.out]
            exact ⟨rfl, rfl, HE.out⟩
          · have HX := Lib.hid (fun w' (hd : RdrAt w' r s s ((q + 4 : Nat) : Int) 2) => number_no s s r 2 ((q + 4 : Nat) : Int) 4 w' hd hs (by decide) (by omega) (by omega) (holds_no (n := s.size) (p := q + 4) (m := 4) (by omega)))
            go_enter Try.func100, Try.ntmps100
            go_wp2_with fail
            refine HN.out.mono ?_
            rintro e w1 ⟨rfl, hD1, hG1⟩
            have HS1 := Lib.hid (HS0.out.call hD1 hG1)
            clear hD1 hG1 HN
            go_wp2_with fail
            refine (Hk.out _ HS1.out.rd).mono ?_
            rintro e w2 ⟨rfl, hD, hG⟩
            have HS2 := Lib.hid (HS1.out.call hD hG)
            clear hD hG Hk
            go_wp2_with fail
            refine (Hc.out _ HS2.out.rd).mono ?_
            rintro e w3 ⟨rfl, hD, hG⟩
            have HS3 := Lib.hid (HS2.out.call hD hG)
            clear hD hG Hc
            go_wp2_with fail
            refine (HX.out _ HS3.out.rd).mono ?_
            rintro e wx ⟨rfl, m, rfl⟩
            have HE := Lib.hid (HS3.out.gaveUp (grown_drewN (grown_refl _ _) m))
            go_wp2_with fail
            rw [hRe.out]
            exact ⟨rfl, rfl, HE.out⟩
        · have HX := Lib.hid (fun w' (hd : RdrAt w' r s s ((q + 2 : Nat) : Int) 2) => number_no s s r 2 ((q + 2 : Nat) : Int) 2 w' hd hs (by decide) (by omega) (by omega) (holds_no (n := s.size) (p := q + 2) (m := 2) (by omega)))
          go_enter Try.func100, Try.ntmps100
          go_wp2_with fail
          refine HN.out.mono ?_
          rintro e w1 ⟨rfl, hD1, hG1⟩
          have HS1 := Lib.hid (HS0.out.call hD1 hG1)
          clear hD1 hG1 HN
          go_wp2_with fail
          refine (Hk.out _ HS1.out.rd).mono ?_
          rintro e w2 ⟨rfl, hD, hG⟩
          have HS2 := Lib.hid (HS1.out.call hD hG)
          clear hD hG Hk
          go_wp2_with fail
          refine (HX.out _ HS2.out.rd).mono ?_
          rintro e wx ⟨rfl, m, rfl⟩
          have HE := Lib.hid (HS2.out.gaveUp (grown_drewN (grown_refl _ _) m))
          go_wp2_with fail
          rw [hRe.out]
          exact ⟨rfl, rfl, HE.out⟩
      · have HX := Lib.hid (fun w' (hd : RdrAt w' r s s ((q : Nat) : Int) 2) => number_no s s r 2 ((q : Nat) : Int) 2 w' hd hs (by decide) (by omega) (by omega) (holds_no (n := s.size) (p := q) (m := 2) (by omega)))
        go_enter Try.func100, Try.ntmps100
        go_wp2_with fail
        refine HN.out.mono ?_
        rintro e w1 ⟨rfl, hD1, hG1⟩
        have HS1 := Lib.hid (HS0.out.call hD1 hG1)
        clear hD1 hG1 HN
        go_wp2_with fail
        refine (HX.out _ HS1.out.rd).mono ?_
        rintro e wx ⟨rfl, m, rfl⟩
        have HE := Lib.hid (HS1.out.gaveUp (grown_drewN (grown_refl _ _) m))
        go_wp2_with fail
        rw [hRe.out]
        exact ⟨rfl, rfl, HE.out⟩

theorem recReads (s : ByteArray) (r : Nat) (hs : s.size ≤ 1000000) : RecReads r s (recE s.data.toList) :=
  ⟨fun w p h hp => record_any s r p _ w h hs hp rfl, fun _ _ _ h => by rw [Lib.size_eq]; exact recE_next h⟩
end Go.Proofs.Ytpmmjmnleoicjaa
