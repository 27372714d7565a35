/- The contract of a message's reader, where a message's six numbers are cut off. For texts of at most 10^6 bytes. -/
import Derived.Test.YtpmmjmnleoicjaaProg
import Derived.Test.YtpmmjmnleoicjaaBytes
import Derived.Test.YtpmmjmnleoicjaaNmMath
import Derived.Test.YtpmmjmnleoicjaaNmAt
import Derived.Test.YtpmmjmnleoicjaaMsgMath
import Derived.Test.YtpmmjmnleoicjaaRecMath
import Derived.Test.YtpmmjmnleoicjaaKept
import Derived.Test.YtpmmjmnleoicjaaOwnRow
import Derived.Test.YtpmmjmnleoicjaaRecRow
import Derived.Test.YtpmmjmnleoicjaaRdr
import Derived.Test.YtpmmjmnleoicjaaRdrText
import Derived.Test.YtpmmjmnleoicjaaRdrAsk
import Derived.Test.YtpmmjmnleoicjaaRdrAsks
import Derived.Test.YtpmmjmnleoicjaaRdrRecs
import Derived.WalkKit
import Derived.Lib.Hide
import Derived.Laws.Rows
import Derived.Laws.AppendOwn
import Derived.Outline
import Derived.IntWalk
import Derived.WalkSpells
import Derived.WalkLawsBesides
namespace Go.Proofs.Ytpmmjmnleoicjaa
open Go.RowKit NumMath NmMath Bytes MsgMath RecMath

/-- A message came back, or the reading gave up. -/
def MsgEnd (w : World) (r : Nat) : Except Nat Msg → Ending → World → Prop
  | .error x, e, w' => e = gave x ∧ w.grownBy w' (some r)
  | .ok M, e, w' => ∃ vq va vn vx, e = .returned (.agg #[.int .u16 M.id, .int .u16 M.flags, vq, va, vn, vx]) ∧ w'.ownsRow w.heap.size 62 3 vq M.qs.length (qnCs M.qs) ∧ RowRecs w' w.heap.size va M.an ∧ RowRecs w' w.heap.size vn M.ns ∧ RowRecs w' w.heap.size vx M.ad ∧ w.grownBy w' (some r)
/-- The state within a message's reading: three blocks of its own, the reader. -/
structure MsgSt (w wr : World) (g r : Nat) (s : ByteArray) (p B0 B1 B2 : Nat) (c d : Array Value) (t : TypeId) : Prop where
  rg : r < g
  g0 : g ≤ B0
  b01 : B0 < B1
  b12 : B1 < B2
  b2l : B2 < wr.heap.size
  rd : RdrAt wr r s s (p : Int) 2
  b0 : wr.heap[B0]? = some (.cells #[.int .u16 0, .int .u16 0, .slice none 0 0, .slice none 0 0, .slice none 0 0, .slice none 0 0] 26 (0, 0))
  b1 : wr.heap[B1]? = some (.cells c 26 (0, 0))
  b2 : wr.heap[B2]? = some (.cells d t (0, 0))
  kept : Kept g r w wr
section
variable {w wr w' : World} {g r : Nat} {s : ByteArray} {p B0 B1 B2 : Nat} {c d : Array Value} {t : TypeId}
theorem MsgSt.call (h : MsgSt w wr g r s p B0 B1 B2 c d t) {q : Nat} (hd : RdrAt w' r s s (q : Int) 2) (hg : wr.grownBy w' (some r)) : MsgSt w w' g r s q B0 B1 B2 c d t :=
  ⟨h.rg, h.g0, h.b01, h.b12, Nat.lt_of_lt_of_le h.b2l hg.size, hd, (grown_block hg (by have := h.b01; have := h.b12; have := h.b2l; omega) (by have := h.rg; have := h.g0; omega)).trans h.b0, (grown_block hg (by have := h.b12; have := h.b2l; omega) (by have := h.rg; have := h.g0; have := h.b01; omega)).trans h.b1, (grown_block hg h.b2l (by have := h.rg; have := h.g0; have := h.b01; have := h.b12; omega)).trans h.b2,
    h.kept.grown hg (by have := h.g0; have := h.b01; have := h.b12; have := h.b2l; omega)⟩
theorem MsgSt.set1 (h : MsgSt w wr g r s p B0 B1 B2 c d t) (i : Nat) (v : Value) : MsgSt w (wr.setCell ⟨B1, i, none⟩ v) g r s p B0 B1 B2 (c.setIfInBounds i v) d t := by
  have h1 := h.rg; have h2 := h.g0; have h3 := h.b01; have h4 := h.b12
  refine ⟨h1, h2, h3, h4, by simpa [World.setCell] using h.b2l, h.rd.far (by simp only; omega) _, ?_, ?_, ?_, h.kept.setCell (.inr (by simp only; omega)) _⟩
  · rw [Below.heap_setCell _ _ _ _ (by simp only; omega)]; exact h.b0
  · simp [World.setCell, Array.getElem?_modify, h.b1]
  · rw [Below.heap_setCell _ _ _ _ (by simp only; omega)]; exact h.b2
theorem MsgSt.set2 (h : MsgSt w wr g r s p B0 B1 B2 c d t) (i : Nat) (v : Value) : MsgSt w (wr.setCell ⟨B2, i, none⟩ v) g r s p B0 B1 B2 c (d.setIfInBounds i v) t := by
  have h1 := h.rg; have h2 := h.g0; have h3 := h.b01; have h4 := h.b12
  refine ⟨h1, h2, h3, h4, by simpa [World.setCell] using h.b2l, h.rd.far (by simp only; omega) _, ?_, ?_, ?_, h.kept.setCell (.inr (by simp only; omega)) _⟩
  · rw [Below.heap_setCell _ _ _ _ (by simp only; omega)]; exact h.b0
  · rw [Below.heap_setCell _ _ _ _ (by simp only; omega)]; exact h.b1
  · simp [World.setCell, Array.getElem?_modify, h.b2]
theorem MsgSt.drewN (h : MsgSt w wr g r s p B0 B1 B2 c d t) (n : Nat) : MsgSt w (wr.drewN n) g r s p B0 B1 B2 c d t := ⟨h.rg, h.g0, h.b01, h.b12, h.b2l, h.rd, h.b0, h.b1, h.b2, h.kept.drewN n⟩
theorem MsgSt.only (h : MsgSt w wr g r s p B0 B1 B2 c d t) (hg : w.heap.size = g) : w.grownBy wr (some r) := by
  have := h.kept
  rw [← hg] at this
  exact this.to_grown
theorem MsgSt.size (h : MsgSt w wr g r s p B0 B1 B2 c d t) : g ≤ wr.heap.size := by have := h.g0; have := h.b01; have := h.b12; have := h.b2l; omega
end
/-- The counts that were read. -/
def cntC (l : List UInt8) (j : Nat) : Array Value := #[.int .i64 (if 0 < j then (nu l 4 2 : Int) else 0), .int .i64 (if 1 < j then (nu l 6 2 : Int) else 0), .int .i64 (if 2 < j then (nu l 8 2 : Int) else 0), .int .i64 (if 3 < j then (nu l 10 2 : Int) else 0)]
def cntS (l : List UInt8) (j : Nat) : Nat := (if 0 < j then nu l 4 2 else 0) + (if 1 < j then nu l 6 2 else 0) + (if 2 < j then nu l 8 2 else 0) + (if 3 < j then nu l 10 2 else 0)
theorem cnt_step (l : List UInt8) {j : Nat} (hj : j < 4) : (cntC l j).setIfInBounds j (.int .i64 (nu l (4 + 2 * j) 2)) = cntC l (j + 1) ∧ cntS l (j + 1) = cntS l j + nu l (4 + 2 * j) 2 := by
  match j, hj with
  | 0, _ => exact ⟨rfl, by simp [cntS]⟩
  | 1, _ => exact ⟨rfl, by simp [cntS]⟩
  | 2, _ => exact ⟨rfl, by simp [cntS]⟩
  | 3, _ => exact ⟨rfl, by simp [cntS]⟩
theorem cntS_lt (l : List UInt8) (j : Nat) : cntS l j ≤ 262140 := by
  have := nu2_lt l 4; have := nu2_lt l 6; have := nu2_lt l 8; have := nu2_lt l 10
  unfold cntS
  repeat' split
  all_goals omega

set_option maxHeartbeats 2000000 in
set_option maxRecDepth 100000 in
theorem message_short (s : ByteArray) (r : Nat) (R : Except Nat Msg) (w : World) (hs : s.size ≤ 1000000) {g : Nat} (hrl : r < w.heap.size) (hg : w.heap.size = g) (hd0 : RdrAt (w.alloc (.cells #[.int .u16 0, .int .u16 0, .slice none 0 0, .slice none 0 0, .slice none 0 0, .slice none 0 0] 26)) r s s 0 2) (hbl : Below g w (w.alloc (.cells #[.int .u16 0, .int .u16 0, .slice none 0 0, .slice none 0 0, .slice none 0 0, .slice none 0 0] 26))) (h12 : s.size < 12) (hR : Hid (R = .error 2)) :
    Calls Try.prog 56 #[.pointer (some ⟨r, 0, none⟩)] w (MsgEnd w r R) := by
  have hno : ∀ (q : Nat) (w' : World), s.size < q + 2 → q ≤ 1000000 → RdrAt w' r s s (q : Int) 2 → Calls Try.prog 96 #[.pointer (some ⟨r, 0, none⟩), .int .i64 2] w' fun e w'' => e = gave 2 ∧ ∃ m, w'' = w'.drewN m :=
    fun q w' h1 h2 hd => number_no s s r 2 (q : Int) 2 w' hd hs (by decide) (by omega) (by omega) (holds_no (n := s.size) (p := q) (m := 2) h1)
  have hyes : ∀ (q : Nat) (w' : World), q + 2 ≤ s.size → RdrAt w' r s s (q : Int) 2 → Calls Try.prog 96 #[.pointer (some ⟨r, 0, none⟩), .int .i64 2] w' fun e w'' => e = .returned (.int .u32 (nu s.data.toList q 2 : Nat)) ∧ RdrAt w'' r s s ((q + 2 : Nat) : Int) 2 ∧ w'.grownBy w'' (some r) :=
    fun q w' h1 hd => number_yes s s r q 2 2 _ w' hd (by decide) (by decide) h1 hs rfl
  have HNO := Lib.hid hno
  have HYES := Lib.hid hyes
  have HD0 := Lib.hid hd0
  have HE0 := Lib.hid (show (w.alloc (.cells #[.int .u16 0, .int .u16 0, .slice none 0 0, .slice none 0 0, .slice none 0 0, .slice none 0 0] 26)).heap.size = g + 1 by simp [hg])
  have HB0 := Lib.hid (show (w.alloc (.cells #[.int .u16 0, .int .u16 0, .slice none 0 0, .slice none 0 0, .slice none 0 0, .slice none 0 0] 26)).heap[g]? = some (.cells #[.int .u16 0, .int .u16 0, .slice none 0 0, .slice none 0 0, .slice none 0 0, .slice none 0 0] 26 (0, 0)) by rw [← hg]; exact heap_alloc_new w _)
  have HK0 := Lib.hid ((Kept.refl g r w).below hbl)
  have G := Lib.hid hg
  clear hno hyes hd0 hbl
  obtain ⟨x0, hx0⟩ : ∃ x, nu s.data.toList 0 2 = x := ⟨_, rfl⟩
  have hx0l : x0 < 65536 := by rw [← hx0]; exact nu2_lt _ _
  obtain ⟨x2, hx2⟩ : ∃ x, nu s.data.toList 2 2 = x := ⟨_, rfl⟩
  have hx2l : x2 < 65536 := by rw [← hx2]; exact nu2_lt _ _
  have HX0 := Lib.hid hx0
  have HX2 := Lib.hid hx2
  clear hx0 hx2
  by_cases h2 : 2 ≤ s.size
  · have H1 := HYES.out 0 _ h2 HD0.out
    rw [HX0.out] at H1
    have H1' := Lib.hid H1
    clear H1
    go_enter Try.func56, Try.ntmps56
    go_wp2_with fail
    refine H1'.out.mono ?_
    rintro e w1 ⟨rfl, hD1, hG1⟩
    have HD1 := Lib.hid hD1
    have HG1 := Lib.hid hG1
    clear hD1 hG1
    by_cases h4 : 4 ≤ s.size
    · have H2 := HYES.out 2 _ h4 HD1.out
      rw [HX2.out] at H2
      have H2' := Lib.hid H2
      clear H2
      go_wp2_with fail
      refine H2'.out.mono ?_
      rintro e w2 ⟨rfl, hD2, hG2⟩
      have hg2 := grown_trans HG1.out hG2
      have he0 := HE0.out
      have hb0 : w2.heap[g]? = some (.cells #[.int .u16 0, .int .u16 0, .slice none 0 0, .slice none 0 0, .slice none 0 0, .slice none 0 0] 26 (0, 0)) := (grown_block hg2 (by omega) (by omega)).trans HB0.out
      have hs2 : g + 1 ≤ w2.heap.size := by have := hg2.size; omega
      have hk2 : Kept g r w w2 := HK0.out.grown hg2 (by omega)
      obtain ⟨B1, hB1⟩ : ∃ B1, w2.heap.size = B1 := ⟨_, rfl⟩
      have HST : Hid (MsgSt w ((w2.alloc (.cells #[.int .u16 x0, .int .u16 x2, .slice none 0 0, .slice none 0 0, .slice none 0 0, .slice none 0 0] 26)).alloc (.cells #[.int .i64 0, .int .i64 0, .int .i64 0, .int .i64 0] 126)) g r s 4 g B1 (B1 + 1) #[.int .u16 x0, .int .u16 x2, .slice none 0 0, .slice none 0 0, .slice none 0 0, .slice none 0 0] (cntC s.data.toList 0) 126) := by
        refine ⟨by omega, Nat.le_refl _, by omega, by omega, by simp [hB1], ?_, ?_, ?_, ?_, ?_⟩
        · exact (hD2.held ((Below.refl _ _).alloc (Nat.le_refl _) _)).held ((Below.refl _ _).alloc (Nat.le_refl _) _)
        · exact old_at (old_at hb0)
        · exact old_at (new_at _ _ _ hB1.symm)
        · exact new_at _ _ _ (by simp [hB1])
        · exact (hk2.alloc (by omega) _).alloc (by simp; omega) _
      clear hD2 hG2 hg2 hb0 hs2 hk2
      go_wp2_with fail
      generalize (w2.alloc (.cells #[.int .u16 x0, .int .u16 x2, .slice none 0 0, .slice none 0 0, .slice none 0 0, .slice none 0 0] 26)).alloc (.cells #[.int .i64 0, .int .i64 0, .int .i64 0, .int .i64 0] 126) = w3 at *
      clear hB1 he0
      go_loopw [5, 14] (fun sm ct wr => ∃ j, sm = .int .i64 (cntS s.data.toList j : Nat) ∧ ct = .int .i64 j ∧ j ≤ 4 ∧ 4 + 2 * j ≤ s.size ∧ Hid (MsgSt w wr g r s (4 + 2 * j) g B1 (B1 + 1) #[.int .u16 x0, .int .u16 x2, .slice none 0 0, .slice none 0 0, .slice none 0 0, .slice none 0 0] (cntC s.data.toList j) 126)) (fun _ ct _ => 4 - (intOf ct).toNat)
      case atStart => exact ⟨0, rfl, rfl, by decide, h4, HST⟩
      case round =>
        obtain ⟨j, rfl, rfl, hj, hjs, hST⟩ := hrel
        by_cases hlt : j < 4
        · by_cases hin : 4 + 2 * j + 2 ≤ s.size
          · obtain ⟨hc1, hc2⟩ := cnt_step s.data.toList hlt
            have hsl := cntS_lt s.data.toList j
            obtain ⟨S, hS⟩ : ∃ S, cntS s.data.toList j = S := ⟨_, rfl⟩
            obtain ⟨x, hx⟩ : ∃ x, nu s.data.toList (4 + 2 * j) 2 = x := ⟨_, rfl⟩
            rw [hS, hx] at hc2
            rw [hx] at hc1
            rw [hS] at hsl
            rw [hS]
            have hxl : x < 65536 := by rw [← hx]; exact nu2_lt _ _
            have hn := HYES.out (4 + 2 * j) wr hin hST.out.rd
            rw [hx] at hn
            have HN := Lib.hid hn
            have HC1 := Lib.hid hc1
            have HC2 := Lib.hid hc2
            obtain ⟨u0, hu0⟩ : ∃ u, (cntC s.data.toList j)[j]? = some u := by
              match j, hlt with
              | 0, _ => exact ⟨_, rfl⟩
              | 1, _ => exact ⟨_, rfl⟩
              | 2, _ => exact ⟨_, rfl⟩
              | 3, _ => exact ⟨_, rfl⟩
            have HU0 := Lib.hid hu0
            clear hx hS hc1 hc2 hu0 hn
            go_wp2_with fail
            refine HN.out.mono ?_
            rintro e w4 ⟨rfl, hD4, hG4⟩
            have hst := hST.out.call (q := 4 + 2 * j + 2) hD4 hG4
            have hcell : w4.cell? ⟨B1 + 1, j, none⟩ = some u0 := (cell_of_row w4 _ j _ _ _ hst.b2).trans HU0.out
            have hfz : w4.frozen? ⟨B1 + 1, j, none⟩ = false := by simp [World.frozen?, hst.b2]
            have hst2 := Lib.hid (hst.set2 j (.int .i64 x))
            have HST5 : Hid (MsgSt w (w4.setCell ⟨B1 + 1, j, none⟩ (.int .i64 x)) g r s (4 + 2 * (j + 1)) g B1 (B1 + 1) #[.int .u16 x0, .int .u16 x2, .slice none 0 0, .slice none 0 0, .slice none 0 0, .slice none 0 0] (cntC s.data.toList (j + 1)) 126) := by
              have := hst2.out
              rw [HC1.out] at this
              exact this
            clear hD4 hG4 hst hST hst2
            go_wp2_with fail
            go_roundw
            case rel => exact ⟨j + 1, by rw [HC2.out]; go_num, by go_num, by omega, by omega, HST5⟩
            case measure => simp [intOf]; omega
          · have HN := Lib.hid (HNO.out (4 + 2 * j) wr (by omega) (by omega) hST.out.rd)
            have HE := Lib.hid (hST.out.only G.out)
            go_wp2_with fail
            refine HN.out.mono ?_
            rintro e w4 ⟨rfl, m, rfl⟩
            go_wp2_with fail
            rw [hR.out]
            exact ⟨rfl, rfl, grown_drewN HE.out m⟩
        · omega
    · have H2 := Lib.hid (HNO.out 2 _ (by omega) (by decide) HD1.out)
      have HE : Hid (w.grownBy w1 (some r)) := by
        have := HK0.out.grown HG1.out (by rw [HE0.out]; omega)
        rw [← G.out] at this
        exact this.to_grown
      go_wp2_with fail
      refine H2.out.mono ?_
      rintro e w4 ⟨rfl, m, rfl⟩
      go_wp2_with fail
      rw [hR.out]
      exact ⟨rfl, rfl, grown_drewN HE.out m⟩
  · have H1 := Lib.hid (HNO.out 0 _ (by omega) (by decide) HD0.out)
    have HE : Hid (w.grownBy (w.alloc (.cells #[.int .u16 0, .int .u16 0, .slice none 0 0, .slice none 0 0, .slice none 0 0, .slice none 0 0] 26)) (some r)) := by
      have := HK0.out
      rw [← G.out] at this
      exact this.to_grown
    go_enter Try.func56, Try.ntmps56
    go_wp2_with fail
    refine H1.out.mono ?_
    rintro e w4 ⟨rfl, m, rfl⟩
    go_wp2_with fail
    rw [hR.out]
    exact ⟨rfl, rfl, grown_drewN HE.out m⟩
end Go.Proofs.Ytpmmjmnleoicjaa
