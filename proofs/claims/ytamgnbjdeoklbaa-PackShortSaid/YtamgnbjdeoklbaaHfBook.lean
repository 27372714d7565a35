/- The contract of newBook: the book of all codes, out of their lengths. No condition. -/
import Derived.Test.YtamgnbjdeoklbaaProg
import Derived.Test.YtamgnbjdeoklbaaBytes
import Derived.Test.YtamgnbjdeoklbaaHfTab
import Derived.Test.YtamgnbjdeoklbaaHfTabs
import Derived.Test.YtamgnbjdeoklbaaHfLow
import Derived.WalkKit
import Derived.Lib.Hide
import Derived.Lib.OthersKept
import Derived.Outline
import Derived.IntWalk
import Derived.WalkSpells
import Derived.WalkLawsBesides
namespace Go.Proofs.Ytamgnbjdeoklbaa
open Go.RowKit Bytes Hf

namespace Hf
/-- How many of the signs ahead of one have that length. -/
def cnt (n : Nat) : Nat → Nat
  | 0 => 0
  | s + 1 => cnt n s + if len s = n then 1 else 0
theorem cnt_le (n : Nat) : ∀ s, cnt n s ≤ s
  | 0 => Nat.le_refl _
  | s + 1 => by
    have := cnt_le n s
    rw [cnt]
    split <;> omega
theorem cnt_chk : ((List.range 257).all fun s => cd s == firsts.getD (len s) 0 + cnt (len s) s) = true := by decide +kernel
theorem cnt_all_chk : ((List.range 31).all fun n => cnt n 257 == counts.getD n 0) = true := by decide +kernel
theorem cd_cnt {s : Nat} (h : s < 257) : cd s = firsts.getD (len s) 0 + cnt (len s) s := eq_of_beq (all_lt cnt_chk s h)
theorem cnt_all {n : Nat} (h : n < 31) : cnt n 257 = counts.getD n 0 := eq_of_beq (all_lt cnt_all_chk n h)
/-- What the next code and the next place are, ahead of a length's round. -/
def nxt : Nat → Nat
  | 0 => 0
  | n + 1 => firsts.getD n 0 + counts.getD n 0
def plc : Nat → Nat
  | 0 => 0
  | n + 1 => plc n + counts.getD n 0
theorem led_chk : ((List.range 31).all fun n => decide (2 * nxt n = firsts.getD n 0) && decide (offs.getD n 0 = plc n) && decide (plc n ≤ firsts.getD n 0) && decide (firsts.getD n 0 + counts.getD n 0 ≤ 1073741824) && decide (plc n + counts.getD n 0 ≤ 257)) = true := by decide +kernel
theorem led_bd {n : Nat} (h : n < 31) : 2 * nxt n = firsts.getD n 0 ∧ offs.getD n 0 = plc n ∧ plc n ≤ firsts.getD n 0 ∧ firsts.getD n 0 + counts.getD n 0 ≤ 1073741824 ∧ plc n + counts.getD n 0 ≤ 257 := by
  have := all_lt led_chk n h
  simp only [Bool.and_eq_true, decide_eq_true_eq] at this
  exact ⟨this.1.1.1.1, this.1.1.1.2, this.1.1.2, this.1.2, this.2⟩
/-- The first codes of the lengths up to one are written. -/
def Led (f : Nat → Value) (n : Nat) : Prop := ∀ k, k < n → f (771 + k) = cu (firsts.getD k 0 - offs.getD k 0) ∧ f (802 + k) = cu (firsts.getD k 0)
theorem led_next {f : Nat → Value} {n : Nat} (h : Led f n) (hn : n < 31) : Led (upd (upd f (771 + n) (cu (firsts.getD n 0 - offs.getD n 0))) (802 + n) (cu (firsts.getD n 0))) (n + 1) := by
  intro k hk
  by_cases e : k = n
  · subst e
    rw [upd_ne _ _ (show 771 + k ≠ 802 + k by omega), upd_same, upd_same]
    exact ⟨rfl, rfl⟩
  · rw [upd_ne _ _ (show 771 + k ≠ 802 + n by omega), upd_ne _ _ (show 771 + k ≠ 771 + n by omega), upd_ne _ _ (show 802 + k ≠ 802 + n by omega), upd_ne _ _ (show 802 + k ≠ 771 + n by omega)]
    exact h k (by omega)
theorem idx31 (f : Nat → Value) {n : Nat} (h : n < 31) (w : World) : (Instr.index 146 (.agg (tab 31 f)) (.int .i64 (n : Int))).run Try.prog w = .ok (f n) w := by
  have u5 : Try.prog.underlying 146 = some (.array 31 29) := Try.underlying146
  have hs : (sizeOf 29).run Try.prog w = .ok 1 w := by kernel_rfl
  simp [Instr.index, run_underlying u5, asIntOf, hs, h, part, tab_get f h]
/-- The world while the letters are counted: the result's row, the counts, the iterator. -/
structure Cnt (g : Nat) (w w' : World) (z : Array Value) (L : ByteArray) (f : Nat → Value) (pos : Nat) : Prop where
  below : Below g w w'
  res : w'.heap[g]? = some (.cells z 148 (0, 0))
  row : w'.heap[g + 1]? = some (.cells (tab 31 f) 146 (0, 0))
  it : w'.heap[g + 2]? = some (.stringIter L pos)
  size : w'.heap.size = g + 3
theorem cnt_start (w : World) (zB zC : Array Value) (L : ByteArray) (h : zC = tab 31 fun _ => cu 0) :
    Cnt w.heap.size w (((w.alloc (.cells zB 148)).alloc (.cells zC 146)).iter L 0) zB L (fun _ => cu 0) 0 := by
  subst h
  have s1 : (w.alloc (.cells zB 148)).heap.size = w.heap.size + 1 := by simp
  have s2 : ((w.alloc (.cells zB 148)).alloc (.cells (tab 31 fun _ => cu 0) 146)).heap.size = w.heap.size + 2 := by simp
  refine ⟨(((Below.refl _ w).alloc (Nat.le_refl _) _).alloc (by omega) _).alloc (by omega) _, ?_, ?_, ?_, ?_⟩
  · exact (heap_alloc_old _ _ (by omega)).trans (heap_alloc2_old w _ _)
  · exact (heap_alloc_old _ _ (by omega)).trans (heap_alloc2_new w _ _)
  · have h := World.iter_heap ((w.alloc (.cells zB 148)).alloc (.cells (tab 31 fun _ => cu 0) 146)) L 0
    rwa [s2] at h
  · show (World.alloc _ _).heap.size = _
    simp
theorem Cnt.next {g : Nat} {w w' : World} {z : Array Value} {L : ByteArray} {f : Nat → Value} {pos : Nat} (h : Cnt g w w' z L f pos) (p : Nat) : Cnt g w (w'.iterAt (g + 2) L p) z L f p :=
  ⟨Lib.below_iterAt h.below (by omega) L p, (Lib.iterAt_other _ _ _ _ _ (by omega)).trans h.res, (Lib.iterAt_other _ _ _ _ _ (by omega)).trans h.row, Lib.iterAt_heap _ _ _ _ _ h.it, (Lib.iterAt_size _ _ _ _).trans h.size⟩
theorem Cnt.set {g : Nat} {w w' : World} {z : Array Value} {L : ByteArray} {f : Nat → Value} {pos : Nat} (h : Cnt g w w' z L f pos) (n : Nat) (v : Value) : Cnt g w (w'.setCell ⟨g + 1, n, none⟩ v) z L (upd f n v) pos := by
  refine ⟨h.below.setCell (by show g ≤ g + 1; omega) v, (heap_setCell_other _ _ _ _ (by show g ≠ g + 1; omega)).trans h.res, ?_, (heap_setCell_other _ _ _ _ (by show g + 2 ≠ g + 1; omega)).trans h.it, ?_⟩
  · rw [heap_setCell_same _ _ _ _ _ _ h.row, tab_set]
  · exact (by simp [World.setCell] : (w'.setCell ⟨g + 1, n, none⟩ v).heap.size = w'.heap.size).trans h.size
theorem Cnt.pos {g : Nat} {w w' : World} {z : Array Value} {L : ByteArray} {f : Nat → Value} {pos : Nat} (h : Cnt g w w' z L f pos) : w'.iterPos (g + 2) = pos := by simp [World.iterPos, h.it]
/-- The world while the book is written: the result's row, the book's. -/
structure Bk (g : Nat) (w w' : World) (z : Array Value) (f : Nat → Value) (m : Nat) : Prop where
  below : Below g w w'
  res : w'.heap[g]? = some (.cells z 148 (0, 0))
  row : w'.heap[g + 3]? = some (.cells (tab 833 f) 148 (0, 0))
  size : w'.heap.size = m
theorem Cnt.book {g : Nat} {w w' : World} {z zB : Array Value} {L : ByteArray} {f : Nat → Value} {pos : Nat} (h : Cnt g w w' z L f pos) {b : Nat → Value} (hz : zB = tab 833 b) : Bk g w (w'.alloc (.cells zB 148)) z b (g + 4) := by
  have hs := h.size
  subst hz
  refine ⟨h.below.alloc (by omega) _, (heap_alloc_old _ _ (by omega)).trans h.res, ?_, by simp; omega⟩
  rw [← hs]
  exact heap_alloc_new w' _
theorem Bk.set {g m : Nat} {w w' : World} {z : Array Value} {f : Nat → Value} (h : Bk g w w' z f m) (n : Nat) (v : Value) : Bk g w (w'.setCell ⟨g + 3, n, none⟩ v) z (upd f n v) m := by
  refine ⟨h.below.setCell (by show g ≤ g + 3; omega) v, (heap_setCell_other _ _ _ _ (by show g ≠ g + 3; omega)).trans h.res, ?_, ?_⟩
  · rw [heap_setCell_same _ _ _ _ _ _ h.row, tab_set]
  · exact (by simp [World.setCell] : (w'.setCell ⟨g + 3, n, none⟩ v).heap.size = w'.heap.size).trans h.size
theorem Bk.cell {g m : Nat} {w w' : World} {z : Array Value} {f : Nat → Value} (h : Bk g w w' z f m) {n : Nat} (hn : n < 833) : w'.cell? ⟨g + 3, n, none⟩ = some (f n) ∧ w'.frozen? ⟨g + 3, n, none⟩ = false :=
  ⟨by rw [cell_of_row _ _ _ _ _ _ h.row, tab_get _ hn], frozen_of_row _ _ _ _ _ h.row⟩
theorem Bk.iter {g : Nat} {w w' : World} {z : Array Value} {f : Nat → Value} (h : Bk g w w' z f (g + 4)) (L : ByteArray) : Bk g w (w'.iter L 0) z f (g + 5) ∧ (w'.iter L 0).heap[g + 4]? = some (.stringIter L 0) := by
  have hs := h.size
  refine ⟨⟨h.below.alloc (by omega) _, (heap_alloc_old _ _ (by omega)).trans h.res, (heap_alloc_old _ _ (by omega)).trans h.row, ?_⟩, ?_⟩
  · show (World.alloc _ _).heap.size = _
    simp; omega
  · have := World.iter_heap w' L 0
    rwa [hs] at this
theorem Bk.next {g m : Nat} {w w' : World} {z : Array Value} {f : Nat → Value} (h : Bk g w w' z f m) (L : ByteArray) (p : Nat) : Bk g w (w'.iterAt (g + 4) L p) z f m :=
  ⟨Lib.below_iterAt h.below (by omega) L p, (Lib.iterAt_other _ _ _ _ _ (by omega)).trans h.res, (Lib.iterAt_other _ _ _ _ _ (by omega)).trans h.row, (Lib.iterAt_size _ _ _ _).trans h.size⟩
theorem below_setRow {g k : Nat} {w w' : World} (h : Below g w w') (hk : g ≤ k) (cs : Array Value) : Below g w (w'.setRow k cs) :=
  h.trans ⟨rfl, rfl, rfl, by rw [setRow_size]; exact Nat.le_refl _, fun i hi => setRow_other w' k i cs (by omega)⟩
/-- The place of a sign in the order. -/
def plo (s : Nat) : Nat := offs.getD (len s) 0 + cnt (len s) s
theorem plo_chk : ((List.range 257).all fun s => decide (plo s < 257) && decide (ord.getD (plo s) 0 = s)) = true := by decide +kernel
theorem plo_bd {s : Nat} (h : s < 257) : plo s < 257 ∧ ord.getD (plo s) 0 = s := by
  have := all_lt plo_chk s h
  simp only [Bool.and_eq_true, decide_eq_true_eq] at this
  exact this
theorem plo_ne {s k : Nat} (hs : s < 257) (hk : k < 257) (h : k ≠ s) : plo k ≠ plo s := by
  intro e
  apply h
  rw [← (plo_bd hk).2, e, (plo_bd hs).2]
/-- The signs up to one are written. -/
structure Done (f : Nat → Value) (s : Nat) : Prop where
  codes : ∀ k, k < s → f (k * 2) = cu (cd k) ∧ f (k * 2 + 1) = ci (len k) ∧ f (514 + plo k) = ci k
  lead : ∀ n, n < 31 → f (771 + n) = cu (firsts.getD n 0 - offs.getD n 0)
  past : ∀ n, n < 31 → f (802 + n) = cu (firsts.getD n 0 + cnt n s)
theorem done_start {f : Nat → Value} (h : Led f 31) : Done f 0 :=
  ⟨fun k hk => absurd hk (Nat.not_lt_zero k), fun n hn => (h n hn).1, fun n hn => (h n hn).2⟩
/-- What one sign writes. -/
def put1 (f : Nat → Value) (s : Nat) : Nat → Value :=
  upd (upd (upd (upd f (s * 2) (cu (cd s))) (s * 2 + 1) (ci (len s))) (514 + plo s) (ci s)) (802 + len s) (cu (cd s + 1))
theorem done_next {f : Nat → Value} {s : Nat} (h : Done f s) (hs : s < 257) : Done (put1 f s) (s + 1) := by
  have hp := plo_bd hs
  have hb := len_bd hs
  have hc := cd_cnt hs
  unfold put1
  refine ⟨fun k hk => ?_, fun n hn => ?_, fun n hn => ?_⟩
  · have hpk := plo_bd (show k < 257 by omega)
    by_cases e : k = s
    · subst e
      refine ⟨?_, ?_, ?_⟩
      · rw [upd_ne _ _ (show k * 2 ≠ 802 + len k by omega), upd_ne _ _ (show k * 2 ≠ 514 + plo k by omega), upd_ne _ _ (show k * 2 ≠ k * 2 + 1 by omega), upd_same]
      · rw [upd_ne _ _ (show k * 2 + 1 ≠ 802 + len k by omega), upd_ne _ _ (show k * 2 + 1 ≠ 514 + plo k by omega), upd_same]
      · rw [upd_ne _ _ (show 514 + plo k ≠ 802 + len k by omega), upd_same]
    · have hne := plo_ne hs (show k < 257 by omega) e
      have ho := h.codes k (by omega)
      refine ⟨?_, ?_, ?_⟩
      · rw [upd_ne _ _ (show k * 2 ≠ 802 + len s by omega), upd_ne _ _ (show k * 2 ≠ 514 + plo s by omega), upd_ne _ _ (show k * 2 ≠ s * 2 + 1 by omega), upd_ne _ _ (show k * 2 ≠ s * 2 by omega)]
        exact ho.1
      · rw [upd_ne _ _ (show k * 2 + 1 ≠ 802 + len s by omega), upd_ne _ _ (show k * 2 + 1 ≠ 514 + plo s by omega), upd_ne _ _ (show k * 2 + 1 ≠ s * 2 + 1 by omega), upd_ne _ _ (show k * 2 + 1 ≠ s * 2 by omega)]
        exact ho.2.1
      · rw [upd_ne _ _ (show 514 + plo k ≠ 802 + len s by omega), upd_ne _ _ (show 514 + plo k ≠ 514 + plo s by omega), upd_ne _ _ (show 514 + plo k ≠ s * 2 + 1 by omega), upd_ne _ _ (show 514 + plo k ≠ s * 2 by omega)]
        exact ho.2.2
  · rw [upd_ne _ _ (show 771 + n ≠ 802 + len s by omega), upd_ne _ _ (show 771 + n ≠ 514 + plo s by omega), upd_ne _ _ (show 771 + n ≠ s * 2 + 1 by omega), upd_ne _ _ (show 771 + n ≠ s * 2 by omega)]
    exact h.lead n hn
  · by_cases e : n = len s
    · subst e
      rw [upd_same, cnt, if_pos rfl, hc, Nat.add_assoc]
    · rw [upd_ne _ _ (show 802 + n ≠ 802 + len s by omega), upd_ne _ _ (show 802 + n ≠ 514 + plo s by omega), upd_ne _ _ (show 802 + n ≠ s * 2 + 1 by omega), upd_ne _ _ (show 802 + n ≠ s * 2 by omega), h.past n hn, cnt, if_neg (fun h => e h.symm), Nat.add_zero]
/-- The book. -/
def bookF (i : Nat) : Value :=
  if i < 514 then (if i % 2 = 0 then cu (cd (i / 2)) else ci (len (i / 2)))
  else if i < 771 then ci (ord.getD (i - 514) 0)
  else if i < 802 then cu (firsts.getD (i - 771) 0 - offs.getD (i - 771) 0)
  else cu (topOf (i - 802))
theorem book_one : (tab 833 bookF).all (·.oneCell') = true := by kernel_rfl
theorem ord_chk : ((List.range 257).all fun i => decide (ord.getD i 0 < 257) && decide (plo (ord.getD i 0) = i)) = true := by decide +kernel
theorem done_all {f : Nat → Value} (h : Done f 257) : tab 833 f = tab 833 bookF := by
  apply tab_congr
  intro i hi
  unfold bookF
  by_cases h1 : i < 514
  · rw [if_pos h1]
    have ho := h.codes (i / 2) (by omega)
    by_cases h2 : i % 2 = 0
    · rw [if_pos h2]
      rw [show i / 2 * 2 = i by omega] at ho
      exact ho.1
    · rw [if_neg h2]
      rw [show i / 2 * 2 + 1 = i by omega] at ho
      exact ho.2.1
  · rw [if_neg h1]
    by_cases h2 : i < 771
    · rw [if_pos h2]
      have hc := all_lt ord_chk (i - 514) (by omega)
      simp only [Bool.and_eq_true, decide_eq_true_eq] at hc
      have ho := (h.codes _ hc.1).2.2
      rw [hc.2, show 514 + (i - 514) = i by omega] at ho
      exact ho
    · rw [if_neg h2]
      by_cases h3 : i < 802
      · rw [if_pos h3]
        have ho := h.lead (i - 771) (by omega)
        rw [show 771 + (i - 771) = i by omega] at ho
        exact ho
      · rw [if_neg h3]
        have ho := h.past (i - 802) (by omega)
        rw [show 802 + (i - 802) = i by omega, cnt_all (by omega)] at ho
        exact ho
/-- The letters are counted up to one. -/
def CntIs (f : Nat → Value) (pos : Nat) : Prop := ∀ n, n < 31 → f n = cu (cnt n pos)
theorem cntIs_next {f : Nat → Value} {pos : Nat} (h : CntIs f pos) : CntIs (upd f (len pos) (cu (cnt (len pos) pos + 1))) (pos + 1) := by
  intro n hn
  by_cases e : n = len pos
  · subst e
    rw [upd_same, cnt, if_pos rfl]
  · rw [upd_ne _ _ e, h n hn, cnt, if_neg (fun h => e h.symm), Nat.add_zero]
end Hf

set_option maxHeartbeats 4000000 in
set_option maxRecDepth 100000 in
theorem book_is (w : World) :
    Calls Try.prog 88 #[] w fun e w' => e = .returned (.agg (tab 833 bookF)) ∧ Below w.heap.size w w' := by
  obtain ⟨fin, hfin⟩ : ∃ fin, Hid (fin = tab 833 bookF) := ⟨_, rfl⟩
  rw [← hfin.out]
  have hsf : fin.size = 833 := by rw [hfin.out, tab_size]
  obtain ⟨zB, hz, HZ⟩ : ∃ zB, (∀ w, (zeroValue 148).run Try.prog w = .ok (.agg zB) w) ∧ Hid (zB = tab 833 bookZ) := ⟨_, zero_of book_info, rfl⟩
  obtain ⟨zC, hzc, HZC⟩ : ∃ zC, (∀ w, (zeroValue 146).run Try.prog w = .ok (.agg zC) w) ∧ Hid (zC = tab 31 fun _ => cu 0) := ⟨_, zero_of lens_info, rfl⟩
  go_enter Try.func88, Try.ntmps88
  go_wp2_with fail
  obtain ⟨g, G⟩ : ∃ g, Hid (w.heap.size = g) := ⟨_, rfl⟩
  go_loopw [] (fun wr => ∃ (pos : Nat) (f : Nat → Value), pos ≤ 257 ∧ Hid (Cnt g w wr zB letters f pos) ∧ Hid (CntIs f pos)) (fun wr => 257 - wr.iterPos (g + 2))
  case atStart =>
    rw [← G.out]
    exact ⟨0, _, Nat.zero_le _, cnt_start w zB zC letters HZC.out, fun n _ => rfl⟩
  case round =>
    obtain ⟨pos, f, hp, hC, hF⟩ := hrel
    by_cases hlt : pos < 257
    · have hb := len_bd hlt
      have hnx : ∀ ty, (Instr.next (.pointer (some ⟨w.heap.size + 1 + 1, 0, none⟩)) true ty).run Try.prog wr = .ok (.tuple #[.bool true, .int .i64 pos, .int .i32 ((len pos : Int) + 92)]) (wr.iterAt (g + 2) letters (pos + 1)) := fun ty => by
        rw [G.out]
        have h1 := lt_nat hlt
        have h2 := Lib.run_next_ascii_at (P := Try.prog) wr (g + 2) letters pos ty hC.out.it (by rw [letters_size]; exact hlt) (by rw [letter_in hlt]; omega)
        rw [letter_in hlt, h1] at h2
        exact h2
      have hC1 := hC.out.next (pos + 1)
      generalize wr.iterAt (g + 2) letters (pos + 1) = W1 at *
      have hce : W1.cell? ⟨w.heap.size + 1, len pos, none⟩ = some (.int .u32 (cnt (len pos) pos : Int)) := by
        rw [G.out, cell_of_row _ _ _ _ _ _ hC1.row, tab_get _ (by omega), hF.out _ (by omega)]; rfl
      have hfr : W1.frozen? ⟨w.heap.size + 1, len pos, none⟩ = false := by
        rw [G.out]; exact frozen_of_row _ _ _ _ _ hC1.row
      have HC1 := Lib.hid hC1
      have hcl := cnt_le (len pos) pos
      have hmod : ((cnt (len pos) pos : Int) + 1) % 4294967296 = ((cnt (len pos) pos + 1 : Nat) : Int) := by omega
      have hps := hC.out.pos
      clear hC hC1
      go_wp2_with fail
      refine (bitsOf_is _ (len pos) _ rfl hb.1 hb.2.1).mono ?_
      rintro e w' ⟨rfl, rfl⟩
      go_wp2_with fail
      have HC2 := Lib.hid (HC1.out.set (len pos) (cu (cnt (len pos) pos + 1)))
      have hps2 := HC2.out.pos
      have HF2 := Lib.hid (cntIs_next hF.out)
      rw [← G.out] at HC2
      go_roundw
      case rel => exact ⟨pos + 1, _, by omega, by rw [← G.out]; exact HC2, HF2⟩
      case measure =>
        rw [G.out]
        show 257 - (W1.setCell ⟨g + 1, len pos, none⟩ (cu (cnt (len pos) pos + 1))).iterPos (g + 2) < _
        rw [hps2, hps]
        omega
    · have e : pos = 257 := by omega
      subst e
      have hnx : ∀ ty, (Instr.next (.pointer (some ⟨w.heap.size + 1 + 1, 0, none⟩)) true ty).run Try.prog wr = .ok (.tuple #[.bool false]) wr := fun ty => by
        rw [G.out]
        exact Lib.run_next_end_at (P := Try.prog) wr (g + 2) letters 257 ty hC.out.it (by rw [letters_size]; omega)
      have hcn : ∀ n, n < 31 → f n = cu (counts.getD n 0) := fun n hn => by rw [hF.out n hn, cnt_all hn]
      have HCN := Lib.hid hcn
      have hB := hC.out.book HZ.out
      have hrow : (wr.alloc (.cells zB 148)).heap[g + 1]? = some (.cells (tab 31 f) 146 (0, 0)) := (heap_alloc_old _ _ (by have := hC.out.size; omega)).trans hC.out.row
      have HB := Lib.hid hB
      have HROW := Lib.hid hrow
      obtain ⟨cs, hcs⟩ : ∃ cs, Hid (cs = tab 31 f) := ⟨_, rfl⟩
      clear hcn hrow hF hB hp hlt
      rw [← G.out, ← hcs.out] at HROW
      have hsz : wr.heap.size = w.heap.size + 3 := by rw [G.out]; exact hC.out.size
      go_wp2_with (refine wpList_load_row rfl 146 _ rfl _ rfl 146 cs (0, 0) _ HROW.out Try.underlying146 rfl ?hi ?_)
      case hi => rw [hcs.out, tab_size]; exact size_of lens_info
      generalize (wr.alloc (.cells zB 148)) = W2 at *
      go_loopw [5, 6, 24] (fun a b i wr => ∃ (n : Nat) (f : Nat → Value), n ≤ 31 ∧ a = .int .u32 (nxt n : Int) ∧ b = .int .u32 (plc n : Int) ∧ i = .int .i64 (n : Int) ∧ Hid (Bk g w wr zB f (g + 4)) ∧ Hid (Led f n)) (fun _ _ i _ => 31 - (intOf i).toNat)
      case atStart => exact ⟨0, bookZ, Nat.zero_le _, rfl, rfl, rfl, HB, fun k hk => absurd hk (Nat.not_lt_zero k)⟩
      clear HB hC hsz HROW
      case round =>
        obtain ⟨n, f2, hn, rfl, rfl, rfl, hB, hL⟩ := hrel
        by_cases hlt : n < 31
        · have hix : ∀ w, (Instr.index 146 (.agg cs) (.int .i64 (n : Int))).run Try.prog w = .ok (.int .u32 (counts.getD n 0 : Int)) w := fun w => by
            rw [hcs.out, idx31 _ hlt, HCN.out n hlt]; rfl
          have hl := led_bd hlt
          have HN1 := Lib.hid (led_next hL.out hlt)
          have HB1 := Lib.hid ((hB.out.set (771 + n) (cu (firsts.getD n 0 - offs.getD n 0))).set (802 + n) (cu (firsts.getD n 0)))
          have hc1 := hB.out.cell (n := 771 + n) (by omega)
          have hc2 := fun v => (hB.out.set (771 + n) v).cell (n := 802 + n) (by omega)
          simp only [upd_ne _ _ (show 802 + n ≠ 771 + n by omega)] at hc2
          rw [← G.out] at hc1 hc2
          obtain ⟨c, hcc⟩ : ∃ c, counts.getD n 0 = c := ⟨_, rfl⟩
          obtain ⟨a, haa⟩ : ∃ a, nxt n = a := ⟨_, rfl⟩
          obtain ⟨b, hbb⟩ : ∃ b, plc n = b := ⟨_, rfl⟩
          obtain ⟨q, hqq⟩ : ∃ q, firsts.getD n 0 = q := ⟨_, rfl⟩
          obtain ⟨o, hoo⟩ : ∃ o, offs.getD n 0 = o := ⟨_, rfl⟩
          have en : nxt (n + 1) = q + c := by rw [← hqq, ← hcc]; rfl
          have ep : plc (n + 1) = b + c := by rw [← hbb, ← hcc]; rfl
          rw [hcc] at hix hl
          rw [haa, hbb, hqq, hoo] at hl
          rw [hqq, hoo] at HB1 HN1
          have EN := Lib.hid en
          have EP := Lib.hid ep
          rw [haa, hbb]
          clear en ep hcc haa hbb hqq hoo
          obtain ⟨h1, h2, h3, h4, h5⟩ := hl
          subst h2
          have e1 : ((a : Int) * 2) % 4294967296 = (q : Int) := by omega
          have e2 : ((q : Int) - (o : Int)) % 4294967296 = ((q - o : Nat) : Int) := by omega
          have e3 : ((q : Int) + (c : Int)) % 4294967296 = ((q + c : Nat) : Int) := by omega
          have e4 : ((o : Int) + (c : Int)) % 4294967296 = ((o + c : Nat) : Int) := by omega
          obtain ⟨hc1, hf1⟩ := hc1
          have hc2' := fun v => (hc2 v).1
          have hf2 := fun v => (hc2 v).2
          clear hc2
          go_wp2_with fail
          have v1 : cu (q - o) = .int .u32 ((a : Int) * 2 - (o : Int)) := by unfold cu; congr 1; omega
          have v2 : cu q = .int .u32 ((a : Int) * 2) := by unfold cu; congr 1; omega
          rw [v1, v2, ← G.out] at HB1
          rw [v1, v2] at HN1
          go_roundw
          case rel => exact ⟨n + 1, _, by omega, by rw [EN.out]; congr 1; omega, by rw [EP.out]; congr 1, rfl, by rw [← G.out]; exact HB1, HN1⟩
          case measure => simp [intOf]; omega
        · have e : n = 31 := by omega
          subst e
          have hsz : wr.heap.size = w.heap.size + 4 := by rw [G.out]; exact hB.out.size
          go_wp2_with fail
          have HS := Lib.hid (hB.out.iter letters)
          have HD := Lib.hid (done_start hL.out)
          clear hB hL hlt hn HCN
          obtain ⟨W3, hW3⟩ : ∃ W3, wr.iter letters 0 = W3 := ⟨_, rfl⟩
          rw [hW3] at HS
          change Code.wp _ _ _ _ (wr.iter letters 0)
          rw [hW3]
          clear hW3 hsz
          go_loopw [] (fun wr => ∃ (pos : Nat) (f : Nat → Value), pos ≤ 257 ∧ Hid (Bk g w wr zB f (g + 5)) ∧ Hid (wr.heap[g + 4]? = some (.stringIter letters pos)) ∧ Hid (Done f pos)) (fun wr => 257 - wr.iterPos (g + 4))
          case atStart => exact ⟨0, f2, Nat.zero_le _, HS.out.1, HS.out.2, HD⟩
          clear HS HD
          case round =>
            obtain ⟨pos, f3, hp, hB, hI, hD⟩ := hrel
            by_cases hlt : pos < 257
            · have hb := len_bd hlt
              have hnx : ∀ ty, (Instr.next (.pointer (some ⟨w.heap.size + 4, 0, none⟩)) true ty).run Try.prog wr = .ok (.tuple #[.bool true, .int .i64 pos, .int .i32 ((len pos : Int) + 92)]) (wr.iterAt (g + 4) letters (pos + 1)) := fun ty => by
                rw [G.out]
                have h1 := lt_nat hlt
                have h2 := Lib.run_next_ascii_at (P := Try.prog) wr (g + 4) letters pos ty hI.out (by rw [letters_size]; exact hlt) (by rw [letter_in hlt]; omega)
                rw [letter_in hlt, h1] at h2
                exact h2
              have hps : wr.iterPos (g + 4) = pos := by simp [World.iterPos, hI.out]
              have hB1 := hB.out.next letters (pos + 1)
              have hI1 := Lib.iterAt_heap wr (g + 4) letters pos (pos + 1) hI.out
              generalize wr.iterAt (g + 4) letters (pos + 1) = W1 at *
              have hcd := cd_cnt hlt
              have hpl := (plo_bd hlt).1
              have hld := led_bd (show len pos < 31 by omega)
              have hd1 := hD.out.lead (len pos) (by omega)
              have hd2 := hD.out.past (len pos) (by omega)
              have hdn := Lib.hid (done_next hD.out hlt)
              have hpe : plo pos = offs.getD (len pos) 0 + cnt (len pos) pos := rfl
              rw [← hcd] at hd2
              obtain ⟨l, hl⟩ : ∃ l, firsts.getD (len pos) 0 - offs.getD (len pos) 0 = l := ⟨_, rfl⟩
              rw [hl] at hd1
              have hsub : ((cd pos : Int) - (l : Int)) % 4294967296 = (plo pos : Int) := by omega
              have hinc : ((cd pos : Int) + 1) % 4294967296 = ((cd pos + 1 : Nat) : Int) := by omega
              clear hpe hl hld hcd
              unfold put1 at hdn
              obtain ⟨c, hc⟩ : ∃ c, cd pos = c := ⟨_, rfl⟩
              obtain ⟨n, hn⟩ : ∃ n, len pos = n := ⟨_, rfl⟩
              obtain ⟨k, hk⟩ : ∃ k, plo pos = k := ⟨_, rfl⟩
              rw [hc] at hsub hinc hd2
              rw [hn] at hd1 hd2 hb hnx
              rw [hk] at hsub hpl
              rw [hc, hn, hk] at hdn
              have hB2 := fun v => hB1.set (pos * 2) v
              have hB3 := fun v v' => (hB2 v).set (pos * 2 + 1) v'
              have hB4 := fun v v' v'' => (hB3 v v').set (514 + k) v''
              have hB5 := Lib.hid (((hB3 (cu c) (ci n)).set (514 + k) (ci pos)).set (802 + n) (cu (c + 1)))
              have x1 := (hB1.cell (n := 802 + n) (by omega)).1
              have x2 := (hB1.cell (n := pos * 2) (by omega))
              have x3 := fun v => (hB2 v).cell (n := pos * 2 + 1) (by omega)
              have x4 := fun v v' => ((hB3 v v').cell (n := 771 + n) (by omega)).1
              have x5 := fun v v' => (hB3 v v').cell (n := 514 + k) (by omega)
              have x6 := fun v v' v'' => (hB4 v v' v'').cell (n := 802 + n) (by omega)
              have y : ∀ v v', upd (upd f3 (pos * 2) v) (pos * 2 + 1) v' (771 + n) = cu l := fun v v' => by
                rw [upd_ne _ _ (show 771 + n ≠ pos * 2 + 1 by omega), upd_ne _ _ (show 771 + n ≠ pos * 2 by omega), hd1]
              have y2 : ∀ v v' v'', upd (upd (upd f3 (pos * 2) v) (pos * 2 + 1) v') (514 + k) v'' (802 + n) = cu c := fun v v' v'' => by
                rw [upd_ne _ _ (show 802 + n ≠ 514 + k by omega), upd_ne _ _ (show 802 + n ≠ pos * 2 + 1 by omega), upd_ne _ _ (show 802 + n ≠ pos * 2 by omega), hd2]
              simp only [y2] at x6
              simp only [y] at x4
              rw [hd2] at x1
              rw [← G.out] at x1 x2 x3 x4 x5 x6
              unfold cu at x1 x4 x6
              have x3a := fun v => (x3 v).1
              have x3b := fun v => (x3 v).2
              have x5a := fun v v' => (x5 v v').1
              have x5b := fun v v' => (x5 v v').2
              have x6a := fun v v' v'' => (x6 v v' v'').1
              have x6b := fun v v' v'' => (x6 v v' v'').2
              have hi1 := Lib.hid hI1
              clear hB hI hD hB1 hB2 hB3 hB4 x3 x5 x6 y y2 hd1 hd2 hI1
              go_wp2_with fail
              refine (bitsOf_is _ n _ rfl hb.1 hb.2.1).mono ?_
              rintro e w' ⟨rfl, rfl⟩
              go_wp2_with fail
              have hit : ∀ a b c d, ((((W1.setCell ⟨g + 3, pos * 2, none⟩ a).setCell ⟨g + 3, pos * 2 + 1, none⟩ b).setCell ⟨g + 3, 514 + k, none⟩ c).setCell ⟨g + 3, 802 + n, none⟩ d).heap[g + 4]? = some (.stringIter letters (pos + 1)) := fun a b c d => by
                rw [heap_setCell_other _ _ _ _ (show g + 4 ≠ g + 3 by omega), heap_setCell_other _ _ _ _ (show g + 4 ≠ g + 3 by omega), heap_setCell_other _ _ _ _ (show g + 4 ≠ g + 3 by omega), heap_setCell_other _ _ _ _ (show g + 4 ≠ g + 3 by omega)]
                exact hi1.out
              have HIT := Lib.hid hit
              clear hit
              go_roundw
              case rel =>
                rw [G.out]
                iterate 36 apply Exists.intro
                exact ⟨⟨pos + 1, _, by omega, hB5, Lib.hid (HIT.out _ _ _ _), hdn⟩, rfl⟩
              case measure =>
                rw [G.out, hps]
                have := HIT.out (cu c) (ci n) (ci pos) (cu (c + 1))
                unfold World.iterPos
                have e : ((((W1.setCell ⟨g + 3, pos * 2, none⟩ (.int .u32 (c : Int))).setCell ⟨g + 3, pos * 2 + 1, none⟩ (.int .i64 (n : Int))).setCell ⟨g + 3, 514 + k, none⟩ (.int .i64 (pos : Int))).setCell ⟨g + 3, 802 + n, none⟩ (.int .u32 ((c : Int) + 1))).heap[g + 4]? = some (.stringIter letters (pos + 1)) := this
                rw [e]
                show 257 - (pos + 1) < 257 - pos
                omega
            · have e : pos = 257 := by omega
              subst e
              have hnx : ∀ ty, (Instr.next (.pointer (some ⟨w.heap.size + 4, 0, none⟩)) true ty).run Try.prog wr = .ok (.tuple #[.bool false]) wr := fun ty => by
                rw [G.out]
                exact Lib.run_next_end_at (P := Try.prog) wr (g + 4) letters 257 ty hI.out (by rw [letters_size]; omega)
              have hfe : tab 833 f3 = fin := by rw [hfin.out, done_all hD.out]
              have hsz0 : zB.size = 833 := by rw [HZ.out, tab_size]
              have hrow := hB.out.row
              have hres := hB.out.res
              rw [hfe, ← G.out] at hrow
              rw [← G.out] at hres
              have HROW := Lib.hid hrow
              have HRES := Lib.hid hres
              have hone : fin.all (·.oneCell') = true := by rw [hfin.out]; exact book_one
              have HONE := Lib.hid hone
              have hbl := Lib.hid hB.out.below
              clear hrow hres hone hfe hB hI hD hp hlt
              go_wp2_with (first | (refine wpList_load_row rfl 148 _ rfl _ rfl 148 fin (0, 0) _ HROW.out Try.underlying148 rfl ?hi ?_) | (refine wpList_store_row rfl 148 _ _ rfl _ fin rfl rfl 148 zB HRES.out ?hi2 ?ho HONE.out ?_))
              case hi => rw [hsf]; exact size_of book_info
              case hi2 => rw [hsf]; exact size_of book_info
              case ho => rw [hsf, hsz0]
              refine bodyPost_ret (v := .agg fin) (results_cell_row rfl _ _ w.heap.size 148 fin (0, 0) _ rfl (setRow_heap _ _ _ fin _ _ HRES.out) Try.underlying148 rfl (by rw [hsf]; exact size_of book_info)) rfl ⟨rfl, ?_⟩
              rw [G.out]
              exact below_setRow hbl.out (Nat.le_refl _) fin
end Go.Proofs.Ytamgnbjdeoklbaa
