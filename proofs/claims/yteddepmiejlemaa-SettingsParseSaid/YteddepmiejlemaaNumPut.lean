/- The contract of num's Put: bytes with a number's lowest bytes behind them, big-endian, in new memory; for sizes from 0 to 8. -/
import Derived.Test.YteddepmiejlemaaProg
import Derived.Test.YteddepmiejlemaaBytes
import Derived.Test.YteddepmiejlemaaNumBe
import Derived.WalkKit
import Derived.Lib.Hide
import Derived.Laws.MakeOwn
import Derived.Laws.CopyOwn
import Derived.Laws.Rows
import Derived.Lib.UnsafeStr
import Derived.Lib.BufferWrite
import Derived.Lib.SlBytesRow
import Derived.Outline
import Derived.IntWalk
import Derived.WalkSpells
import Derived.WalkLawsBesides
namespace Go.Proofs.Yteddepmiejlemaa
open Go.RowKit
open Bytes (info5)

theorem block_of_add (a : Addr) (n : Nat) : (a.add n).block = a.block := by unfold Addr.add; split <;> rfl
/-- A slice of bytes that came in reads as the bytes l. -/
def RdB (w : World) (B : Nat) (a : Option Addr) (l : List UInt8) : Prop :=
  0 < l.length → ∃ x, a = some x ∧ x.block < B ∧ ∀ i v, (Lib.byteCells l)[i]? = some v → w.cell? (x.add i) = some v

theorem make_bytes (L : Nat) (hL : L ≤ 281474976710656) : ∃ M : List Value, M.length = L ∧ ∀ W : World, (Instr.makeSlice 57 (.int .i64 (L : Int)) (.int .i64 (L : Int))).run Try.prog W = .ok (.slice (some ⟨W.heap.size, 0, none⟩) L L) (W.alloc (.cells M.toArray 5)) := by
  obtain ⟨i0, hi, hz0, hz1, hz2⟩ := info_parts info5
  refine ⟨(madeCells (Value.int .u8 0).cells (((L : Nat) : Int).toNat * i0.size)).toList, ?_, fun W => ?_⟩
  · rw [Array.length_toList, size_madeCells, hz1]; simp
  · have h := run_make (P := Try.prog) W 57 5 i0 (.int .u8 0) Try.underlying57 hi hz0 .i64 .i64 (L : Int) (L : Int) (by omega) (by omega) (by rw [hz2]; omega) (by omega)
    simpa using h

/-- Behind j rounds: the row of L cells, its first ones C, its last j the number's lowest bytes. -/
def PutRel (W : World) (g L m : Nat) (C : List Value) (n j : Nat) : Prop :=
  ∃ cs : List Value, cs.length = L ∧ W.heap[g]? = some (.cells cs.toArray 5 (0, 0)) ∧ cs.take m = C ∧ cs.drop (L - j) = Lib.byteCells (beTail n j)
theorem putRel_start {W : World} {g m k n : Nat} {M C : List Value} (hM : M.length = m + k) (hC : C.length = m) (h : W.heap[g]? = some (.cells (splice M 0 C).toArray 5 (0, 0))) : PutRel W g (m + k) m C n 0 := by
  refine ⟨_, ?_, h, ?_, ?_⟩
  · rw [length_splice _ _ _ (by omega), hM]
  · simp only [splice, List.take_zero, List.nil_append]
    rw [List.take_append_of_le_length (by omega), List.take_of_length_le (by omega)]
  · rw [List.drop_of_length_le (by rw [length_splice _ _ _ (by omega), hM]; omega)]; simp [beTail, Lib.byteCells]
theorem putRel_cell {W : World} {g L m n j : Nat} {C : List Value} (h : PutRel W g L m C n j) (p : Nat) (hp : p < L) : (∃ v, W.cell? ⟨g, p, none⟩ = some v) ∧ W.frozen? ⟨g, p, none⟩ = false := by
  obtain ⟨cs, hL, hh, _⟩ := h
  refine ⟨⟨cs[p]'(by omega), ?_⟩, ?_⟩
  · rw [cell_of_row W g p _ _ _ hh]; simp [hL, hp]
  · simp [World.frozen?, hh]
theorem putRel_step {W : World} {g L m n j p x : Nat} {C : List Value} (h : PutRel W g L m C n j) (hx : x = n / 256 ^ j) (hp : p + 1 + j = L) (hm : m ≤ p) :
    PutRel (W.setCell ⟨g, p, none⟩ (.int .u8 ((x : Int) % 256))) g L m C n (j + 1) := by
  obtain ⟨cs, hL, hh, ht, hd⟩ := h
  refine ⟨cs.set p (.int .u8 ((x : Int) % 256)), by simpa using hL, ?_, ?_, ?_⟩
  · simp [World.setCell, Array.getElem?_modify, hh]
  · rw [List.take_set_of_le hm, ht]
  · rw [show L - (j + 1) = p from by omega]
    rw [show L - j = p + 1 from by omega] at hd
    rw [List.drop_set, if_neg (by omega), Nat.sub_self, List.drop_eq_getElem_cons (show p < cs.length by omega), List.set_cons_zero, hd]
    simp only [beTail, Lib.byteCells, List.map_cons]
    congr 2
    rw [UInt8.toNat_ofNat', ← hx]
    omega
theorem putRel_end {W : World} {g m k n : Nat} {C : List Value} {l : List UInt8} (hC : C = Lib.byteCells l) (hl : m = l.length) (h : PutRel W g (m + k) m C n k) : W.heap[g]? = some (.cells (Lib.byteCells (l ++ beTail n k)).toArray 5 (0, 0)) := by
  obtain ⟨cs, hL, hh, ht, hd⟩ := h
  rw [hh]
  have e : cs = Lib.byteCells (l ++ beTail n k) := by
    rw [← List.take_append_drop m cs, ht, show m = m + k - k from by omega, hd, hC]
    simp [Lib.byteCells]
  rw [e]

set_option maxHeartbeats 1000000 in
theorem put_any (a0 : Option Addr) (cap0 : Nat) (l : List UInt8) (n k : Nat) (w : World) (hk : k ≤ 8) (hr : RdB w w.heap.size a0 l) (hl : l.length ≤ 140737488351232) :
    Calls Try.prog 24 #[.slice a0 l.length cap0, .int .u64 n, .int .i64 k] w fun e w' => e = .returned (.slice (some ⟨w.heap.size, 0, none⟩) (l.length + k) (l.length + k)) ∧ Below w.heap.size w w' ∧ w.heap.size < w'.heap.size ∧ w'.heap[w.heap.size]? = some (.cells (Lib.byteCells (l ++ beTail n k)).toArray 5 (0, 0)) := by
  obtain ⟨m, hm⟩ : ∃ m, m = l.length := ⟨_, rfl⟩
  rw [← hm] at hl ⊢
  obtain ⟨M, hM, hmk0⟩ := make_bytes (m + k) (by omega)
  have hmk : ∀ W : World, (Instr.makeSlice 57 (.int .i64 ((m : Int) + (k : Int))) (.int .i64 ((m : Int) + (k : Int)))).run Try.prog W = .ok (.slice (some ⟨W.heap.size, 0, none⟩) (m + k) (m + k)) (W.alloc (.cells M.toArray 5)) := fun W => by
    have h := hmk0 W
    rwa [Int.natCast_add] at h
  clear hmk0
  have MM := Lib.hid hm; clear hm
  have HM := Lib.hid hM; clear hM
  have HR := Lib.hid hr; clear hr
  have e8 : min (k : Int) 8 = (k : Int) := by omega
  obtain ⟨C, hC⟩ : ∃ C, C = Lib.byteCells l := ⟨_, rfl⟩
  have HC := Lib.hid hC; clear hC
  go_enter Try.func24, Try.ntmps24
  go_wp2_with (with_reducible refine wpList_copy_splice rfl (.tmp 17) (.tmp 18) 57 57 rfl 5 Try.underlying57 (by kernel_rfl) _ _ _ _ _ _ rfl rfl w.heap.size 0 M 5 ?c1 C ?c2 ?c3 ?c4 ?c5 w.heap.size w ?c6 (Nat.le_refl _) ?_)
  case c1 => exact heap_alloc_new w _
  case c2 => rw [HC.out, Lib.byteCells_length, ← MM.out]; exact (Nat.min_eq_left (by omega)).symm
  case c3 =>
    intro hpos
    rw [HC.out, Lib.byteCells_length] at hpos
    obtain ⟨x, ha, hx, hc⟩ := HR.out hpos
    refine ⟨x, ha, fun j v hv => ?_⟩
    rw [HC.out] at hv
    rw [World.cell?_alloc_lt w _ _ (by rw [block_of_add]; exact hx)]
    exact hc j v hv
  case c4 => rw [HC.out, Lib.byteCells_length, HM.out, ← MM.out]; omega
  case c5 => rw [HC.out]; exact Lib.byteCells_one l
  case c6 => exact (Below.refl _ _).alloc (Nat.le_refl _) _
  intro W2 HG HB
  have HP : Hid (PutRel W2 w.heap.size (m + k) m C n 0) := putRel_start HM.out (by rw [HC.out, Lib.byteCells_length]; exact MM.out.symm) HG.out
  have hsz : w.heap.size < W2.heap.size := by
    rcases Nat.lt_or_ge w.heap.size W2.heap.size with h | h
    · exact h
    · have := HG.out; rw [Array.getElem?_eq_none h] at this; cases this
  clear HG hmk
  go_wp2
  go_loopw [8, 1] (fun i v wr => ∃ (j x : Nat) (q : Int), j ≤ k ∧ Hid (x = n / 256 ^ j) ∧ Hid (q = (m : Int) + k - 1 - j) ∧ i = .int .i64 q ∧ v = .int .u64 (x : Int) ∧ Hid (PutRel wr w.heap.size (m + k) m C n j) ∧ Below w.heap.size w wr ∧ w.heap.size < wr.heap.size) (fun i _ _ => (intOf i + 1).toNat)
  case atStart => exact ⟨0, n, (m : Int) + k - 1, Nat.zero_le _, Lib.hid (by simp), Lib.hid (by simp), rfl, rfl, HP, HB, hsz⟩
  case round =>
    obtain ⟨j, x, q, hj, hx, hq, rfl, rfl, hP, hB, hS⟩ := hrel
    have hqq := hq.out
    by_cases hlt : (m : Int) ≤ q
    · obtain ⟨p, rfl⟩ := Int.eq_ofNat_of_zero_le (show 0 ≤ q by omega)
      have hp1 : p + 1 + j = m + k := by omega
      have hp2 : (p : Int) < (m : Int) + k := by omega
      have hpS := putRel_step hP.out hx.out hp1 (by omega)
      obtain ⟨⟨v0, hv0⟩, hfz⟩ := putRel_cell hP.out p (by omega)
      have hdiv : x / 256 = n / 256 ^ (j + 1) := by
        rw [Nat.pow_succ, ← Nat.div_div_eq_div_mul, ← hx.out]
      have D := Lib.hid hdiv
      have PS := Lib.hid hpS
      have P1 := Lib.hid hp1
      clear hdiv hpS hp1 hqq hx
      go_wp2
      go_roundw
      case rel => exact ⟨j + 1, x / 256, (p : Int) - 1, by have := P1.out; omega, D, Lib.hid (by have := P1.out; omega), rfl, by go_num, PS, hB.setCell (Nat.le_refl _) _, by simpa [World.setCell] using hS⟩
      case measure => simp [intOf]
    · have hjk : j = k := by omega
      subst hjk
      have E := putRel_end HC.out MM.out hP.out
      have EE := Lib.hid E
      clear E hqq
      go_wp2
      go_ret
      exact ⟨rfl, hB, hS, EE.out⟩
end Go.Proofs.Yteddepmiejlemaa
