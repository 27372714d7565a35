/- Texts of one proof, one behind the other: TcCopy, UpDec, UpKnow, PkBld, PfPut, PfRefPut, PfOwn, PkInt, PkEnc, PkLim. -/
import Derived.Test.YtamgnbjdeoklbaaProg
import Derived.Test.YtamgnbjdeoklbaaTbMath
import Derived.Test.YtamgnbjdeoklbaaTbMem
import Derived.Test.YtamgnbjdeoklbaaTbLeast
import Derived.Test.YtamgnbjdeoklbaaTbRef
import Derived.Test.YtamgnbjdeoklbaaTcMem
import Derived.Test.YtamgnbjdeoklbaaTcLow
import Derived.Test.YtamgnbjdeoklbaaTcShrink
import Derived.Test.YtamgnbjdeoklbaaTcAdd
import Derived.Test.YtamgnbjdeoklbaaGrown
import Derived.Test.YtamgnbjdeoklbaaUpMath
import Derived.Test.YtamgnbjdeoklbaaUpEnt
import Derived.Test.YtamgnbjdeoklbaaUpRead
import Derived.Test.YtamgnbjdeoklbaaTbFix
import Derived.Test.YtamgnbjdeoklbaaTbAt
import Derived.Test.YtamgnbjdeoklbaaTcAt
import Derived.Test.YtamgnbjdeoklbaaBytes
import Derived.Test.YtamgnbjdeoklbaaPfMath
import Derived.Test.YtamgnbjdeoklbaaPfFull
import Derived.Test.YtamgnbjdeoklbaaShelf
import Derived.Test.YtamgnbjdeoklbaaPfGet
import Derived.Test.YtamgnbjdeoklbaaUpFit
import Derived.Test.YtamgnbjdeoklbaaPackBackProofG1
import Derived.WalkKit
import Derived.Lib.Hide
import Derived.Outline
import Derived.IntWalk
import Derived.WalkSpells
import Derived.WalkLawsBesides
import Derived.Deep.QuietTactic
import Derived.BigQuiet
import Derived.Laws.Rows
import Derived.Laws.MakeOwn
import Derived.Deep.RegionLaw
import Derived.Deep.CutBlock
import Derived.Deep.DeepCutAuto
import Derived.Deep.CutRange
import Derived.Lib.Builder
import Derived.Lib.FrozenHead
import Derived.Lib.AppendStr
import Derived.Lib.UnsafeStr
import Derived.Laws.Externs
import Derived.Laws.OwnMore
import Derived.OwnWalk
import Derived.Laws.Bits64b
import Derived.Laws.BitsAllLaws
import Derived.ArgAppend

/- The contract of a table's Copy. For at most 1000 entries of at most 10^6 bytes a text, 10^9 together. -/
namespace Go.Proofs.Ytamgnbjdeoklbaa
open Go.RowKit Tb

namespace Tb
theorem entAt_set {L : List Ent} {k i : Nat} {e : Ent} (hk : k < L.length) : entAt (L.set k e) i = if i = k then e else entAt L i := by
  unfold entAt
  rw [List.getD_eq_getElem?_getD, List.getD_eq_getElem?_getD, List.getElem?_set]
  by_cases h : i = k
  · subst h; rw [if_pos rfl, if_pos rfl, if_pos hk]; rfl
  · rw [if_neg h, if_neg (fun e => h e.symm)]
theorem entCs_get {L : List Ent} {j : Nat} {u : Value} (h : (entCs L)[j]? = some u) : (j % 2 = 0 ∧ u = .string (entAt L (j / 2)).1) ∨ (j % 2 = 1 ∧ u = .string (entAt L (j / 2)).2) := by
  have hj := entCs_lt h
  have hat := entCs_at (L := L) (k := j / 2) (by omega)
  rcases Nat.mod_two_eq_zero_or_one j with hm | hm
  · rw [show j / 2 * 2 = j by omega, h] at hat
    injection hat.1 with e
    exact .inl ⟨hm, e⟩
  · rw [show j / 2 * 2 + 1 = j by omega, h] at hat
    injection hat.2 with e
    exact .inr ⟨hm, e⟩
/-- An entry is laid over one that stood there. -/
theorem Row.set {w : World} {b off n c : Nat} {ao : Option Addr} {L : List Ent} (h : Row w b ao off n c L) {k : Nat} (hk : k < n) (x y : ByteArray) : Row ((w.setCell ⟨b, off + k * 2, none⟩ (.string x)).setCell ⟨b, off + k * 2 + 1, none⟩ (.string y)) b ao off n c (L.set k (x, y)) := by
  obtain ⟨ha, hlt, c1, c2, f1, f2⟩ := h.get hk
  have hkl : k < L.length := by rw [h.len]; exact hk
  refine ⟨by rw [List.length_set]; exact h.len, h.le, h.max, h.addr, fun hc => by simpa using h.lt hc, fun j u hj => ?_, fun j hj => ⟨?_, by rw [World.frozen?_setCell, World.frozen?_setCell]; exact (h.there j hj).2⟩⟩
  · by_cases hj2 : j = k * 2 + 1
    · subst hj2
      rcases entCs_get hj with ⟨hm, _⟩ | ⟨_, rfl⟩
      · omega
      · rw [show (k * 2 + 1) / 2 = k by omega, entAt_set hkl, if_pos rfl, ← Nat.add_assoc]
        exact World.cell?_setCell_same (u := .string (entAt L k).2) _ _ _ (by rw [World.cell?_setCell_other _ _ _ _ (by simp)]; exact c2)
    · rw [World.cell?_setCell_other _ _ _ _ (by simp <;> omega)]
      by_cases hj1 : j = k * 2
      · subst hj1
        rcases entCs_get hj with ⟨_, rfl⟩ | ⟨hm, _⟩
        · rw [show k * 2 / 2 = k by omega, entAt_set hkl, if_pos rfl]
          exact World.cell?_setCell_same (u := .string (entAt L k).1) _ _ _ c1
        · omega
      · rw [World.cell?_setCell_other _ _ _ _ (by simp <;> omega)]
        refine h.holds j u ?_
        have hjl := entCs_lt hj
        rw [List.length_set] at hjl
        have hat := entCs_at (L := L) (k := j / 2) (by omega)
        rcases entCs_get hj with ⟨hm, rfl⟩ | ⟨hm, rfl⟩
        · rw [entAt_set hkl, if_neg (by omega)]
          rw [show j / 2 * 2 = j by omega] at hat
          exact hat.1
        · rw [entAt_set hkl, if_neg (by omega)]
          rw [show j / 2 * 2 + 1 = j by omega] at hat
          exact hat.2
  · obtain ⟨v, hv⟩ := Option.isSome_iff_exists.1 (h.there j hj).1
    by_cases hj2 : j = k * 2 + 1
    · subst hj2
      rw [← Nat.add_assoc, World.cell?_setCell_same (u := .string (entAt L k).2) _ _ _ (by rw [World.cell?_setCell_other _ _ _ _ (by simp)]; exact c2)]
      rfl
    · rw [World.cell?_setCell_other _ _ _ _ (by simp <;> omega)]
      by_cases hj1 : j = k * 2
      · subst hj1
        rw [World.cell?_setCell_same (u := .string (entAt L k).1) _ _ _ c1]
        rfl
      · rw [World.cell?_setCell_other _ _ _ _ (by simp <;> omega), hv]
        rfl
/-- A row that is filled up to a place. -/
def fillP (L : List Ent) (n k : Nat) : List Ent := L.take k ++ List.replicate (n - k) (⟨#[]⟩, ⟨#[]⟩)
theorem fillP_len {L : List Ent} {n k : Nat} (hL : L.length = n) (hk : k ≤ n) : (fillP L n k).length = n := by
  unfold fillP
  rw [List.length_append, List.length_take, List.length_replicate]
  omega
theorem fillP_step {L : List Ent} {n k : Nat} (hL : L.length = n) (hk : k < n) : (fillP L n k).set k (entAt L k) = fillP L n (k + 1) := by
  unfold fillP
  rw [entAt_take (by omega), List.set_append_right _ _ (by rw [List.length_take]; omega), List.length_take, show k - min k L.length = 0 by omega, show n - k = (n - (k + 1)) + 1 by omega, List.replicate_succ, List.set_cons_zero, List.append_assoc]
  rfl
end Tb
/-- An entry's copy, asked beside a table's block and a row. -/
theorem apart_at (g R o : Nat) (u0 u1 u2 v0 v1 : Value) (t : TypeId) (x y : ByteArray) (w : World) (hx : x.size ≤ 1000000) (hy : y.size ≤ 1000000) (h : w.heap[g]? = some (.cells #[u0, u1, u2] t (0, 0))) (hR : R < w.heap.size) (c0 : w.cell? ⟨R, o, none⟩ = some v0) (c1 : w.cell? ⟨R, o + 1, none⟩ = some v1) (f0 : w.frozen? ⟨R, o, none⟩ = false) (f1 : w.frozen? ⟨R, o + 1, none⟩ = false) :
    Calls Try.prog 35 #[.agg #[.string x, .string y]] w fun e w' => e = .returned (.agg #[.string x, .string y]) ∧ w'.cell? ⟨g, 2, none⟩ = some u2 ∧ w'.cell? ⟨R, o, none⟩ = some v0 ∧ w'.cell? ⟨R, o + 1, none⟩ = some v1 ∧ w'.frozen? ⟨R, o, none⟩ = false ∧ w'.frozen? ⟨R, o + 1, none⟩ = false ∧ Below w.heap.size w w' :=
  (apart_is x y w hx hy).mono fun e w' ⟨he, hB⟩ => by
    have h2 := (hB.block g (world_lt h)).trans h
    obtain ⟨_, _, a3, _, _, _⟩ := three_cells h2
    exact ⟨he, a3, (hB.cell (p := ⟨R, o, none⟩) hR).trans c0, (hB.cell (p := ⟨R, o + 1, none⟩) hR).trans c1, (hB.frozen (p := ⟨R, o, none⟩) hR).trans f0, (hB.frozen (p := ⟨R, o + 1, none⟩) hR).trans f1, hB⟩
/-- An empty row, as make lays it. -/
def MadeO (n : Nat) : Obj := .cells (madeCells #[.string ⟨#[]⟩, .string ⟨#[]⟩] (n * 2)) 82
theorem make_row (n : Nat) (hn : n ≤ 1000) (w : World) : (Instr.makeSlice 78 (.int .i64 (n : Int)) (.int .i64 (n : Int))).run Try.prog w = .ok (.slice (some ⟨w.heap.size, 0, none⟩) n n) (w.alloc (MadeO n)) := by
  obtain ⟨i0, hi, hz0, hz1, hz2⟩ := info_parts infoP
  have := run_make (P := Try.prog) w 78 82 i0 _ Try.underlying78 hi hz0 .i64 .i64 n n (by omega) (Int.le_refl _) (by rw [hz2]; omega) (by omega)
  rw [hz1, Int.toNat_natCast] at this
  exact this

set_option maxHeartbeats 4000000 in
set_option maxRecDepth 100000 in
theorem copy_is (g b : Nat) (t : Tab) (w : World) (h : Hid (TAt w g b t)) (hf : Hid (Fit t)) :
    Calls Try.prog 32 #[.pointer (some ⟨g, 0, none⟩)] w fun e w' => ∃ g2, e = .returned (.pointer (some ⟨g2, 0, none⟩)) ∧ w.heap.size ≤ g2 ∧ Below w.heap.size w w' ∧ ∃ b2, TAt w' g2 b2 t ∧ w.heap.size ≤ b2 := by
  obtain ⟨⟨ao, off, c, hT0⟩, hok, hmx⟩ := h.out
  obtain ⟨n, hn⟩ : ∃ n, t.2.length = n := ⟨_, rfl⟩
  have hnb : n ≤ 1000 := by rw [← hn]; exact hf.out.1
  have hrl : t.2.reverse.length = n := by rw [List.length_reverse]; exact hn
  unfold TRaw at hT0
  rw [hrl] at hT0
  obtain ⟨M, hM⟩ : ∃ M : Int, (t.1 : Int) = M := ⟨_, rfl⟩
  obtain ⟨S, hS⟩ : ∃ S : Int, (sumL t.2.reverse : Int) = S := ⟨_, rfl⟩
  rw [hM, hS] at hT0
  have HG := Lib.hid hT0.1
  have HR := Lib.hid hT0.2.1
  have hmk := make_row n hnb
  clear hT0
  obtain ⟨a1, a2, a3, _, _, _⟩ := three_cells HG.out
  obtain ⟨q1, q2, q3, _, _, _⟩ := three_cells (w := w.drew) HG.out
  have HGA := (heap_alloc_old w (MadeO n) (world_lt HG.out)).trans HG.out
  obtain ⟨r1, r2, r3, _, _, _⟩ := three_cells HGA
  clear HGA
  go_enter Try.func32, Try.ntmps32
  go_upto_region 1 with fail
  go_cut [3] from 6 to 21 (fun v wx => v = .pointer (some ⟨w.heap.size + 1, 0, none⟩) ∧ wx = ((w.alloc (MadeO n)).alloc (.cells #[.int .i64 M, .int .i64 S, .slice (some ⟨w.heap.size, 0, none⟩) n n] 80)).drew)
  case first =>
    go_region_law (fail)
    all_goals (go_wp2_with fail; go_meet; exact ⟨rfl, rfl⟩)
  case rest =>
    obtain ⟨rfl, rfl⟩ := hcut
    clear hmk a1 a2 a3 q1 q2 q3 r1 r2 r3
    obtain ⟨R, hRR⟩ : ∃ R, w.heap.size = R := ⟨_, rfl⟩
    have HS0 := Lib.hid (show (w.alloc (MadeO n)).heap.size = R + 1 by rw [World.size_alloc, hRR])
    have HG2 := Lib.hid (show (((w.alloc (MadeO n)).alloc (.cells #[.int .i64 M, .int .i64 S, .slice (some ⟨w.heap.size, 0, none⟩) n n] 80)).drew).heap[R + 1]? = some (.cells #[.int .i64 M, .int .i64 S, .slice (some ⟨R, 0, none⟩) n n] 80 (0, 0)) from by
      have := heap_alloc_new (w.alloc (MadeO n)) (.cells #[.int .i64 M, .int .i64 S, .slice (some ⟨w.heap.size, 0, none⟩) n n] 80)
      rw [HS0.out, hRR] at this
      rw [hRR]
      exact this)
    have hRow0 : Row (w.alloc (MadeO n)) R (some ⟨R, 0, none⟩) 0 n n (fillP t.2.reverse n 0) := by
      have hc : ∀ j, (w.alloc (MadeO n)).cell? ⟨R, j, none⟩ = (madeCells #[.string ⟨#[]⟩, .string ⟨#[]⟩] (n * 2))[j]? := fun j => by rw [← hRR]; exact World.cell?_alloc_new w _ _ j
      have hz : ∀ j, j < n * 2 → (madeCells #[Value.string ⟨#[]⟩, .string ⟨#[]⟩] (n * 2))[j]? = some (.string ⟨#[]⟩) := fun j hj => by
        rcases Nat.mod_two_eq_zero_or_one j with hm | hm <;> simp [madeCells, hj, hm]
      refine ⟨fillP_len hrl (Nat.zero_le _), Nat.le_refl _, by unfold maxLen; omega, fun _ => rfl, fun _ => by rw [HS0.out]; omega, fun j u hj => ?_, fun j hj => ⟨?_, ?_⟩⟩
      · have hjl := entCs_lt hj
        rw [fillP_len hrl (Nat.zero_le _)] at hjl
        rw [Nat.zero_add, hc, hz j hjl]
        have hu : ∀ i, entAt (fillP t.2.reverse n 0) i = (⟨#[]⟩, ⟨#[]⟩) := fun i => by
          unfold entAt fillP
          rw [List.take_zero, List.nil_append, Nat.sub_zero, List.getD_eq_getElem?_getD, List.getElem?_replicate]
          split <;> rfl
        rcases entCs_get hj with ⟨_, rfl⟩ | ⟨_, rfl⟩ <;> rw [hu]
      · rw [Nat.zero_add, hc, hz j hj]
        rfl
      · rw [Nat.zero_add, ← hRR]
        exact World.frozen?_alloc_new w _ _ j
    have HB0 := Lib.hid ((((Below.refl w.heap.size w).alloc (Nat.le_refl _) (MadeO n)).alloc (by simp) (.cells #[.int .i64 M, .int .i64 S, .slice (some ⟨w.heap.size, 0, none⟩) n n] 80)).drew)
    have HRow := Lib.hid (hRow0.kept (w' := ((w.alloc (MadeO n)).alloc (.cells #[.int .i64 M, .int .i64 S, .slice (some ⟨w.heap.size, 0, none⟩) n n] 80)).drew) (by simp) (fun hl => heap_alloc_old (w.alloc (MadeO n)) _ hl))
    clear hRow0
    generalize ((w.alloc (MadeO n)).alloc (.cells #[.int .i64 M, .int .i64 S, .slice (some ⟨w.heap.size, 0, none⟩) n n] 80)).drew = W at *
    rw [hRR]
    have HRR := Lib.hid hRR
    have hgR := world_lt HG.out
    rw [hRR] at hgR HB0
    have HGW := Lib.hid ((HB0.out.block g hgR).trans HG.out)
    obtain ⟨a1, a2, a3, _, _, _⟩ := three_cells HGW.out
    clear hRR
    have HSM := Lib.hid hf.out.rev.1
    go_wp2_with fail
    go_loopw [27, 4, 5] (fun i u4 u5 wr => ∃ k : Nat, k ≤ n ∧ i = .int .i64 (k : Int) ∧ Hid (Row wr R (some ⟨R, 0, none⟩) 0 n n (fillP t.2.reverse n k)) ∧ Hid (wr.heap[R + 1]? = some (.cells #[.int .i64 M, .int .i64 S, .slice (some ⟨R, 0, none⟩) n n] 80 (0, 0))) ∧ Below R w wr) (fun i _ _ _ => n - (intOf i).toNat)
    case atStart => exact ⟨0, by omega, rfl, HRow, HG2, HB0.out⟩
    case round =>
      obtain ⟨k, hk, rfl, hRw, hGw, hBw⟩ := hrel
      by_cases hlt : k < n
      · have hli : (k : Int) < (n : Int) := by omega
        have hkl : k < t.2.reverse.length := by omega
        obtain ⟨rfl, hbl, hc1, hc2, _, _⟩ := HR.out.get hlt
        obtain ⟨hxs, hys⟩ := HSM.out.at hkl
        have hst := Lib.hid (fillP_step hrl hlt)
        obtain ⟨e, he⟩ : ∃ e, entAt t.2.reverse k = e := ⟨_, rfl⟩
        rw [he] at hc1 hc2 hxs hys hst
        obtain ⟨x, y⟩ := e
        obtain ⟨_, hRl, d1, d2, d3, d4⟩ := hRw.out.get hlt
        have hbR : b < R := by rw [← HRR.out]; exact hbl
        have s1 := (hBw.cell (p := ⟨b, off + k * 2, none⟩) hbR).trans hc1
        have s2 := (hBw.cell (p := ⟨b, off + k * 2 + 1, none⟩) hbR).trans hc2
        have hof := off_add_addr b off (k * 2)
        have hof2 := zero_add_addr R (k * 2)
        rw [Nat.zero_add] at d1 d2 d3 d4
        have hk0 : (0 : Int) ≤ (k : Int) := by omega
        have e2 : IntKind.i64.wrap ((k : Int) + 1) = ((k + 1 : Nat) : Int) := by rw [IntKind.wrap_i64]; omega
        have hA := (Below.refl wr.heap.size wr).alloc (Nat.le_refl _) (.cells #[.string x, .string y] 82)
        clear hc1 hc2 he hkl hof
        have hof := off_add_addr b off (k * 2)
        obtain ⟨W2, hW2⟩ : ∃ W2, wr.alloc (.cells #[.string x, .string y] 82) = W2 := ⟨_, rfl⟩
        rw [hW2] at hA
        have hrs := hA.size
        have hnE : W2.heap[wr.heap.size]? = some (.cells #[.string x, .string y] 82 (0, 0)) := by rw [← hW2]; exact heap_alloc_new wr _
        have hG3 := Lib.hid ((hA.block (R + 1) (world_lt hGw.out)).trans hGw.out)
        have hR3 := Lib.hid (hRw.out.kept hA.size (hA.block R))
        have hB3 := Lib.hid (hBw.trans (hA.mono (by omega)))
        go_upto_region 5 with fail
        obtain ⟨m1, m2, m3, m4⟩ := two_cells hnE
        obtain ⟨l1, l2, l3, l4⟩ := two_cells (w := W2.drew) hnE
        obtain ⟨n1, n2, n3, _, _, _⟩ := three_cells hG3.out
        obtain ⟨p1, p2, p3, _, _, _⟩ := three_cells (w := W2.drew) hG3.out
        obtain ⟨_, hRl3, d1, d2, d3, d4⟩ := hR3.out.get hlt
        rw [Nat.zero_add] at d1 d2 d3 d4
        have HGd : Hid (W2.drew.heap[R + 1]? = some (.cells #[.int .i64 M, .int .i64 S, .slice (some ⟨R, 0, none⟩) n n] 80 (0, 0))) := hG3
        have HRd : Hid (R < W2.drew.heap.size) := Lib.hid hRl3
        have HD : Hid (W2.drew.cell? ⟨R, k * 2, none⟩ = some (.string (entAt (fillP t.2.reverse n k) k).1) ∧ W2.drew.cell? ⟨R, k * 2 + 1, none⟩ = some (.string (entAt (fillP t.2.reverse n k) k).2) ∧ W2.drew.frozen? ⟨R, k * 2, none⟩ = false ∧ W2.drew.frozen? ⟨R, k * 2 + 1, none⟩ = false) := Lib.hid ⟨d1, d2, d3, d4⟩
        clear hnE s1 s2 hW2
        go_region_law (go_simp; go_at_call 35; (with_reducible refine (apart_at (R + 1) R (k * 2) _ _ _ _ _ _ x y _ hxs hys HGd.out HRd.out HD.out.1 HD.out.2.1 HD.out.2.2.1 HD.out.2.2.2).mono ?_); rintro e w5 ⟨rfl, z2, v0, v1, v2, v3, hB5⟩)
        all_goals
          have hR5 : Row w5 R (some ⟨R, 0, none⟩) 0 n n (fillP t.2.reverse n k) := (hR3.out.kept (w' := W2.drew) (Nat.le_refl _) (fun _ => rfl)).kept hB5.size (hB5.block R)
          have hG5 := (hB5.block (R + 1) (world_lt HGd.out)).trans HGd.out
          have R6 := hR5.set hlt x y
          rw [Nat.zero_add, hst.out] at R6
          have G6 := Lib.hid ((Below.heap_setCell (w5.setCell ⟨R, k * 2, none⟩ (.string x)) ⟨R, k * 2 + 1, none⟩ (.string y) (R + 1) (by show R + 1 ≠ R; omega)).trans ((Below.heap_setCell w5 ⟨R, k * 2, none⟩ (.string x) (R + 1) (by show R + 1 ≠ R; omega)).trans hG5))
          have B6 := Lib.hid (((hB3.out.drew.trans (hB5.mono (Nat.le_of_lt HRd.out))).setCell (p := ⟨R, k * 2, none⟩) (Nat.le_refl _) (.string x)).setCell (p := ⟨R, k * 2 + 1, none⟩) (Nat.le_refl _) (.string y))
          have HR6 := Lib.hid R6
          clear hR5 hG5 R6 hB5 z2 v0 v1 v2 v3
          go_wp2_with fail
          go_roundw
          case rel => exact ⟨k + 1, by omega, rfl, HR6, G6, B6.out⟩
          case measure => simp [intOf] <;> omega
      · have hli : ¬ (k : Int) < (n : Int) := by omega
        have hkn : k = n := by omega
        have hfl : fillP t.2.reverse n k = t.2.reverse := by
          unfold fillP
          rw [hkn, Nat.sub_self, List.take_of_length_le (by omega)]
          exact List.append_nil _
        have hr2 := hRw.out
        rw [hfl] at hr2
        have HFIN := Lib.hid (show ∃ b2, TAt wr (R + 1) b2 t ∧ R ≤ b2 from by
          refine ⟨if n = 0 then R + 1 else R, ⟨⟨some ⟨R, 0, none⟩, 0, n, ?_⟩, hok, hmx⟩, by split <;> omega⟩
          unfold TRaw
          rw [hrl, hM, hS]
          refine ⟨hGw.out, ?_, fun h0 => if_pos h0, fun h0 => by rw [if_neg (by omega)]; omega⟩
          by_cases h0 : n = 0
          · subst h0
            have hl : t.2.reverse = [] := List.length_eq_zero_iff.1 hrl
            rw [hl]
            exact Row.empty _ _ _ _
          · rw [if_neg h0]
            exact hr2)
        clear hr2 hfl
        go_wp2_with fail
        go_ret
        obtain ⟨b2, f1, f2⟩ := HFIN.out
        refine ⟨R + 1, rfl, ?_, ?_, b2, f1, ?_⟩
        · rw [HRR.out]; exact Nat.le_succ R
        · rw [HRR.out]; exact hBw
        · rw [HRR.out]; exact f2
end Go.Proofs.Ytamgnbjdeoklbaa

/- The contracts of a decoder's New, Table and Down, and of the document's New. No condition. -/
namespace Go.Proofs.Ytamgnbjdeoklbaa
open Go.RowKit Tb Up

set_option maxRecDepth 100000 in
theorem unew_is (w : World) :
    Calls Try.prog 9 #[] w fun e w' => ∃ d g b, e = .returned (.pointer (some ⟨d, 0, none⟩)) ∧ DcAt w' d g b (newT 4096, false) ∧ Below w.heap.size w w' ∧ w.heap.size ≤ d ∧ w.heap.size ≤ g ∧ w.heap.size ≤ b := by
  have HN := Lib.hid (new_is 4096 w (by omega) (by omega))
  go_enter Try.func9, Try.ntmps9
  go_wp2_with fail
  refine HN.out.mono ?_
  rintro e w1 ⟨rfl, hT, hB⟩
  have hB1 := (Below.refl _ w1).alloc (Nat.le_refl _) (.cells #[.pointer (some ⟨w.heap.size, 0, none⟩), .bool false] 63)
  have hD := new_at w1 (.cells #[.pointer (some ⟨w.heap.size, 0, none⟩), .bool false] 63) w1.heap.size rfl
  have hlt := hT.lt.1
  have HD := Lib.hid (show DcAt (w1.alloc (.cells #[.pointer (some ⟨w.heap.size, 0, none⟩), .bool false] 63)) w1.heap.size w.heap.size w.heap.size (newT 4096, false) from ⟨hD, hT.below hB1, ok4_new, by omega, by omega⟩)
  have HB := Lib.hid (hB.trans (hB1.mono hB.size))
  have hs := hB.size
  clear hT hB hB1 hD
  go_wp2_with fail
  go_ret
  exact ⟨w1.heap.size, w.heap.size, w.heap.size, rfl, HD.out, HB.out, hs, Nat.le_refl _, Nat.le_refl _⟩
theorem table_any (d g b : Nat) (D : Dec) (w : World) (h : DcAt w d g b D) :
    Calls Try.prog 14 #[.pointer (some ⟨d, 0, none⟩)] w fun e w' => ∃ g2, e = .returned (.pointer (some ⟨g2, 0, none⟩)) ∧ w.heap.size ≤ g2 ∧ Below w.heap.size w w' ∧ ∃ b2, TAt w' g2 b2 D.1 ∧ w.heap.size ≤ b2 := by
  have HC := Lib.hid (copy_is g b D.1 w (Lib.hid h.tab) (Lib.hid (Ok4.fit h.ok4)))
  have c0 := cell_of_row _ _ 0 _ _ _ h.cells
  clear h
  go_enter Try.func14, Try.ntmps14
  go_wp2_with fail
  refine HC.out.mono ?_
  rintro e w1 ⟨g2, rfl, h1, h2, b2, h3, h4⟩
  go_wp2_with fail
  go_ret
  exact ⟨g2, rfl, h1, h2, b2, h3, h4⟩
end Go.Proofs.Ytamgnbjdeoklbaa

/- What the laws ask of a table: its length, size, greatest size; its entries by number. No condition. -/
namespace Go.Proofs.Ytamgnbjdeoklbaa
open Go.RowKit Tb
namespace Tb
theorem TAt.row {w : World} {g b : Nat} {t : Tab} (h : TAt w g b t) : ∃ ao c, w.heap[g]? = some (.cells #[.int .i64 (t.1 : Int), .int .i64 (sumL t.2 : Int), .slice ao t.2.length c] 80 (0, 0)) := by
  obtain ⟨⟨ao, off, c, hT⟩, _⟩ := h
  have h1 := hT.1
  rw [sum_rev, List.length_reverse] at h1
  exact ⟨ao, c, h1⟩
/-- An entry behind the fixed ones. -/
theorem at_mine {L : List Ent} {i : Nat} (h : i < L.length) : atR (fixedT ++ L) (62 + (i : Int)) = (entAt L i, true) := by
  have hf : fixedT.length = 61 := rfl
  have hl : (fixedT ++ L).length = 61 + L.length := by rw [List.length_append, hf]
  unfold atR
  have e1 : entAt (fixedT ++ L) (61 + i) = entAt L i := by
    have h2 := entAt_right (A := fixedT) (B := L) (k := 61 + i) (by rw [hf]; omega)
    rw [hf, show 61 + i - 61 = i by omega] at h2
    exact h2
  rw [if_neg (by rw [hl]; omega), show (62 + (i : Int)).toNat - 1 = 61 + i by omega, e1]
theorem at_none {L : List Ent} {i : Nat} (h : L.length ≤ i) : atR (fixedT ++ L) (62 + (i : Int)) = ((⟨#[]⟩, ⟨#[]⟩), false) := by
  have hf : fixedT.length = 61 := rfl
  have hl : (fixedT ++ L).length = 61 + L.length := by rw [List.length_append, hf]
  unfold atR
  rw [if_pos (.inr (by rw [hl]; omega))]
theorem entAt_least {L : List Ent} {m i : Nat} (h : i < (leastL L m).length) : entAt (leastL L m) i = entAt L i := by
  obtain ⟨k, hk, he⟩ := leastL_pre L m
  rw [he] at h ⊢
  rw [List.length_take] at h
  unfold entAt
  rw [List.getD_eq_getElem?_getD, List.getD_eq_getElem?_getD, List.getElem?_take_of_lt (by omega)]
end Tb
theorem len_t (g b : Nat) (t : Tab) (n : Nat) (w : World) (h : Hid (TAt w g b t)) (hn : Hid (t.2.length = n)) :
    Calls Try.prog 16 #[.pointer (some ⟨g, 0, none⟩)] w fun e w' => e = .returned (.int .i64 (n : Int)) ∧ w' = w := by
  obtain ⟨ao, c, hr⟩ := h.out.row
  rw [hn.out] at hr
  exact len_is g _ _ _ _ _ _ w (Lib.hid hr)
theorem size_t (g b : Nat) (t : Tab) (S : Nat) (w : World) (h : Hid (TAt w g b t)) (hn : Hid (sumL t.2 = S)) :
    Calls Try.prog 17 #[.pointer (some ⟨g, 0, none⟩)] w fun e w' => e = .returned (.int .i64 (S : Int)) ∧ w' = w := by
  obtain ⟨ao, c, hr⟩ := h.out.row
  rw [hn.out] at hr
  exact size_is g _ _ _ _ w (Lib.hid hr)
theorem most_t (g b : Nat) (t : Tab) (M : Int) (w : World) (h : Hid (TAt w g b t)) (hn : Hid ((t.1 : Int) = M)) :
    Calls Try.prog 18 #[.pointer (some ⟨g, 0, none⟩)] w fun e w' => e = .returned (.int .i64 M) ∧ w' = w := by
  obtain ⟨ao, c, hr⟩ := h.out.row
  rw [hn.out] at hr
  exact most_is g _ _ _ _ w (Lib.hid hr)
end Go.Proofs.Ytamgnbjdeoklbaa

/- A builder that lies in a writer's block: what is written to it goes behind what it holds; its text. For texts of at most 2 * 10^9 bytes. -/
namespace Go.Proofs.Ytamgnbjdeoklbaa
open Go Go.RowKit Bytes Tb

theorem infoB : (Try.prog.info? 73).map (·.size) = some 2 := by kernel_rfl
theorem liesW : liesAt Try.prog Try.prog.depth 75 (3 / Try.prog.cellsOf 75) 0 73 1 = true := by kernel_rfl
theorem own_keep {w w' : World} {g n size : Nat} {e : TypeId} {v : Value} {xs : List Value} (h : w.ownsRow g e size v n xs) (hk : ∀ k, v.ownBlock = some k → w'.heap[k]? = w.heap[k]?) : w'.ownsRow g e size v n xs := by
  refine ⟨h.1, ?_⟩
  rcases h.2 with hn | ⟨b, cap, cur, rfl, hb, hgg, rest⟩
  · exact .inl hn
  · exact .inr ⟨b, cap, cur, rfl, hb, (hk b rfl).trans hgg, rest⟩
theorem own_kind {w : World} {B : Nat} {e : TypeId} {v : Value} {n : Nat} {xs : List Value} (h : w.ownsRow B e 1 v n xs) {k : Nat} (hk : v.ownBlock = some k) : ∃ c, w.heap[k]? = some (.cells c e (0, 0)) := by
  rcases h.2 with ⟨rfl, _⟩ | ⟨g', cap, cur, rfl, _, hgg, _⟩
  · simp [Value.ownBlock] at hk
  · simp [Value.ownBlock] at hk
    subst hk
    exact ⟨cur, hgg⟩

namespace Pk
/-- A writer in block u: its builder (the buffer v, the bytes l), the table in block g, its row in block b. -/
structure WrS (w : World) (B u g b : Nat) (v : Value) (l : List UInt8) (t : Tab) : Prop where
  le : B ≤ u
  cells : ∃ p, (p = Value.pointer none ∨ p = .pointer (some ⟨u, 0, none⟩)) ∧ w.heap[u]? = some (.cells #[p, v, .pointer (some ⟨g, 0, none⟩)] 75 (0, 0))
  own : w.ownsRow B 5 1 v l.length (Bytes.byteCells l)
  nb : v.ownBlock ≠ some b
  nil : l = [] → v = .slice none 0 0
  tab : TAt w g b t
  ok4 : Up.Ok4 t
  ug : u ≠ g
  ub : u ≠ b
/-- What stands while it writes: all below B but the table; above B all but rows of bytes. -/
structure WrK (B u g b : Nat) (w w' : World) : Prop where
  os : w'.os = w.os
  tape : w'.tape = w.tape
  output : w'.output = w.output
  size : w.heap.size ≤ w'.heap.size
  block : ∀ k o, w.heap[k]? = some o → k ≠ u → k ≠ g → k ≠ b → (k < B ∨ ∀ c fz, o ≠ .cells c 5 fz) → w'.heap[k]? = some o
/-- One block alone may have turned. -/
structure Only (u : Nat) (w w' : World) : Prop where
  os : w'.os = w.os
  tape : w'.tape = w.tape
  output : w'.output = w.output
  size : w'.heap.size = w.heap.size
  block : ∀ k, k ≠ u → w'.heap[k]? = w.heap[k]?
section
variable {w w1 w2 : World} {B u g b b' : Nat} {v : Value} {l : List UInt8} {t : Tab}
theorem WrK.refl (B u g b : Nat) (w : World) : WrK B u g b w w := ⟨rfl, rfl, rfl, Nat.le_refl _, fun _ _ h _ _ _ _ => h⟩
theorem WrK.trans (h : WrK B u g b w w1) (k : WrK B u g b' w1 w2) (hb : b' = b ∨ b' = g ∨ w.heap.size ≤ b') : WrK B u g b w w2 :=
  ⟨k.os.trans h.os, k.tape.trans h.tape, k.output.trans h.output, Nat.le_trans h.size k.size, fun i o hi h1 h2 h3 h4 =>
    k.block i o (h.block i o hi h1 h2 h3 h4) h1 h2 (by have := world_lt hi; rcases hb with rfl | rfl | hb; exact h3; exact h2; omega) h4⟩
theorem WrK.of_below (h : Below w.heap.size w w1) : WrK B u g b w w1 := ⟨h.os, h.tape, h.output, h.size, fun i _ hi _ _ _ _ => (h.block i (world_lt hi)).trans hi⟩
theorem WrK.below (h : WrK B u g b w w1) (k : Below w1.heap.size w1 w2) : WrK B u g b w w2 := h.trans (b' := b) (.of_below k) (.inl rfl)
theorem WrK.first (h : Below w.heap.size w w1) (k : WrK B u g b w1 w2) : WrK B u g b w w2 := WrK.trans (.of_below h) k (.inl rfl)
theorem Only.refl (u : Nat) (w : World) : Only u w w := ⟨rfl, rfl, rfl, rfl, fun _ _ => rfl⟩
theorem Only.set (u i : Nat) (w : World) (x : Value) : Only u w (w.setCell ⟨u, i, none⟩ x) := ⟨rfl, rfl, rfl, by simp, fun k hk => Below.heap_setCell w ⟨u, i, none⟩ x k hk⟩
theorem WrS.ult (h : WrS w B u g b v l t) : u < w.heap.size := by obtain ⟨p, _, hc⟩ := h.cells; exact world_lt hc
theorem WrS.vlt (h : WrS w B u g b v l t) {k : Nat} (hk : v.ownBlock = some k) : k < w.heap.size ∧ B ≤ k := by
  have := h.own.lt k hk
  exact ⟨this.2, this.1⟩
theorem WrS.vu (h : WrS w B u g b v l t) {k : Nat} (hk : v.ownBlock = some k) : k ≠ u ∧ k ≠ g := by
  obtain ⟨c, hc⟩ := own_kind h.own hk
  refine ⟨fun e => ?_, fun e => ?_⟩
  · obtain ⟨p, _, hu⟩ := h.cells
    rw [e, hu] at hc
    simp at hc
  · obtain ⟨⟨ao, off, cc, hT⟩, _⟩ := h.tab
    have := hT.1
    rw [e, this] at hc
    simp at hc
theorem WrS.kept (h : WrS w B u g b v l t) (hs : w.heap.size ≤ w1.heap.size) (hk : ∀ k, k < w.heap.size → w1.heap[k]? = w.heap[k]?) : WrS w1 B u g b v l t := by
  obtain ⟨p, hp, hc⟩ := h.cells
  exact ⟨h.le, ⟨p, hp, (hk u h.ult).trans hc⟩, own_keep h.own (fun k hv => hk k (h.vlt hv).1), h.nb, h.nil, h.tab.kept hs (hk g h.tab.lt.1) (fun hb => hk b hb), h.ok4, h.ug, h.ub⟩
theorem WrS.below (h : WrS w B u g b v l t) (k : Below w.heap.size w w1) : WrS w1 B u g b v l t := h.kept k.size k.block
/-- A new buffer laid into it. -/
theorem WrS.put {r : List UInt8} {n : Nat} {v' : Value} (h : WrS w B u g b v l t) (hG : w.grownBy w1 v.ownBlock) (hO : w1.ownsRow B 5 1 v' n (Bytes.byteCells (l ++ r))) (hn : (l ++ r).length = n) (h0 : l ++ r = [] → v' = .slice none 0 0) (hloc : v'.ownBlock = v.ownBlock ∨ ∀ k, v'.ownBlock = some k → w.heap.size ≤ k) :
    WrS (w1.setCell ⟨u, 1, none⟩ v') B u g b v' (l ++ r) t ∧ WrK B u g b w (w1.setCell ⟨u, 1, none⟩ v') := by
  subst hn
  obtain ⟨p, hp, hc⟩ := h.cells
  have hul := h.ult
  have hvu : v.ownBlock ≠ some u := fun e => (h.vu e).1 rfl
  have hvg : v.ownBlock ≠ some g := fun e => (h.vu e).2 rfl
  have hu1 : w1.heap[u]? = some (.cells #[p, v, .pointer (some ⟨g, 0, none⟩)] 75 (0, 0)) := (hG.block u hul (fun e => hvu e.symm)).trans hc
  have hnu : v'.ownBlock ≠ some u := fun e => by
    obtain ⟨c, hcc⟩ := own_kind hO e
    rw [hu1] at hcc
    simp at hcc
  have hgl := h.tab.lt
  have hset : ∀ k, k ≠ u → (w1.setCell ⟨u, 1, none⟩ v').heap[k]? = w1.heap[k]? := fun k hk => Below.heap_setCell w1 ⟨u, 1, none⟩ v' k hk
  have hz : w.heap.size ≤ (w1.setCell ⟨u, 1, none⟩ v').heap.size := by have := hG.size; simpa using this
  refine ⟨⟨h.le, ⟨p, hp, ?_⟩, own_keep hO (fun k hk => hset k (fun e => hnu (by rw [hk, e]))), ?_, h0, ?_, h.ok4, h.ug, h.ub⟩, ⟨hG.os, hG.tape, hG.output, hz, fun k _ hk h1 h2 h3 h4 => ?_⟩⟩
  · simp [World.setCell, Array.getElem?_modify, hu1]
  · rcases hloc with e | e
    · rw [e]; exact h.nb
    · intro e2
      have := e b e2
      omega
  · exact h.tab.kept hz ((hset g (fun e => h.ug e.symm)).trans (hG.block g hgl.1 (fun e => hvg e.symm))) (fun hb => (hset b (fun e => h.ub e.symm)).trans (hG.block b hb (fun e => h.nb e.symm)))
  · refine ((hset k h1).trans (hG.block k (world_lt hk) (fun e => ?_))).trans hk
    rcases h4 with h4 | h4
    · have := (h.vlt e.symm).2
      omega
    · obtain ⟨c, hcc⟩ := own_kind h.own e.symm
      rw [hk] at hcc
      exact h4 _ _ (Option.some.inj hcc)
theorem WrS.only (h : WrS w B u g b v l t) (hO : Only u w w1) {q : Value} (hq : q = .pointer none ∨ q = .pointer (some ⟨u, 0, none⟩)) (hc : w1.heap[u]? = some (.cells #[q, v, .pointer (some ⟨g, 0, none⟩)] 75 (0, 0))) : WrS w1 B u g b v l t ∧ WrK B u g b w w1 := by
  have hvu : v.ownBlock ≠ some u := fun e => (h.vu e).1 rfl
  exact ⟨⟨h.le, ⟨q, hq, hc⟩, own_keep h.own (fun k hk => hO.block k (fun e => hvu (by rw [hk, e]))), h.nb, h.nil, h.tab.kept (Nat.le_of_eq hO.size.symm) (hO.block g (fun e => h.ug e.symm)) (fun _ => hO.block b (fun e => h.ub e.symm)), h.ok4, h.ug, h.ub⟩,
    ⟨hO.os, hO.tape, hO.output, Nat.le_of_eq hO.size.symm, fun k o hk h1 _ _ _ => (hO.block k h1).trans hk⟩⟩
end
theorem zero_add2 (g j : Nat) : (⟨g, 0, none⟩ : Addr).add j = ⟨g, j, none⟩ := by
  unfold Addr.add
  by_cases hj : j = 0
  · subst hj; rfl
  · simp [hj]
/-- append of bytes to a row of one's own: where it lies then. -/
theorem run_append_bytes (w : World) (ty : TypeId) (base : Nat) (v : Value) (m : Nat) (l : List UInt8) (hO : w.ownsRow base 5 1 v m (Bytes.byteCells l)) (gs k cs : Nat) (r : List UInt8) (hk : r.length = k) (h0 : 0 < k)
    (hr : ∀ j u, (Bytes.byteCells r)[j]? = some u → w.cell? ((⟨gs, 0, none⟩ : Addr).add j) = some u) (hmn : m + k ≤ 2000000000) (hb : base ≤ w.heap.size) :
    ∃ gg cap w', (Builtin.append_ #[71, 71] ty #[v, .slice (some ⟨gs, 0, none⟩) k cs]).run Try.prog w = .ok (.slice (some ⟨gg, 0, none⟩) (m + k) cap) w' ∧ w'.ownsRow base 5 1 (.slice (some ⟨gg, 0, none⟩) (m + k) cap) (m + k) (Bytes.byteCells (l ++ r)) ∧ w.grownBy w' v.ownBlock ∧ (v.ownBlock = some gg ∨ w.heap.size ≤ gg) := by
  obtain ⟨i0, hi, hz0, hz1, hz2⟩ := info_parts info5
  have ht := Try.underlying71
  have hrl := byteCells_len r
  have hl : (Bytes.byteCells r).length = k * i0.size := by rw [hz1]; omega
  have hone : ∀ u ∈ Bytes.byteCells r, u.oneCell' = true := fun u hu => by
    unfold Bytes.byteCells at hu
    obtain ⟨x, _, rfl⟩ := List.mem_map.1 hu
    rfl
  obtain ⟨v', w', hrun, h2, h3, _⟩ := run_append_own (P := Try.prog) w base 71 ty 5 i0 _ 1 1 ht hi hz0 hz1 hz2 rfl (by decide) v m (Bytes.byteCells l) hO ⟨gs, 0, none⟩ k cs (Bytes.byteCells r) (by rw [hl, hz1]) hr hone (by unfold maxLen; omega) (by omega) hb
  rw [← byteCells_cat] at h2
  have hloc : ∃ gg cap, v' = .slice (some ⟨gg, 0, none⟩) (m + k) cap ∧ (v.ownBlock = some gg ∨ w.heap.size ≤ gg) := by
    have hxl : (Bytes.byteCells l).length = m := by simpa using hO.1
    rcases hO.2 with ⟨rfl, rfl⟩ | ⟨g0, cap, cur, rfl, hbg, hgg, hnc, hcm, hcs, htake⟩
    · have hr2 := run_append_nil (P := Try.prog) w 71 ty 5 i0 _ ht hi hz0 ⟨gs, 0, none⟩ k cs (Bytes.byteCells r) hl hr (by omega) (by omega) (by rw [hz2]; omega)
      rw [hrun] at hr2
      injection hr2 with e1 e2
      exact ⟨_, _, by rw [e1, Nat.zero_add], .inr (Nat.le_refl _)⟩
    · by_cases hroom : m + k ≤ cap
      · have hr2 := run_append_room (P := Try.prog) w 71 ty 5 i0 ht hi g0 m cap cur hgg ⟨gs, 0, none⟩ k cs (Bytes.byteCells r) hl hr hone hroom (by rw [hl, hz1, hcs]; omega)
        rw [hrun] at hr2
        injection hr2 with e1 e2
        exact ⟨_, _, e1, .inl rfl⟩
      · have holds : ∀ j u, (Bytes.byteCells l)[j]? = some u → w.cell? ((⟨g0, 0, none⟩ : Addr).add j) = some u := hO.cells (g := g0) rfl
        have hr2 := run_append_grow (P := Try.prog) w 71 ty 5 i0 _ ht hi hz0 ⟨g0, 0, none⟩ m cap (Bytes.byteCells l) (by rw [hz1]; omega) holds ⟨gs, 0, none⟩ k cs (Bytes.byteCells r) hl hr (by omega) (by omega) (growslice_fits (by omega) (by rw [hz2]; omega))
        rw [hrun] at hr2
        injection hr2 with e1 e2
        exact ⟨_, _, e1, .inr (Nat.le_refl _)⟩
  obtain ⟨gg, cap, rfl, hl⟩ := hloc
  exact ⟨gg, cap, w', hrun, h2, h3, hl⟩
theorem strCells_bytes' (s : ByteArray) : Lib.strCells s = Bytes.byteCells s.data.toList := rfl
/-- The same of a text, where something stands already. -/
theorem run_append_str (w : World) (ty : TypeId) (base : Nat) (g0 m c0 : Nat) (l : List UInt8) (hO : w.ownsRow base 5 1 (.slice (some ⟨g0, 0, none⟩) m c0) m (Bytes.byteCells l)) (s : ByteArray) (n : Nat) (hn : s.size = n) (hmn : m + n ≤ 2000000000) (hb : base ≤ w.heap.size) :
    ∃ gg cap w', (Builtin.append_ #[71, 9] ty #[.slice (some ⟨g0, 0, none⟩) m c0, .string s]).run Try.prog w = .ok (.slice (some ⟨gg, 0, none⟩) (m + n) cap) w' ∧ w'.ownsRow base 5 1 (.slice (some ⟨gg, 0, none⟩) (m + n) cap) (m + n) (Bytes.byteCells (l ++ s.data.toList)) ∧ w.grownBy w' (some g0) ∧ (gg = g0 ∨ w.heap.size ≤ gg) := by
  obtain ⟨i5, hi, hz0, hz1, hz2⟩ := info_parts info5
  subst hn
  obtain ⟨v', w', hr, h2, h3, _⟩ := Lib.run_append_own_string (P := Try.prog) w base 71 9 ty 5 i5 Try.underlying71 Try.underlying9 hi hz0 hz1 hz2 _ m (Bytes.byteCells l) hO s (by unfold maxLen; omega) (by omega) hb
  rw [strCells_bytes', ← byteCells_cat] at h2
  have hxl : (Bytes.byteCells l).length = m := by simpa using hO.1
  have hloc : ∃ gg cap, v' = .slice (some ⟨gg, 0, none⟩) (m + s.size) cap ∧ (gg = g0 ∨ w.heap.size ≤ gg) := by
    rcases hO.2 with ⟨e, _⟩ | ⟨g1, cap, cur, e, hbg, hgg, hnc, hcm, hcs, htake⟩
    · cases e
    · injection e with e1 _ e3
      injection e1 with e1
      injection e1 with e1
      subst e1 e3
      by_cases hroom : m + s.size ≤ c0
      · have hcs' : cur.size = c0 := by simpa using hcs
        have hr2 := Lib.run_append_room_string (P := Try.prog) w 71 9 ty 5 i5 Try.underlying71 Try.underlying9 hi hz1 g0 m c0 cur hgg s hroom (by omega)
        rw [hr] at hr2
        injection hr2 with e1 e2
        exact ⟨_, _, e1, .inl rfl⟩
      · have holds : ∀ j u, (Bytes.byteCells l)[j]? = some u → w.cell? ((⟨g0, 0, none⟩ : Addr).add j) = some u := hO.cells (g := g0) rfl
        have hr2 := Lib.run_append_grow_string (P := Try.prog) w 71 9 ty 5 i5 (.int .u8 0) Try.underlying71 Try.underlying9 hi hz0 ⟨g0, 0, none⟩ m c0 (Bytes.byteCells l) (by rw [hz1]; simpa using hxl) holds s (by omega) (by omega) (by rw [hz2]; exact growslice_fits (by omega) (by omega))
        rw [hr] at hr2
        injection hr2 with e1 e2
        exact ⟨_, _, e1, .inr (Nat.le_refl _)⟩
  obtain ⟨gg, cap, rfl, hl⟩ := hloc
  exact ⟨gg, cap, w', hr, h2, h3, hl⟩
/-- An append of a text whose run is known. -/
theorem wpList_append_srun {P : Program} {w w' : World} {ops : Array Oper} {rest : List Oper} {o : Oper} {a : Act} {Q : Exit → Act → World → Prop} (hg : o.guard = none) (s x : Operand) (t t2 : TypeId) (hop : o.op = Op.call { callee := Callee.builtin Builtin.append, args := #[s, x], argTypes := #[t, t2] })
    (vs vx v' : Value) (hs : a.eval s = vs) (hx : a.eval x = vx) (hrun : (Builtin.append_ #[t, t2] o.type #[vs, vx]).run P w = .ok v' w') (hK : wpList P ops Q rest (a.put o.dst v') w') : wpList P ops Q (o :: rest) a w := by
  refine wpList_plain hg fun K hK' => ?_
  unfold Oper.wp
  simp [execOp, hop, resolve, invoke, builtin, hs, hx, hrun, Result.andThen]
  exact hK' _ _ hK
end Pk
open Pk

set_option maxHeartbeats 1000000 in
set_option maxRecDepth 100000 in
theorem bcheck_used (u : Nat) (v q : Value) (w : World) (h : w.heap[u]? = some (.cells #[.pointer (some ⟨u, 0, none⟩), v, q] 75 (0, 0))) :
    Calls Try.prog 71 #[.pointer (some ⟨u, 0, none⟩)] w fun e w' => e = .returned (.tuple #[]) ∧ w' = w := by
  obtain ⟨j, hj, _⟩ := Option.map_eq_some_iff.1 infoB
  have h0 : w.cell? ⟨u, 0, none⟩ = some (.pointer (some ⟨u, 0, none⟩)) := cell_of_row _ u 0 _ _ _ h
  go_enter Try.func71, Try.ntmps71
  go_wp2
  rw [Lib.run_neq_ptr_same w _ Try.underlying70 hj]
  go_wp2
  go_end0
  exact ⟨rfl, rfl⟩

set_option maxHeartbeats 1000000 in
set_option maxRecDepth 100000 in
theorem bcheck_fresh (u : Nat) (v q : Value) (w : World) (h : w.heap[u]? = some (.cells #[.pointer none, v, q] 75 (0, 0))) :
    Calls Try.prog 71 #[.pointer (some ⟨u, 0, none⟩)] w fun e w' => e = .returned (.tuple #[]) ∧ w' = w.setCell ⟨u, 0, none⟩ (.pointer (some ⟨u, 0, none⟩)) := by
  obtain ⟨j, hj, hjs⟩ := Option.map_eq_some_iff.1 infoB
  have h0 : w.cell? ⟨u, 0, none⟩ = some (.pointer none) := cell_of_row _ u 0 _ _ _ h
  have hsh : w.shape? u = some (75, 3) := by simp [World.shape?, h]
  have hfz : w.frozen? ⟨u, 0, none⟩ = false := by simp [World.frozen?, h]
  go_enter Try.func71, Try.ntmps71
  go_wp2
  rw [Lib.run_to_unsafe w ⟨u, 0, none⟩ Try.underlying70 Try.underlying139 hj (by rw [hjs]; decide) hsh (Nat.zero_lt_succ 2)]
  simp only [Result.andThen]
  rw [Oper.upon_value]
  go_wp2
  rw [run_callFunc_extern Try.func84 (by kernel_rfl) (by kernel_rfl) (by kernel_rfl) (e := Extern.AbiNoEscape.same) (by kernel_rfl)]
  rw [Lib.run_noEscape]
  simp only [Result.andThen]
  rw [Oper.upon_value]
  go_wp2
  rw [Lib.run_from_unsafe w ⟨u, 0, none⟩ Try.underlying139 Try.underlying70 hj hsh liesW]
  simp only [Result.andThen]
  rw [Oper.upon_value]
  go_wp2
  go_end0
  exact ⟨rfl, rfl⟩

theorem bcheck_any (B u g b : Nat) (v : Value) (l : List UInt8) (t : Tab) (w : World) (h : WrS w B u g b v l t) :
    Calls Try.prog 71 #[.pointer (some ⟨u, 0, none⟩)] w fun e w' => e = .returned (.tuple #[]) ∧ WrS w' B u g b v l t ∧ WrK B u g b w w' ∧ Only u w w' := by
  obtain ⟨p, hp, hc⟩ := h.cells
  rcases hp with rfl | rfl
  · refine (bcheck_fresh u v _ w hc).mono ?_
    rintro e w' ⟨rfl, rfl⟩
    have hO := Only.set u 0 w (.pointer (some ⟨u, 0, none⟩))
    have := h.only hO (.inr rfl) (by simp [World.setCell, Array.getElem?_modify, hc])
    exact ⟨rfl, this.1, this.2, hO⟩
  · refine (bcheck_used u v _ w hc).mono ?_
    rintro e w' ⟨rfl, rfl⟩
    exact ⟨rfl, h, WrK.refl _ _ _ _ _, Only.refl _ _⟩

set_option maxHeartbeats 2000000 in
set_option maxRecDepth 100000 in
/-- Write: bytes. -/
theorem bwrite_any (B u g b : Nat) (v : Value) (l r : List UInt8) (t : Tab) (gs k cs : Nat) (w : World) (h : WrS w B u g b v l t) (hk : r.length = k) (h0 : 0 < k) (hr : ∀ j x, (Bytes.byteCells r)[j]? = some x → w.cell? ((⟨gs, 0, none⟩ : Addr).add j) = some x) (hgs : gs ≠ u) (hmn : l.length + k ≤ 2000000000) :
    Calls Try.prog 61 #[.pointer (some ⟨u, 0, none⟩), .slice (some ⟨gs, 0, none⟩) k cs] w fun e w' => e = .returned (.tuple #[.int .i64 k, .nilIface]) ∧ ∃ v', WrS w' B u g b v' (l ++ r) t ∧ WrK B u g b w w' := by
  have H := Lib.hid h
  have HR := Lib.hid hr
  have HK := Lib.hid hk
  clear h hr hk
  go_enter Try.func61, Try.ntmps61
  go_wp2_with fail
  refine (bcheck_any B u g b v l t _ H.out).mono ?_
  rintro e w1 ⟨rfl, h1, hK1, hO1⟩
  obtain ⟨gg, cap, w2, hrun, hO2, hG2, hloc⟩ := run_append_bytes w1 71 B v l.length l h1.own gs k cs r HK.out h0 (fun j x hj => by
    have := HR.out j x hj
    rw [zero_add2] at this ⊢
    exact (World.cell?_of_block (a := ⟨gs, j, none⟩) (hO1.block gs hgs)).trans this) hmn (by have := h1.ult; have := h1.le; omega)
  have hne : l ++ r ≠ [] := fun e => by
    have := congrArg List.length e
    rw [List.length_append, HK.out, List.length_nil] at this
    omega
  have hput := h1.put hG2 hO2 (by rw [List.length_append, HK.out]) (fun e => absurd e hne) (by
    rcases hloc with e | e
    · exact .inl e.symm
    · exact .inr fun k2 hk2 => by
        injection hk2 with hk2
        have hk3 : gg = k2 := hk2
        omega)
  obtain ⟨p, hp, hc⟩ := h1.cells
  have c1 : w1.cell? ⟨u, 1, none⟩ = some v := cell_of_row _ u 1 _ _ _ hc
  have hvu : v.ownBlock ≠ some u := fun e => (h1.vu e).1 rfl
  have hu2 : w2.heap[u]? = some (.cells #[p, v, .pointer (some ⟨g, 0, none⟩)] 75 (0, 0)) := (hG2.block u h1.ult (fun e => hvu e.symm)).trans hc
  have d1 : w2.cell? ⟨u, 1, none⟩ = some v := cell_of_row _ u 1 _ _ _ hu2
  have f1 : w2.frozen? ⟨u, 1, none⟩ = false := by simp [World.frozen?, hu2]
  have HRUN := Lib.hid hrun
  have HP := Lib.hid (And.intro hput.1 (hK1.trans hput.2 (.inl rfl)))
  clear hrun hput hO2 hG2 hloc hc hu2 hK1 hO1 h1 hp
  go_wp2_with (at_builtin; refine wpList_append_srun rfl _ _ _ _ rfl _ _ _ rfl rfl HRUN.out ?_)
  go_ret2
  exact ⟨rfl, _, HP.out⟩

set_option maxHeartbeats 2000000 in
set_option maxRecDepth 100000 in
/-- WriteString: a text, where something stands already. -/
theorem bstring_any (B u g b : Nat) (v : Value) (l : List UInt8) (s : ByteArray) (t : Tab) (w : World) (h : WrS w B u g b v l t) (hne : l ≠ []) (hmn : l.length + s.size ≤ 2000000000) :
    Calls Try.prog 77 #[.pointer (some ⟨u, 0, none⟩), .string s] w fun e w' => e = .returned (.tuple #[.int .i64 s.size, .nilIface]) ∧ ∃ v', WrS w' B u g b v' (l ++ s.data.toList) t ∧ WrK B u g b w w' := by
  have H := Lib.hid h
  clear h
  go_enter Try.func77, Try.ntmps77
  go_wp2_with fail
  refine (bcheck_any B u g b v l t _ H.out).mono ?_
  rintro e w1 ⟨rfl, h1, hK1, hO1⟩
  obtain ⟨g0, c0, rfl⟩ : ∃ g0 c0, v = .slice (some ⟨g0, 0, none⟩) l.length c0 := by
    rcases h1.own.2 with ⟨_, h0⟩ | ⟨g0, cap, cur, hv, _⟩
    · exact absurd (List.length_eq_zero_iff.1 h0) hne
    · exact ⟨g0, cap, hv⟩
  obtain ⟨gg, cap, w2, hrun, hO2, hG2, hloc⟩ := run_append_str w1 71 B g0 l.length c0 l h1.own s s.size rfl hmn (by have := h1.ult; have := h1.le; omega)
  have hsz : s.data.toList.length = s.size := Lib.size_eq s
  have hput := h1.put (v' := .slice (some ⟨gg, 0, none⟩) (l.length + s.size) cap) hG2 hO2 (by rw [List.length_append, hsz]) (fun e => absurd (List.append_eq_nil_iff.1 e).1 hne) (by
    rcases hloc with e | e
    · exact .inl (by rw [e]; rfl)
    · exact .inr fun k2 hk2 => by
        injection hk2 with hk2
        have hk3 : gg = k2 := hk2
        omega)
  obtain ⟨p, hp, hc⟩ := h1.cells
  have c1 : w1.cell? ⟨u, 1, none⟩ = some (.slice (some ⟨g0, 0, none⟩) l.length c0) := cell_of_row _ u 1 _ _ _ hc
  have hvu : (Value.slice (some ⟨g0, 0, none⟩) l.length c0).ownBlock ≠ some u := fun e => (h1.vu e).1 rfl
  have hu2 : w2.heap[u]? = some (.cells #[p, .slice (some ⟨g0, 0, none⟩) l.length c0, .pointer (some ⟨g, 0, none⟩)] 75 (0, 0)) := (hG2.block u h1.ult (fun e => hvu e.symm)).trans hc
  have d1 : w2.cell? ⟨u, 1, none⟩ = some (.slice (some ⟨g0, 0, none⟩) l.length c0) := cell_of_row _ u 1 _ _ _ hu2
  have f1 : w2.frozen? ⟨u, 1, none⟩ = false := by simp [World.frozen?, hu2]
  have HRUN := Lib.hid hrun
  have HP := Lib.hid (And.intro hput.1 (hK1.trans hput.2 (.inl rfl)))
  clear hrun hput hO2 hG2 hloc hc hu2 hK1 hO1 h1 hp hsz
  go_wp2_with (at_builtin; refine wpList_append_srun rfl _ _ _ _ rfl _ _ _ rfl rfl HRUN.out ?_)
  go_ret2
  exact ⟨rfl, _, HP.out⟩

theorem bcells_one : Try.prog.cellsOf 5 = 1 := by kernel_rfl
set_option maxHeartbeats 2000000 in
set_option maxRecDepth 100000 in
/-- String: what was written. -/
theorem btext_any (B u g b : Nat) (v : Value) (l : List UInt8) (r : ByteArray) (t : Tab) (w : World) (h : WrS w B u g b v l t) (hr : mk l = r) (hmn : l.length ≤ 2000000000) :
    Calls Try.prog 31 #[.pointer (some ⟨u, 0, none⟩)] w fun e w' => e = .returned (.string r) ∧ WrK B u g b w w' ∧ TAt w' g b t := by
  subst hr
  obtain ⟨p, hp, hc⟩ := h.cells
  have c1 : w.drew.cell? ⟨u, 1, none⟩ = some v := cell_of_row w u 1 _ _ _ hc
  by_cases hl : l = []
  · subst hl
    have hv := h.nil rfl
    subst hv
    have hUS := Lib.run_unsafeString_none (P := Try.prog) w.drew 103 3 9 none
    have hSD : (Builtin.unsafeSliceData_ #[71] 103 #[.slice none 0 0]).run Try.prog w.drew = .ok (.pointer none) w.drew := rfl
    have H := Lib.hid h
    clear h hc hp
    go_enter Try.func31, Try.ntmps31
    go_wp2_with fail
    go_region
    all_goals (go_wp2; go_ret; exact ⟨rfl, ⟨rfl, rfl, rfl, Nat.le_refl _, fun _ _ hk _ _ _ _ => hk⟩, H.out.tab.kept (Nat.le_refl _) rfl (fun _ => rfl)⟩)
  · have hl0 : l.length ≠ 0 := fun e => hl (List.length_eq_zero_iff.1 e)
    obtain ⟨g0, cap, cur, rfl, hbg, hgg, hnc, hcm, hcs, htake⟩ : ∃ g0 cap cur, v = .slice (some ⟨g0, 0, none⟩) l.length cap ∧ B ≤ g0 ∧ w.heap[g0]? = some (.cells cur 5 (0, 0)) ∧ l.length ≤ cap ∧ cap ≤ maxLen ∧ cur.size = cap * 1 ∧ cur.toList.take (l.length * 1) = Bytes.byteCells l := by
      rcases h.own.2 with ⟨_, hz⟩ | ⟨g0, cap, cur, hv, r⟩
      · exact absurd hz hl0
      · exact ⟨g0, cap, cur, hv, r⟩
    have hSD : (Builtin.unsafeSliceData_ #[71] 103 #[.slice (some ⟨g0, 0, none⟩) l.length cap]).run Try.prog w.drew = .ok (.pointer (some ⟨g0, 0, none⟩)) w.drew := Lib.run_unsafeSliceData_row _ _ _ _ _ _ (by omega)
    have hUS : (Builtin.unsafeString_ #[103, 3] 9 #[.pointer (some ⟨g0, 0, none⟩), .int .i64 l.length]).run Try.prog w.drew = .ok (.string ⟨l.toArray⟩) (w.drew.freeze ⟨g0, 0, none⟩ l.length) := by
      refine Lib.run_unsafeString_row w.drew 103 3 9 5 Try.underlying103 bcells_one g0 cur.size (by have hg' : w.drew.heap[g0]? = some (.cells cur 5 (0, 0)) := hgg; simp [World.shape?, hg']) l hl (by omega) (by omega) ?_
      intro j x hx
      exact h.own.cells (g := g0) rfl j (.int .u8 x.toNat) (by simp [Bytes.byteCells, hx])
    have hfr : ∀ k, k ≠ g0 → (w.drew.freeze ⟨g0, 0, none⟩ l.length).heap[k]? = w.heap[k]? := fun k hk => by
      unfold World.freeze
      split
      · rfl
      · simp only [Array.getElem?_modify]
        rw [if_neg (fun e => hk e.symm)]
        rfl
    have hvg := (h.vu (k := g0) rfl).2
    have hnb : g0 ≠ b := fun e => h.nb (by rw [← e]; rfl)
    have hsz : (w.drew.freeze ⟨g0, 0, none⟩ l.length).heap.size = w.heap.size := by
      unfold World.freeze
      split
      · rfl
      · simp
    have HT := Lib.hid (show TAt (w.drew.freeze ⟨g0, 0, none⟩ l.length) g b t from h.tab.kept (Nat.le_of_eq hsz.symm) (hfr g (fun e => hvg e.symm)) (fun _ => hfr b (fun e => hnb e.symm)))
    have HK := Lib.hid (show WrK B u g b w (w.drew.freeze ⟨g0, 0, none⟩ l.length) from by
      refine ⟨?_, ?_, ?_, Nat.le_of_eq hsz.symm, fun k o hk h1 h2 h3 h4 => (hfr k (fun e => ?_)).trans hk⟩
      · unfold World.freeze; split <;> rfl
      · unfold World.freeze; split <;> rfl
      · unfold World.freeze; split <;> rfl
      · subst e
        rcases h4 with h4 | h4
        · omega
        · rw [hgg] at hk
          exact h4 _ _ (Option.some.inj hk).symm)
    clear h hc hp hfr hsz hgg hcs htake hvg hnb
    go_enter Try.func31, Try.ntmps31
    go_wp2_with fail
    go_region
    all_goals (go_wp2; go_ret; exact ⟨rfl, HK.out, HT.out⟩)
end Go.Proofs.Ytamgnbjdeoklbaa

/- The contract of prefix's Put: bytes with an integer behind them, in new memory. For at most 10^6 bytes. -/
namespace Go.Proofs.Ytamgnbjdeoklbaa
open Go.RowKit Bytes Pf

/-- A slice of bytes that reads as the bytes l, nil or not; what it has of memory lies below block B. -/
def RdC (w : World) (B : Nat) (a : Option Addr) (cap : Nat) (l : List UInt8) : Prop :=
  l.length ≤ cap ∧ cap ≤ 9223372036854775807 ∧ (a = none → l = [] ∧ cap = 0) ∧ ∀ x, a = some x → ∀ i v, (Bytes.byteCells l)[i]? = some v → x.block < B ∧ w.cell? (x.add i) = some v
theorem RdC.nil (w : World) (B : Nat) : RdC w B none 0 [] := ⟨Nat.le_refl _, by omega, fun _ => ⟨rfl, rfl⟩, fun _ h => by cases h⟩
theorem add_block (a : Addr) (n : Nat) : (a.add n).block = a.block := by unfold Addr.add; split <;> rfl
theorem RdC.on {w w' : World} {B B' : Nat} {a : Option Addr} {cap : Nat} {l : List UInt8} (h : RdC w B a cap l) (hb : Below B w w') (hB : B ≤ B') : RdC w' B' a cap l :=
  ⟨h.1, h.2.1, h.2.2.1, fun x hx i v hv => by
    have ⟨h1, h2⟩ := h.2.2.2 x hx i v hv
    exact ⟨by omega, by rw [hb.cell (by rw [add_block]; exact h1)]; exact h2⟩⟩
theorem andNot_full {f : Nat} (hf : isF f) (c : Nat) (hc : c < 256) : bits .andNot .u8 (c : Int) (f : Int) = ((c / (f + 1) * (f + 1) : Nat) : Int) := by
  have hb := isF_bd hf
  rw [u8_andNot_nat c f hc (by omega)]
  have h : ((List.range 256).all fun c => c &&& (255 - f) == c / (f + 1) * (f + 1)) = true := by
    unfold isF at hf
    rcases hf with rfl | rfl | rfl | rfl | rfl | rfl | rfl | rfl <;> decide +kernel
  have h2 := List.all_eq_true.1 h c (List.mem_range.2 hc)
  rw [eq_of_beq h2]
theorem or_first {f : Nat} (hf : isF f) (c n : Nat) (hc : c < 256) (hn : n ≤ f) : bits .or .u8 ((c / (f + 1) * (f + 1) : Nat) : Int) (n : Int) = ((c / (f + 1) * (f + 1) + n : Nat) : Int) := by
  have h0 := (first_mod hf hc hn).2
  rw [u8_or_nat _ _ (by omega) (by omega)]
  have h : ∃ k, f + 1 = 2 ^ k := by
    unfold isF at hf
    rcases hf with rfl | rfl | rfl | rfl | rfl | rfl | rfl | rfl
    · exact ⟨1, rfl⟩
    · exact ⟨2, rfl⟩
    · exact ⟨3, rfl⟩
    · exact ⟨4, rfl⟩
    · exact ⟨5, rfl⟩
    · exact ⟨6, rfl⟩
    · exact ⟨7, rfl⟩
    · exact ⟨8, rfl⟩
  obtain ⟨k, hk⟩ := h
  have h3 := Nat.shiftLeft_add_eq_or_of_lt (i := k) (b := n) (by omega) (c / (f + 1))
  rw [Nat.shiftLeft_eq, ← hk] at h3
  rw [← h3]
theorem or_128 (n : Nat) : bits .or .u8 128 ((n : Int) % 256) = ((128 + n % 128 : Nat) : Int) := by
  have h : ((List.range 256).all fun c => 128 ||| c == 128 + c % 128) = true := by decide +kernel
  have h2 := eq_of_beq (List.all_eq_true.1 h (n % 256) (List.mem_range.2 (by omega)))
  have h3 := u8_or_nat 128 (n % 256) (by omega) (by omega)
  rw [h2] at h3
  rw [Int.natCast_emod] at h3
  rw [show n % 256 % 128 = n % 128 by omega] at h3
  exact h3
theorem own_base {w : World} {g g' : Nat} {e : TypeId} {v : Value} {n : Nat} {xs : List Value} (h : w.ownsRow g' e 1 v n xs) (hg : g ≤ g') : w.ownsRow g e 1 v n xs := by
  refine ⟨h.1, ?_⟩
  rcases h.2 with h2 | ⟨b, cap, cur, h1, h2, h3⟩
  · exact .inl h2
  · exact .inr ⟨b, cap, cur, h1, by omega, h3⟩

/-- The first append: what it leaves. -/
theorem own_first {w w1 : World} {g n : Nat} {v' : Value} {o : Obj} {l : List UInt8} {x : UInt8} {z : Int} (hg : w.heap.size = g) (hz : (x.toNat : Int) = z)
    (hown : w1.ownsRow (w.heap.size + 1) 5 1 v' n (Bytes.byteCells l ++ [.int .u8 z])) (hgrow : (w.alloc o).grownBy w1 none) :
    w1.ownsRow g 5 1 v' n (Bytes.byteCells (l ++ [x])) ∧ Below g w w1 := by
  subst hg
  refine ⟨?_, ?_⟩
  · rw [byteCells_cat, byteCells_one, hz]
    exact own_base hown (Nat.le_succ _)
  · exact ((Below.refl w.heap.size w).alloc (Nat.le_refl _) o).grown hgrow (by have := (Below.refl 0 w).alloc (Nat.zero_le _) o; exact this.size) (fun b hb => by cases hb)

/-- How many bytes follow. -/
theorem groups_is (n k : Nat) (w : World) (h : n < 18446744073709551616) (hk : Hid ((gs n).length = k)) :
    Calls Try.prog 73 #[.int .u64 n] w fun e w' => e = .returned (.int .i64 k) ∧ w = w' := by
  have ⟨e, l1, l2⟩ := gs_len h
  rw [hk.out] at e
  have ho : bits .or .u64 (n : Int) 1 = ((n ||| 1 : Nat) : Int) := bits_or_u64_nat n 1 h (by omega)
  have hx : n ||| 1 < 18446744073709551616 := by rw [or_one]; omega
  generalize n ||| 1 = x at *
  obtain ⟨L, hL⟩ : ∃ L, Lib.bitLen x = L := ⟨_, rfl⟩
  have hc := Try.bits_Len64 (x : Int) w (by omega) (by omega)
  rw [Int.toNat_natCast] at hc
  rw [hL] at e l1 l2 hc
  have HC := Lib.hid hc
  clear hc hL
  go_enter Try.func73, Try.ntmps73
  go_wp2_with fail
  refine HC.out.mono ?_
  rintro e' w' ⟨rfl, rfl⟩
  go_wp2_with fail
  go_ret
  exact ⟨congrArg (fun z : Int => Ending.returned (.int .i64 z)) (by omega), rfl⟩

set_option maxHeartbeats 1000000 in
set_option maxRecDepth 100000 in
theorem put_is (a0 : Option Addr) (cap0 : Nat) (l r : List UInt8) (c n : Nat) (b : Int) (w : World) (hl : l.length ≤ 1000000) (hr : RdC w w.heap.size a0 cap0 l) (hc : c < 256) (hn : n < 18446744073709551616) (h3 : -9223372036854775808 ≤ b) (h4 : b ≤ 9223372036854775807) (h : Hid (putL (fullN b) c n = r)) :
    Calls Try.prog 62 #[.slice a0 l.length cap0, .int .u8 c, .int .i64 b, .int .u64 n] w fun e w' => ∃ v, e = .returned v ∧ w'.ownsRow w.heap.size 5 1 v (l.length + r.length) (Bytes.byteCells (l ++ r)) ∧ Below w.heap.size w w' := by
  have hcap := hr.1
  have hcap2 := hr.2.1
  have R := Lib.hid hr; clear hr
  have hF := fullN_is b
  obtain ⟨f, hf⟩ : ∃ f, fullN b = f := ⟨_, rfl⟩
  have hh := h.out
  rw [hf] at hh hF
  have HF := Lib.hid hf
  have hfb := isF_bd hF
  have hA := andNot_full hF c hc
  have hO := fun m (hm : m ≤ f) => or_first hF c m hc hm
  have hB := (first_mod hF hc (Nat.le_refl f)).2
  unfold putL at hh
  generalize c / (f + 1) * (f + 1) = o at *
  obtain ⟨N, hN⟩ : ∃ N, N = l.length := ⟨_, rfl⟩
  rw [← hN] at hl hcap ⊢
  have HN := Lib.hid hN; clear hN
  clear hf
  have HH := Lib.hid hh; clear hh
  generalize hg : w.heap.size = g at *
  have G := Lib.hid hg; clear hg
  obtain ⟨i0, hi, hz0, hz1, hz2⟩ := info_parts info5
  have HI := Lib.hid hi; clear hi
  have HZ0 := Lib.hid hz0; clear hz0
  have HZ1 := Lib.hid hz1; clear hz1
  have HZ2 := Lib.hid hz2; clear hz2
  by_cases hnf : n < f
  · have hon := hO n (by omega)
    have hyb : o + n < 256 := by omega
    have hr2 := HH.out
    rw [if_pos hnf] at hr2
    subst hr2
    clear hO HH
    generalize o + n = y at *
    rcases a0 with _ | x
    · go_enter Try.func62, Try.ntmps62
      go_wp2_with fail
      refine (full_is b f _ h3 h4 HF).mono ?_
      rintro e w' ⟨rfl, rfl⟩
      go_wp2_with (at_builtin; refine wpList_append_grows _ rfl _ _ 71 rfl 5 i0 (.int .u8 0) 1 1 Try.underlying71 HI.out HZ0.out HZ1.out HZ2.out rfl (by decide) _ N N (Bytes.byteCells l) rfl ?n1a ?n2a ?n3a ⟨w.heap.size, 0, none⟩ 1 1 [.int .u8 (y : Int)] rfl rfl ?c1a ?c2a ?c3a ?c4a ?c5a ?_)
      case n1a => rw [HN.out, (R.out.2.2.1 rfl).1]; rfl
      case n2a => rw [byteCells_len, ← HN.out]; omega
      case n3a =>
        intro bb hbb j u hj
        have h5 := R.out.2.2.2 _ hbb j u hj
        rw [World.cell?_alloc_lt w _ _ (by rw [add_block, G.out]; exact h5.1)]
        exact h5.2
      case c1a =>
        intro j u hj
        match j, hj with
        | 0, hj => simp at hj; subst hj; simp [Addr.add]
      case c2a => intro u hu; simp at hu; subst hu; rfl
      case c3a => omega
      case c4a => unfold maxLen; omega
      case c5a => omega
      intro v' w1 hown hgrow
      have RS := own_first (x := UInt8.ofNat y) G.out (by rw [nat_of hyb]) hown hgrow
      have R1 := Lib.hid RS.1
      have R2 := RS.2
      clear RS hown hgrow
      go_wp2_with fail
      go_ret
      exact ⟨v', rfl, R1.out, R2⟩
    · go_enter Try.func62, Try.ntmps62
      go_wp2_with fail
      refine (full_is b f _ h3 h4 HF).mono ?_
      rintro e w' ⟨rfl, rfl⟩
      go_wp2_with (at_builtin; refine wpList_append_grows _ rfl _ _ 71 rfl 5 i0 (.int .u8 0) 1 1 Try.underlying71 HI.out HZ0.out HZ1.out HZ2.out rfl (by decide) _ N N (Bytes.byteCells l) rfl ?n1b ?n2b ?n3b ⟨w.heap.size, 0, none⟩ 1 1 [.int .u8 (y : Int)] rfl rfl ?c1b ?c2b ?c3b ?c4b ?c5b ?_)
      case n1b => first | contradiction | (intro h; cases h)
      case n2b => rw [byteCells_len, ← HN.out]; omega
      case n3b =>
        intro bb hbb j u hj
        have h5 := R.out.2.2.2 _ hbb j u hj
        rw [World.cell?_alloc_lt w _ _ (by rw [add_block, G.out]; exact h5.1)]
        exact h5.2
      case c1b =>
        intro j u hj
        match j, hj with
        | 0, hj => simp at hj; subst hj; simp [Addr.add]
      case c2b => intro u hu; simp at hu; subst hu; rfl
      case c3b => omega
      case c4b => unfold maxLen; omega
      case c5b => omega
      intro v' w1 hown hgrow
      have RS := own_first (x := UInt8.ofNat y) G.out (by rw [nat_of hyb]) hown hgrow
      have R1 := Lib.hid RS.1
      have R2 := RS.2
      clear RS hown hgrow
      go_wp2_with fail
      go_ret
      exact ⟨v', rfl, R1.out, R2⟩
  · have hon := hO f (by omega)
    have hyb : o + f < 256 := by omega
    have hr2 := HH.out
    rw [if_neg hnf] at hr2
    clear hO HH
    generalize o + f = y at *
    obtain ⟨m, rfl⟩ : ∃ m, n = f + m := ⟨n - f, by omega⟩
    rw [Nat.add_sub_cancel_left] at hr2
    have HR2 := Lib.hid hr2
    clear hr2
    have hm : m < 18446744073709551616 := by omega
    have hsub : (f : Int) + (m : Int) - (f : Int) = (m : Int) := by omega
    obtain ⟨k, hk⟩ : ∃ k, (gs m).length = k := ⟨_, rfl⟩
    have hk1 := gs_pos m
    have hk2 := gs_few 9 m (by omega)
    rw [hk] at hk1 hk2
    have HK := Lib.hid hk
    clear hk
    rcases a0 with _ | x
    · go_enter Try.func62, Try.ntmps62
      go_wp2_with fail
      refine (full_is b f _ h3 h4 HF).mono ?_
      rintro e w' ⟨rfl, rfl⟩
      go_wp2_with (at_builtin; refine wpList_append_grows _ rfl _ _ 71 rfl 5 i0 (.int .u8 0) 1 1 Try.underlying71 HI.out HZ0.out HZ1.out HZ2.out rfl (by decide) _ N N (Bytes.byteCells l) rfl ?n1c ?n2c ?n3c ⟨w.heap.size, 0, none⟩ 1 1 [.int .u8 (y : Int)] rfl rfl ?c1c ?c2c ?c3c ?c4c ?c5c ?_)
      case n1c => rw [HN.out, (R.out.2.2.1 rfl).1]; rfl
      case n2c => rw [byteCells_len, ← HN.out]; omega
      case n3c =>
        intro bb hbb j u hj
        have h5 := R.out.2.2.2 _ hbb j u hj
        rw [World.cell?_alloc_lt w _ _ (by rw [add_block, G.out]; exact h5.1)]
        exact h5.2
      case c1c =>
        intro j u hj
        match j, hj with
        | 0, hj => simp at hj; subst hj; simp [Addr.add]
      case c2c => intro u hu; simp at hu; subst hu; rfl
      case c3c => omega
      case c4c => unfold maxLen; omega
      case c5c => omega
      intro v' w1 hown hgrow
      have RS := own_first (x := UInt8.ofNat y) G.out (by rw [nat_of hyb]) hown hgrow
      have R1 := Lib.hid RS.1
      have R2 := RS.2
      clear RS hown hgrow
      go_wp2_with fail
      refine (groups_is m k _ hm HK).mono ?_
      rintro e w' ⟨rfl, rfl⟩
      go_wp2_with fail
      go_loopw [11, 3, 47] (fun v u i wr => ∃ (j z : Nat) (d : List UInt8), i = .int .i64 j ∧ j + 1 ≤ k ∧ u = .int .u64 z ∧ z ≤ m ∧ d.length = j + 1 ∧ Hid (wr.ownsRow g 5 1 v (N + (j + 1)) (Bytes.byteCells (l ++ d))) ∧ Hid (d ++ gs z = r) ∧ Hid (j + (gs z).length = k) ∧ Below g w wr) (fun _ _ i _ => k - (intOf i).toNat)
      case atStart => exact ⟨0, m, [UInt8.ofNat y], rfl, by omega, rfl, Nat.le_refl _, rfl, R1, HR2, Lib.hid (by rw [Nat.zero_add]; exact HK.out), R2⟩
      case round =>
        obtain ⟨j, z, d, rfl, hj, rfl, hz, hd, hO, hD, hL, hB⟩ := hrel
        by_cases hlt : j + 1 < k
        · have hz2 : 128 ≤ z := by
            have h6 := hL.out
            rcases Nat.lt_or_ge z 128 with h7 | h7
            · rw [gs_lt h7] at h6
              simp at h6
              omega
            · exact h7
          have hon2 := or_128 z
          have hD2 : Hid ((d ++ [UInt8.ofNat (128 + z % 128)]) ++ gs (z / 128) = r) := by
            have h8 := hD.out
            show _ = _
            rw [gs_ge hz2] at h8
            rw [List.append_assoc]
            exact h8
          have hL2 : Hid (j + 1 + (gs (z / 128)).length = k) := by
            have h8 := hL.out
            show _ = _
            rw [gs_ge hz2, List.length_cons] at h8
            omega
          have hyb2 : 128 + z % 128 < 256 := by omega
          generalize hx2 : 128 + z % 128 = x2 at *
          have hlt' : (j : Int) < (k : Int) - 1 := by omega
          clear hD hL hx2
          go_wp2_with (at_builtin; refine wpList_append_own _ rfl _ _ 71 rfl g 5 i0 (.int .u8 0) 1 1 Try.underlying71 HI.out HZ0.out HZ1.out HZ2.out rfl (by decide) _ _ _ rfl (hO.out.alloc _) ⟨wr.heap.size, 0, none⟩ 1 1 [.int .u8 ((x2 : Nat) : Int)] rfl rfl ?d12c ?d22c ?d32c ?d42c ?d52c ?_)
          case d12c =>
            intro j u hj
            match j, hj with
            | 0, hj => simp at hj; subst hj; simp [Addr.add]
          case d22c => first | rfl | (intro u hu; simp at hu; subst hu; rfl)
          case d32c => unfold maxLen; omega
          case d42c => omega
          case d52c => have := hB.size; have := G.out; simp; omega
          intro v' w1 hown hgrow _
          have RS := own_step (x := UInt8.ofNat x2) hO.out hB G.out (by rw [nat_of hyb2]) hown hgrow
          have R1' := Lib.hid RS.1
          have R2' := RS.2
          clear RS hown hgrow hO hB
          go_wp2_with fail
          go_roundw
          case rel => exact ⟨j + 1, z / 128, d ++ [UInt8.ofNat x2], by go_num, by omega, by go_num, by omega, by rw [List.length_append, hd]; rfl, by rw [← List.append_assoc]; exact R1', hD2, hL2, R2'⟩
          case measure => simp [intOf]; omega
        · have hz2 : z < 128 := gs_one (by have h6 := hL.out; omega)
          have hD2 := hD.out
          have hk3 : k = j + 1 := by omega
          rw [gs_lt hz2] at hD2
          have hlt' : ¬ (j : Int) < (k : Int) - 1 := by omega
          have hmz : (z : Int) % 256 = (z : Int) := by omega
          have HD2 := Lib.hid hD2
          clear hD hL hk3 hD2
          go_wp2_with (at_builtin; refine wpList_append_own _ rfl _ _ 71 rfl g 5 i0 (.int .u8 0) 1 1 Try.underlying71 HI.out HZ0.out HZ1.out HZ2.out rfl (by decide) _ _ _ rfl (hO.out.alloc _) ⟨wr.heap.size, 0, none⟩ 1 1 [.int .u8 ((z : Nat) : Int)] rfl rfl ?d13c ?d23c ?d33c ?d43c ?d53c ?_)
          case d23c => first | rfl | (intro u hu; simp at hu; subst hu; rfl)
          case d33c => unfold maxLen; omega
          case d43c => omega
          case d53c => have := hB.size; have := G.out; simp; omega
          intro v' w1 hown hgrow _
          have RS := own_step (x := UInt8.ofNat z) hO.out hB G.out (by rw [nat_of (by omega)]) hown hgrow
          have R1' := RS.1
          have R2' := RS.2
          rw [List.append_assoc, HD2.out] at R1'
          have hrl : r.length = j + 2 := by rw [← HD2.out, List.length_append, hd]; rfl
          rw [show N + (j + 1) + 1 = N + r.length by omega] at R1'
          have R3 := Lib.hid R1'
          clear RS hown hgrow hO hB R1' hrl
          go_wp2_with fail
          go_ret
          exact ⟨v', rfl, R3.out, R2'⟩
    · go_enter Try.func62, Try.ntmps62
      go_wp2_with fail
      refine (full_is b f _ h3 h4 HF).mono ?_
      rintro e w' ⟨rfl, rfl⟩
      go_wp2_with (at_builtin; refine wpList_append_grows _ rfl _ _ 71 rfl 5 i0 (.int .u8 0) 1 1 Try.underlying71 HI.out HZ0.out HZ1.out HZ2.out rfl (by decide) _ N N (Bytes.byteCells l) rfl ?n1d ?n2d ?n3d ⟨w.heap.size, 0, none⟩ 1 1 [.int .u8 (y : Int)] rfl rfl ?c1d ?c2d ?c3d ?c4d ?c5d ?_)
      case n1d => first | contradiction | (intro h; cases h)
      case n2d => rw [byteCells_len, ← HN.out]; omega
      case n3d =>
        intro bb hbb j u hj
        have h5 := R.out.2.2.2 _ hbb j u hj
        rw [World.cell?_alloc_lt w _ _ (by rw [add_block, G.out]; exact h5.1)]
        exact h5.2
      case c1d =>
        intro j u hj
        match j, hj with
        | 0, hj => simp at hj; subst hj; simp [Addr.add]
      case c2d => intro u hu; simp at hu; subst hu; rfl
      case c3d => omega
      case c4d => unfold maxLen; omega
      case c5d => omega
      intro v' w1 hown hgrow
      have RS := own_first (x := UInt8.ofNat y) G.out (by rw [nat_of hyb]) hown hgrow
      have R1 := Lib.hid RS.1
      have R2 := RS.2
      clear RS hown hgrow
      go_wp2_with fail
      refine (groups_is m k _ hm HK).mono ?_
      rintro e w' ⟨rfl, rfl⟩
      go_wp2_with fail
      go_loopw [11, 3, 47] (fun v u i wr => ∃ (j z : Nat) (d : List UInt8), i = .int .i64 j ∧ j + 1 ≤ k ∧ u = .int .u64 z ∧ z ≤ m ∧ d.length = j + 1 ∧ Hid (wr.ownsRow g 5 1 v (N + (j + 1)) (Bytes.byteCells (l ++ d))) ∧ Hid (d ++ gs z = r) ∧ Hid (j + (gs z).length = k) ∧ Below g w wr) (fun _ _ i _ => k - (intOf i).toNat)
      case atStart => exact ⟨0, m, [UInt8.ofNat y], rfl, by omega, rfl, Nat.le_refl _, rfl, R1, HR2, Lib.hid (by rw [Nat.zero_add]; exact HK.out), R2⟩
      case round =>
        obtain ⟨j, z, d, rfl, hj, rfl, hz, hd, hO, hD, hL, hB⟩ := hrel
        by_cases hlt : j + 1 < k
        · have hz2 : 128 ≤ z := by
            have h6 := hL.out
            rcases Nat.lt_or_ge z 128 with h7 | h7
            · rw [gs_lt h7] at h6
              simp at h6
              omega
            · exact h7
          have hon2 := or_128 z
          have hD2 : Hid ((d ++ [UInt8.ofNat (128 + z % 128)]) ++ gs (z / 128) = r) := by
            have h8 := hD.out
            show _ = _
            rw [gs_ge hz2] at h8
            rw [List.append_assoc]
            exact h8
          have hL2 : Hid (j + 1 + (gs (z / 128)).length = k) := by
            have h8 := hL.out
            show _ = _
            rw [gs_ge hz2, List.length_cons] at h8
            omega
          have hyb2 : 128 + z % 128 < 256 := by omega
          generalize hx2 : 128 + z % 128 = x2 at *
          have hlt' : (j : Int) < (k : Int) - 1 := by omega
          clear hD hL hx2
          go_wp2_with (at_builtin; refine wpList_append_own _ rfl _ _ 71 rfl g 5 i0 (.int .u8 0) 1 1 Try.underlying71 HI.out HZ0.out HZ1.out HZ2.out rfl (by decide) _ _ _ rfl (hO.out.alloc _) ⟨wr.heap.size, 0, none⟩ 1 1 [.int .u8 ((x2 : Nat) : Int)] rfl rfl ?d12d ?d22d ?d32d ?d42d ?d52d ?_)
          case d12d =>
            intro j u hj
            match j, hj with
            | 0, hj => simp at hj; subst hj; simp [Addr.add]
          case d22d => first | rfl | (intro u hu; simp at hu; subst hu; rfl)
          case d32d => unfold maxLen; omega
          case d42d => omega
          case d52d => have := hB.size; have := G.out; simp; omega
          intro v' w1 hown hgrow _
          have RS := own_step (x := UInt8.ofNat x2) hO.out hB G.out (by rw [nat_of hyb2]) hown hgrow
          have R1' := Lib.hid RS.1
          have R2' := RS.2
          clear RS hown hgrow hO hB
          go_wp2_with fail
          go_roundw
          case rel => exact ⟨j + 1, z / 128, d ++ [UInt8.ofNat x2], by go_num, by omega, by go_num, by omega, by rw [List.length_append, hd]; rfl, by rw [← List.append_assoc]; exact R1', hD2, hL2, R2'⟩
          case measure => simp [intOf]; omega
        · have hz2 : z < 128 := gs_one (by have h6 := hL.out; omega)
          have hD2 := hD.out
          have hk3 : k = j + 1 := by omega
          rw [gs_lt hz2] at hD2
          have hlt' : ¬ (j : Int) < (k : Int) - 1 := by omega
          have hmz : (z : Int) % 256 = (z : Int) := by omega
          have HD2 := Lib.hid hD2
          clear hD hL hk3 hD2
          go_wp2_with (at_builtin; refine wpList_append_own _ rfl _ _ 71 rfl g 5 i0 (.int .u8 0) 1 1 Try.underlying71 HI.out HZ0.out HZ1.out HZ2.out rfl (by decide) _ _ _ rfl (hO.out.alloc _) ⟨wr.heap.size, 0, none⟩ 1 1 [.int .u8 ((z : Nat) : Int)] rfl rfl ?d13d ?d23d ?d33d ?d43d ?d53d ?_)
          case d23d => first | rfl | (intro u hu; simp at hu; subst hu; rfl)
          case d33d => unfold maxLen; omega
          case d43d => omega
          case d53d => have := hB.size; have := G.out; simp; omega
          intro v' w1 hown hgrow _
          have RS := own_step (x := UInt8.ofNat z) hO.out hB G.out (by rw [nat_of (by omega)]) hown hgrow
          have R1' := RS.1
          have R2' := RS.2
          rw [List.append_assoc, HD2.out] at R1'
          have hrl : r.length = j + 2 := by rw [← HD2.out, List.length_append, hd]; rfl
          rw [show N + (j + 1) + 1 = N + r.length by omega] at R1'
          have R3 := Lib.hid R1'
          clear RS hown hgrow hO hB R1' hrl
          go_wp2_with fail
          go_ret
          exact ⟨v', rfl, R3.out, R2'⟩
end Go.Proofs.Ytamgnbjdeoklbaa

/- The contract of the document's Put: a text with an integer behind it. For texts of at most 10^6 bytes. -/
namespace Go.Proofs.Ytamgnbjdeoklbaa
open Go.RowKit Bytes Pf

set_option maxHeartbeats 1000000 in
set_option maxRecDepth 100000 in
theorem refPut_is (s : ByteArray) (r : List UInt8) (c n : Nat) (b : Int) (w : World) (hs : s.size ≤ 1000000) (hc : c < 256) (hn : n < 18446744073709551616) (h3 : -9223372036854775808 ≤ b) (h4 : b ≤ 9223372036854775807) (h : Hid (putL (fullN b) c n = r)) :
    Calls Try.prog 38 #[.string s, .int .u8 c, .int .i64 b, .int .u64 n] w fun e w' => e = .returned (.string (mk (s.data.toList ++ r))) ∧ Below w.heap.size w w' := by
  have hF := fullN_is b
  obtain ⟨f, hf⟩ : ∃ f, fullN b = f := ⟨_, rfl⟩
  have hh := h.out
  rw [hf] at hh hF
  have HF := Lib.hid hf
  have hfb := isF_bd hF
  have hB := (first_mod hF hc (Nat.le_refl f)).2
  unfold putL at hh
  obtain ⟨q, hq⟩ : ∃ q, c / (f + 1) = q := ⟨_, rfl⟩
  have hq2 : (c : Int) / ((f : Int) + 1) = (q : Int) := by rw [← hq, Int.natCast_ediv, Int.natCast_add]; rfl
  rw [hq] at hh hB
  obtain ⟨o, ho⟩ : ∃ o, q * (f + 1) = o := ⟨_, rfl⟩
  have ho2 : (q : Int) * ((f : Int) + 1) = (o : Int) := by rw [← ho, Int.natCast_mul, Int.natCast_add]; rfl
  rw [ho] at hh hB
  have hqb : q < 256 := by rw [← hq]; exact Nat.lt_of_le_of_lt (Nat.div_le_self _ _) hc
  clear hq ho hf
  have HH := Lib.hid hh; clear hh
  generalize hg : w.heap.size = g at *
  have G := Lib.hid hg; clear hg
  have hwc : IntKind.u64.wrap (c : Int) = (c : Int) := by rw [IntKind.wrap_u64]; omega
  have hwq : IntKind.u64.wrap (q : Int) = (q : Int) := by rw [IntKind.wrap_u64]; omega
  have hwo : IntKind.u64.wrap (o : Int) = (o : Int) := by rw [IntKind.wrap_u64]; omega
  have hrl := putL_few (fullN b) c n hn
  rw [h.out] at hrl
  by_cases hnf : n < f
  · have hr2 := HH.out
    rw [if_pos hnf] at hr2
    have hon : o + n < 256 := by omega
    have hc2 : (convert 71 9 (.slice (some ⟨w.heap.size, 0, none⟩) 1 1)).run Try.prog (w.alloc (.cells #[.int .u8 ((o : Int) + (n : Int))] 5)) = .ok (.string (mk [UInt8.ofNat (o + n)])) (w.alloc (.cells #[.int .u8 ((o : Int) + (n : Int))] 5)) := conv_new w [UInt8.ofNat (o + n)] _ 1 (by show _ = [Value.int .u8 ((UInt8.ofNat (o + n)).toNat : Int)]; rw [nat_of hon]; rfl) rfl
    rw [hr2] at hc2
    have hq0 := mk_size r
    have hcat : mk (s.data.toList ++ r) = s ++ mk r := by rw [← mk_cat, mk_data]
    rw [hcat]
    generalize mk r = t at *
    have ht : t.size ≤ 11 := by omega
    clear HH hr2 hcat hq0
    go_enter Try.func38, Try.ntmps38
    go_wp2_with fail
    refine (refFull_is b f _ h3 h4 HF).mono ?_
    rintro e w' ⟨rfl, rfl⟩
    go_wp2_with fail
    go_ret
    exact ⟨rfl, (Below.refl _ _).alloc (by have := G.out; omega) _⟩
  · have hr2 := HH.out
    rw [if_neg hnf] at hr2
    have hon : o + f < 256 := by omega
    have hc2 : (convert 71 9 (.slice (some ⟨w.heap.size, 0, none⟩) 1 1)).run Try.prog (w.alloc (.cells #[.int .u8 ((o : Int) + (f : Int))] 5)) = .ok (.string (mk [UInt8.ofNat (o + f)])) (w.alloc (.cells #[.int .u8 ((o : Int) + (f : Int))] 5)) := conv_new w [UInt8.ofNat (o + f)] _ 1 (by show _ = [Value.int .u8 ((UInt8.ofNat (o + f)).toNat : Int)]; rw [nat_of hon]; rfl) rfl
    obtain ⟨m, rfl⟩ : ∃ m, n = f + m := ⟨n - f, by omega⟩
    rw [Nat.add_sub_cancel_left] at hr2
    have hm : m < 18446744073709551616 := by omega
    have hsub : (f : Int) + (m : Int) - (f : Int) = (m : Int) := by omega
    have hq0 := mk_size [UInt8.ofNat (o + f)]
    have hD : Hid ((s ++ mk [UInt8.ofNat (o + f)]).data.toList ++ gs m = s.data.toList ++ r) := by
      show _ = _
      rw [cat_list, mk_list, List.append_assoc, List.singleton_append, hr2]
    generalize mk [UInt8.ofNat (o + f)] = t at *
    have ht : t.size ≤ 1 := by rw [hq0]; exact Nat.le_refl _
    obtain ⟨R0, hR0⟩ : ∃ R0, mk (s.data.toList ++ r) = R0 := ⟨_, rfl⟩
    rw [hR0]
    have HR0 := Lib.hid hR0
    clear HH hr2 hq0 hR0
    go_enter Try.func38, Try.ntmps38
    go_wp2_with fail
    refine (refFull_is b f _ h3 h4 HF).mono ?_
    rintro e w' ⟨rfl, rfl⟩
    go_wp2_with fail
    go_loopw [0, 3] (fun v u wr => ∃ (z : Nat) (T : ByteArray), u = .int .u64 z ∧ z ≤ m ∧ v = .string T ∧ Hid (T.data.toList ++ gs z = s.data.toList ++ r) ∧ Below g w wr) (fun _ u _ => (intOf u).toNat)
    case atStart => exact ⟨m, _, rfl, Nat.le_refl _, rfl, hD, (Below.refl _ _).alloc (by have := G.out; omega) _⟩
    case round =>
      obtain ⟨z, T, rfl, hz, rfl, hT, hBw⟩ := hrel
      have hTl := congrArg List.length hT.out
      rw [List.length_append, List.length_append, ← Lib.size_eq, ← Lib.size_eq] at hTl
      have hTs : T.size ≤ 1000011 := by omega
      clear hTl
      have hgr : g ≤ wr.heap.size := by have := hBw.size; have := G.out; omega
      by_cases hz2 : 127 < z
      · have hyb : 128 + z % 128 < 256 := by omega
        have hc3 : (convert 71 9 (.slice (some ⟨wr.heap.size, 0, none⟩) 1 1)).run Try.prog (wr.alloc (.cells #[.int .u8 (128 + (z : Int) % 128)] 5)) = .ok (.string (mk [UInt8.ofNat (128 + z % 128)])) (wr.alloc (.cells #[.int .u8 (128 + (z : Int) % 128)] 5)) := conv_new wr [UInt8.ofNat (128 + z % 128)] _ 1 (by show _ = [Value.int .u8 ((UInt8.ofNat (128 + z % 128)).toNat : Int)]; rw [nat_of hyb]; rfl) rfl
        have hq0 := mk_size [UInt8.ofNat (128 + z % 128)]
        have hT2 : Hid ((T ++ mk [UInt8.ofNat (128 + z % 128)]).data.toList ++ gs (z / 128) = s.data.toList ++ r) := by
          show _ = _
          rw [cat_list, mk_list, List.append_assoc, List.singleton_append, ← gs_ge (by omega), hT.out]
        generalize mk [UInt8.ofNat (128 + z % 128)] = t2 at *
        have ht2 : t2.size ≤ 1 := by rw [hq0]; exact Nat.le_refl _
        clear hq0 hT
        go_wp2_with fail
        go_roundw
        case rel => exact ⟨z / 128, _, by go_num, by omega, rfl, hT2, hBw.alloc hgr _⟩
        case measure => simp [intOf]; omega
      · have hzb : z < 128 := by omega
        have hc3 : (convert 71 9 (.slice (some ⟨wr.heap.size, 0, none⟩) 1 1)).run Try.prog (wr.alloc (.cells #[.int .u8 (z : Int)] 5)) = .ok (.string (mk [UInt8.ofNat z])) (wr.alloc (.cells #[.int .u8 (z : Int)] 5)) := conv_new wr [UInt8.ofNat z] _ 1 (by show _ = [Value.int .u8 ((UInt8.ofNat z).toNat : Int)]; rw [nat_of (by omega)]) rfl
        have hq0 := mk_size [UInt8.ofNat z]
        have hE : R0 = T ++ mk [UInt8.ofNat z] := by
          apply list_inj
          rw [cat_list, mk_list, ← gs_lt hzb, hT.out, ← HR0.out, mk_list]
        have HE := Lib.hid hE
        generalize mk [UInt8.ofNat z] = t2 at *
        have ht2 : t2.size ≤ 1 := by rw [hq0]; exact Nat.le_refl _
        clear hq0 hT hE
        go_wp2_with fail
        go_ret
        exact ⟨by rw [HE.out]; rfl, hBw.alloc hgr _⟩
end Go.Proofs.Ytamgnbjdeoklbaa

/- Put into nil, into a row of one's own; a text of a row's beginning. -/
namespace Go.Proofs.Ytamgnbjdeoklbaa
open Go.RowKit Bytes Pf

theorem own_drewN {w : World} {B n : Nat} {e : TypeId} {v : Value} {xs : List Value} (h : w.ownsRow B e 1 v n xs) (q : Nat) : (w.drewN q).ownsRow B e 1 v n xs := h
theorem below_drewN {B : Nat} {a w : World} (h : Below B a w) (n : Nat) : Below B a (w.drewN n) := ⟨h.os, h.tape, h.output, h.size, h.block⟩
/-- Put into nil. -/
theorem put_nil (r : List UInt8) (k c n : Nat) (b : Int) (w : World) (hk : Hid (r.length = k)) (hc : c < 256) (hn : n < 18446744073709551616) (h3 : -9223372036854775808 ≤ b) (h4 : b ≤ 9223372036854775807) (h : Hid (putL (fullN b) c n = r)) :
    Calls Try.prog 62 #[.slice none 0 0, .int .u8 c, .int .i64 b, .int .u64 n] w fun e w' => ∃ g cap, e = .returned (.slice (some ⟨g, 0, none⟩) k cap) ∧ w'.ownsRow w.heap.size 5 1 (.slice (some ⟨g, 0, none⟩) k cap) k (Bytes.byteCells r) ∧ Below w.heap.size w w' := by
  refine (put_is none 0 [] r c n b w (by decide) (RdC.nil _ _) hc hn h3 h4 h).mono ?_
  rintro e w' ⟨v, rfl, hO, hB⟩
  have hp : 1 ≤ r.length := by rw [← h.out]; exact putL_pos _ _ _
  rw [List.length_nil, Nat.zero_add, List.nil_append, hk.out] at hO
  rw [hk.out] at hp
  rcases hO.2 with ⟨_, h0⟩ | ⟨g, cap, cur, rfl, _⟩
  · omega
  · exact ⟨g, cap, rfl, hO, hB⟩
/-- Put: what it leaves is no nil slice. -/
theorem put_own (a0 : Option Addr) (cap0 N k : Nat) (l r : List UInt8) (c n : Nat) (b : Int) (w : World) (hN : Hid (l.length = N)) (hk : Hid (r.length = k)) (hl : N ≤ 1000000) (hr : RdC w w.heap.size a0 cap0 l) (hc : c < 256) (hn : n < 18446744073709551616) (h3 : -9223372036854775808 ≤ b) (h4 : b ≤ 9223372036854775807) (h : Hid (putL (fullN b) c n = r)) :
    Calls Try.prog 62 #[.slice a0 N cap0, .int .u8 c, .int .i64 b, .int .u64 n] w fun e w' => ∃ g cap, e = .returned (.slice (some ⟨g, 0, none⟩) (N + k) cap) ∧ N + k ≤ cap ∧ cap ≤ maxLen ∧ w.heap.size ≤ g ∧ w'.ownsRow w.heap.size 5 1 (.slice (some ⟨g, 0, none⟩) (N + k) cap) (N + k) (Bytes.byteCells (l ++ r)) ∧ Below w.heap.size w w' := by
  have hp : 1 ≤ r.length := by rw [← h.out]; exact putL_pos _ _ _
  have e1 := hN.out
  have e2 := hk.out
  clear hN hk
  subst e1 e2
  refine (put_is a0 cap0 l r c n b w hl hr hc hn h3 h4 h).mono ?_
  rintro e w' ⟨v, rfl, hO, hB⟩
  rcases hO.2 with ⟨_, h0⟩ | ⟨g, cap, cur, rfl, h5, h6, h7, h8, _⟩
  · omega
  · exact ⟨g, cap, rfl, h7, h8, h5, hO, hB⟩
/-- string(b[:k]) of a row that the call gathered itself. -/
theorem convert_cut {W : World} {base n g K cap c2 : Nat} {l : List UInt8} (h : W.ownsRow base 5 1 (.slice (some ⟨g, 0, none⟩) n cap) n (Bytes.byteCells l)) (hK : K ≤ n) :
    (convert 71 9 (.slice (some ⟨g, 0, none⟩) K c2)).run Try.prog W = .ok (.string (mk (l.take K))) W := by
  have hl : l.length = n := by have := h.1; simpa [Bytes.byteCells] using this
  have hc := h.cells (g := g) rfl
  have hk : (l.take K).length = K := by rw [List.length_take]; omega
  have := run_convert_bytes_back W _ _ 5 ⟨g, 0, none⟩ c2 (l.take K) Try.underlying71 Try.underlying5 Try.underlying9 (fun j hj => hc j _ (by
    rw [hk] at hj
    simp only [Bytes.byteCells, List.getElem?_map]
    rw [List.getElem?_eq_getElem (by omega), List.getElem_take]
    rfl))
  rw [hk] at this
  exact this
end Go.Proofs.Ytamgnbjdeoklbaa

/- A writer's integer. For blocks of at most 2 * 10^9 bytes. -/
namespace Go.Proofs.Ytamgnbjdeoklbaa
open Go Go.RowKit Bytes Pf Tb

namespace Pk
/-- What a writer's call leaves: what it laid stands behind what stood. -/
def WrTo (w : World) (B u g b : Nat) (L : List UInt8) (t : Tab) (e : Ending) (w' : World) : Prop := e = .returned (.tuple #[]) ∧ ∃ v', WrS w' B u g b v' L t ∧ WrK B u g b w w'
theorem WrS.drew {w : World} {B u g b : Nat} {v : Value} {l : List UInt8} {t : Tab} (h : WrS w B u g b v l t) : WrS w.drew B u g b v l t := h.kept (Nat.le_refl _) (fun _ _ => rfl)
end Pk
open Pk

set_option maxHeartbeats 2000000 in
set_option maxRecDepth 100000 in
theorem wint_any (B u g b : Nat) (v : Value) (l r : List UInt8) (t : Tab) (c n : Nat) (k : Int) (w : World) (h : WrS w B u g b v l t) (hc : c < 256) (hn : n ≤ 4294967295) (h1 : 1 ≤ k) (h2 : k ≤ 8) (hr : Hid (putL (fullN k) c n = r)) (hmn : l.length + r.length ≤ 2000000000) :
    Calls Try.prog 46 #[.pointer (some ⟨u, 0, none⟩), .int .u8 (c : Int), .int .i64 k, .int .i64 (n : Int)] w (WrTo w B u g b (l ++ r) t) := by
  have H := Lib.hid h.drew
  have HK0 := Lib.hid (show WrK B u g b w w.drew from WrK.of_below ((Below.refl _ w).drew))
  have hp : 1 ≤ r.length := by rw [← hr.out]; exact putL_pos _ _ _
  have hw : IntKind.u64.wrap (n : Int) = (n : Int) := by rw [IntKind.wrap_u64]; omega
  obtain ⟨m, hm⟩ : ∃ m, r.length = m := ⟨_, rfl⟩
  have HM := Lib.hid hm
  rw [hm] at hmn hp
  have HP := Lib.hid (fun W : World => put_nil r m c n k W HM hc (by omega) (by omega) (by omega) hr)
  clear h hr hm
  go_enter Try.func46, Try.ntmps46
  go_region_with (first | (go_at_call 62; refine (HP.out _).mono ?_; rintro e w1 ⟨gs, cs, rfl, hO, hB⟩; have HO := Lib.hid hO; have HB := Lib.hid hB; clear hO hB) | (go_at_call 61; refine (bwrite_any B u g b v l r t gs m cs w1 (H.out.below HB.out) HM.out (by omega) (HO.out.cells (g := gs) rfl) (by have := (HO.out.lt gs rfl).1; have := H.out.ult; omega) (by omega)).mono ?_; rintro e w2 ⟨rfl, v', hS, hK⟩; have HE := Lib.hid (And.intro hS (HK0.out.trans (b' := b) (WrK.first HB.out hK) (.inl rfl))); clear hS hK))
  all_goals
    go_wp2_with fail
    go_end0
    exact ⟨rfl, v', HE.out⟩
end Go.Proofs.Ytamgnbjdeoklbaa

/- An encoder in memory: its blocks, what stands beside them; its New, Table and Limit; a writer's sizes. No condition. -/
namespace Go.Proofs.Ytamgnbjdeoklbaa
open Go Go.RowKit Bytes Pf Tb Pk Up

namespace Pk
/-- All blocks but three lie as they lay. -/
structure K3 (c g b : Nat) (w w' : World) : Prop where
  os : w'.os = w.os
  tape : w'.tape = w.tape
  output : w'.output = w.output
  size : w.heap.size ≤ w'.heap.size
  block : ∀ k, k < w.heap.size → k ≠ c → k ≠ g → k ≠ b → w'.heap[k]? = w.heap[k]?
/-- The flag that a size was given. -/
def chg (c : Enc) : Bool := !c.2.isEmpty
/-- An encoder in block c: its table in block g, its row in block b. -/
structure EnAt (w : World) (c g b : Nat) (E : Enc) : Prop where
  cells : ∃ y : Nat, w.heap[c]? = some (.cells #[.pointer (some ⟨g, 0, none⟩), .bool (chg E), .int .i64 (y : Int)] 61 (0, 0)) ∧ y ≤ 4096 ∧ (E.2 ≠ [] → ∀ k, E.2.foldl min k = min k y)
  tab : TAt w g b E.1
  ok4 : Ok4 E.1
  cg : c ≠ g
  cb : c ≠ b
section
variable {w w1 w2 : World} {B c u g b b' : Nat} {v : Value} {l : List UInt8} {t : Tab} {E E' : Enc}
theorem K3.refl (c g b : Nat) (w : World) : K3 c g b w w := ⟨rfl, rfl, rfl, Nat.le_refl _, fun _ _ _ _ _ => rfl⟩
theorem K3.trans (h : K3 c g b w w1) (k : K3 c g b' w1 w2) (hb : b' = b ∨ b' = g ∨ w.heap.size ≤ b') : K3 c g b w w2 :=
  ⟨k.os.trans h.os, k.tape.trans h.tape, k.output.trans h.output, Nat.le_trans h.size k.size, fun i hi h0 h1 h2 =>
    (k.block i (Nat.lt_of_lt_of_le hi h.size) h0 h1 (by rcases hb with rfl | rfl | hb; exact h2; exact h1; omega)).trans (h.block i hi h0 h1 h2)⟩
theorem K3.of_below (h : Below w.heap.size w w1) : K3 c g b w w1 := ⟨h.os, h.tape, h.output, h.size, fun i hi _ _ _ => h.block i hi⟩
theorem K3.of_kept2 (h : Kept2 g b w w1) : K3 c g b w w1 := ⟨h.os, h.tape, h.output, h.size, fun i hi _ h1 h2 => h.block i hi h1 h2⟩
theorem K3.set (h : K3 c g b w w1) (i : Nat) (x : Value) : K3 c g b w (w1.setCell ⟨c, i, none⟩ x) :=
  ⟨h.os, h.tape, h.output, by have := h.size; simpa using this, fun k hk h0 h1 h2 => (Below.heap_setCell w1 ⟨c, i, none⟩ x k h0).trans (h.block k hk h0 h1 h2)⟩
theorem K3.writer (h : K3 c g b w w1) (k : WrK w.heap.size u g b' w1 w2) (hu : w.heap.size ≤ u) (hb : b' = b ∨ b' = g ∨ w.heap.size ≤ b') : K3 c g b w w2 :=
  ⟨k.os.trans h.os, k.tape.trans h.tape, k.output.trans h.output, Nat.le_trans h.size k.size, fun i hi h0 h1 h2 => by
    have hi1 := Nat.lt_of_lt_of_le hi h.size
    refine (k.block i _ (Array.getElem?_eq_getElem hi1) (by omega) h1 (by rcases hb with rfl | rfl | hb; exact h2; exact h1; omega) (.inl hi)).trans ?_
    rw [← Array.getElem?_eq_getElem hi1]
    exact h.block i hi h0 h1 h2⟩
theorem K3.below {w0 : World} (h0 : Below B w0 w) (h : K3 c g b w w1) (hc : B ≤ c) (hg : B ≤ g) (hb : B ≤ b) (hB : B ≤ w.heap.size) : Below B w0 w1 :=
  ⟨h.os.trans h0.os, h.tape.trans h0.tape, h.output.trans h0.output, Nat.le_trans h0.size h.size, fun i hi => (h.block i (by omega) (by omega) (by omega) (by omega)).trans (h0.block i hi)⟩
theorem EnAt.lt (h : EnAt w c g b E) : c < w.heap.size ∧ g < w.heap.size ∧ b < w.heap.size := by
  obtain ⟨y, hc, _⟩ := h.cells
  exact ⟨world_lt hc, h.tab.lt⟩
theorem EnAt.kept (h : EnAt w c g b E) (hs : w.heap.size ≤ w1.heap.size) (hk : ∀ k, k < w.heap.size → k = c ∨ k = g ∨ k = b → w1.heap[k]? = w.heap[k]?) : EnAt w1 c g b E := by
  obtain ⟨y, hc, hy⟩ := h.cells
  have hl := h.lt
  exact ⟨⟨y, (hk c hl.1 (.inl rfl)).trans hc, hy⟩, h.tab.kept hs (hk g hl.2.1 (.inr (.inl rfl))) (fun hb => hk b hb (.inr (.inr rfl))), h.ok4, h.cg, h.cb⟩
theorem EnAt.below (h : EnAt w c g b E) (hB : Below w.heap.size w w1) : EnAt w1 c g b E := h.kept hB.size (fun k hk _ => hB.block k hk)
end
theorem fold_lim {S : List Nat} {y m : Nat} (h : S ≠ [] → ∀ k, S.foldl min k = min k y) (k : Nat) : (S ++ [m]).foldl min k = min k (if S = [] then m else min y m) := by
  rw [List.foldl_append, List.foldl_cons, List.foldl_nil]
  by_cases hS : S = []
  · subst hS
    rw [if_pos rfl]
    rfl
  · rw [if_neg hS, h hS k]
    omega
theorem heads_is {E : Enc} {y : Nat} (h : E.2 ≠ [] → ∀ k, E.2.foldl min k = min k y) : heads E = if E.2 = [] then [] else (if y < E.1.1 then putL 31 32 y else []) ++ putL 31 32 E.1.1 := by
  unfold heads leastS
  by_cases hS : E.2 = []
  · rw [hS, if_pos rfl, if_pos rfl]
    simp
  · rw [if_neg hS, if_neg hS, h hS]
    by_cases hy : y < E.1.1
    · rw [if_pos hy, if_pos (by omega), Nat.min_eq_right (Nat.le_of_lt hy)]
    · rw [if_neg hy, if_neg (by omega)]
end Pk

set_option maxHeartbeats 2000000 in
set_option maxRecDepth 100000 in
/-- A writer's sizes. -/
theorem wsizes_any (B u g b : Nat) (v : Value) (l r : List UInt8) (t : Tab) (y M : Nat) (w : World) (h : WrS w B u g b v l t) (hM : t.1 = M) (hy : y ≤ 4096) (hr : Hid ((if y < M then putL 31 32 y else []) ++ putL 31 32 M = r)) (hmn : l.length + r.length ≤ 2000000000) :
    Calls Try.prog 29 #[.pointer (some ⟨u, 0, none⟩), .int .i64 (y : Int)] w (WrTo w B u g b (l ++ r) t) := by
  have hM4 : M ≤ 4096 := by rw [← hM]; exact h.ok4.1
  have HM := Lib.hid (show (t.1 : Int) = (M : Int) by rw [hM])
  obtain ⟨p, _, hc⟩ := h.cells
  have c2 : w.cell? ⟨u, 2, none⟩ = some (.pointer (some ⟨g, 0, none⟩)) := cell_of_row w u 2 _ _ _ hc
  have H := Lib.hid h
  obtain ⟨m, hm⟩ : ∃ m, putL 31 32 M = m := ⟨_, rfl⟩
  have HPM := Lib.hid (show putL (fullN 5) 32 M = m from hm)
  have hrr := hr.out
  rw [hm] at hrr
  clear h hc hr hM hm
  by_cases hlt : y < M
  · obtain ⟨s, hs⟩ : ∃ s, putL 31 32 y = s := ⟨_, rfl⟩
    have HPS := Lib.hid (show putL (fullN 5) 32 y = s from hs)
    rw [if_pos hlt, hs] at hrr
    subst hrr
    rw [List.length_append] at hmn
    have hli : (y : Int) < (M : Int) := by omega
    clear hs
    go_enter Try.func29, Try.ntmps29
    go_wp2_with fail
    refine (most_t g b t (M : Int) w (Lib.hid H.out.tab) HM).mono ?_
    rintro e w1 ⟨rfl, rfl⟩
    go_wp2_with fail
    refine (wint_any B u g b v l s t 32 y 5 w1 H.out (by decide) (by omega) (by omega) (by omega) HPS (by omega)).mono ?_
    rintro e w2 ⟨rfl, v2, hS2, hK2⟩
    have H2 := Lib.hid hS2
    have K2 := Lib.hid hK2
    clear hS2 hK2
    go_wp2_with fail
    refine (wint_any B u g b v2 (l ++ s) m t 32 M 5 w2 H2.out (by decide) (by omega) (by omega) (by omega) HPM (by rw [List.length_append]; omega)).mono ?_
    rintro e w3 ⟨rfl, v3, hS3, hK3⟩
    have HE := Lib.hid (show ∃ v', WrS w3 B u g b v' (l ++ (s ++ m)) t ∧ WrK B u g b w1 w3 from ⟨v3, by rw [← List.append_assoc]; exact hS3, K2.out.trans hK3 (.inl rfl)⟩)
    clear hS3 hK3
    go_wp2_with fail
    go_end0
    exact ⟨rfl, HE.out⟩
  · rw [if_neg hlt, List.nil_append] at hrr
    subst hrr
    have hli : ¬ ((y : Int) < (M : Int)) := by omega
    have hld : decide ((y : Int) < (M : Int)) = false := decide_eq_false hli
    go_enter Try.func29, Try.ntmps29
    go_wp2_with fail
    refine (most_t g b t (M : Int) w (Lib.hid H.out.tab) HM).mono ?_
    rintro e w1 ⟨rfl, rfl⟩
    go_wp2_with fail
    refine (wint_any B u g b v l m t 32 M 5 w1 H.out (by decide) (by omega) (by omega) (by omega) HPM hmn).mono ?_
    intro e w2 hE
    obtain ⟨rfl, HE⟩ := hE
    go_wp2_with fail
    go_end0
    exact ⟨rfl, HE⟩

set_option maxRecDepth 100000 in
theorem penew_is (w : World) :
    Calls Try.prog 8 #[] w fun e w' => ∃ c g b, e = .returned (.pointer (some ⟨c, 0, none⟩)) ∧ EnAt w' c g b (newT 4096, []) ∧ Below w.heap.size w w' ∧ w.heap.size ≤ c ∧ w.heap.size ≤ g ∧ w.heap.size ≤ b := by
  have HN := Lib.hid (new_is 4096 w (by omega) (by omega))
  go_enter Try.func8, Try.ntmps8
  go_wp2_with fail
  refine HN.out.mono ?_
  rintro e w1 ⟨rfl, hT, hB⟩
  have hB1 := (Below.refl _ w1).alloc (Nat.le_refl _) (.cells #[.pointer (some ⟨w.heap.size, 0, none⟩), .bool false, .int .i64 0] 61)
  have hD := heap_alloc_new w1 (.cells #[.pointer (some ⟨w.heap.size, 0, none⟩), .bool false, .int .i64 0] 61)
  have hlt := hT.lt.1
  have HD := Lib.hid (show EnAt (w1.alloc (.cells #[.pointer (some ⟨w.heap.size, 0, none⟩), .bool false, .int .i64 0] 61)) w1.heap.size w.heap.size w.heap.size (newT 4096, []) from ⟨⟨0, hD, by omega, fun h => absurd rfl h⟩, hT.below hB1, ok4_new, by omega, by omega⟩)
  have HB := Lib.hid (hB.trans (hB1.mono hB.size))
  have hs := hB.size
  clear hT hB hB1 hD
  go_wp2_with fail
  go_ret
  exact ⟨w1.heap.size, w.heap.size, w.heap.size, rfl, HD.out, HB.out, hs, Nat.le_refl _, Nat.le_refl _⟩
theorem petable_any (c g b : Nat) (E : Enc) (w : World) (h : EnAt w c g b E) :
    Calls Try.prog 13 #[.pointer (some ⟨c, 0, none⟩)] w fun e w' => ∃ g2, e = .returned (.pointer (some ⟨g2, 0, none⟩)) ∧ w.heap.size ≤ g2 ∧ Below w.heap.size w w' ∧ ∃ b2, TAt w' g2 b2 E.1 ∧ w.heap.size ≤ b2 := by
  have HC := Lib.hid (copy_is g b E.1 w (Lib.hid h.tab) (Lib.hid (Ok4.fit h.ok4)))
  obtain ⟨y, hc, _⟩ := h.cells
  have c0 : w.cell? ⟨c, 0, none⟩ = some (.pointer (some ⟨g, 0, none⟩)) := cell_of_row _ c 0 _ _ _ hc
  clear h hc
  go_enter Try.func13, Try.ntmps13
  go_wp2_with fail
  refine HC.out.mono ?_
  rintro e w1 ⟨g2, rfl, h1, h2, b2, h3, h4⟩
  go_wp2_with fail
  go_ret
  exact ⟨g2, rfl, h1, h2, b2, h3, h4⟩
end Go.Proofs.Ytamgnbjdeoklbaa

/- An encoder's Limit. No condition. -/
namespace Go.Proofs.Ytamgnbjdeoklbaa
open Go Go.RowKit Bytes Pf Tb Pk Up

namespace Pk
theorem lim_same {E : Enc} {n : Nat} (h : min n 4096 = E.1.1) : lim E n = E := if_pos h
theorem EnAt.limited {w W w5 : World} {c g b b' n m y' : Nat} {E : Enc} (h : EnAt w c g b E) (hc : W.heap[c]? = some (.cells #[.pointer (some ⟨g, 0, none⟩), .bool true, .int .i64 (y' : Int)] 61 (0, 0))) (hO : Only c w W) (hT : TAt w5 g b' (resT E.1 (m : Nat))) (hK : Kept2 g b W w5) (hb : b' = b ∨ b' = g) (hm : min n 4096 = m) (hne : m ≠ E.1.1) (hy : ∃ y : Nat, y ≤ 4096 ∧ (E.2 ≠ [] → ∀ k, E.2.foldl min k = min k y) ∧ y' = if E.2 = [] then m else min y m) :
    EnAt w5 c g b' (lim E n) ∧ K3 c g b w w5 := by
  obtain ⟨y, hy4, hf, rfl⟩ := hy
  have hl : lim E n = (resT E.1 (m : Nat), E.2 ++ [m]) := by unfold lim; rw [hm, if_neg hne]
  have hm4 : m ≤ 4096 := by omega
  refine ⟨?_, ⟨hK.os.trans hO.os, hK.tape.trans hO.tape, hK.output.trans hO.output, by have := hK.size; have := hO.size; omega, fun k hk h0 h1 h2 => (hK.block k (by rw [hO.size]; exact hk) h1 h2).trans (hO.block k h0)⟩⟩
  rw [hl]
  refine ⟨⟨_, ?_, ?_, fun _ k => fold_lim hf k⟩, hT, Ok4.res hm4, h.cg, ?_⟩
  · have hcc := (hK.block c (world_lt hc) h.cg h.cb).trans hc
    rw [hcc]
    unfold chg
    simp
  · split <;> omega
  · rcases hb with e | e
    · rw [e]; exact h.cb
    · rw [e]; exact h.cg
end Pk
set_option maxHeartbeats 4000000 in
set_option maxRecDepth 100000 in
theorem limit_any (c g b n : Nat) (E : Pk.Enc) (w : World) (h : EnAt w c g b E) (hn : n ≤ 4294967295) :
    Calls Try.prog 10 #[.pointer (some ⟨c, 0, none⟩), .int .u32 (n : Int)] w fun e w' => e = .returned (.tuple #[]) ∧ ∃ b', EnAt w' c g b' (lim E n) ∧ K3 c g b w w' ∧ (b' = b ∨ b' = g) := by
  obtain ⟨m, hm⟩ : ∃ m, min n 4096 = m := ⟨_, rfl⟩
  have hmi : min (n : Int) 4096 = (m : Int) := by omega
  have hm4 : m ≤ 4096 := by omega
  obtain ⟨M, hM⟩ : ∃ M, E.1.1 = M := ⟨_, rfl⟩
  have hM4 : M ≤ 4096 := by rw [← hM]; exact h.ok4.1
  have HM := Lib.hid (show (E.1.1 : Int) = (M : Int) by rw [hM])
  obtain ⟨y, hc, hy4, hfold⟩ := h.cells
  have c0 : w.cell? ⟨c, 0, none⟩ = some (.pointer (some ⟨g, 0, none⟩)) := cell_of_row _ c 0 _ _ _ hc
  have c1 : w.cell? ⟨c, 1, none⟩ = some (.bool (chg E)) := cell_of_row _ c 1 _ _ _ hc
  have c2 : w.cell? ⟨c, 2, none⟩ = some (.int .i64 (y : Int)) := cell_of_row _ c 2 _ _ _ hc
  have f1 : w.frozen? ⟨c, 1, none⟩ = false := by simp [World.frozen?, hc]
  have f2 : w.frozen? ⟨c, 2, none⟩ = false := by simp [World.frozen?, hc]
  have H := Lib.hid h
  have HC := Lib.hid hc
  have HFOLD := Lib.hid hfold
  have HMM := Lib.hid hm
  have HMT := Lib.hid hM
  obtain ⟨q, hq⟩ : ∃ q, chg E = q := ⟨_, rfl⟩
  have HQ := Lib.hid hq
  rw [hq] at c1
  clear h hc hfold hm hM hq
  by_cases hs : m = M
  · have hsi : ((m : Int) == (M : Int)) = true := beq_iff_eq.2 (by omega)
    have hsd : decide ((m : Int) = (M : Int)) = true := decide_eq_true (by omega)
    go_enter Try.func10, Try.ntmps10
    go_wp2_with fail
    refine (most_t g b E.1 (M : Int) w (Lib.hid H.out.tab) HM).mono ?_
    rintro e w1 ⟨rfl, rfl⟩
    go_wp2_with fail
    refine bodyPost_ret (results_none (by rfl) _ _ _) (by rfl) ?_
    exact ⟨rfl, b, by rw [lim_same (by rw [HMM.out, HMT.out]; exact hs)]; exact H.out, K3.refl _ _ _ _, .inl rfl⟩
  · have hsi : ((m : Int) == (M : Int)) = false := beq_eq_false_iff_ne.2 (by omega)
    have hsd : decide ((m : Int) = (M : Int)) = false := decide_eq_false (by omega)
    have END : Hid (∀ (W : World) (y' : Nat), W.heap[c]? = some (.cells #[.pointer (some ⟨g, 0, none⟩), .bool true, .int .i64 (y' : Int)] 61 (0, 0)) → Only c w W → (y' = if E.2 = [] then m else min y m) →
      Calls Try.prog 26 #[.pointer (some ⟨g, 0, none⟩), .int .i64 (m : Int)] W fun e w5 => e = .returned (.tuple #[]) ∧ ∃ b', EnAt w5 c g b' (lim E n) ∧ K3 c g b w w5 ∧ (b' = b ∨ b' = g)) := Lib.hid fun W y' hcW hOW hyW =>
      (resize_is g b E.1 (m : Int) W (Lib.hid (H.out.tab.kept (Nat.le_of_eq hOW.size.symm) (hOW.block g (fun e => H.out.cg e.symm)) (fun _ => hOW.block b (fun e => H.out.cb e.symm)))) (Lib.hid (Ok4.fit H.out.ok4)) (by omega) (by omega)).mono
        fun e w5 ⟨he, b', hT, hK, hb⟩ =>
          have this := H.out.limited hcW hOW hT hK hb HMM.out (by rw [HMT.out]; exact hs) ⟨y, hy4, HFOLD.out, hyW⟩
          ⟨he, b', this.1, this.2, hb⟩
    cases q with
    | false =>
      have hE2 : E.2 = [] := by
        have := HQ.out
        unfold chg at this
        simpa using this
      have E1 := Lib.hid (END.out ((w.setCell ⟨c, 2, none⟩ (.int .i64 (m : Int))).setCell ⟨c, 1, none⟩ (.bool true)) m (by simp [World.setCell, Array.getElem?_modify, HC.out]) ⟨rfl, rfl, rfl, by simp, fun k hk => (Below.heap_setCell _ ⟨c, 1, none⟩ _ k hk).trans (Below.heap_setCell w ⟨c, 2, none⟩ _ k hk)⟩ (by rw [if_pos hE2]))
      clear END
      go_enter Try.func10, Try.ntmps10
      go_wp2_with fail
      refine (most_t g b E.1 (M : Int) w (Lib.hid H.out.tab) HM).mono ?_
      rintro e w1 ⟨rfl, rfl⟩
      go_wp2_with fail
      refine E1.out.mono ?_
      intro e w5 hE
      obtain ⟨rfl, hE⟩ := hE
      go_wp2_with fail
      go_end0
      exact ⟨rfl, hE⟩
    | true =>
      have hE2 : E.2 ≠ [] := by
        have := HQ.out
        unfold chg at this
        intro e
        rw [e] at this
        exact absurd this (by decide)
      by_cases hlt : m < y
      · have hli : (m : Int) < (y : Int) := by omega
        have E1 := Lib.hid (END.out ((w.setCell ⟨c, 2, none⟩ (.int .i64 (m : Int))).setCell ⟨c, 1, none⟩ (.bool true)) m (by simp [World.setCell, Array.getElem?_modify, HC.out]) ⟨rfl, rfl, rfl, by simp, fun k hk => (Below.heap_setCell _ ⟨c, 1, none⟩ _ k hk).trans (Below.heap_setCell w ⟨c, 2, none⟩ _ k hk)⟩ (by rw [if_neg hE2]; omega))
        clear END
        go_enter Try.func10, Try.ntmps10
        go_wp2_with fail
        refine (most_t g b E.1 (M : Int) w (Lib.hid H.out.tab) HM).mono ?_
        rintro e w1 ⟨rfl, rfl⟩
        go_wp2_with fail
        refine E1.out.mono ?_
        intro e w5 hE
        obtain ⟨rfl, hE⟩ := hE
        go_wp2_with fail
        go_end0
        exact ⟨rfl, hE⟩
      · have hli : ¬ ((m : Int) < (y : Int)) := by omega
        have hld : decide ((m : Int) < (y : Int)) = false := decide_eq_false hli
        have E1 := Lib.hid (END.out (w.setCell ⟨c, 1, none⟩ (.bool true)) y (by simp [World.setCell, Array.getElem?_modify, HC.out]) ⟨rfl, rfl, rfl, by simp, fun k hk => Below.heap_setCell w ⟨c, 1, none⟩ _ k hk⟩ (by rw [if_neg hE2]; omega))
        clear END
        go_enter Try.func10, Try.ntmps10
        go_wp2_with fail
        refine (most_t g b E.1 (M : Int) w (Lib.hid H.out.tab) HM).mono ?_
        rintro e w1 ⟨rfl, rfl⟩
        go_wp2_with fail
        refine E1.out.mono ?_
        intro e w5 hE
        obtain ⟨rfl, hE⟩ := hE
        go_wp2_with fail
        go_end0
        exact ⟨rfl, hE⟩
end Go.Proofs.Ytamgnbjdeoklbaa
