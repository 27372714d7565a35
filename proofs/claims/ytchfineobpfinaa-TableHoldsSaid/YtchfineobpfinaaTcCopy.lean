/- The contract of a table's Copy. For at most 1000 entries of at most 10^6 bytes a text, 10^9 together. -/
import Derived.Test.YtchfineobpfinaaProg
import Derived.Test.YtchfineobpfinaaTbMath
import Derived.Test.YtchfineobpfinaaTbMem
import Derived.Test.YtchfineobpfinaaTbLeast
import Derived.Test.YtchfineobpfinaaTbRef
import Derived.Test.YtchfineobpfinaaTcMem
import Derived.Test.YtchfineobpfinaaTcLow
import Derived.Test.YtchfineobpfinaaTcShrink
import Derived.Test.YtchfineobpfinaaTcAdd
import Derived.WalkKit
import Derived.Lib.Hide
import Derived.Outline
import Derived.IntWalk
import Derived.WalkSpells
import Derived.WalkLawsBesides
import Derived.Deep.QuietTactic
import Derived.BigQuiet
import Derived.Laws.Rows
import Derived.Laws.MakeOwn
import Derived.Deep.RegionLaw
import Derived.Deep.CutBlock
import Derived.Deep.DeepCutAuto
import Derived.Deep.CutRange
namespace Go.Proofs.Ytchfineobpfinaa
open Go.RowKit Tb

namespace Tb
theorem entAt_set {L : List Ent} {k i : Nat} {e : Ent} (hk : k < L.length) : entAt (L.set k e) i = if i = k then e else entAt L i := by
  unfold entAt
  rw [List.getD_eq_getElem?_getD, List.getD_eq_getElem?_getD, List.getElem?_set]
  by_cases h : i = k
  · subst h; rw [if_pos rfl, if_pos rfl, if_pos hk]; rfl
  · rw [if_neg h, if_neg (fun e => h e.symm)]
theorem entCs_get {L : List Ent} {j : Nat} {u : Value} (h : (entCs L)[j]? = some u) : (j % 2 = 0 ∧ u = .string (entAt L (j / 2)).1) ∨ (j % 2 = 1 ∧ u = .string (entAt L (j / 2)).2) := by
  have hj := entCs_lt h
  have hat := entCs_at (L := L) (k := j / 2) (by omega)
  rcases Nat.mod_two_eq_zero_or_one j with hm | hm
  · rw [show j / 2 * 2 = j by omega, h] at hat
    injection hat.1 with e
    exact .inl ⟨hm, e⟩
  · rw [show j / 2 * 2 + 1 = j by omega, h] at hat
    injection hat.2 with e
    exact .inr ⟨hm, e⟩
/-- An entry is laid over one that stood there. -/
theorem Row.set {w : World} {b off n c : Nat} {ao : Option Addr} {L : List Ent} (h : Row w b ao off n c L) {k : Nat} (hk : k < n) (x y : ByteArray) : Row ((w.setCell ⟨b, off + k * 2, none⟩ (.string x)).setCell ⟨b, off + k * 2 + 1, none⟩ (.string y)) b ao off n c (L.set k (x, y)) := by
  obtain ⟨ha, hlt, c1, c2, f1, f2⟩ := h.get hk
  have hkl : k < L.length := by rw [h.len]; exact hk
  refine ⟨by rw [List.length_set]; exact h.len, h.le, h.max, h.addr, fun hc => by simpa using h.lt hc, fun j u hj => ?_, fun j hj => ⟨?_, by rw [World.frozen?_setCell, World.frozen?_setCell]; exact (h.there j hj).2⟩⟩
  · by_cases hj2 : j = k * 2 + 1
    · subst hj2
      rcases entCs_get hj with ⟨hm, _⟩ | ⟨_, rfl⟩
      · omega
      · rw [show (k * 2 + 1) / 2 = k by omega, entAt_set hkl, if_pos rfl, ← Nat.add_assoc]
        exact World.cell?_setCell_same (u := .string (entAt L k).2) _ _ _ (by rw [World.cell?_setCell_other _ _ _ _ (by simp)]; exact c2)
    · rw [World.cell?_setCell_other _ _ _ _ (by simp <;> omega)]
      by_cases hj1 : j = k * 2
      · subst hj1
        rcases entCs_get hj with ⟨_, rfl⟩ | ⟨hm, _⟩
        · rw [show k * 2 / 2 = k by omega, entAt_set hkl, if_pos rfl]
          exact World.cell?_setCell_same (u := .string (entAt L k).1) _ _ _ c1
        · omega
      · rw [World.cell?_setCell_other _ _ _ _ (by simp <;> omega)]
        refine h.holds j u ?_
        have hjl := entCs_lt hj
        rw [List.length_set] at hjl
        have hat := entCs_at (L := L) (k := j / 2) (by omega)
        rcases entCs_get hj with ⟨hm, rfl⟩ | ⟨hm, rfl⟩
        · rw [entAt_set hkl, if_neg (by omega)]
          rw [show j / 2 * 2 = j by omega] at hat
          exact hat.1
        · rw [entAt_set hkl, if_neg (by omega)]
          rw [show j / 2 * 2 + 1 = j by omega] at hat
          exact hat.2
  · obtain ⟨v, hv⟩ := Option.isSome_iff_exists.1 (h.there j hj).1
    by_cases hj2 : j = k * 2 + 1
    · subst hj2
      rw [← Nat.add_assoc, World.cell?_setCell_same (u := .string (entAt L k).2) _ _ _ (by rw [World.cell?_setCell_other _ _ _ _ (by simp)]; exact c2)]
      rfl
    · rw [World.cell?_setCell_other _ _ _ _ (by simp <;> omega)]
      by_cases hj1 : j = k * 2
      · subst hj1
        rw [World.cell?_setCell_same (u := .string (entAt L k).1) _ _ _ c1]
        rfl
      · rw [World.cell?_setCell_other _ _ _ _ (by simp <;> omega), hv]
        rfl
/-- A row that is filled up to a place. -/
def fillP (L : List Ent) (n k : Nat) : List Ent := L.take k ++ List.replicate (n - k) (⟨#[]⟩, ⟨#[]⟩)
theorem fillP_len {L : List Ent} {n k : Nat} (hL : L.length = n) (hk : k ≤ n) : (fillP L n k).length = n := by
  unfold fillP
  rw [List.length_append, List.length_take, List.length_replicate]
  omega
theorem fillP_step {L : List Ent} {n k : Nat} (hL : L.length = n) (hk : k < n) : (fillP L n k).set k (entAt L k) = fillP L n (k + 1) := by
  unfold fillP
  rw [entAt_take (by omega), List.set_append_right _ _ (by rw [List.length_take]; omega), List.length_take, show k - min k L.length = 0 by omega, show n - k = (n - (k + 1)) + 1 by omega, List.replicate_succ, List.set_cons_zero, List.append_assoc]
  rfl
end Tb
/-- An entry's copy, asked beside a table's block and a row. -/
theorem apart_at (g R o : Nat) (u0 u1 u2 v0 v1 : Value) (t : TypeId) (x y : ByteArray) (w : World) (hx : x.size ≤ 1000000) (hy : y.size ≤ 1000000) (h : w.heap[g]? = some (.cells #[u0, u1, u2] t (0, 0))) (hR : R < w.heap.size) (c0 : w.cell? ⟨R, o, none⟩ = some v0) (c1 : w.cell? ⟨R, o + 1, none⟩ = some v1) (f0 : w.frozen? ⟨R, o, none⟩ = false) (f1 : w.frozen? ⟨R, o + 1, none⟩ = false) :
    Calls Try.prog 30 #[.agg #[.string x, .string y]] w fun e w' => e = .returned (.agg #[.string x, .string y]) ∧ w'.cell? ⟨g, 2, none⟩ = some u2 ∧ w'.cell? ⟨R, o, none⟩ = some v0 ∧ w'.cell? ⟨R, o + 1, none⟩ = some v1 ∧ w'.frozen? ⟨R, o, none⟩ = false ∧ w'.frozen? ⟨R, o + 1, none⟩ = false ∧ Below w.heap.size w w' :=
  (apart_is x y w hx hy).mono fun e w' ⟨he, hB⟩ => by
    have h2 := (hB.block g (world_lt h)).trans h
    obtain ⟨_, _, a3, _, _, _⟩ := three_cells h2
    exact ⟨he, a3, (hB.cell (p := ⟨R, o, none⟩) hR).trans c0, (hB.cell (p := ⟨R, o + 1, none⟩) hR).trans c1, (hB.frozen (p := ⟨R, o, none⟩) hR).trans f0, (hB.frozen (p := ⟨R, o + 1, none⟩) hR).trans f1, hB⟩
/-- An empty row, as make lays it. -/
def MadeO (n : Nat) : Obj := .cells (madeCells #[.string ⟨#[]⟩, .string ⟨#[]⟩] (n * 2)) 61
theorem make_row (n : Nat) (hn : n ≤ 1000) (w : World) : (Instr.makeSlice 54 (.int .i64 (n : Int)) (.int .i64 (n : Int))).run Try.prog w = .ok (.slice (some ⟨w.heap.size, 0, none⟩) n n) (w.alloc (MadeO n)) := by
  obtain ⟨i0, hi, hz0, hz1, hz2⟩ := info_parts infoP
  have := run_make (P := Try.prog) w 54 61 i0 _ Try.underlying54 hi hz0 .i64 .i64 n n (by omega) (Int.le_refl _) (by rw [hz2]; omega) (by omega)
  rw [hz1, Int.toNat_natCast] at this
  exact this

set_option maxHeartbeats 4000000 in
set_option maxRecDepth 100000 in
theorem copy_is (g b : Nat) (t : Tab) (w : World) (h : Hid (TAt w g b t)) (hf : Hid (Fit t)) :
    Calls Try.prog 24 #[.pointer (some ⟨g, 0, none⟩)] w fun e w' => ∃ g2, e = .returned (.pointer (some ⟨g2, 0, none⟩)) ∧ w.heap.size ≤ g2 ∧ Below w.heap.size w w' ∧ ∃ b2, TAt w' g2 b2 t ∧ w.heap.size ≤ b2 := by
  obtain ⟨⟨ao, off, c, hT0⟩, hok, hmx⟩ := h.out
  obtain ⟨n, hn⟩ : ∃ n, t.2.length = n := ⟨_, rfl⟩
  have hnb : n ≤ 1000 := by rw [← hn]; exact hf.out.1
  have hrl : t.2.reverse.length = n := by rw [List.length_reverse]; exact hn
  unfold TRaw at hT0
  rw [hrl] at hT0
  obtain ⟨M, hM⟩ : ∃ M : Int, (t.1 : Int) = M := ⟨_, rfl⟩
  obtain ⟨S, hS⟩ : ∃ S : Int, (sumL t.2.reverse : Int) = S := ⟨_, rfl⟩
  rw [hM, hS] at hT0
  have HG := Lib.hid hT0.1
  have HR := Lib.hid hT0.2.1
  have hmk := make_row n hnb
  clear hT0
  obtain ⟨a1, a2, a3, _, _, _⟩ := three_cells HG.out
  obtain ⟨q1, q2, q3, _, _, _⟩ := three_cells (w := w.drew) HG.out
  have HGA := (heap_alloc_old w (MadeO n) (world_lt HG.out)).trans HG.out
  obtain ⟨r1, r2, r3, _, _, _⟩ := three_cells HGA
  clear HGA
  go_enter Try.func24, Try.ntmps24
  go_upto_region 1 with fail
  go_cut [3] from 6 to 21 (fun v wx => v = .pointer (some ⟨w.heap.size + 1, 0, none⟩) ∧ wx = ((w.alloc (MadeO n)).alloc (.cells #[.int .i64 M, .int .i64 S, .slice (some ⟨w.heap.size, 0, none⟩) n n] 56)).drew)
  case first =>
    go_region_law (fail)
    all_goals (go_wp2_with fail; go_meet; exact ⟨rfl, rfl⟩)
  case rest =>
    obtain ⟨rfl, rfl⟩ := hcut
    clear hmk a1 a2 a3 q1 q2 q3 r1 r2 r3
    obtain ⟨R, hRR⟩ : ∃ R, w.heap.size = R := ⟨_, rfl⟩
    have HS0 := Lib.hid (show (w.alloc (MadeO n)).heap.size = R + 1 by rw [World.size_alloc, hRR])
    have HG2 := Lib.hid (show (((w.alloc (MadeO n)).alloc (.cells #[.int .i64 M, .int .i64 S, .slice (some ⟨w.heap.size, 0, none⟩) n n] 56)).drew).heap[R + 1]? = some (.cells #[.int .i64 M, .int .i64 S, .slice (some ⟨R, 0, none⟩) n n] 56 (0, 0)) from by
      have := heap_alloc_new (w.alloc (MadeO n)) (.cells #[.int .i64 M, .int .i64 S, .slice (some ⟨w.heap.size, 0, none⟩) n n] 56)
      rw [HS0.out, hRR] at this
      rw [hRR]
      exact this)
    have hRow0 : Row (w.alloc (MadeO n)) R (some ⟨R, 0, none⟩) 0 n n (fillP t.2.reverse n 0) := by
      have hc : ∀ j, (w.alloc (MadeO n)).cell? ⟨R, j, none⟩ = (madeCells #[.string ⟨#[]⟩, .string ⟨#[]⟩] (n * 2))[j]? := fun j => by rw [← hRR]; exact World.cell?_alloc_new w _ _ j
      have hz : ∀ j, j < n * 2 → (madeCells #[Value.string ⟨#[]⟩, .string ⟨#[]⟩] (n * 2))[j]? = some (.string ⟨#[]⟩) := fun j hj => by
        rcases Nat.mod_two_eq_zero_or_one j with hm | hm <;> simp [madeCells, hj, hm]
      refine ⟨fillP_len hrl (Nat.zero_le _), Nat.le_refl _, by unfold maxLen; omega, fun _ => rfl, fun _ => by rw [HS0.out]; omega, fun j u hj => ?_, fun j hj => ⟨?_, ?_⟩⟩
      · have hjl := entCs_lt hj
        rw [fillP_len hrl (Nat.zero_le _)] at hjl
        rw [Nat.zero_add, hc, hz j hjl]
        have hu : ∀ i, entAt (fillP t.2.reverse n 0) i = (⟨#[]⟩, ⟨#[]⟩) := fun i => by
          unfold entAt fillP
          rw [List.take_zero, List.nil_append, Nat.sub_zero, List.getD_eq_getElem?_getD, List.getElem?_replicate]
          split <;> rfl
        rcases entCs_get hj with ⟨_, rfl⟩ | ⟨_, rfl⟩ <;> rw [hu]
      · rw [Nat.zero_add, hc, hz j hj]
        rfl
      · rw [Nat.zero_add, ← hRR]
        exact World.frozen?_alloc_new w _ _ j
    have HB0 := Lib.hid ((((Below.refl w.heap.size w).alloc (Nat.le_refl _) (MadeO n)).alloc (by simp) (.cells #[.int .i64 M, .int .i64 S, .slice (some ⟨w.heap.size, 0, none⟩) n n] 56)).drew)
    have HRow := Lib.hid (hRow0.kept (w' := ((w.alloc (MadeO n)).alloc (.cells #[.int .i64 M, .int .i64 S, .slice (some ⟨w.heap.size, 0, none⟩) n n] 56)).drew) (by simp) (fun hl => heap_alloc_old (w.alloc (MadeO n)) _ hl))
    clear hRow0
    generalize ((w.alloc (MadeO n)).alloc (.cells #[.int .i64 M, .int .i64 S, .slice (some ⟨w.heap.size, 0, none⟩) n n] 56)).drew = W at *
    rw [hRR]
    have HRR := Lib.hid hRR
    have hgR := world_lt HG.out
    rw [hRR] at hgR HB0
    have HGW := Lib.hid ((HB0.out.block g hgR).trans HG.out)
    obtain ⟨a1, a2, a3, _, _, _⟩ := three_cells HGW.out
    clear hRR
    have HSM := Lib.hid hf.out.rev.1
    go_wp2_with fail
    go_loopw [27, 4, 5] (fun i u4 u5 wr => ∃ k : Nat, k ≤ n ∧ i = .int .i64 (k : Int) ∧ Hid (Row wr R (some ⟨R, 0, none⟩) 0 n n (fillP t.2.reverse n k)) ∧ Hid (wr.heap[R + 1]? = some (.cells #[.int .i64 M, .int .i64 S, .slice (some ⟨R, 0, none⟩) n n] 56 (0, 0))) ∧ Below R w wr) (fun i _ _ _ => n - (intOf i).toNat)
    case atStart => exact ⟨0, by omega, rfl, HRow, HG2, HB0.out⟩
    case round =>
      obtain ⟨k, hk, rfl, hRw, hGw, hBw⟩ := hrel
      by_cases hlt : k < n
      · have hli : (k : Int) < (n : Int) := by omega
        have hkl : k < t.2.reverse.length := by omega
        obtain ⟨rfl, hbl, hc1, hc2, _, _⟩ := HR.out.get hlt
        obtain ⟨hxs, hys⟩ := HSM.out.at hkl
        have hst := Lib.hid (fillP_step hrl hlt)
        obtain ⟨e, he⟩ : ∃ e, entAt t.2.reverse k = e := ⟨_, rfl⟩
        rw [he] at hc1 hc2 hxs hys hst
        obtain ⟨x, y⟩ := e
        obtain ⟨_, hRl, d1, d2, d3, d4⟩ := hRw.out.get hlt
        have hbR : b < R := by rw [← HRR.out]; exact hbl
        have s1 := (hBw.cell (p := ⟨b, off + k * 2, none⟩) hbR).trans hc1
        have s2 := (hBw.cell (p := ⟨b, off + k * 2 + 1, none⟩) hbR).trans hc2
        have hof := off_add_addr b off (k * 2)
        have hof2 := zero_add_addr R (k * 2)
        rw [Nat.zero_add] at d1 d2 d3 d4
        have hk0 : (0 : Int) ≤ (k : Int) := by omega
        have e2 : IntKind.i64.wrap ((k : Int) + 1) = ((k + 1 : Nat) : Int) := by rw [IntKind.wrap_i64]; omega
        have hA := (Below.refl wr.heap.size wr).alloc (Nat.le_refl _) (.cells #[.string x, .string y] 61)
        clear hc1 hc2 he hkl hof
        have hof := off_add_addr b off (k * 2)
        obtain ⟨W2, hW2⟩ : ∃ W2, wr.alloc (.cells #[.string x, .string y] 61) = W2 := ⟨_, rfl⟩
        rw [hW2] at hA
        have hrs := hA.size
        have hnE : W2.heap[wr.heap.size]? = some (.cells #[.string x, .string y] 61 (0, 0)) := by rw [← hW2]; exact heap_alloc_new wr _
        have hG3 := Lib.hid ((hA.block (R + 1) (world_lt hGw.out)).trans hGw.out)
        have hR3 := Lib.hid (hRw.out.kept hA.size (hA.block R))
        have hB3 := Lib.hid (hBw.trans (hA.mono (by omega)))
        go_upto_region 5 with fail
        obtain ⟨m1, m2, m3, m4⟩ := two_cells hnE
        obtain ⟨l1, l2, l3, l4⟩ := two_cells (w := W2.drew) hnE
        obtain ⟨n1, n2, n3, _, _, _⟩ := three_cells hG3.out
        obtain ⟨p1, p2, p3, _, _, _⟩ := three_cells (w := W2.drew) hG3.out
        obtain ⟨_, hRl3, d1, d2, d3, d4⟩ := hR3.out.get hlt
        rw [Nat.zero_add] at d1 d2 d3 d4
        have HGd : Hid (W2.drew.heap[R + 1]? = some (.cells #[.int .i64 M, .int .i64 S, .slice (some ⟨R, 0, none⟩) n n] 56 (0, 0))) := hG3
        have HRd : Hid (R < W2.drew.heap.size) := Lib.hid hRl3
        have HD : Hid (W2.drew.cell? ⟨R, k * 2, none⟩ = some (.string (entAt (fillP t.2.reverse n k) k).1) ∧ W2.drew.cell? ⟨R, k * 2 + 1, none⟩ = some (.string (entAt (fillP t.2.reverse n k) k).2) ∧ W2.drew.frozen? ⟨R, k * 2, none⟩ = false ∧ W2.drew.frozen? ⟨R, k * 2 + 1, none⟩ = false) := Lib.hid ⟨d1, d2, d3, d4⟩
        clear hnE s1 s2 hW2
        go_region_law (go_simp; go_at_call 30; (with_reducible refine (apart_at (R + 1) R (k * 2) _ _ _ _ _ _ x y _ hxs hys HGd.out HRd.out HD.out.1 HD.out.2.1 HD.out.2.2.1 HD.out.2.2.2).mono ?_); rintro e w5 ⟨rfl, z2, v0, v1, v2, v3, hB5⟩)
        all_goals
          have hR5 : Row w5 R (some ⟨R, 0, none⟩) 0 n n (fillP t.2.reverse n k) := (hR3.out.kept (w' := W2.drew) (Nat.le_refl _) (fun _ => rfl)).kept hB5.size (hB5.block R)
          have hG5 := (hB5.block (R + 1) (world_lt HGd.out)).trans HGd.out
          have R6 := hR5.set hlt x y
          rw [Nat.zero_add, hst.out] at R6
          have G6 := Lib.hid ((Below.heap_setCell (w5.setCell ⟨R, k * 2, none⟩ (.string x)) ⟨R, k * 2 + 1, none⟩ (.string y) (R + 1) (by show R + 1 ≠ R; omega)).trans ((Below.heap_setCell w5 ⟨R, k * 2, none⟩ (.string x) (R + 1) (by show R + 1 ≠ R; omega)).trans hG5))
          have B6 := Lib.hid (((hB3.out.drew.trans (hB5.mono (Nat.le_of_lt HRd.out))).setCell (p := ⟨R, k * 2, none⟩) (Nat.le_refl _) (.string x)).setCell (p := ⟨R, k * 2 + 1, none⟩) (Nat.le_refl _) (.string y))
          have HR6 := Lib.hid R6
          clear hR5 hG5 R6 hB5 z2 v0 v1 v2 v3
          go_wp2_with fail
          go_roundw
          case rel => exact ⟨k + 1, by omega, rfl, HR6, G6, B6.out⟩
          case measure => simp [intOf] <;> omega
      · have hli : ¬ (k : Int) < (n : Int) := by omega
        have hkn : k = n := by omega
        have hfl : fillP t.2.reverse n k = t.2.reverse := by
          unfold fillP
          rw [hkn, Nat.sub_self, List.take_of_length_le (by omega)]
          exact List.append_nil _
        have hr2 := hRw.out
        rw [hfl] at hr2
        have HFIN := Lib.hid (show ∃ b2, TAt wr (R + 1) b2 t ∧ R ≤ b2 from by
          refine ⟨if n = 0 then R + 1 else R, ⟨⟨some ⟨R, 0, none⟩, 0, n, ?_⟩, hok, hmx⟩, by split <;> omega⟩
          unfold TRaw
          rw [hrl, hM, hS]
          refine ⟨hGw.out, ?_, fun h0 => if_pos h0, fun h0 => by rw [if_neg (by omega)]; omega⟩
          by_cases h0 : n = 0
          · subst h0
            have hl : t.2.reverse = [] := List.length_eq_zero_iff.1 hrl
            rw [hl]
            exact Row.empty _ _ _ _
          · rw [if_neg h0]
            exact hr2)
        clear hr2 hfl
        go_wp2_with fail
        go_ret
        obtain ⟨b2, f1, f2⟩ := HFIN.out
        refine ⟨R + 1, rfl, ?_, ?_, b2, f1, ?_⟩
        · rw [HRR.out]; exact Nat.le_succ R
        · rw [HRR.out]; exact hBw
        · rw [HRR.out]; exact f2
end Go.Proofs.Ytchfineobpfinaa
