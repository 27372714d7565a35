/- The document's least, Resize, Add, and that the slice is nil where nothing stays. For entries of at most 10^9 bytes together, and at most 30000 of them. -/
import Derived.Test.YtaoomjbkfcbfpaaProg
import Derived.Test.YtaoomjbkfcbfpaaTbMath
import Derived.Test.YtaoomjbkfcbfpaaTbMem
import Derived.Test.YtaoomjbkfcbfpaaTbLeast
import Derived.Test.YtaoomjbkfcbfpaaTbRef
import Derived.Test.YtaoomjbkfcbfpaaTbFix
import Derived.Test.YtaoomjbkfcbfpaaTbAll
import Derived.Test.YtaoomjbkfcbfpaaTbAt
import Derived.WalkKit
import Derived.Lib.Hide
import Derived.Outline
import Derived.IntWalk
import Derived.WalkSpells
import Derived.WalkLawsBesides
import Derived.Deep.RegionHeld3
import Derived.Deep.AppendLies
import Derived.Deep.RegionLaw
import Derived.Laws.OwnMore
import Derived.Deep.QuietTactic
import Derived.BigQuiet
import Derived.Laws.Rows
import Derived.Deep.CutRange
namespace Go.Proofs.Ytaoomjbkfcbfpaa
open Go.RowKit Tb

set_option maxHeartbeats 4000000 in
set_option maxRecDepth 100000 in
theorem leastN_is (A : Option Addr) (n c : Nat) (L R : List Ent) (most : Int) (w : World) (hn : Hid (L.length = n)) (hr : Hid (RdE w w.heap.size A L)) (hs : Hid (sumL L ≤ 1000000000)) (hb1 : -9223372036854775808 ≤ most) (hb2 : most ≤ 9223372036854775807) (hR : Hid (leastL L most.toNat = R)) :
    Calls Try.prog 35 #[.slice A n c, .int .i64 most] w fun e w' => ∃ v, e = .returned v ∧ w'.ownsRow w.heap.size 62 2 v R.length (entCs R) ∧ Below w.heap.size w w' ∧ Hid (R = [] → v = .slice none 0 0) := by
  obtain ⟨i0, hi, hz0, hz1, hz2⟩ := info_parts infoE
  have HI := Lib.hid hi; clear hi
  have HZ0 := Lib.hid hz0; clear hz0
  have HZ1 := Lib.hid hz1; clear hz1
  have HZ2 := Lib.hid hz2; clear hz2
  obtain ⟨m, hm⟩ : ∃ m, most.toNat = m := ⟨_, rfl⟩
  rw [hm] at hR
  have hlen := sumL_ge L
  have hnb : n ≤ 31250000 := by have := hs.out; have := hn.out; omega
  clear hlen
  generalize hg : w.heap.size = g at *
  have G := Lib.hid hg; clear hg
  go_enter Try.func35, Try.ntmps35
  go_wp2_with fail
  go_loopw [5, 6, 7] (fun o x i wr => ∃ (k S : Nat), k ≤ n ∧ x = .int .i64 (S : Int) ∧ i = .int .i64 (k : Int) ∧ Hid (S = sumL (L.take k)) ∧ S ≤ m ∧ Hid (wr.ownsRow g 62 2 o k (entCs (L.take k))) ∧ Hid (L.take k ++ leastL (L.drop k) (m - S) = R) ∧ Below g w wr ∧ Hid (k = 0 → o = .slice none 0 0)) (fun _ _ i _ => n - (intOf i).toNat)
  case atStart => exact ⟨0, 0, by omega, rfl, rfl, Lib.hid rfl, by omega, Lib.hid (World.ownsRow_nil _ _ _ _), hR, Below.refl _ _, Lib.hid (fun _ => rfl)⟩
  case round =>
    obtain ⟨k, S, hk, rfl, rfl, hS, hSm, hO, hF, hB, hN⟩ := hrel
    have hSb : S ≤ 1000000000 := by rw [hS.out]; exact Nat.le_trans (sum_take_le _ _) hs.out
    by_cases hlt : k < n
    · have hkl : k < L.length := by rw [hn.out]; exact hlt
      obtain ⟨b, o, rfl, hab, hc1, hc2⟩ := hr.out.get hkl
      have hs2 := Nat.le_trans (sum_take_le L (k + 1)) hs.out
      have hst := sum_take hkl
      rw [← hS.out] at hst
      rw [hst] at hs2
      have hF1 := hF.out
      rw [entAt_drop hkl, leastL] at hF1
      have htk := entAt_take hkl
      obtain ⟨e, he⟩ : ∃ e, entAt L k = e := ⟨_, rfl⟩
      rw [he] at hc1 hc2 hs2 hst hF1 htk
      obtain ⟨x, y⟩ := e
      have hsz : sz (x, y) = x.size + y.size + 32 := rfl
      rw [hsz] at hs2 hst hF1
      have hd1 := (hB.cell (p := ⟨b, o + k * 2, none⟩) hab).trans hc1
      have hd2 := (hB.cell (p := ⟨b, o + k * 2 + 1, none⟩) hab).trans hc2
      have hof := off_add_addr b o (k * 2)
      have HST := Lib.hid hst
      have HTK := Lib.hid htk
      have HE := Lib.hid he
      clear hc1 hc2 hst htk he hsz hF
      have hk1 : (0 : Int) ≤ (k : Int) := by omega
      have hk2 : (k : Int) < (n : Int) := by omega
      have e1 : IntKind.i64.wrap ((S : Int) + (x.size : Int)) = (S : Int) + (x.size : Int) := by rw [IntKind.wrap_i64]; omega
      have e2 : IntKind.i64.wrap ((S : Int) + (x.size : Int) + (y.size : Int)) = (S : Int) + (x.size : Int) + (y.size : Int) := by rw [IntKind.wrap_i64]; omega
      obtain ⟨S2, hS2⟩ : ∃ S2, S + (x.size + y.size + 32) = S2 := ⟨_, rfl⟩
      have e3 : IntKind.i64.wrap ((S : Int) + (x.size : Int) + (y.size : Int) + 32) = (S2 : Int) := by rw [IntKind.wrap_i64]; omega
      have hdk : decide ((k : Int) < (n : Int)) = true := by rw [decide_eq_true_eq]; omega
      go_wp2_with fail
      go_quiet (fail)
      by_cases hgo : S2 ≤ m
      · have hgi : (S2 : Int) ≤ most := by omega
        rw [if_pos (by omega)] at hF1
        have HS2 := Lib.hid (show S2 = sumL (L.take (k + 1)) by rw [HST.out, hS2])
        have HF1 := Lib.hid (show L.take (k + 1) ++ leastL (L.drop (k + 1)) (m - S2) = R by
          rw [HTK.out, List.append_assoc, ← hF1, show m - S2 = m - S - (x.size + y.size + 32) by omega]
          rfl)
        clear hF1
        go_wp2_with (at_builtin; refine wpList_append_own _ rfl _ _ 27 rfl g 62 i0 (.agg #[.string ⟨#[]⟩, .string ⟨#[]⟩]) 2 32 Try.underlying27 HI.out HZ0.out HZ1.out HZ2.out rfl (by decide) _ _ _ rfl ((own_drewN hO.out _).alloc _) ⟨wr.heap.size, 0, none⟩ 1 1 [.string x, .string y] rfl rfl ?d1 ?d2 ?d3 ?d4 ?d5 ?_)
        case d1 =>
          intro j u hj
          match j, hj with
          | 0, hj => simp at hj; subst hj; rw [zero_add_addr]; exact cell_of_row _ wr.heap.size 0 #[.string x, .string y] _ _ (heap_alloc_new (wr.drewN _) _)
          | 1, hj => simp at hj; subst hj; rw [zero_add_addr]; exact cell_of_row _ wr.heap.size 1 #[.string x, .string y] _ _ (heap_alloc_new (wr.drewN _) _)
        case d2 =>
          intro u hu
          simp at hu
          rcases hu with rfl | rfl <;> rfl
        case d3 => unfold maxLen; omega
        case d4 => omega
        case d5 => have := hB.size; have := G.out; simp; omega
        intro v' w2 hown hgrow _
        have RS := own_ent (e := (x, y)) (own_drewN hO.out _) (below_drewN hB _) G.out hown hgrow
        have R1 := Lib.hid RS.1
        have R2 := RS.2
        clear RS hown hgrow
        rw [← HTK.out] at R1
        go_wp2_with fail
        go_roundw
        case rel => exact ⟨k + 1, S2, by omega, rfl, rfl, HS2, hgo, R1, HF1, R2, Lib.hid (fun h => by omega)⟩
        case measure => simp [intOf] <;> omega
      · have hgi : ¬ (S2 : Int) ≤ most := by omega
        rw [if_neg (by omega), List.append_nil] at hF1
        have hl : R.length = k := by rw [← hF1, List.length_take]; omega
        have hO2 := hO.out
        rw [hF1] at hO2
        go_wp2_with fail
        go_ret
        exact ⟨_, rfl, hO2, below_drewN hB _, Lib.hid (fun h => hN.out (by rw [← hl, h]; rfl))⟩
    · have e : k = n := by omega
      have hF1 := hF.out
      rw [List.drop_of_length_le (by rw [hn.out]; omega), leastL, List.append_nil] at hF1
      have hl : R.length = k := by rw [← hF1, List.length_take, hn.out]; omega
      have hO2 := hO.out
      rw [hF1] at hO2
      clear hF hF1
      go_wp2_with fail
      go_ret
      exact ⟨_, rfl, by first | exact hO2 | (rw [hl]; exact hO2), hB, Lib.hid (fun h => hN.out (by rw [← hl, h]; rfl))⟩

set_option maxHeartbeats 4000000 in
set_option maxRecDepth 100000 in
theorem refResizeN_is (M most : Int) (A : Option Addr) (n c : Nat) (L R : List Ent) (w : World) (hn : Hid (L.length = n)) (hr : Hid (RdE w w.heap.size A L)) (hs : Hid (sumL L ≤ 1000000000)) (hb1 : -9223372036854775808 ≤ most) (hb2 : most ≤ 9223372036854775807) (hR : Hid (leastL L most.toNat = R)) :
    Calls Try.prog 25 #[.agg #[.int .i64 M, .slice A n c], .int .i64 most] w fun e w' => ∃ v, e = .returned (.agg #[.int .i64 (most.toNat : Int), v]) ∧ w'.ownsRow w.heap.size 62 2 v R.length (entCs R) ∧ Below w.heap.size w w' ∧ Hid (R = [] → v = .slice none 0 0) := by
  by_cases hneg : most < 0
  · have HL := Lib.hid (show leastL L (0 : Int).toNat = R by rw [← hR.out]; first | done | (congr 1; omega))
    have eq1 : (most.toNat : Int) = 0 := by omega
    rw [eq1]
    have K0 := Lib.hid (heap_alloc2_old w (.cells #[.int .i64 0, .slice A n c] 29) (.cells #[.int .i64 0, .slice none 0 0] 29))
    have K1 := Lib.hid (heap_alloc2_new w (.cells #[.int .i64 0, .slice A n c] 29) (.cells #[.int .i64 0, .slice none 0 0] 29))
    have HS2 := Lib.hid (show ((w.alloc (.cells #[.int .i64 0, .slice A n c] 29)).alloc (.cells #[.int .i64 0, .slice none 0 0] 29)).heap.size = w.heap.size + 2 by simp)
    have HB0 := Lib.hid (((Below.refl w.heap.size w).alloc (Nat.le_refl _) (.cells #[.int .i64 0, .slice A n c] 29)).alloc (by simp) (.cells #[.int .i64 0, .slice none 0 0] 29))
    clear eq1
    go_enter Try.func25, Try.ntmps25
    go_wp2_with fail
    generalize ((w.alloc (.cells #[.int .i64 0, .slice A n c] 29)).alloc (.cells #[.int .i64 0, .slice none 0 0] 29)) = W at *
    refine (leastN_is A n c L R 0 W hn (Lib.hid (hr.out.on HB0.out HB0.out.size)) hs (by omega) (by omega) HL).mono ?_
    rintro e w3 ⟨v, rfl, hO, hB, hNL⟩
    obtain ⟨A2, c2, rfl, _, _, _⟩ := own_rde hO rfl
    have hW := HS2.out
    have r0 := (hB.block w.heap.size (by omega)).trans K0.out
    have r1 := (hB.block (w.heap.size + 1) (by omega)).trans K1.out
    have r0' := one_set (y := .slice A2 R.length c2) r0
    have r1' := (heap_setCell_other w3 ⟨w.heap.size, 1, none⟩ (w.heap.size + 1) (.slice A2 R.length c2) (by show w.heap.size + 1 ≠ w.heap.size; omega)).trans r1
    have r1'' := zero_set (y := .int .i64 0) r1'
    have hn3 := ((HB0.out.trans (hB.mono HB0.out.size)).setCell (p := ⟨w.heap.size, 1, none⟩) (Nat.le_refl _) (.slice A2 R.length c2)).setCell (p := ⟨w.heap.size + 1, 0, none⟩) (by show w.heap.size ≤ w.heap.size + 1; omega) (.int .i64 0)
    have hO3 := own_lower (own_rest3 (own_rest3 (own_rest3 hO (p := ⟨w.heap.size, 1, none⟩) (by rw [hW]; show w.heap.size < w.heap.size + 2; omega) (.slice A2 R.length c2)) (p := ⟨w.heap.size + 1, 0, none⟩) (by rw [hW]; show w.heap.size + 1 < w.heap.size + 2; omega) (.int .i64 0)) (p := ⟨w.heap.size + 1, 1, none⟩) (by rw [hW]; show w.heap.size + 1 < w.heap.size + 2; omega) (.slice A2 R.length c2)) (g' := w.heap.size) (by omega)
    have R3 := Lib.hid (one_set (y := .slice A2 R.length c2) r1'')
    have HN3 := Lib.hid (hn3.setCell (p := ⟨w.heap.size + 1, 1, none⟩) (by show w.heap.size ≤ w.heap.size + 1; omega) (.slice A2 R.length c2))
    have HO3 := Lib.hid hO3
    obtain ⟨a1, a2, a3, a4⟩ := two_cells r0
    obtain ⟨b1, b2, b3, b4⟩ := two_cells r0'
    obtain ⟨d1, d2, d3, d4⟩ := two_cells r1'
    obtain ⟨f1, f2, f3, f4⟩ := two_cells r1''
    clear r0 r1 r0' r1' r1'' hn3 hO3 hO hB hW
    go_wp2_with fail
    exact bodyPost_ret (v := .agg #[.int .i64 0, .slice A2 R.length c2]) (results_cell_row rfl _ _ (w.heap.size + 1) 29 #[.int .i64 0, .slice A2 R.length c2] (0, 0) _ rfl R3.out Try.underlying29 rfl tabInfo) rfl ⟨_, rfl, HO3.out, HN3.out, hNL⟩
  · have HL := Lib.hid (show leastL L (most : Int).toNat = R by rw [← hR.out]; first | done | (congr 1; omega))
    have eq1 : (most.toNat : Int) = most := by omega
    rw [eq1]
    have K0 := Lib.hid (heap_alloc2_old w (.cells #[.int .i64 most, .slice A n c] 29) (.cells #[.int .i64 0, .slice none 0 0] 29))
    have K1 := Lib.hid (heap_alloc2_new w (.cells #[.int .i64 most, .slice A n c] 29) (.cells #[.int .i64 0, .slice none 0 0] 29))
    have HS2 := Lib.hid (show ((w.alloc (.cells #[.int .i64 most, .slice A n c] 29)).alloc (.cells #[.int .i64 0, .slice none 0 0] 29)).heap.size = w.heap.size + 2 by simp)
    have HB0 := Lib.hid (((Below.refl w.heap.size w).alloc (Nat.le_refl _) (.cells #[.int .i64 most, .slice A n c] 29)).alloc (by simp) (.cells #[.int .i64 0, .slice none 0 0] 29))
    clear eq1
    go_enter Try.func25, Try.ntmps25
    go_wp2_with fail
    generalize ((w.alloc (.cells #[.int .i64 most, .slice A n c] 29)).alloc (.cells #[.int .i64 0, .slice none 0 0] 29)) = W at *
    refine (leastN_is A n c L R most W hn (Lib.hid (hr.out.on HB0.out HB0.out.size)) hs (by omega) (by omega) HL).mono ?_
    rintro e w3 ⟨v, rfl, hO, hB, hNL⟩
    obtain ⟨A2, c2, rfl, _, _, _⟩ := own_rde hO rfl
    have hW := HS2.out
    have r0 := (hB.block w.heap.size (by omega)).trans K0.out
    have r1 := (hB.block (w.heap.size + 1) (by omega)).trans K1.out
    have r0' := one_set (y := .slice A2 R.length c2) r0
    have r1' := (heap_setCell_other w3 ⟨w.heap.size, 1, none⟩ (w.heap.size + 1) (.slice A2 R.length c2) (by show w.heap.size + 1 ≠ w.heap.size; omega)).trans r1
    have r1'' := zero_set (y := .int .i64 most) r1'
    have hn3 := ((HB0.out.trans (hB.mono HB0.out.size)).setCell (p := ⟨w.heap.size, 1, none⟩) (Nat.le_refl _) (.slice A2 R.length c2)).setCell (p := ⟨w.heap.size + 1, 0, none⟩) (by show w.heap.size ≤ w.heap.size + 1; omega) (.int .i64 most)
    have hO3 := own_lower (own_rest3 (own_rest3 (own_rest3 hO (p := ⟨w.heap.size, 1, none⟩) (by rw [hW]; show w.heap.size < w.heap.size + 2; omega) (.slice A2 R.length c2)) (p := ⟨w.heap.size + 1, 0, none⟩) (by rw [hW]; show w.heap.size + 1 < w.heap.size + 2; omega) (.int .i64 most)) (p := ⟨w.heap.size + 1, 1, none⟩) (by rw [hW]; show w.heap.size + 1 < w.heap.size + 2; omega) (.slice A2 R.length c2)) (g' := w.heap.size) (by omega)
    have R3 := Lib.hid (one_set (y := .slice A2 R.length c2) r1'')
    have HN3 := Lib.hid (hn3.setCell (p := ⟨w.heap.size + 1, 1, none⟩) (by show w.heap.size ≤ w.heap.size + 1; omega) (.slice A2 R.length c2))
    have HO3 := Lib.hid hO3
    obtain ⟨a1, a2, a3, a4⟩ := two_cells r0
    obtain ⟨b1, b2, b3, b4⟩ := two_cells r0'
    obtain ⟨d1, d2, d3, d4⟩ := two_cells r1'
    obtain ⟨f1, f2, f3, f4⟩ := two_cells r1''
    clear r0 r1 r0' r1' r1'' hn3 hO3 hO hB hW
    go_wp2_with fail
    exact bodyPost_ret (v := .agg #[.int .i64 most, .slice A2 R.length c2]) (results_cell_row rfl _ _ (w.heap.size + 1) 29 #[.int .i64 most, .slice A2 R.length c2] (0, 0) _ rfl R3.out Try.underlying29 rfl tabInfo) rfl ⟨_, rfl, HO3.out, HN3.out, hNL⟩

theorem entCs_cons (e : Ent) (L : List Ent) : [Value.string e.1, .string e.2] ++ entCs L = entCs (e :: L) := rfl
theorem lit_own (W : World) (x y : ByteArray) : (W.alloc (.cells #[.string x, .string y] 62)).ownsRow W.heap.size 62 2 (.slice (some ⟨W.heap.size, 0, none⟩) 1 1) 1 [.string x, .string y] :=
  ⟨rfl, .inr ⟨W.heap.size, 1, #[.string x, .string y], rfl, Nat.le_refl _, heap_alloc_new W _, Nat.le_refl _, by unfold maxLen; omega, rfl, rfl⟩⟩
/-- least of a row of one's own, beside a block that stays. -/
theorem leastN_held (g base : Nat) (u0 u1 : Value) (t : TypeId) (v : Value) (n : Nat) (L R : List Ent) (most : Int) (w0 w : World) (hg : g < base) (hrow : w.heap[g]? = some (.cells #[u0, u1] t (0, 0))) (hO : w.ownsRow base 62 2 v n (entCs L)) (hn : n = L.length) (hs : sumL L ≤ 1000000000) (hb1 : -9223372036854775808 ≤ most) (hb2 : most ≤ 9223372036854775807) (hR : Hid (leastL L most.toNat = R)) (hB : Below base w0 w) (hbase : base ≤ w.heap.size) :
    Calls Try.prog 35 #[v, .int .i64 most] w fun e w' => ∃ A2 c2, e = .returned (.slice A2 R.length c2) ∧ w'.ownsRow base 62 2 (.slice A2 R.length c2) R.length (entCs R) ∧ w'.heap[g]? = some (.cells #[u0, u1] t (0, 0)) ∧ w'.cell? ⟨g, 0, none⟩ = some u0 ∧ w'.cell? ⟨g, 1, none⟩ = some u1 ∧ w'.frozen? ⟨g, 1, none⟩ = false ∧ Below base w0 w' ∧ Hid (R = [] → Value.slice A2 R.length c2 = .slice none 0 0) := by
  obtain ⟨A, c, rfl, _, hr, _⟩ := own_rde hO hn
  refine (leastN_is A n c L R most w (Lib.hid hn.symm) (Lib.hid hr) (Lib.hid hs) hb1 hb2 hR).mono ?_
  rintro e w' ⟨v', he, hO', hB', hNL⟩
  obtain ⟨A2, c2, rfl, _, _, _⟩ := own_rde hO' rfl
  have h1 := (hB'.block g (by omega)).trans hrow
  obtain ⟨k0, k1, _, k3⟩ := two_cells h1
  exact ⟨A2, c2, he, own_lower hO' hbase, h1, k0, k1, k3, hB.trans (hB'.mono hbase), hNL⟩

set_option maxHeartbeats 4000000 in
set_option maxRecDepth 100000 in
theorem refAddN_nil (M : Int) (x y : ByteArray) (R : List Ent) (w : World) (hs : sumL [(x, y)] ≤ 1000000000) (hb1 : -9223372036854775808 ≤ M) (hb2 : M ≤ 9223372036854775807) (hR : Hid (leastL [(x, y)] M.toNat = R)) :
    Calls Try.prog 28 #[.agg #[.int .i64 M, .slice none 0 0], .string x, .string y] w fun e w' => ∃ v, e = .returned (.agg #[.int .i64 M, v]) ∧ w'.ownsRow w.heap.size 62 2 v R.length (entCs R) ∧ Below w.heap.size w w' ∧ Hid (R = [] → v = .slice none 0 0) := by
  obtain ⟨i0, hi, hz0, hz1, hz2⟩ := info_parts infoE
  have HI := Lib.hid hi; clear hi
  have HZ0 := Lib.hid hz0; clear hz0
  have HZ1 := Lib.hid hz1; clear hz1
  have HZ2 := Lib.hid hz2; clear hz2
  have K0 := Lib.hid (heap_alloc2_old w (.cells #[.int .i64 M, .slice none 0 0] 29) (.cells #[.int .i64 0, .slice none 0 0] 29))
  have K1 := Lib.hid (heap_alloc2_new w (.cells #[.int .i64 M, .slice none 0 0] 29) (.cells #[.int .i64 0, .slice none 0 0] 29))
  have HS2 := Lib.hid (show ((w.alloc (.cells #[.int .i64 M, .slice none 0 0] 29)).alloc (.cells #[.int .i64 0, .slice none 0 0] 29)).heap.size = w.heap.size + 2 by simp)
  have HB0 := Lib.hid (((Below.refl w.heap.size w).alloc (Nat.le_refl _) (.cells #[.int .i64 M, .slice none 0 0] 29)).alloc (by simp) (.cells #[.int .i64 0, .slice none 0 0] 29))
  go_enter Try.func28, Try.ntmps28
  go_wp2_with fail
  generalize ((w.alloc (.cells #[.int .i64 M, .slice none 0 0] 29)).alloc (.cells #[.int .i64 0, .slice none 0 0] 29)) = W at *
  generalize hg : w.heap.size = g at *
  have hgW := Lib.hid (show g < W.heap.size by have := HS2.out; omega)
  obtain ⟨a0, a1, a2, a3⟩ := two_cells K0.out
  obtain ⟨q0, q1, q2, q3⟩ := two_cells (w := W.drew) K0.out
  have hBd : Below W.heap.size W W.drew := (Below.refl _ _).drew
  have L0 : ((W.alloc (.cells #[.string x, .string y] 62)).drew).heap[g]? = _ := (heap_alloc_old W (.cells #[.string x, .string y] 62) (by exact hgW.out)).trans K0.out
  obtain ⟨l0, l1, l2, l3⟩ := two_cells L0
  have hBl : Below W.heap.size W ((W.alloc (.cells #[.string x, .string y] 62)).drew) := ((Below.refl W.heap.size W).alloc (Nat.le_refl _) _).drew
  have LO := Lib.hid (show ((W.alloc (.cells #[.string x, .string y] 62)).drew).ownsRow W.heap.size 62 2 (.slice (some ⟨W.heap.size, 0, none⟩) 1 1) 1 [.string x, .string y] from lit_own W x y)
  have LO2 := Lib.hid (show ((W.alloc (.cells #[.string x, .string y] 62)).drew).ownsRow W.heap.size 62 2 (.slice (some ⟨W.heap.size, 0, none⟩) 1 1) 1 (entCs [(x, y)]) from LO.out)
  have HL0 := Lib.hid L0
  have HBL := Lib.hid hBl
  have hble : W.heap.size ≤ ((W.alloc (.cells #[.string x, .string y] 62)).drew).heap.size := hBl.size
  have HBE := Lib.hid hble
  have z0 : (W.alloc (.cells #[.string x, .string y] 62)).cell? ⟨g, 0, none⟩ = some (.int .i64 M) := l0
  have z1 : (W.alloc (.cells #[.string x, .string y] 62)).cell? ⟨g, 1, none⟩ = some (.slice none 0 0) := l1
  clear L0 hBl hble
  go_region_law (first | (refine step_append_none (by rfl) _ _ _ (by rfl) W.heap.size 62 i0 2 Try.underlying27 HI.out _ 1 [.string x, .string y] (by rfl) LO.out (by rfl) ?_) | (go_simp; go_at_call 35; (with_reducible refine (leastN_held g W.heap.size (.int .i64 M) (.slice none 0 0) 29 (.slice (some ⟨W.heap.size, 0, none⟩) 1 1) 1 [(x, y)] R M W _ hgW.out HL0.out LO2.out rfl hs hb1 hb2 hR HBL.out HBE.out).mono ?_); rintro e w6 ⟨A2, c2, rfl, hO6, h6, k0, k1, k3, hB6, hNL⟩))
  all_goals
    have hW := HS2.out
    have r0' := one_set (y := .slice A2 R.length c2) h6
    have hgn : g + 1 ≠ g := by omega
    have h7 : w6.heap[g + 1]? = _ := (hB6.block (g + 1) (by omega)).trans K1.out
    have r1' := (heap_setCell_other w6 ⟨g, 1, none⟩ (g + 1) (.slice A2 R.length c2) hgn).trans h7
    have r1'' := zero_set (y := .int .i64 M) r1'
    have hgg : g ≤ W.heap.size := Nat.le_of_lt hgW.out
    have hn3 := (((HB0.out.trans (hB6.mono hgg)).setCell (p := ⟨g, 1, none⟩) (Nat.le_refl _) (.slice A2 R.length c2)).setCell (p := ⟨g + 1, 0, none⟩) (Nat.le_succ g) (.int .i64 M)).setCell (p := ⟨g + 1, 1, none⟩) (Nat.le_succ g) (.slice A2 R.length c2)
    have hO3 := own_lower (own_rest3 (own_rest3 (own_rest3 hO6 (p := ⟨g, 1, none⟩) hgW.out (.slice A2 R.length c2)) (p := ⟨g + 1, 0, none⟩) (by show g + 1 < W.heap.size; omega) (.int .i64 M)) (p := ⟨g + 1, 1, none⟩) (by show g + 1 < W.heap.size; omega) (.slice A2 R.length c2)) (g' := g) hgg
    have R3 := Lib.hid (one_set (y := .slice A2 R.length c2) r1'')
    have HN3 := Lib.hid hn3
    have HO3 := Lib.hid hO3
    obtain ⟨b1, b2, b3, b4⟩ := two_cells r0'
    obtain ⟨d1, d2, d3, d4⟩ := two_cells r1'
    obtain ⟨f1, f2, f3, f4⟩ := two_cells r1''
    clear r0' r1' r1'' hn3 hO3 hO6 hB6 hW h6 h7
    go_wp2_with fail
    exact bodyPost_ret (v := .agg #[.int .i64 M, .slice A2 R.length c2]) (results_cell_row rfl _ _ (g + 1) 29 #[.int .i64 M, .slice A2 R.length c2] (0, 0) _ rfl R3.out Try.underlying29 rfl tabInfo) rfl ⟨_, rfl, by first | exact HO3.out | (rw [hg]; exact HO3.out), by first | exact HN3.out | (rw [hg]; exact HN3.out), hNL⟩
theorem add_row {w : World} {base m : Nat} {v : Value} {x y : ByteArray} {L : List Ent} (h : w.ownsRow base 62 2 v m ([.string x, .string y] ++ entCs L)) : w.ownsRow base 62 2 v m (entCs ((x, y) :: L)) := h

set_option maxHeartbeats 4000000 in
set_option maxRecDepth 100000 in
theorem refAddN_some (M : Int) (b o n c : Nat) (L : List Ent) (x y : ByteArray) (R : List Ent) (w : World) (hn : Hid (L.length = n)) (hr : Hid (RdE w w.heap.size (some ⟨b, o, none⟩) L)) (hn0 : 0 < n) (hnb : n ≤ 30000) (hs : sumL ((x, y) :: L) ≤ 1000000000) (hb1 : -9223372036854775808 ≤ M) (hb2 : M ≤ 9223372036854775807) (hR : Hid (leastL ((x, y) :: L) M.toNat = R)) :
    Calls Try.prog 28 #[.agg #[.int .i64 M, .slice (some ⟨b, o, none⟩) n c], .string x, .string y] w fun e w' => ∃ v, e = .returned (.agg #[.int .i64 M, v]) ∧ w'.ownsRow w.heap.size 62 2 v R.length (entCs R) ∧ Below w.heap.size w w' ∧ Hid (R = [] → v = .slice none 0 0) := by
  obtain ⟨i0, hi, hz0, hz1, hz2⟩ := info_parts infoE
  have HI := Lib.hid hi; clear hi
  have HZ0 := Lib.hid hz0; clear hz0
  have HZ1 := Lib.hid hz1; clear hz1
  have HZ2 := Lib.hid hz2; clear hz2
  have K0 := Lib.hid (heap_alloc2_old w (.cells #[.int .i64 M, .slice (some ⟨b, o, none⟩) n c] 29) (.cells #[.int .i64 0, .slice none 0 0] 29))
  have K1 := Lib.hid (heap_alloc2_new w (.cells #[.int .i64 M, .slice (some ⟨b, o, none⟩) n c] 29) (.cells #[.int .i64 0, .slice none 0 0] 29))
  have HS2 := Lib.hid (show ((w.alloc (.cells #[.int .i64 M, .slice (some ⟨b, o, none⟩) n c] 29)).alloc (.cells #[.int .i64 0, .slice none 0 0] 29)).heap.size = w.heap.size + 2 by simp)
  have HB0 := Lib.hid (((Below.refl w.heap.size w).alloc (Nat.le_refl _) (.cells #[.int .i64 M, .slice (some ⟨b, o, none⟩) n c] 29)).alloc (by simp) (.cells #[.int .i64 0, .slice none 0 0] 29))
  go_enter Try.func28, Try.ntmps28
  go_wp2_with fail
  generalize ((w.alloc (.cells #[.int .i64 M, .slice (some ⟨b, o, none⟩) n c] 29)).alloc (.cells #[.int .i64 0, .slice none 0 0] 29)) = W at *
  generalize hg : w.heap.size = g at *
  have hgW := Lib.hid (show g < W.heap.size by have := HS2.out; omega)
  obtain ⟨a0, a1, a2, a3⟩ := two_cells K0.out
  obtain ⟨q0, q1, q2, q3⟩ := two_cells (w := W.drew) K0.out
  have hBd : Below W.heap.size W W.drew := (Below.refl _ _).drew
  have L0 : ((W.alloc (.cells #[.string x, .string y] 62)).drew).heap[g]? = _ := (heap_alloc_old W (.cells #[.string x, .string y] 62) (by exact hgW.out)).trans K0.out
  obtain ⟨l0, l1, l2, l3⟩ := two_cells L0
  have hBl : Below W.heap.size W ((W.alloc (.cells #[.string x, .string y] 62)).drew) := ((Below.refl W.heap.size W).alloc (Nat.le_refl _) _).drew
  have LO := Lib.hid (show ((W.alloc (.cells #[.string x, .string y] 62)).drew).ownsRow W.heap.size 62 2 (.slice (some ⟨W.heap.size, 0, none⟩) 1 1) 1 [.string x, .string y] from lit_own W x y)
  have LO2 := Lib.hid (show ((W.alloc (.cells #[.string x, .string y] 62)).drew).ownsRow W.heap.size 62 2 (.slice (some ⟨W.heap.size, 0, none⟩) 1 1) 1 (entCs [(x, y)]) from LO.out)
  have HL0 := Lib.hid L0
  have HBL := Lib.hid hBl
  have hble : W.heap.size ≤ ((W.alloc (.cells #[.string x, .string y] 62)).drew).heap.size := hBl.size
  have HBE := Lib.hid hble
  have z0 : (W.alloc (.cells #[.string x, .string y] 62)).cell? ⟨g, 0, none⟩ = some (.int .i64 M) := l0
  have z1 : (W.alloc (.cells #[.string x, .string y] 62)).cell? ⟨g, 1, none⟩ = some (.slice (some ⟨b, o, none⟩) n c) := l1
  have HRD := Lib.hid (hr.out.below (HB0.out.trans (HBL.out.mono (Nat.le_of_lt hgW.out))))
  have hel : (entCs L).length = n * 2 := by rw [entCs_len, hn.out]
  have hm63 : 1 + n ≤ maxLen := by unfold maxLen; omega
  have hm47 : (1 + n) * 32 ≤ 140737488355328 := by omega
  have hln := Lib.hid (show 1 + n = ((x, y) :: L).length by rw [List.length_cons, hn.out]; omega)
  clear L0 hBl hble
  go_region_law (first | ((refine step_append_lies _ (by rfl) _ _ _ (by rfl) W.heap.size 62 i0 (.agg #[.string ⟨#[]⟩, .string ⟨#[]⟩]) 2 32 Try.underlying27 HI.out HZ0.out HZ1.out HZ2.out rfl (by decide) _ 1 [.string x, .string y] (by rfl) LO.out ⟨b, o, none⟩ n c (entCs L) (by rfl) hel (news_of HRD.out) entCs_one_cell hn0 hm63 hm47 HBE.out _ rfl ?_); intro gg cap w5 hown hgrow hat hlt; have hx5 := below_grown hgrow LO.out HBE.out (Nat.le_refl _); have m5 := (hx5.block g hgW.out).trans HL0.out; obtain ⟨m0, m1, m2, m3⟩ := two_cells m5; have M5 := Lib.hid m5; have B5 := Lib.hid (HBL.out.trans hx5); have O5 := Lib.hid (add_row hown); have S5 := Lib.hid (Nat.le_trans HBE.out hx5.size); clear m5 hx5 hown hgrow hat hlt) | (go_simp; go_at_call 35; (with_reducible refine (leastN_held g W.heap.size (.int .i64 M) (.slice (some ⟨b, o, none⟩) n c) 29 _ (1 + n) ((x, y) :: L) R M W _ hgW.out M5.out O5.out hln.out hs hb1 hb2 hR B5.out S5.out).mono ?_); rintro e w6 ⟨A2, c2, rfl, hO6, h6, k0, k1, k3, hB6, hNL⟩))
  all_goals
    have hW := HS2.out
    have r0' := one_set (y := .slice A2 R.length c2) h6
    have hgn : g + 1 ≠ g := by omega
    have h7 : w6.heap[g + 1]? = _ := (hB6.block (g + 1) (by omega)).trans K1.out
    have r1' := (heap_setCell_other w6 ⟨g, 1, none⟩ (g + 1) (.slice A2 R.length c2) hgn).trans h7
    have r1'' := zero_set (y := .int .i64 M) r1'
    have hgg : g ≤ W.heap.size := Nat.le_of_lt hgW.out
    have hn3 := (((HB0.out.trans (hB6.mono hgg)).setCell (p := ⟨g, 1, none⟩) (Nat.le_refl _) (.slice A2 R.length c2)).setCell (p := ⟨g + 1, 0, none⟩) (Nat.le_succ g) (.int .i64 M)).setCell (p := ⟨g + 1, 1, none⟩) (Nat.le_succ g) (.slice A2 R.length c2)
    have hO3 := own_lower (own_rest3 (own_rest3 (own_rest3 hO6 (p := ⟨g, 1, none⟩) hgW.out (.slice A2 R.length c2)) (p := ⟨g + 1, 0, none⟩) (by show g + 1 < W.heap.size; omega) (.int .i64 M)) (p := ⟨g + 1, 1, none⟩) (by show g + 1 < W.heap.size; omega) (.slice A2 R.length c2)) (g' := g) hgg
    have R3 := Lib.hid (one_set (y := .slice A2 R.length c2) r1'')
    have HN3 := Lib.hid hn3
    have HO3 := Lib.hid hO3
    obtain ⟨b1, b2, b3, b4⟩ := two_cells r0'
    obtain ⟨d1, d2, d3, d4⟩ := two_cells r1'
    obtain ⟨f1, f2, f3, f4⟩ := two_cells r1''
    clear r0' r1' r1'' hn3 hO3 hO6 hB6 hW h6 h7
    go_wp2_with fail
    exact bodyPost_ret (v := .agg #[.int .i64 M, .slice A2 R.length c2]) (results_cell_row rfl _ _ (g + 1) 29 #[.int .i64 M, .slice A2 R.length c2] (0, 0) _ rfl R3.out Try.underlying29 rfl tabInfo) rfl ⟨_, rfl, by first | exact HO3.out | (rw [hg]; exact HO3.out), by first | exact HN3.out | (rw [hg]; exact HN3.out), hNL⟩
end Go.Proofs.Ytaoomjbkfcbfpaa
