/- Contracts of the document's New, Size, Resize, Add. For entries of at most 10^9 bytes together. -/
import Derived.Test.YtamgnbjdeoklbaaProg
import Derived.Test.YtamgnbjdeoklbaaTbMath
import Derived.Test.YtamgnbjdeoklbaaTbMem
import Derived.Test.YtamgnbjdeoklbaaTbLeast
import Derived.WalkKit
import Derived.Lib.Hide
import Derived.Outline
import Derived.IntWalk
import Derived.WalkSpells
import Derived.WalkLawsBesides
import Derived.Deep.QuietTactic
import Derived.BigQuiet
import Derived.Deep.RegionHeld3
import Derived.Deep.AppendLies
import Derived.Laws.Rows
import Derived.Deep.CutRange
namespace Go.Proofs.Ytamgnbjdeoklbaa
open Go.RowKit Tb

theorem tabInfo : (Try.prog.info? 49).map (·.size) = some 2 := by kernel_rfl
theorem two_set {w : World} {g : Nat} {a b x y : Value} {t : TypeId} (h : w.heap[g]? = some (.cells #[a, b] t (0, 0))) : ((w.setCell ⟨g, 0, none⟩ x).setCell ⟨g, 1, none⟩ y).heap[g]? = some (.cells #[x, y] t (0, 0)) := by
  have h1 := heap_setCell_same w g 0 _ _ x h
  exact heap_setCell_same _ g 1 _ _ y h1
theorem one_set {w : World} {g : Nat} {a b y : Value} {t : TypeId} (h : w.heap[g]? = some (.cells #[a, b] t (0, 0))) : (w.setCell ⟨g, 1, none⟩ y).heap[g]? = some (.cells #[a, y] t (0, 0)) :=
  heap_setCell_same _ g 1 _ _ y h
theorem zero_set {w : World} {g : Nat} {a b y : Value} {t : TypeId} (h : w.heap[g]? = some (.cells #[a, b] t (0, 0))) : (w.setCell ⟨g, 0, none⟩ y).heap[g]? = some (.cells #[y, b] t (0, 0)) :=
  heap_setCell_same _ g 0 _ _ y h
theorem two_cells {w : World} {g : Nat} {a b : Value} {t : TypeId} (h : w.heap[g]? = some (.cells #[a, b] t (0, 0))) : w.cell? ⟨g, 0, none⟩ = some a ∧ w.cell? ⟨g, 1, none⟩ = some b ∧ w.frozen? ⟨g, 0, none⟩ = false ∧ w.frozen? ⟨g, 1, none⟩ = false :=
  ⟨cell_of_row _ _ _ _ _ _ h, cell_of_row _ _ _ _ _ _ h, frozen_of_row _ _ _ _ _ h, frozen_of_row _ _ _ _ _ h⟩

theorem own_lower {w : World} {g g' n s : Nat} {e : TypeId} {v : Value} {xs : List Value} (h : w.ownsRow g e s v n xs) (hb : g' ≤ g) : w.ownsRow g' e s v n xs := by
  refine ⟨h.1, ?_⟩
  rcases h.2 with h0 | ⟨b, cap, cur, hv, hg, r⟩
  · exact Or.inl h0
  · exact Or.inr ⟨b, cap, cur, hv, by omega, r⟩
theorem own_rest3 {w : World} {g n s : Nat} {e : TypeId} {v : Value} {xs : List Value} (h : w.ownsRow g e s v n xs) {p : Addr} (hp : p.block < g) (u : Value) : (w.setCell p u).ownsRow g e s v n xs := ownsRow_setCell_below h hp u
theorem refNew_is (most : Int) (w : World) (hb1 : -9223372036854775808 ≤ most) (hb2 : most ≤ 9223372036854775807) :
    Calls Try.prog 36 #[.int .i64 most] w fun e w' => e = .returned (.agg #[.int .i64 (most.toNat : Int), .slice none 0 0]) ∧ Below w.heap.size w w' := by
  by_cases hneg : most < 0
  · have e : (most.toNat : Int) = 0 := by omega
    rw [e]
    go_enter Try.func36, Try.ntmps36
    go_wp2_with fail
    exact bodyPost_ret (v := .agg #[.int .i64 0, .slice none 0 0]) (results_cell_row rfl _ _ w.heap.size 49 #[.int .i64 0, .slice none 0 0] (0, 0) _ rfl (heap_alloc_new w _) Try.underlying49 rfl tabInfo) rfl ⟨rfl, (Below.refl _ w).alloc (Nat.le_refl _) _⟩
  · have e : (most.toNat : Int) = most := by omega
    rw [e]
    go_enter Try.func36, Try.ntmps36
    go_wp2_with fail
    exact bodyPost_ret (v := .agg #[.int .i64 most, .slice none 0 0]) (results_cell_row rfl _ _ w.heap.size 49 #[.int .i64 most, .slice none 0 0] (0, 0) _ rfl (heap_alloc_new w _) Try.underlying49 rfl tabInfo) rfl ⟨rfl, (Below.refl _ w).alloc (Nat.le_refl _) _⟩

set_option maxHeartbeats 4000000 in
set_option maxRecDepth 100000 in
theorem refSize_is (M : Int) (A : Option Addr) (n c : Nat) (L : List Ent) (S : Nat) (w : World) (hn : Hid (L.length = n)) (hr : Hid (RdE w w.heap.size A L)) (hs : Hid (sumL L ≤ 1000000000)) (hS : Hid (sumL L = S)) :
    Calls Try.prog 42 #[.agg #[.int .i64 M, .slice A n c]] w fun e w' => e = .returned (.int .i64 (S : Int)) ∧ Below w.heap.size w w' := by
  have hlen := sumL_ge L
  have hnb : n ≤ 31250000 := by have := hs.out; have := hn.out; omega
  clear hlen
  have h0 := heap_alloc_new w (.cells #[.int .i64 M, .slice A n c] 49)
  have H0 := Lib.hid h0
  have HB := Lib.hid ((Below.refl w.heap.size w).alloc (Nat.le_refl _) (.cells #[.int .i64 M, .slice A n c] 49))
  clear h0
  go_enter Try.func42, Try.ntmps42
  go_wp2_with fail
  generalize hg : w.heap.size = g at *
  go_loopw [3, 4] (fun x i wr => ∃ (k T q : Nat), k ≤ n ∧ x = .int .i64 (T : Int) ∧ i = .int .i64 (k : Int) ∧ Hid (T = sumL (L.take k)) ∧ wr = (w.alloc (.cells #[.int .i64 M, .slice A n c] 49)).drewN q) (fun _ i _ => n - (intOf i).toNat)
  case atStart => exact ⟨0, 0, 0, by omega, rfl, rfl, Lib.hid rfl, rfl⟩
  case round =>
    obtain ⟨k, T, qd, hk, rfl, rfl, hT, rfl⟩ := hrel
    have hB := below_drewN HB.out qd
    have h1 : ((w.alloc (.cells #[.int .i64 M, .slice A n c] 49)).drewN qd).heap[g]? = some (.cells #[.int .i64 M, .slice A n c] 49 (0, 0)) := H0.out
    obtain ⟨a1, a2, a3, a4⟩ := two_cells h1
    have hTb : T ≤ 1000000000 := by rw [hT.out]; exact Nat.le_trans (sum_take_le _ _) hs.out
    have hdq : ∀ q, ((w.alloc (.cells #[.int .i64 M, .slice A n c] 49)).drewN qd).drewN q = (w.alloc (.cells #[.int .i64 M, .slice A n c] 49)).drewN (qd + q) := fun q => World.drewN_drewN _ _ _
    have HDQ := Lib.hid hdq
    clear hdq
    generalize ((w.alloc (.cells #[.int .i64 M, .slice A n c] 49)).drewN qd) = wr at *
    by_cases hlt : k < n
    · have hkl : k < L.length := by rw [hn.out]; exact hlt
      obtain ⟨b, o, rfl, hab, hc1, hc2⟩ := hr.out.get hkl
      have hs2 := Nat.le_trans (sum_take_le L (k + 1)) hs.out
      have hst := sum_take hkl
      rw [← hT.out] at hst
      rw [hst] at hs2
      obtain ⟨e, he⟩ : ∃ e, entAt L k = e := ⟨_, rfl⟩
      rw [he] at hc1 hc2 hs2 hst
      obtain ⟨x, y⟩ := e
      have hsz : sz (x, y) = x.size + y.size + 32 := rfl
      rw [hsz] at hs2 hst
      have hd1 := (hB.cell (p := ⟨b, o + k * 2, none⟩) hab).trans hc1
      have hd2 := (hB.cell (p := ⟨b, o + k * 2 + 1, none⟩) hab).trans hc2
      have hof := off_add_addr b o (k * 2)
      have HST := Lib.hid hst
      clear hc1 hc2 hst he hsz
      have hk1 : (0 : Int) ≤ (k : Int) := by omega
      have hk2 : (k : Int) < (n : Int) := by omega
      have e1 : IntKind.i64.wrap ((T : Int) + (x.size : Int)) = (T : Int) + (x.size : Int) := by rw [IntKind.wrap_i64]; omega
      have e2 : IntKind.i64.wrap ((T : Int) + (x.size : Int) + (y.size : Int)) = (T : Int) + (x.size : Int) + (y.size : Int) := by rw [IntKind.wrap_i64]; omega
      obtain ⟨S2, hS2⟩ : ∃ S2, T + (x.size + y.size + 32) = S2 := ⟨_, rfl⟩
      have e3 : IntKind.i64.wrap ((T : Int) + (x.size : Int) + (y.size : Int) + 32) = (S2 : Int) := by rw [IntKind.wrap_i64]; omega
      have HS2 := Lib.hid (show S2 = sumL (L.take (k + 1)) by rw [HST.out, hS2])
      have hdk : decide ((k : Int) < (n : Int)) = true := by rw [decide_eq_true_eq]; omega
      go_wp2_with fail
      go_quiet (fail)
      go_wp2_with fail
      go_roundw
      case rel => exact ⟨k + 1, S2, _, by omega, rfl, rfl, HS2, HDQ.out _⟩
      case measure => simp [intOf] <;> omega
    · have e : k = n := by omega
      have hTS : (T : Int) = (S : Int) := by rw [hT.out, ← hS.out, List.take_of_length_le (by rw [hn.out]; omega)]
      have hdk : decide ((k : Int) < (n : Int)) = false := by rw [decide_eq_false_iff_not]; omega
      go_wp2_with fail
      go_ret
      exact ⟨by first | rfl | (rw [hTS]; rfl), by rw [hg]; exact hB⟩

set_option maxHeartbeats 4000000 in
set_option maxRecDepth 100000 in
theorem refResize_is (M most : Int) (A : Option Addr) (n c : Nat) (L R : List Ent) (w : World) (hn : Hid (L.length = n)) (hr : Hid (RdE w w.heap.size A L)) (hs : Hid (sumL L ≤ 1000000000)) (hb1 : -9223372036854775808 ≤ most) (hb2 : most ≤ 9223372036854775807) (hR : Hid (leastL L most.toNat = R)) :
    Calls Try.prog 37 #[.agg #[.int .i64 M, .slice A n c], .int .i64 most] w fun e w' => ∃ v, e = .returned (.agg #[.int .i64 (most.toNat : Int), v]) ∧ w'.ownsRow w.heap.size 95 2 v R.length (entCs R) ∧ Below w.heap.size w w' := by
  by_cases hneg : most < 0
  · have HL := Lib.hid (show leastL L (0 : Int).toNat = R by rw [← hR.out]; first | done | (congr 1; omega))
    have eq1 : (most.toNat : Int) = 0 := by omega
    rw [eq1]
    have K0 := Lib.hid (heap_alloc2_old w (.cells #[.int .i64 0, .slice A n c] 49) (.cells #[.int .i64 0, .slice none 0 0] 49))
    have K1 := Lib.hid (heap_alloc2_new w (.cells #[.int .i64 0, .slice A n c] 49) (.cells #[.int .i64 0, .slice none 0 0] 49))
    have HS2 := Lib.hid (show ((w.alloc (.cells #[.int .i64 0, .slice A n c] 49)).alloc (.cells #[.int .i64 0, .slice none 0 0] 49)).heap.size = w.heap.size + 2 by simp)
    have HB0 := Lib.hid (((Below.refl w.heap.size w).alloc (Nat.le_refl _) (.cells #[.int .i64 0, .slice A n c] 49)).alloc (by simp) (.cells #[.int .i64 0, .slice none 0 0] 49))
    clear eq1
    go_enter Try.func37, Try.ntmps37
    go_wp2_with fail
    generalize ((w.alloc (.cells #[.int .i64 0, .slice A n c] 49)).alloc (.cells #[.int .i64 0, .slice none 0 0] 49)) = W at *
    refine (least_is A n c L R 0 W hn (Lib.hid (hr.out.on HB0.out HB0.out.size)) hs (by omega) (by omega) HL).mono ?_
    rintro e w3 ⟨v, rfl, hO, hB⟩
    obtain ⟨A2, c2, rfl, _, _, _⟩ := own_rde hO rfl
    have hW := HS2.out
    have r0 := (hB.block w.heap.size (by omega)).trans K0.out
    have r1 := (hB.block (w.heap.size + 1) (by omega)).trans K1.out
    have r0' := one_set (y := .slice A2 R.length c2) r0
    have r1' := (heap_setCell_other w3 ⟨w.heap.size, 1, none⟩ (w.heap.size + 1) (.slice A2 R.length c2) (by show w.heap.size + 1 ≠ w.heap.size; omega)).trans r1
    have r1'' := zero_set (y := .int .i64 0) r1'
    have hn3 := ((HB0.out.trans (hB.mono HB0.out.size)).setCell (p := ⟨w.heap.size, 1, none⟩) (Nat.le_refl _) (.slice A2 R.length c2)).setCell (p := ⟨w.heap.size + 1, 0, none⟩) (by show w.heap.size ≤ w.heap.size + 1; omega) (.int .i64 0)
    have hO3 := own_lower (own_rest3 (own_rest3 (own_rest3 hO (p := ⟨w.heap.size, 1, none⟩) (by rw [hW]; show w.heap.size < w.heap.size + 2; omega) (.slice A2 R.length c2)) (p := ⟨w.heap.size + 1, 0, none⟩) (by rw [hW]; show w.heap.size + 1 < w.heap.size + 2; omega) (.int .i64 0)) (p := ⟨w.heap.size + 1, 1, none⟩) (by rw [hW]; show w.heap.size + 1 < w.heap.size + 2; omega) (.slice A2 R.length c2)) (g' := w.heap.size) (by omega)
    have R3 := Lib.hid (one_set (y := .slice A2 R.length c2) r1'')
    have HN3 := Lib.hid (hn3.setCell (p := ⟨w.heap.size + 1, 1, none⟩) (by show w.heap.size ≤ w.heap.size + 1; omega) (.slice A2 R.length c2))
    have HO3 := Lib.hid hO3
    obtain ⟨a1, a2, a3, a4⟩ := two_cells r0
    obtain ⟨b1, b2, b3, b4⟩ := two_cells r0'
    obtain ⟨d1, d2, d3, d4⟩ := two_cells r1'
    obtain ⟨f1, f2, f3, f4⟩ := two_cells r1''
    clear r0 r1 r0' r1' r1'' hn3 hO3 hO hB hW
    go_wp2_with fail
    exact bodyPost_ret (v := .agg #[.int .i64 0, .slice A2 R.length c2]) (results_cell_row rfl _ _ (w.heap.size + 1) 49 #[.int .i64 0, .slice A2 R.length c2] (0, 0) _ rfl R3.out Try.underlying49 rfl tabInfo) rfl ⟨_, rfl, HO3.out, HN3.out⟩
  · have HL := Lib.hid (show leastL L (most : Int).toNat = R by rw [← hR.out]; first | done | (congr 1; omega))
    have eq1 : (most.toNat : Int) = most := by omega
    rw [eq1]
    have K0 := Lib.hid (heap_alloc2_old w (.cells #[.int .i64 most, .slice A n c] 49) (.cells #[.int .i64 0, .slice none 0 0] 49))
    have K1 := Lib.hid (heap_alloc2_new w (.cells #[.int .i64 most, .slice A n c] 49) (.cells #[.int .i64 0, .slice none 0 0] 49))
    have HS2 := Lib.hid (show ((w.alloc (.cells #[.int .i64 most, .slice A n c] 49)).alloc (.cells #[.int .i64 0, .slice none 0 0] 49)).heap.size = w.heap.size + 2 by simp)
    have HB0 := Lib.hid (((Below.refl w.heap.size w).alloc (Nat.le_refl _) (.cells #[.int .i64 most, .slice A n c] 49)).alloc (by simp) (.cells #[.int .i64 0, .slice none 0 0] 49))
    clear eq1
    go_enter Try.func37, Try.ntmps37
    go_wp2_with fail
    generalize ((w.alloc (.cells #[.int .i64 most, .slice A n c] 49)).alloc (.cells #[.int .i64 0, .slice none 0 0] 49)) = W at *
    refine (least_is A n c L R most W hn (Lib.hid (hr.out.on HB0.out HB0.out.size)) hs (by omega) (by omega) HL).mono ?_
    rintro e w3 ⟨v, rfl, hO, hB⟩
    obtain ⟨A2, c2, rfl, _, _, _⟩ := own_rde hO rfl
    have hW := HS2.out
    have r0 := (hB.block w.heap.size (by omega)).trans K0.out
    have r1 := (hB.block (w.heap.size + 1) (by omega)).trans K1.out
    have r0' := one_set (y := .slice A2 R.length c2) r0
    have r1' := (heap_setCell_other w3 ⟨w.heap.size, 1, none⟩ (w.heap.size + 1) (.slice A2 R.length c2) (by show w.heap.size + 1 ≠ w.heap.size; omega)).trans r1
    have r1'' := zero_set (y := .int .i64 most) r1'
    have hn3 := ((HB0.out.trans (hB.mono HB0.out.size)).setCell (p := ⟨w.heap.size, 1, none⟩) (Nat.le_refl _) (.slice A2 R.length c2)).setCell (p := ⟨w.heap.size + 1, 0, none⟩) (by show w.heap.size ≤ w.heap.size + 1; omega) (.int .i64 most)
    have hO3 := own_lower (own_rest3 (own_rest3 (own_rest3 hO (p := ⟨w.heap.size, 1, none⟩) (by rw [hW]; show w.heap.size < w.heap.size + 2; omega) (.slice A2 R.length c2)) (p := ⟨w.heap.size + 1, 0, none⟩) (by rw [hW]; show w.heap.size + 1 < w.heap.size + 2; omega) (.int .i64 most)) (p := ⟨w.heap.size + 1, 1, none⟩) (by rw [hW]; show w.heap.size + 1 < w.heap.size + 2; omega) (.slice A2 R.length c2)) (g' := w.heap.size) (by omega)
    have R3 := Lib.hid (one_set (y := .slice A2 R.length c2) r1'')
    have HN3 := Lib.hid (hn3.setCell (p := ⟨w.heap.size + 1, 1, none⟩) (by show w.heap.size ≤ w.heap.size + 1; omega) (.slice A2 R.length c2))
    have HO3 := Lib.hid hO3
    obtain ⟨a1, a2, a3, a4⟩ := two_cells r0
    obtain ⟨b1, b2, b3, b4⟩ := two_cells r0'
    obtain ⟨d1, d2, d3, d4⟩ := two_cells r1'
    obtain ⟨f1, f2, f3, f4⟩ := two_cells r1''
    clear r0 r1 r0' r1' r1'' hn3 hO3 hO hB hW
    go_wp2_with fail
    exact bodyPost_ret (v := .agg #[.int .i64 most, .slice A2 R.length c2]) (results_cell_row rfl _ _ (w.heap.size + 1) 49 #[.int .i64 most, .slice A2 R.length c2] (0, 0) _ rfl R3.out Try.underlying49 rfl tabInfo) rfl ⟨_, rfl, HO3.out, HN3.out⟩
end Go.Proofs.Ytamgnbjdeoklbaa
