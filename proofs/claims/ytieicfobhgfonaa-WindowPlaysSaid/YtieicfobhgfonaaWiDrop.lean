/- The document's Drop of layer 17. For up to 1000 streams. -/
import Derived.Test.YtieicfobhgfonaaProg
import Derived.Test.YtieicfobhgfonaaWiMath
import Derived.Test.YtieicfobhgfonaaWiRef
import Derived.WalkKit
import Derived.Lib.Hide
import Derived.OwnWalk
import Derived.Below
import Derived.Laws.Rows
import Derived.Outline
import Derived.IntWalk
import Derived.WalkSpells
import Derived.WalkLawsBesides
import Derived.LoopTactic
import Derived.Deep.CutRange
namespace Go.Proofs.Ytieicfobhgfonaa
open Go Go.RowKit Wi

namespace Wi
theorem without_step {L : List (Nat × Int)} {k j : Nat} (hk : k < L.length) : without (L.take (k + 1)) j = if (rwAt L k).1 = j then without (L.take k) j else without (L.take k) j ++ [rwAt L k] := by
  have e : rwAt L k = L[k] := by
    unfold rwAt
    rw [List.getD_eq_getElem?_getD, List.getElem?_eq_getElem hk]
    rfl
  rw [List.take_succ_eq_append_getElem hk, ← e]
  unfold without
  rw [List.filter_append]
  by_cases h : (rwAt L k).1 = j
  · rw [if_pos h, List.filter_cons, if_neg (by simp [h])]
    simp
  · rw [if_neg h, List.filter_cons, if_pos (by simp [h])]
    rfl
theorem own_sets_low {w w' : World} {g g' n : Nat} {v : Value} {xs : List Value} (h : w.ownsRow g 60 2 v n xs) (hg : g' ≤ g) (hk : ∀ j, g ≤ j → w'.heap[j]? = w.heap[j]?) : w'.ownsRow g' 60 2 v n xs := by
  refine ⟨h.1, ?_⟩
  rcases h.2 with hn | ⟨b, cap, cur, rfl, hb, hgg, rest⟩
  · exact .inl hn
  · exact .inr ⟨b, cap, cur, rfl, Nat.le_trans hg hb, (hk b hb).trans hgg, rest⟩
theorem without_le (L : List (Nat × Int)) (j : Nat) : (without L j).length ≤ L.length := List.length_filter_le _ _
end Wi
set_option maxHeartbeats 8000000 in
set_option maxRecDepth 100000 in
theorem xdrop_is (B : Bk) (A : Option Addr) (n c id : Nat) (w : World) (hn : Hid (B.rows.length = n)) (hnb : n ≤ 1000) (hA : Hid (RdW w w.heap.size A B.rows)) :
    Calls Try.prog 19 #[bkV B A n c, .int .u32 (id : Int)] w fun e w' => ∃ (A2 : Option Addr) (m c2 : Nat), e = .returned (bkV (dropB B id) A2 m c2) ∧ Hid (w'.ownsRow w.heap.size 60 2 (.slice A2 m c2) m (rwCs (dropB B id).rows)) ∧ Hid ((dropB B id).rows.length = m) ∧ Below w.heap.size w w' := by
  unfold bkV
  obtain ⟨cn, fi, L⟩ := B
  have hn : Hid (L.length = n) := hn
  have hA : Hid (RdW w w.heap.size A L) := hA
  obtain ⟨W2, hW2⟩ : ∃ W2, (w.alloc (.cells #[.int .i64 cn, .int .i64 fi, .slice A n c] 28)).alloc (.cells #[.int .i64 0, .int .i64 0, .slice none 0 0] 28) = W2 := ⟨_, rfl⟩
  obtain ⟨g, hg⟩ : ∃ g, w.heap.size = g := ⟨_, rfl⟩
  have hB2 : Below g w W2 := by rw [← hW2, ← hg]; exact ((Below.refl _ w).alloc (Nat.le_refl _) _).alloc (by simp) _
  have hs2 : W2.heap.size = g + 2 := by rw [← hW2, ← hg]; simp
  have hX : W2.heap[g]? = some (.cells #[.int .i64 cn, .int .i64 fi, .slice A n c] 28 (0, 0)) := by
    rw [← hW2, ← hg]
    exact (heap_alloc_old _ _ (by simp)).trans (heap_alloc_new w _)
  have hY : W2.heap[g + 1]? = some (.cells #[.int .i64 0, .int .i64 0, .slice none 0 0] 28 (0, 0)) := by
    rw [← hW2, ← hg]
    have h := heap_alloc_new (w.alloc (.cells #[.int .i64 cn, .int .i64 fi, .slice A n c] 28)) (.cells #[.int .i64 0, .int .i64 0, .slice none 0 0] 28)
    simpa using h
  have HX := Lib.hid hX
  have HY := Lib.hid hY
  have HB2 := Lib.hid hB2
  have HS2 := Lib.hid hs2
  have HR2 : Hid (RdW W2 g A L) := Lib.hid (by rw [← hg]; exact hA.out.on (by rw [hg]; exact hB2) (Nat.le_refl _))
  have HW2 := Lib.hid hW2
  have G := Lib.hid hg
  rw [hg]
  clear hX hY hB2 hs2 hW2 hA
  go_enter Try.func19, Try.ntmps19
  go_upto_region 1 with fail
  rw [HW2.out]
  clear hg
  obtain ⟨i0, hi, hz0, hz1, hz2⟩ := info_parts infoW
  have HI := Lib.hid hi
  have HZ0 := Lib.hid hz0
  have HZ1 := Lib.hid hz1
  have HZ2 := Lib.hid hz2
  clear hi hz0 hz1 hz2
  go_wp2_with fail
  go_loopw [5, 6] (fun l i wr => ∃ k m : Nat, k ≤ n ∧ m ≤ k ∧ i = .int .i64 (k : Int) ∧ Hid ((without (L.take k) id).length = m) ∧ Hid (wr.ownsRow (g + 2) 60 2 l m (rwCs (without (L.take k) id))) ∧ Hid (Below (g + 2) W2 wr)) (fun _ i _ => n - (intOf i).toNat)
  case atStart => exact ⟨0, 0, Nat.zero_le _, Nat.le_refl _, rfl, Lib.hid rfl, Lib.hid ⟨rfl, .inl ⟨rfl, rfl⟩⟩, Lib.hid (Below.refl _ _)⟩
  case round =>
    obtain ⟨k, m, hk, hmk, rfl, hm, hO, hBw⟩ := hrel
    have hgw : Hid (g + 2 ≤ wr.heap.size) := Lib.hid (by have := hBw.out.size; have := HS2.out; omega)
    have hx := (hBw.out.block g (by omega)).trans HX.out
    have c2 : wr.cell? ⟨g, 2, none⟩ = some (.slice A n c) := cell_of_row _ _ 2 _ _ _ hx
    by_cases hlt : k < n
    · have hki : (k : Int) < (n : Int) := by omega
      have hk0 : (0 : Int) ≤ (k : Int) := by omega
      have hkl : k < L.length := by rw [hn.out]; exact hlt
      obtain ⟨b0, off, rfl, hb0, d0, d1⟩ := HR2.out.1 k hkl
      have d0 := (hBw.out.cell (p := ⟨b0, off + k * 2, none⟩) (by show b0 < g + 2; omega)).trans d0
      have d1 := (hBw.out.cell (p := ⟨b0, off + k * 2 + 1, none⟩) (by show b0 < g + 2; omega)).trans d1
      have hst := without_step (j := id) hkl
      obtain ⟨⟨x, y⟩, hxy⟩ : ∃ z, rwAt L k = z := ⟨_, rfl⟩
      rw [hxy] at d0 d1 hst
      have d0 : wr.cell? ⟨b0, off + k * 2, none⟩ = some (.int .u32 (x : Int)) := d0
      have d1 : wr.cell? ⟨b0, off + k * 2 + 1, none⟩ = some (.int .i64 y) := d1
      by_cases hxe : x = id
      · have hq : ((x : Int) != (id : Int)) = false := bne_eq_false_iff_eq.2 (by omega)
        have hst : without (L.take (k + 1)) id = without (L.take k) id := hst.trans (if_pos hxe)
        have HM : Hid ((without (L.take (k + 1)) id).length = m) := Lib.hid (by rw [hst]; exact hm.out)
        have HO : Hid (∀ l, wr.ownsRow (g + 2) 60 2 l m (rwCs (without (L.take k) id)) → wr.ownsRow (g + 2) 60 2 l m (rwCs (without (L.take (k + 1)) id))) := Lib.hid (fun l h => by rw [hst]; exact h)
        clear hxe hxy hst hkl
        go_wp2_with fail
        go_roundw
        case rel => exact ⟨k + 1, m, by omega, by omega, by go_num, HM, Lib.hid (HO.out _ hO.out), hBw⟩
        case measure => simp [intOf]; omega
      · have hq : ((x : Int) != (id : Int)) = true := bne_iff_ne.2 (by omega)
        have hst : without (L.take (k + 1)) id = without (L.take k) id ++ [(x, y)] := hst.trans (if_neg hxe)
        have HM : Hid ((without (L.take (k + 1)) id).length = m + 1) := Lib.hid (by rw [hst, List.length_append, hm.out]; rfl)
        have HST := Lib.hid hst
        clear hxe hxy hst hkl
        go_wp2_with (at_builtin; refine wpList_append_own _ rfl _ _ 26 rfl (g + 2) 60 i0 (.agg #[.int .u32 0, .int .i64 0]) 2 16 Try.underlying26 HI.out HZ0.out HZ1.out HZ2.out rfl (by decide) _ _ _ rfl (hO.out.alloc _) ⟨wr.heap.size, 0, none⟩ 1 1 (rwCs [(x, y)]) rfl rfl ?c1 ?c2 ?c3 ?c4 ?c5 ?_)
        case c1 => intro j u hj; exact hj
        case c2 => exact rwCs_one
        case c3 => unfold maxLen; omega
        case c4 => omega
        case c5 => have := hgw.out; simp; omega
        intro v' w3 hown hgrow _
        rw [← rwCs_cat, ← HST.out] at hown
        have HO3 := Lib.hid hown
        have HB3 := Lib.hid ((hBw.out.alloc hgw.out _).grown hgrow (by have := hgw.out; simp; omega) (fun j hj => (hO.out.lt j hj).1))
        clear hown hgrow
        go_wp2_with fail
        go_roundw
        case rel => exact ⟨k + 1, m + 1, by omega, by omega, by go_num, HM, HO3, HB3⟩
        case measure => simp [intOf]; omega
    · have hnk : ¬ ((k : Int) < (n : Int)) := by omega
      have hkn : k = n := by omega
      have hm2 := hm.out
      have hO2 := hO.out
      rw [show L.take k = L from by rw [show k = L.length by rw [hn.out]; exact hkn]; exact List.take_length] at hm2 hO2
      obtain ⟨A2, c3, rfl, _⟩ := own_rdw hO2 hm2
      have hy := (hBw.out.block (g + 1) (by omega)).trans HY.out
      have e0 : wr.cell? ⟨g + 1, 0, none⟩ = some (.int .i64 0) := cell_of_row _ _ 0 _ _ _ hy
      have e1 : wr.cell? ⟨g + 1, 1, none⟩ = some (.int .i64 0) := cell_of_row _ _ 1 _ _ _ hy
      have e2 : wr.cell? ⟨g + 1, 2, none⟩ = some (.slice none 0 0) := cell_of_row _ _ 2 _ _ _ hy
      have z0 : wr.frozen? ⟨g + 1, 0, none⟩ = false := by simp [World.frozen?, hy]
      have z1 : wr.frozen? ⟨g + 1, 1, none⟩ = false := by simp [World.frozen?, hy]
      have z2 : wr.frozen? ⟨g + 1, 2, none⟩ = false := by simp [World.frozen?, hy]
      have zx : wr.frozen? ⟨g, 2, none⟩ = false := by simp [World.frozen?, hx]
      have c0 : wr.cell? ⟨g, 0, none⟩ = some (.int .i64 cn) := cell_of_row _ _ 0 _ _ _ hx
      have c1 : wr.cell? ⟨g, 1, none⟩ = some (.int .i64 fi) := cell_of_row _ _ 1 _ _ _ hx
      have HBF : Hid (Below g w ((((wr.setCell ⟨g, 2, none⟩ (.slice A2 m c3)).setCell ⟨g + 1, 0, none⟩ (.int .i64 cn)).setCell ⟨g + 1, 1, none⟩ (.int .i64 fi)).setCell ⟨g + 1, 2, none⟩ (.slice A2 m c3))) := Lib.hid
        (((((HB2.out.trans (hBw.out.mono (Nat.le_add_right g 2))).setCell (p := ⟨g, 2, none⟩) (Nat.le_refl _) _).setCell (p := ⟨g + 1, 0, none⟩) (Nat.le_succ _) _).setCell (p := ⟨g + 1, 1, none⟩) (Nat.le_succ _) _).setCell (p := ⟨g + 1, 2, none⟩) (Nat.le_succ _) _)
      have HFO : Hid (((((wr.setCell ⟨g, 2, none⟩ (.slice A2 m c3)).setCell ⟨g + 1, 0, none⟩ (.int .i64 cn)).setCell ⟨g + 1, 1, none⟩ (.int .i64 fi)).setCell ⟨g + 1, 2, none⟩ (.slice A2 m c3)).ownsRow g 60 2 (.slice A2 m c3) m (rwCs (without L id))) := Lib.hid (own_sets_low hO2 (by omega) (fun j hj => by
        rw [Below.heap_setCell _ ⟨g + 1, 2, none⟩ _ j (by show j ≠ g + 1; omega), Below.heap_setCell _ ⟨g + 1, 1, none⟩ _ j (by show j ≠ g + 1; omega), Below.heap_setCell _ ⟨g + 1, 0, none⟩ _ j (by show j ≠ g + 1; omega), Below.heap_setCell _ ⟨g, 2, none⟩ _ j (by show j ≠ g; omega)]))
      have HK : Hid (∀ i, ((((wr.setCell ⟨g, 2, none⟩ (.slice A2 m c3)).setCell ⟨g + 1, 0, none⟩ (.int .i64 cn)).setCell ⟨g + 1, 1, none⟩ (.int .i64 fi)).setCell ⟨g + 1, 2, none⟩ (.slice A2 m c3)).cell? ⟨g + 1, i, none⟩ = #[.int .i64 cn, .int .i64 fi, .slice A2 m c3][i]?) := Lib.hid (fun i => by
        have h : ((((wr.setCell ⟨g, 2, none⟩ (.slice A2 m c3)).setCell ⟨g + 1, 0, none⟩ (.int .i64 cn)).setCell ⟨g + 1, 1, none⟩ (.int .i64 fi)).setCell ⟨g + 1, 2, none⟩ (.slice A2 m c3)).heap[g + 1]? = some (.cells #[.int .i64 cn, .int .i64 fi, .slice A2 m c3] 28 (0, 0)) := by
          simp [World.setCell, Array.getElem?_modify, hy]
        exact cell_of_row _ _ i _ _ _ h)
      have HMM := Lib.hid hm2
      clear hy hx hm2 hO2 hO hm hBw hkn
      go_wp2_with fail
      have k0 := HK.out 0
      have k1 := HK.out 1
      have k2 := HK.out 2
      refine bodyPost_ret (v := .agg #[.int .i64 cn, .int .i64 fi, .slice A2 m c3]) (by simp [results, Try.results19, go_sem, k0, k1, k2]) rfl ⟨A2, m, c3, rfl, HFO, HMM, HBF.out⟩
end Go.Proofs.Ytieicfobhgfonaa
