/- The contract of a table's shrink: oldest entries go till the rest has room. For entries of at most 10^6 bytes a text, 10^9 together. -/
import Derived.Test.YtamgnbjdeoklbaaProg
import Derived.Test.YtamgnbjdeoklbaaTcFit
import Derived.Test.YtamgnbjdeoklbaaTbMath
import Derived.Test.YtamgnbjdeoklbaaTbMem
import Derived.Test.YtamgnbjdeoklbaaTbLeast
import Derived.Test.YtamgnbjdeoklbaaTbRef
import Derived.Test.YtamgnbjdeoklbaaTcMem
import Derived.Test.YtamgnbjdeoklbaaTcLow
import Derived.WalkKit
import Derived.Lib.Hide
import Derived.Outline
import Derived.IntWalk
import Derived.WalkSpells
import Derived.WalkLawsBesides
import Derived.Deep.QuietTactic
import Derived.BigQuiet
import Derived.Laws.Rows
import Derived.Deep.RegionLaw
import Derived.Deep.CutBlock
import Derived.Deep.DeepCutAuto
import Derived.Deep.CutRange
namespace Go.Proofs.Ytamgnbjdeoklbaa
open Go.RowKit Tb

namespace Tb
theorem SmallE.at {L : List Ent} (h : SmallE L) {k : Nat} (hk : k < L.length) : (entAt L k).1.size ≤ 1000000 ∧ (entAt L k).2.size ≤ 1000000 := by
  unfold entAt
  rw [List.getD_eq_getElem?_getD, List.getElem?_eq_getElem hk]
  exact h _ (List.getElem_mem hk)
theorem sum_drop {L : List Ent} {k : Nat} (h : k < L.length) : sumL (L.drop k) = sz (entAt L k) + sumL (L.drop (k + 1)) := by
  rw [entAt_drop h]
  rfl
theorem sum_drop_le (L : List Ent) (k : Nat) : sumL (L.drop k) ≤ sumL L := by
  have h := sumL_cat (L.take k) (L.drop k)
  rw [List.take_append_drop] at h
  omega
theorem sum_rev : ∀ L : List Ent, sumL L.reverse = sumL L
  | [] => rfl
  | e :: l => by
    rw [List.reverse_cons, sumL_cat, sum_rev l, sumL, sumL, sumL]
    omega
theorem least_step {L : List Ent} {k m : Nat} (h : k < L.length) (hm : m < sumL (L.drop k)) : leastL (L.drop k).reverse m = leastL (L.drop (k + 1)).reverse m := by
  have h2 := entAt_drop h
  have hs : sumL ((L.drop (k + 1)).reverse ++ [entAt L k]) = sumL (L.drop k) := by rw [← List.reverse_cons, ← h2, sum_rev]
  rw [h2, List.reverse_cons]
  exact leastL_drop _ _ _ (by rw [hs]; exact hm)
/-- 'clear' in a region's list. -/
theorem wpList_clear_row {w : World} {ops : Array Oper} {rest : List Oper} {o : Oper} {a : Act} {Q : Exit → Act → World → Prop} (hgd : o.guard = none) (s : Operand)
    (ho : o.op = .call { callee := .builtin .clear, args := #[s], argTypes := #[78] }) {b off n c : Nat} {ao : Option Addr} {L : List Ent} (hr : Row w b ao off n c L) {k : Nat} (hk : k ≤ n) (cc : Nat)
    (hs : a.eval s = .slice ao k cc) (h : wpList Try.prog ops Q rest (a.put o.dst (.tuple #[])) (w.setCells b off (List.replicate (k * 2) (.string ⟨#[]⟩)))) : wpList Try.prog ops Q (o :: rest) a w := by
  refine wpList_plain hgd fun K hK => ?_
  have hrun := run_clear_row hr hk o.type cc
  unfold Oper.wp
  simp [execOp, ho, resolve, invoke, builtin, hs, hrun, Result.andThen]
  exact hK _ _ h
end Tb
/-- An entry's size, asked beside a table's block and a row. -/
theorem entsize_keep (g b o : Nat) (u0 u1 u2 : Value) (t : TypeId) (x y : ByteArray) (w : World) (hx : x.size ≤ 1000000) (hy : y.size ≤ 1000000) (h : w.heap[g]? = some (.cells #[u0, u1, u2] t (0, 0))) (hb : b < w.heap.size) (h0 : w.cell? ⟨b, o, none⟩ = some (.string x)) (h1 : w.cell? ⟨b, o + 1, none⟩ = some (.string y)) :
    Calls Try.prog 57 #[.agg #[.string x, .string y]] w fun e w' => e = .returned (.int .i64 ((x.size + y.size + 32 : Nat) : Int)) ∧ w'.heap[g]? = some (.cells #[u0, u1, u2] t (0, 0)) ∧ w'.cell? ⟨g, 0, none⟩ = some u0 ∧ w'.cell? ⟨g, 1, none⟩ = some u1 ∧ w'.cell? ⟨g, 2, none⟩ = some u2 ∧ w'.frozen? ⟨g, 1, none⟩ = false ∧ w'.cell? ⟨b, o, none⟩ = some (.string x) ∧ w'.cell? ⟨b, o + 1, none⟩ = some (.string y) ∧ Below w.heap.size w w' :=
  (entsize_is x y w hx hy).mono fun e w' ⟨he, hB⟩ => by
    have h2 := (hB.block g (world_lt h)).trans h
    obtain ⟨a1, a2, a3, _, a5, _⟩ := three_cells h2
    exact ⟨he, h2, a1, a2, a3, a5, (hB.cell (p := ⟨b, o, none⟩) hb).trans h0, (hB.cell (p := ⟨b, o + 1, none⟩) hb).trans h1, hB⟩

set_option maxHeartbeats 4000000 in
set_option maxRecDepth 100000 in
theorem shrink_is (g b : Nat) (M most : Int) (ao : Option Addr) (off c n : Nat) (L : List Ent) (w : World) (h : Hid (TRaw w g b M (sumL L) ao off c L)) (hn : Hid (L.length = n)) (hs : Hid (SmallE L)) (hS : Hid (sumL L ≤ 1000000000)) (hb1 : -9223372036854775808 ≤ most) (hb2 : most ≤ 9223372036854775807) :
    Calls Try.prog 43 #[.pointer (some ⟨g, 0, none⟩), .int .i64 most] w fun e w' => e = .returned (.tuple #[]) ∧ ∃ k b' ao' off' c', k ≤ L.length ∧ TRaw w' g b' M (sumL (L.drop k)) ao' off' c' (L.drop k) ∧ leastL L.reverse most.toNat = (L.drop k).reverse ∧ (L.drop k = [] ∨ (sumL (L.drop k) : Int) ≤ most) ∧ Kept2 g b w w' ∧ (b' = b ∨ b' = g) := by
  have hlen := sumL_ge L
  have hnb : n ≤ 31250000 := by have := hS.out; have := hn.out; omega
  have HT0 := h.out.1
  have HR0 := h.out.2.1
  rw [hn.out] at HT0 HR0
  have HT := Lib.hid HT0
  have HR := Lib.hid HR0
  clear hlen HT0 HR0
  go_enter Try.func43, Try.ntmps43
  go_upto_block 0 with fail
  go_cut [4] from 5 to 36 (fun v wx => ∃ k : Nat, k ≤ n ∧ v = .int .i64 (k : Int) ∧ Hid (wx.heap[g]? = some (.cells #[.int .i64 M, .int .i64 (sumL (L.drop k) : Int), .slice ao n c] 80 (0, 0))) ∧ Hid (Row wx b ao off n c L) ∧ Hid (leastL L.reverse most.toNat = leastL (L.drop k).reverse most.toNat) ∧ Hid (L.drop k = [] ∨ (sumL (L.drop k) : Int) ≤ most) ∧ Hid (Kept2 g b w wx))
  case first =>
    go_wp2_with fail
    go_loopw [4] (fun v wx => ∃ k : Nat, k ≤ n ∧ v = .int .i64 (k : Int) ∧ Hid (wx.heap[g]? = some (.cells #[.int .i64 M, .int .i64 (sumL (L.drop k) : Int), .slice ao n c] 80 (0, 0))) ∧ Hid (Row wx b ao off n c L) ∧ Hid (leastL L.reverse most.toNat = leastL (L.drop k).reverse most.toNat) ∧ Hid (Kept2 g b w wx)) (fun v _ => n - (intOf v).toNat)
    case atStart => exact ⟨0, by omega, rfl, HT, HR, Lib.hid rfl, Lib.hid (Kept2.refl _ _ _)⟩
    case round =>
      obtain ⟨k, hk, rfl, hT, hR, hL, hK⟩ := hrel
      by_cases hlt : k < n
      · have hli : (k : Int) < (n : Int) := by omega
        have hkl : k < L.length := by rw [hn.out]; exact hlt
        have hsd := sum_drop hkl
        have hsl := sum_drop_le L k
        have hz32 : 32 ≤ sz (entAt L k) := by unfold sz; omega
        obtain ⟨hsx, hsy⟩ := hs.out.at hkl
        obtain ⟨rfl, hbl, hc1, hc2, _, _⟩ := hR.out.get hlt
        obtain ⟨S, hSd⟩ : ∃ S, sumL (L.drop k) = S := ⟨_, rfl⟩
        have hT1 := hT.out
        rw [hSd] at hsd hsl hT1
        obtain ⟨a1, a2, a3, a4, a5, a6⟩ := three_cells hT1
        by_cases hgt : most < (S : Int)
        · have hstep := least_step (m := most.toNat) hkl (by rw [hSd]; omega)
          obtain ⟨e, he⟩ : ∃ e, entAt L k = e := ⟨_, rfl⟩
          rw [he] at hsx hsy hc1 hc2 hsd
          obtain ⟨x, y⟩ := e
          have hsz : sz (x, y) = x.size + y.size + 32 := rfl
          rw [hsz] at hsd
          have hS1 := hS.out
          have HL2 := Lib.hid (hL.out.trans hstep)
          obtain ⟨S2, hS2⟩ : ∃ S2, sumL (L.drop (k + 1)) = S2 := ⟨_, rfl⟩
          rw [hS2] at hsd
          have e1 : IntKind.i64.wrap ((S : Int) - ((x.size : Int) + (y.size : Int) + 32)) = (S2 : Int) := by rw [IntKind.wrap_i64]; omega
          have e2 : IntKind.i64.wrap ((k : Int) + 1) = ((k + 1 : Nat) : Int) := by rw [IntKind.wrap_i64]; omega
          have hof := off_add_addr b off (k * 2)
          have hk0 : (0 : Int) ≤ (k : Int) := by omega
          have HT1 := Lib.hid hT1
          have HS2 := Lib.hid hS2
          have HT1d : Hid (wr.drew.heap[g]? = some (.cells #[.int .i64 M, .int .i64 (S : Int), .slice (some ⟨b, off, none⟩) n c] 80 (0, 0))) := HT1
          have q1 : wr.drew.cell? ⟨g, 1, none⟩ = some (.int .i64 (S : Int)) := a2
          have q2 : wr.drew.cell? ⟨g, 2, none⟩ = some (.slice (some ⟨b, off, none⟩) n c) := a3
          have q3 : wr.drew.frozen? ⟨g, 1, none⟩ = false := a5
          have q4 : wr.drew.cell? ⟨b, off + k * 2, none⟩ = some (.string x) := hc1
          have q5 : wr.drew.cell? ⟨b, off + k * 2 + 1, none⟩ = some (.string y) := hc2
          have hbd : b < wr.drew.heap.size := hbl
          have HBG := Lib.hid (h.out.2.2.2 (by have := hR.out.le; omega))
          clear hT1 hS2 hSd hsd hsl hsz he hstep hkl hL hT hS1 hz32
          go_wp2_with fail
          go_region_law (go_simp; go_at_call 57; (with_reducible refine (entsize_keep g b (off + k * 2) _ _ _ _ x y _ hsx hsy HT1d.out hbd q4 q5).mono ?_); rintro e w5 ⟨rfl, h5, k0, k1, k2, k3, k4, k5, hB5⟩)
          all_goals
            have T6 := set3_1 (y := .int .i64 (S2 : Int)) h5
            rw [← HS2.out] at T6
            have hR5 : Row w5 b (some ⟨b, off, none⟩) off n c L := hR.out.kept hB5.size (hB5.block b)
            have R6 := Lib.hid (hR5.kept (w' := w5.setCell ⟨g, 1, none⟩ (.int .i64 (S2 : Int))) (by simp) (fun _ => Below.heap_setCell w5 ⟨g, 1, none⟩ (.int .i64 (S2 : Int)) b HBG.out))
            have K6 := Lib.hid (((hK.out.drew).trans (Kept2.of_below (g := g) (b := b) hB5) (.inl rfl)).setCell (p := ⟨g, 1, none⟩) (.inl rfl) (.int .i64 (S2 : Int)))
            have T7 := Lib.hid T6
            clear T6 hR5 h5 k0 k1 k2 k3 k4 k5 hB5
            go_wp2_with fail
            go_roundw
            case rel => exact ⟨k + 1, by omega, rfl, by rw [HS2.out] at T7; rw [HS2.out]; exact T7, R6, HL2, K6⟩
            case measure => simp [intOf] <;> omega
        · have hng : ¬ most < (S : Int) := hgt
          have HE : Hid (L.drop k = [] ∨ (sumL (L.drop k) : Int) ≤ most) := .inr (by rw [hSd]; omega)
          clear hsd hsl hz32 hSd hT1 hc1 hc2
          go_wp2_with fail
          go_meet
          exact ⟨k, hk, rfl, hT, hR, hL, HE, hK⟩
      · have hli : ¬ ((k : Int) < (n : Int)) := by omega
        have HE : Hid (L.drop k = [] ∨ (sumL (L.drop k) : Int) ≤ most) := .inl (List.drop_of_length_le (by rw [hn.out]; omega))
        obtain ⟨a1, a2, a3, a4, a5, a6⟩ := three_cells hT.out
        go_wp2_with fail
        go_meet
        exact ⟨k, hk, rfl, hT, hR, hL, HE, hK⟩
  case rest =>
    obtain ⟨k, hk, rfl, hT, hR, hL, hE, hK⟩ := hcut
    have hkl : k ≤ L.length := by rw [hn.out]; exact hk
    have hnc := hR.out.le
    obtain ⟨a1, a2, a3, a4, a5, a6⟩ := three_cells hT.out
    obtain ⟨S, hSd⟩ : ∃ S, sumL (L.drop k) = S := ⟨_, rfl⟩
    have hSl := Lib.hid hSd
    clear hSd
    have hdl : (L.drop k).length = n - k := by rw [List.length_drop, hn.out]
    have HDL := Lib.hid hdl
    clear hdl
    have hk0 : (0 : Int) ≤ (k : Int) := by omega
    have HCL := Lib.hid (hR.out.cleared hk (.string ⟨#[]⟩))
    have HMIN := Lib.hid (show leastL L.reverse most.toNat = (L.drop k).reverse from by
      rw [hL.out]
      rcases hE.out with h0 | h0
      · rw [h0]; rfl
      · exact leastL_fits _ _ (by rw [sum_rev]; omega))
    rcases Nat.eq_zero_or_pos c with hc0 | hc0
    · have hk00 : k = 0 := by omega
      have hn00 : n = 0 := by omega
      have hbg := h.out.2.2.1 hc0
      subst hc0
      subst hk00
      subst hn00
      subst hbg
      have hL0 : L = [] := List.length_eq_zero_iff.1 hn.out
      subst hL0
      have T5 := Lib.hid (set3_2 (y := .slice ao 0 0) hT.out)
      have K5 := Lib.hid (hK.out.setCell (p := ⟨b, 2, none⟩) (.inl rfl) (.slice ao 0 0))
      have hc0' : wc.setCells b off (List.replicate (0 * 2) (.string ⟨#[]⟩)) = wc := rfl
      go_wp2_with fail
      rw [run_clear_row hR.out hk, hc0']
      go_wp2_with fail
      go_end0
      exact ⟨rfl, 0, b, ao, off, 0, hkl, ⟨T5.out, Row.empty _ _ _ _, fun _ => rfl, fun h => absurd h (Nat.lt_irrefl 0)⟩, HMIN.out, hE.out, K5.out, .inl rfl⟩
    · obtain rfl := hR.out.addr hc0
      have HBG := Lib.hid (h.out.2.2.2 hc0)
      have hkc : (k : Int) ≤ (c : Int) := by omega
      have hc1 : ¬ c = 0 := by omega
      have hof := off_add_addr b off (k * 2)
      have hof0 : ((⟨b, off, none⟩ : Addr).add 0) = ⟨b, off, none⟩ := by rw [off_add_addr]; rfl
      have hgl := world_lt hT.out
      have HT4 := Lib.hid ((World.heap_setCells_other wc b off (List.replicate (k * 2) (.string ⟨#[]⟩)) hgl (fun e => HBG.out e.symm)).trans hT.out)
      have HK4 := Lib.hid (hK.out.trans (Kept2.of_setCells g b wc off (List.replicate (k * 2) (.string ⟨#[]⟩))) (.inl rfl))
      go_wp2_with fail
      rw [run_clear_row hR.out hk]
      generalize wc.setCells b off (List.replicate (k * 2) (.string ⟨#[]⟩)) = W4 at HCL HT4 HK4 ⊢
      clear a1 a2 a3 a4 a5 a6
      obtain ⟨a1, a2, a3, a4, a5, a6⟩ := three_cells HT4.out
      have hkn : (k : Int) ≤ (n : Int) := by omega
      by_cases hck : c = k
      · have hnk : n = k := by omega
        have hd0 : L.drop k = [] := List.drop_of_length_le (by rw [hn.out]; omega)
        have T5 := Lib.hid (set3_2 (y := .slice (some ⟨b, off, none⟩) 0 0) HT4.out)
        have K5 := Lib.hid (HK4.out.setCell (p := ⟨g, 2, none⟩) (.inl rfl) (.slice (some ⟨b, off, none⟩) 0 0))
        have e1 : n - k = 0 := by omega
        have e2 : c - k = 0 := by omega
        have HD0 := Lib.hid hd0
        clear hd0
        have HT5 : Hid (TRaw (W4.setCell ⟨g, 2, none⟩ (.slice (some ⟨b, off, none⟩) 0 0)) g g M (sumL (L.drop k) : Int) (some ⟨b, off, none⟩) off 0 (L.drop k)) := Lib.hid (by
          rw [HD0.out] at T5 ⊢
          exact ⟨T5.out, Row.empty _ _ _ _, fun _ => rfl, fun h => absurd h (Nat.lt_irrefl 0)⟩)
        clear T5
        go_wp2_with fail
        go_end0
        exact ⟨rfl, k, g, _, _, _, hkl, HT5.out, HMIN.out, hE.out, K5.out, .inr rfl⟩
      · have T5 := Lib.hid (set3_2 (y := .slice (some ⟨b, off + k * 2, none⟩) (n - k) (c - k)) HT4.out)
        have K5 := Lib.hid (HK4.out.setCell (p := ⟨g, 2, none⟩) (.inl rfl) (.slice (some ⟨b, off + k * 2, none⟩) (n - k) (c - k)))
        have R5 := HCL.out
        rw [if_neg hck, Option.map_some, hof] at R5
        have HT5 : Hid (TRaw (W4.setCell ⟨g, 2, none⟩ (.slice (some ⟨b, off + k * 2, none⟩) (n - k) (c - k))) g b M (sumL (L.drop k) : Int) (some ⟨b, off + k * 2, none⟩) (off + k * 2) (c - k) (L.drop k)) := Lib.hid (by
          unfold TRaw
          rw [HDL.out]
          exact ⟨T5.out, R5.kept (by simp) (fun _ => Below.heap_setCell W4 ⟨g, 2, none⟩ _ b HBG.out), fun h => by omega, fun _ => HBG.out⟩)
        clear T5 R5
        go_wp2_with fail
        go_end0
        exact ⟨rfl, k, b, _, _, _, hkl, HT5.out, HMIN.out, hE.out, K5.out, .inl rfl⟩
end Go.Proofs.Ytamgnbjdeoklbaa
