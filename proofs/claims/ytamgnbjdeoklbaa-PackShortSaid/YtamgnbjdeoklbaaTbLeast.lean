/- The contract of the document's least: as many of the youngest entries as come to no more than a size. For entries of at most 10^9 bytes together. -/
import Derived.Test.YtamgnbjdeoklbaaProg
import Derived.Test.YtamgnbjdeoklbaaTbMath
import Derived.Test.YtamgnbjdeoklbaaTbMem
import Derived.WalkKit
import Derived.Lib.Hide
import Derived.Outline
import Derived.IntWalk
import Derived.WalkSpells
import Derived.WalkLawsBesides
import Derived.Deep.QuietTactic
import Derived.BigQuiet
import Derived.Laws.Rows
namespace Go.Proofs.Ytamgnbjdeoklbaa
open Go.RowKit Tb

namespace Tb
theorem entAt_drop {L : List Ent} {k : Nat} (h : k < L.length) : L.drop k = entAt L k :: L.drop (k + 1) := by
  unfold entAt
  rw [List.drop_eq_getElem_cons h, List.getD_eq_getElem?_getD, List.getElem?_eq_getElem h]
  rfl
theorem entAt_take {L : List Ent} {k : Nat} (h : k < L.length) : L.take (k + 1) = L.take k ++ [entAt L k] := by
  unfold entAt
  rw [List.take_succ_eq_append_getElem h, List.getD_eq_getElem?_getD, List.getElem?_eq_getElem h]
  rfl
theorem sum_take {L : List Ent} {k : Nat} (h : k < L.length) : sumL (L.take (k + 1)) = sumL (L.take k) + sz (entAt L k) := by
  rw [entAt_take h, sumL_cat]
  rfl
theorem sum_take_le (L : List Ent) (k : Nat) : sumL (L.take k) ≤ sumL L := by
  have h := sumL_cat (L.take k) (L.drop k)
  rw [List.take_append_drop] at h
  omega
end Tb

set_option maxHeartbeats 4000000 in
set_option maxRecDepth 100000 in
theorem least_is (A : Option Addr) (n c : Nat) (L R : List Ent) (most : Int) (w : World) (hn : Hid (L.length = n)) (hr : Hid (RdE w w.heap.size A L)) (hs : Hid (sumL L ≤ 1000000000)) (hb1 : -9223372036854775808 ≤ most) (hb2 : most ≤ 9223372036854775807) (hR : Hid (leastL L most.toNat = R)) :
    Calls Try.prog 53 #[.slice A n c, .int .i64 most] w fun e w' => ∃ v, e = .returned v ∧ w'.ownsRow w.heap.size 95 2 v R.length (entCs R) ∧ Below w.heap.size w w' := by
  obtain ⟨i0, hi, hz0, hz1, hz2⟩ := info_parts infoE
  have HI := Lib.hid hi; clear hi
  have HZ0 := Lib.hid hz0; clear hz0
  have HZ1 := Lib.hid hz1; clear hz1
  have HZ2 := Lib.hid hz2; clear hz2
  obtain ⟨m, hm⟩ : ∃ m, most.toNat = m := ⟨_, rfl⟩
  rw [hm] at hR
  have hlen := sumL_ge L
  have hnb : n ≤ 31250000 := by have := hs.out; have := hn.out; omega
  clear hlen
  generalize hg : w.heap.size = g at *
  have G := Lib.hid hg; clear hg
  go_enter Try.func53, Try.ntmps53
  go_wp2_with fail
  go_loopw [5, 6, 7] (fun o x i wr => ∃ (k S : Nat), k ≤ n ∧ x = .int .i64 (S : Int) ∧ i = .int .i64 (k : Int) ∧ Hid (S = sumL (L.take k)) ∧ S ≤ m ∧ Hid (wr.ownsRow g 95 2 o k (entCs (L.take k))) ∧ Hid (L.take k ++ leastL (L.drop k) (m - S) = R) ∧ Below g w wr) (fun _ _ i _ => n - (intOf i).toNat)
  case atStart => exact ⟨0, 0, by omega, rfl, rfl, Lib.hid rfl, by omega, Lib.hid (World.ownsRow_nil _ _ _ _), hR, Below.refl _ _⟩
  case round =>
    obtain ⟨k, S, hk, rfl, rfl, hS, hSm, hO, hF, hB⟩ := hrel
    have hSb : S ≤ 1000000000 := by rw [hS.out]; exact Nat.le_trans (sum_take_le _ _) hs.out
    by_cases hlt : k < n
    · have hkl : k < L.length := by rw [hn.out]; exact hlt
      obtain ⟨b, o, rfl, hab, hc1, hc2⟩ := hr.out.get hkl
      have hs2 := Nat.le_trans (sum_take_le L (k + 1)) hs.out
      have hst := sum_take hkl
      rw [← hS.out] at hst
      rw [hst] at hs2
      have hF1 := hF.out
      rw [entAt_drop hkl, leastL] at hF1
      have htk := entAt_take hkl
      obtain ⟨e, he⟩ : ∃ e, entAt L k = e := ⟨_, rfl⟩
      rw [he] at hc1 hc2 hs2 hst hF1 htk
      obtain ⟨x, y⟩ := e
      have hsz : sz (x, y) = x.size + y.size + 32 := rfl
      rw [hsz] at hs2 hst hF1
      have hd1 := (hB.cell (p := ⟨b, o + k * 2, none⟩) hab).trans hc1
      have hd2 := (hB.cell (p := ⟨b, o + k * 2 + 1, none⟩) hab).trans hc2
      have hof := off_add_addr b o (k * 2)
      have HST := Lib.hid hst
      have HTK := Lib.hid htk
      have HE := Lib.hid he
      clear hc1 hc2 hst htk he hsz hF
      have hk1 : (0 : Int) ≤ (k : Int) := by omega
      have hk2 : (k : Int) < (n : Int) := by omega
      have e1 : IntKind.i64.wrap ((S : Int) + (x.size : Int)) = (S : Int) + (x.size : Int) := by rw [IntKind.wrap_i64]; omega
      have e2 : IntKind.i64.wrap ((S : Int) + (x.size : Int) + (y.size : Int)) = (S : Int) + (x.size : Int) + (y.size : Int) := by rw [IntKind.wrap_i64]; omega
      obtain ⟨S2, hS2⟩ : ∃ S2, S + (x.size + y.size + 32) = S2 := ⟨_, rfl⟩
      have e3 : IntKind.i64.wrap ((S : Int) + (x.size : Int) + (y.size : Int) + 32) = (S2 : Int) := by rw [IntKind.wrap_i64]; omega
      have hdk : decide ((k : Int) < (n : Int)) = true := by rw [decide_eq_true_eq]; omega
      go_wp2_with fail
      go_quiet (fail)
      by_cases hgo : S2 ≤ m
      · have hgi : (S2 : Int) ≤ most := by omega
        rw [if_pos (by omega)] at hF1
        have HS2 := Lib.hid (show S2 = sumL (L.take (k + 1)) by rw [HST.out, hS2])
        have HF1 := Lib.hid (show L.take (k + 1) ++ leastL (L.drop (k + 1)) (m - S2) = R by
          rw [HTK.out, List.append_assoc, ← hF1, show m - S2 = m - S - (x.size + y.size + 32) by omega]
          rfl)
        clear hF1
        go_wp2_with (at_builtin; refine wpList_append_own _ rfl _ _ 47 rfl g 95 i0 (.agg #[.string ⟨#[]⟩, .string ⟨#[]⟩]) 2 32 Try.underlying47 HI.out HZ0.out HZ1.out HZ2.out rfl (by decide) _ _ _ rfl ((own_drewN hO.out _).alloc _) ⟨wr.heap.size, 0, none⟩ 1 1 [.string x, .string y] rfl rfl ?d1 ?d2 ?d3 ?d4 ?d5 ?_)
        case d1 =>
          intro j u hj
          match j, hj with
          | 0, hj => simp at hj; subst hj; rw [zero_add_addr]; exact cell_of_row _ wr.heap.size 0 #[.string x, .string y] _ _ (heap_alloc_new (wr.drewN _) _)
          | 1, hj => simp at hj; subst hj; rw [zero_add_addr]; exact cell_of_row _ wr.heap.size 1 #[.string x, .string y] _ _ (heap_alloc_new (wr.drewN _) _)
        case d2 =>
          intro u hu
          simp at hu
          rcases hu with rfl | rfl <;> rfl
        case d3 => unfold maxLen; omega
        case d4 => omega
        case d5 => have := hB.size; have := G.out; simp; omega
        intro v' w2 hown hgrow _
        have RS := own_ent (e := (x, y)) (own_drewN hO.out _) (below_drewN hB _) G.out hown hgrow
        have R1 := Lib.hid RS.1
        have R2 := RS.2
        clear RS hown hgrow
        rw [← HTK.out] at R1
        go_wp2_with fail
        go_roundw
        case rel => exact ⟨k + 1, S2, by omega, rfl, rfl, HS2, hgo, R1, HF1, R2⟩
        case measure => simp [intOf] <;> omega
      · have hgi : ¬ (S2 : Int) ≤ most := by omega
        rw [if_neg (by omega), List.append_nil] at hF1
        have hl : R.length = k := by rw [← hF1, List.length_take]; omega
        have hO2 := hO.out
        rw [hF1] at hO2
        go_wp2_with fail
        go_ret
        exact ⟨_, rfl, hO2, below_drewN hB _⟩
    · have e : k = n := by omega
      have hF1 := hF.out
      rw [List.drop_of_length_le (by rw [hn.out]; omega), leastL, List.append_nil] at hF1
      have hl : R.length = k := by rw [← hF1, List.length_take, hn.out]; omega
      have hO2 := hO.out
      rw [hF1] at hO2
      clear hF hF1
      go_wp2_with fail
      go_ret
      exact ⟨_, rfl, by first | exact hO2 | (rw [hl]; exact hO2), hB⟩
end Go.Proofs.Ytamgnbjdeoklbaa
