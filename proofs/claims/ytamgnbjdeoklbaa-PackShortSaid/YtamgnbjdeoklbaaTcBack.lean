/- slices.Backward over a table's row: its function hands on the entries from the last one to the first. For rows of at most 1000 entries. -/
import Derived.Test.YtamgnbjdeoklbaaProg
import Derived.Test.YtamgnbjdeoklbaaTbMath
import Derived.Test.YtamgnbjdeoklbaaTbMem
import Derived.Test.YtamgnbjdeoklbaaTbLeast
import Derived.Test.YtamgnbjdeoklbaaTcMem
import Derived.Test.YtamgnbjdeoklbaaTcLow
import Derived.Test.YtamgnbjdeoklbaaTcRange
import Derived.RangeFuncNested
import Derived.RangeFuncBound
import Derived.RangeFuncCalls
import Derived.RangeFuncLeaves
import Derived.Shelf.Abstract
import Derived.Shelf.RegionOpen
import Derived.WalkKit
import Derived.OwnWalkIn
import Derived.TacticsInMore
import Derived.LoopNIn
import Derived.LoopIn
import Derived.Lib.Hide
namespace Go.Proofs.Ytamgnbjdeoklbaa
open Go Go.RowKit Go.Shelf Tb
attribute [local go_sem] Oper.semAt_some

namespace Tb
/-- What has come of a row that is gone through backwards: the last k ones. -/
def backs (L : List Ent) (n k : Nat) : List (Nat × Ent) := (List.range k).map fun j => (n - 1 - j, entAt L (n - 1 - j))
theorem backs_succ (L : List Ent) (n k : Nat) : backs L n (k + 1) = backs L n k ++ [(n - 1 - k, entAt L (n - 1 - k))] := by unfold backs; rw [List.range_succ, List.map_append]; rfl
theorem backs_len (L : List Ent) (n k : Nat) : (backs L n k).length = k := by unfold backs; rw [List.length_map, List.length_range]
end Tb

set_option maxHeartbeats 4000000 in
set_option maxRecDepth 100000 in
theorem back_seq (Bs b off n c : Nat) (ao : Option Addr) (L : List Ent) (Pr : Nat → Prop) (w : World) (hn : n ≤ 1000) (hBs : Pr Bs) (hPb : 0 < c → Pr b) (hbs : w.cell? ⟨Bs, 0, none⟩ = some (.slice ao n c)) (hr : Row w b ao off n c L) :
    SeqU Try.prog 86 #[] #[.pointer (some ⟨Bs, 0, none⟩)] (fun x : Nat × Ent => #[.int .i64 (x.1 : Int), .agg #[.string x.2.1, .string x.2.2]]) Pr (fun ys => ys = backs L n n) (fun pre => ∃ k, k ≤ n ∧ pre = backs L n k) n w := by
  intro m J Jx W hW hsz hJ hJx hY h0
  have hbsW := (hW.cell (p := ⟨Bs, 0, none⟩) (World.block_lt_of_cell? _ _ hbs)).trans hbs
  have hrW : Row W b ao off n c L := hr.kept hW.size (hW.block b)
  have HBS := Lib.hid hbsW
  have HRW := Lib.hid hrW
  clear hbs hr hbsW hrW
  obtain ⟨v0, hv0⟩ : ∃ v0 : Int, (n : Int) - 1 = v0 := ⟨_, rfl⟩
  have e0 : IntKind.i64.wrap ((n : Int) - 1) = v0 := by rw [IntKind.wrap_i64]; omega
  have e0' : wrap64 ((n : Int) - 1) = v0 := by unfold wrap64; omega
  have HV := Lib.hid hv0
  clear hv0
  refine callsIn_of_wp Try.func86 rfl trivial ?_ rfl
  simp only [Try.ntmps86, List.size_toArray, List.length_cons, List.length_nil, Nat.reduceAdd, Nat.reduceSub, Array.replicate_succ, Array.replicate_zero, List.push_toArray, List.append_toArray, List.nil_append, List.cons_append]
  have hb0 := HBS.out
  gi_wp2
  gi_loopw [3] (fun i wr => ∃ (k : Nat) (v : Int), k ≤ n ∧ i = .int .i64 v ∧ Hid (v = (n : Int) - 1 - (k : Int)) ∧ J (backs L n k) wr ∧ KU Pr (w.heap.size + 2) W wr) (fun i _ => ((intOf i) + 1).toNat)
  case atStart => exact ⟨0, v0, Nat.zero_le _, rfl, Lib.hid (by have := HV.out; omega), h0, KU.refl _ _ _⟩
  case round =>
    obtain ⟨k, v, hk, rfl, hv, hJs, hku⟩ := hrel
    have hbr := (World.cell?_of_block (w := W) (w' := wr) (a := ⟨Bs, 0, none⟩) (hku.same Bs (World.block_lt_of_cell? _ _ HBS.out) (.inl hBs))).trans HBS.out
    have hrr : Row wr b ao off n c L := by
      rcases Nat.eq_zero_or_pos c with h0 | h0
      · have hL : L = [] := List.length_eq_zero_iff.1 (by have := HRW.out.len; have := HRW.out.le; omega)
        have hn0 : n = 0 := by have := HRW.out.le; omega
        subst h0; subst hL; subst hn0
        exact Row.empty _ _ _ _
      · exact HRW.out.kept hku.size (fun hl => hku.same b hl (.inl (hPb h0)))
    by_cases hlt : k < n
    · obtain ⟨j, hj⟩ : ∃ j : Nat, n - 1 - k = j := ⟨_, rfl⟩
      have hjn : j < n := by omega
      have hvj : v = (j : Int) := by have := hv.out; omega
      subst hvj
      obtain ⟨rfl, hbl, hc1, hc2, _, _⟩ := hrr.get hjn
      obtain ⟨fn, tmps, assign, body, hy, hR⟩ := hY _ (j, entAt L j) wr hJs (by rw [backs_len]; exact hlt)
      have hs := backs_succ L n k
      rw [hj] at hs
      generalize entAt L j = e at hc1 hc2 hy hR hs
      obtain ⟨x, y⟩ := e
      dsimp only at hy hc1 hc2
      have hof := off_add_addr b off (j * 2)
      have hj0 : (0 : Int) ≤ (j : Int) := by omega
      have hji : (j : Int) < (n : Int) := by omega
      obtain ⟨v1, hv1⟩ : ∃ v1 : Int, (j : Int) - 1 = v1 := ⟨_, rfl⟩
      have e1 : IntKind.i64.wrap ((j : Int) - 1) = v1 := by rw [IntKind.wrap_i64]; omega
      have e1' : wrap64 ((j : Int) - 1) = v1 := by unfold wrap64; omega
      have HV1 := Lib.hid (show v1 = (n : Int) - 1 - ((k + 1 : Nat) : Int) by omega)
      have HS := Lib.hid hs
      have hm1 : v1 + 1 = (j : Int) := by omega
      have HM := Lib.hid hm1
      clear hv1 hs hm1 hj hv
      gi_wp2
      refine ⟨fun h => (by cases h), hR.mono ?_⟩
      rintro e W3 (⟨rfl, hJ3, hk3⟩ | ⟨rfl, hJx3, hk3⟩)
      · gi_wp2
        go_roundw
        case rel => exact ⟨k + 1, v1, by omega, rfl, HV1, by rw [HS.out]; exact hJ3, hku.trans hk3⟩
        case measure => have := HM.out; simp [intOf]; omega
      · gi_wp2
        refine bodyPost_ret (results_none rfl _ _ _) rfl ?_
        exact ⟨⟨_, rfl⟩, .inr ⟨_, ⟨k + 1, by omega, HS.out.symm⟩, hJx3⟩⟩
    · have hkn : k = n := by omega
      have hneg : v < 0 := by have := hv.out; omega
      rw [hkn] at hJs
      clear hbr hrr
      gi_wp2
      go_end0
      exact ⟨⟨_, rfl⟩, .inl ⟨_, rfl, hJs⟩⟩
end Go.Proofs.Ytamgnbjdeoklbaa
