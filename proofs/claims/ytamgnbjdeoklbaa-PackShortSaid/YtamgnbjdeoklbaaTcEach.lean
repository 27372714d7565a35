/- The program's each: it hands on the fixed entries, then the table's, by their numbers. For at most 1000 entries. -/
import Derived.Test.YtamgnbjdeoklbaaProg
import Derived.Test.YtamgnbjdeoklbaaTbMath
import Derived.Test.YtamgnbjdeoklbaaTbMem
import Derived.Test.YtamgnbjdeoklbaaTbLeast
import Derived.Test.YtamgnbjdeoklbaaTbFix
import Derived.Test.YtamgnbjdeoklbaaTcMem
import Derived.Test.YtamgnbjdeoklbaaTcLow
import Derived.Test.YtamgnbjdeoklbaaTcCut
import Derived.Test.YtamgnbjdeoklbaaTcShrink
import Derived.Test.YtamgnbjdeoklbaaTcAdd
import Derived.Test.YtamgnbjdeoklbaaTcAt
import Derived.Test.YtamgnbjdeoklbaaTcRange
import Derived.Test.YtamgnbjdeoklbaaTcBack
import Derived.RangeFuncNested
import Derived.RangeFuncBound
import Derived.RangeFuncCalls
import Derived.RangeFuncLeaves
import Derived.Shelf.Abstract
import Derived.Shelf.RegionOpen
import Derived.WalkKit
import Derived.OwnWalkIn
import Derived.TacticsInMore
import Derived.LoopNIn
import Derived.LoopIn
import Derived.Lib.Hide
namespace Go.Proofs.Ytamgnbjdeoklbaa
open Go Go.RowKit Go.Shelf Tb
attribute [local go_sem] Oper.semAt_some

namespace Tb
/-- The first k entries with their numbers. -/
def nums (l : List Ent) (k : Nat) : List (Int × Ent) := (List.range k).map fun (j : Nat) => (((j + 1 : Nat) : Int), entAt l j)
theorem nums_succ (l : List Ent) (k : Nat) : nums l (k + 1) = nums l k ++ [(((k + 1 : Nat) : Int), entAt l k)] := by unfold nums; rw [List.range_succ, List.map_append]; rfl
theorem nums_len (l : List Ent) (k : Nat) : (nums l k).length = k := by unfold nums; rw [List.length_map, List.length_range]
/-- A table's entry, with its number. -/
def conv (n : Nat) (x : Nat × Ent) : Int × Ent := (IntKind.i64.wrap ((61 : Int) + (n : Int) - (x.1 : Int)), x.2)
theorem nums_backs (t : List Ent) (n k : Nat) (hn : t.length = n) (hk : k ≤ n) (hb : n ≤ 1000) : nums (fixedT ++ t) 61 ++ (backs t.reverse n k).map (conv n) = nums (fixedT ++ t) (61 + k) := by
  induction k with
  | zero => exact List.append_nil _
  | succ k ih =>
    rw [backs_succ, List.map_append, ← List.append_assoc, ih (by omega), ← Nat.add_assoc, nums_succ]
    have h1 : entAt t.reverse (n - 1 - k) = entAt t k := by rw [← hn]; exact entAt_rev (by omega)
    have h2 : entAt (fixedT ++ t) (61 + k) = entAt t k := by rw [entAt_right (by show 61 ≤ 61 + k; omega)]; congr 1; show 61 + k - 61 = k; omega
    have h3 : IntKind.i64.wrap ((61 : Int) + (n : Int) - ((n - 1 - k : Nat) : Int)) = ((61 + k + 1 : Nat) : Int) := by rw [IntKind.wrap_i64]; omega
    rw [h2]
    show _ ++ [(IntKind.i64.wrap ((61 : Int) + (n : Int) - ((n - 1 - k : Nat) : Int)), entAt t.reverse (n - 1 - k))] = _
    rw [h1, h3]
end Tb
set_option maxHeartbeats 1000000 in
theorem back_is (a : Option Addr) (n c : Nat) (w : World) (m : Nat) :
    CallsIn Fence.wide m Try.prog 74 #[.slice a n c] w fun e w' => e = .returned (.func (.func 86) #[] #[.pointer (some ⟨w.heap.size, 0, none⟩)]) ∧ w' = w.alloc (.cells #[.slice a n c] 78) := by
  refine callsIn_of_wp Try.func74 rfl trivial ?_ rfl
  simp only [Try.ntmps74, List.size_toArray, List.length_cons, List.length_nil, Nat.reduceAdd, Nat.reduceSub, Array.replicate_succ, Array.replicate_zero, List.push_toArray, List.append_toArray, List.nil_append, List.cons_append]
  gi_wp2
  go_ret
  exact ⟨rfl, rfl⟩

set_option maxHeartbeats 4000000 in
set_option maxRecDepth 100000 in
theorem each_seq (g b n0 : Nat) (t : Tab) (w : World) (ht : TAt w g b t) (hf : Fit t) (hg : g < n0) (hb : b < n0) (hn0 : n0 ≤ w.heap.size) :
    SeqU Try.prog 63 #[.pointer (some ⟨g, 0, none⟩)] #[] (fun x : Int × Ent => #[.int .i64 x.1, .agg #[.string x.2.1, .string x.2.2]]) (fun k => k < n0) (fun ys => ys = nums (fixedT ++ t.2) (61 + t.2.length)) (fun pre => ∃ k, k ≤ 61 + t.2.length ∧ pre = nums (fixedT ++ t.2) k) (61 + t.2.length) w := by
  intro m J Jx W hW hsz hJ hJx hY h0
  have htW := ht.below hW
  obtain ⟨M, hM⟩ : ∃ M, w.heap.size + 2 = M := ⟨_, rfl⟩
  rw [hM] at hsz hJ hJx hY
  obtain ⟨n, hn⟩ : ∃ n, t.2.length = n := ⟨_, rfl⟩
  rw [hn] at hY ⊢
  have hnb : n ≤ 1000 := by rw [← hn]; exact hf.1
  obtain ⟨l, hl⟩ : ∃ l, w.heap.size + 1 = l := ⟨_, rfl⟩
  rw [hl] at hY ⊢
  have HM0 := Lib.hid hn0
  have HM := Lib.hid hM
  have HSZ := Lib.hid hsz
  obtain ⟨W0, hW0⟩ : ∃ W0, (W.alloc (.cells #[.pointer (some ⟨g, 0, none⟩)] 38)).alloc (.cells #[.func (.yield l) #[] #[]] 126) = W0 := ⟨_, rfl⟩
  have hB0 : Below M W W0 := by rw [← hW0]; exact ((Below.refl M W).alloc (by omega) _).alloc (by simp; omega) _
  have hc0 : W0.heap[M]? = some (.cells #[.pointer (some ⟨g, 0, none⟩)] 38 (0, 0)) := by rw [← hW0, ← hsz]; exact heap_alloc2_old W _ _
  have hc1 : W0.heap[M + 1]? = some (.cells #[.func (.yield l) #[] #[]] 126 (0, 0)) := by rw [← hW0, ← hsz]; exact heap_alloc2_new W _ _
  have HC0 := Lib.hid hc0
  have HC1 := Lib.hid hc1
  have HJ0 := Lib.hid (hJ _ _ _ h0 hB0)
  have HB0 := Lib.hid hB0
  have HTW := Lib.hid htW
  clear hM hc0 hc1 h0 hB0 htW hn0
  refine callsIn_of_wp_marks Try.func63 rfl trivial ?_ rfl
  simp only [Try.ntmps63, List.size_toArray, List.length_cons, List.length_nil, Nat.reduceAdd, Nat.reduceSub, Array.replicate_succ, Array.replicate_zero, List.push_toArray, List.append_toArray, List.nil_append, List.cons_append]
  gi_wp2
  gi_loopw [4, 5, 6] (fun r i u6 wr => ∃ k : Nat, k ≤ 61 ∧ r = .string (bs (restN k)) ∧ i = .int .i64 ((k + 1 : Nat) : Int) ∧ Hid (J (nums (fixedT ++ t.2) k) wr) ∧ Hid (wr.heap[M]? = some (.cells #[.pointer (some ⟨g, 0, none⟩)] 38 (0, 0))) ∧ Hid (wr.heap[M + 1]? = some (.cells #[.func (.yield l) #[] #[]] 126 (0, 0))) ∧ Hid (KU (fun k => k < n0) M W wr)) (fun _ i _ _ => 62 - (intOf i).toNat)
  case atStart => exact ⟨0, by omega, (congrArg Value.string (bs_self namesB)).symm, rfl, HJ0, HC0, HC1, Lib.hid ⟨HB0.out.size, fun k hk hp => HB0.out.block k (by have := HM0.out; have := HM.out; have := HSZ.out; rcases hp with h | h <;> omega)⟩⟩
  case round =>
    obtain ⟨k, hk, rfl, rfl, hJs, hc0, hc1, hku⟩ := hrel
    by_cases hlt : k < 61
    · have hli : ((k + 1 : Nat) : Int) ≤ 61 := by omega
      have hrl := restN_len k
      have hk1 : Hid (k + 1 ≤ 61 + n) := Lib.hid (by omega)
      have hfx := fixed_at hlt
      obtain ⟨K, hK⟩ : ∃ K : Nat, k + 1 = K := ⟨_, rfl⟩
      rw [hK] at hli
      have HK := Lib.hid hK
      have hE0 := heap_alloc_new wr (.cells #[.string ⟨#[]⟩, .string ⟨#[]⟩] 82)
      have hA := (Below.refl wr.heap.size wr).alloc (Nat.le_refl _) (.cells #[.string ⟨#[]⟩, .string ⟨#[]⟩] 82)
      obtain ⟨E, hE⟩ : ∃ E, wr.heap.size = E := ⟨_, rfl⟩
      rw [hE] at hE0 hA
      have hME : M + 1 < E := by rw [← hE]; exact world_lt hc1.out
      have HE := Lib.hid hE
      have HE0 := Lib.hid hE0
      have HA := Lib.hid hA
      obtain ⟨X1, hX1⟩ : ∃ X1, wr.alloc (.cells #[.string ⟨#[]⟩, .string ⟨#[]⟩] 82) = X1 := ⟨_, rfl⟩
      rw [hX1] at HE0 HA
      clear hE0 hA
      gi_wp2
      refine ⟨trivial, fun h => (by cases h), (callsIn_wide.2 (cut_is (restN k) _ rfl _ (by omega))).mono ?_⟩
      rintro e w3 ⟨rfl, hB3⟩
      have E3 := (hB3.block E (world_lt HE0.out)).trans HE0.out
      have B3 : Below E wr w3 := HA.out.trans (hB3.mono (Nat.le_of_lt (world_lt HE0.out)))
      obtain ⟨x, y, hxy⟩ : ∃ x y, lineE (restN k) = (x, y) := ⟨_, _, rfl⟩
      rw [hxy] at hfx ⊢
      have Z0 := zero_set (y := .string x) E3
      have Z1 := two_set (x := .string x) (y := .string y) E3
      obtain ⟨d1, d2, d3, d4⟩ := two_cells E3
      obtain ⟨f1, f2, f3, f4⟩ := two_cells Z0
      have B5 := (B3.setCell (p := ⟨E, 0, none⟩) (Nat.le_refl _) (.string x)).setCell (p := ⟨E, 1, none⟩) (Nat.le_refl _) (.string y)
      obtain ⟨W5, hW5⟩ : ∃ W5, (w3.setCell ⟨E, 0, none⟩ (.string x)).setCell ⟨E, 1, none⟩ (.string y) = W5 := ⟨_, rfl⟩
      rw [hW5] at B5 Z1
      obtain ⟨g1, g2, g3, g4⟩ := two_cells Z1
      have C0 := (B5.block M (by omega)).trans hc0.out
      have C1 := (B5.block (M + 1) (by omega)).trans hc1.out
      have c0' := cell_of_row W5 M 0 _ _ _ C0
      have c1' := cell_of_row W5 (M + 1) 0 _ _ _ C1
      obtain ⟨fn, tmps, assign, body, hy, hR⟩ := yield_any (m' := m - 1) (hY _ ((K : Int), (x, y)) W5 (hJ _ _ _ hJs.out (B5.mono (by omega))) (by rw [nums_len]; omega))
      dsimp only at hy
      have hnx := nums_succ (fixedT ++ t.2) k
      rw [entAt_left (by exact hlt), hfx] at hnx
      rw [hK] at hnx
      have HNX := Lib.hid hnx
      have HC0' := Lib.hid C0
      have HC1' := Lib.hid C1
      have HKU := Lib.hid (show KU (fun k => k < n0) M W W5 from hku.out.trans ⟨B5.size, fun i hi hp => B5.block i (by rw [← hE]; exact hi)⟩)
      clear hnx C0 C1 Z0 Z1 E3 B3 hB3 B5
      have e1 : IntKind.i64.wrap ((K : Int) + 1) = ((K + 1 : Nat) : Int) := by rw [IntKind.wrap_i64]; omega
      have e1' : wrap64 ((K : Int) + 1) = ((K + 1 : Nat) : Int) := by unfold wrap64; omega
      gi_wp2
      refine ⟨fun h => (by cases h), hR.mono ?_⟩
      rintro e W6 (⟨rfl, hJ6, hk6⟩ | ⟨rfl, hJx6, hk6⟩)
      · have C6 := Lib.hid ((hk6.same M (world_lt HC0'.out) (.inr (Nat.le_refl _))).trans HC0'.out)
        have C7 := Lib.hid ((hk6.same (M + 1) (world_lt HC1'.out) (.inr (Nat.le_succ _))).trans HC1'.out)
        have K6 := Lib.hid (HKU.out.trans hk6)
        have J6 : Hid (J (nums (fixedT ++ t.2) (k + 1)) W6) := Lib.hid (by rw [HK.out, HNX.out]; exact hJ6)
        clear hJ6 hk6
        gi_wp2
        clear e1 e1'
        have hrest : Value.string (bs (lineR (restN k))) = Value.string (bs (restN (k + 1))) := rfl
        have hint : Value.int .i64 ((K : Int) + 1) = Value.int .i64 ((k + 1 + 1 : Nat) : Int) := by rw [HK.out]; rfl
        have hms : 62 - (intOf (Value.int .i64 ((K : Int) + 1))).toNat < 62 - (intOf (Value.int .i64 ((k + 1 : Nat) : Int))).toNat := by
          have h := HK.out
          show 62 - ((K : Int) + 1).toNat < 62 - (((k + 1 : Nat) : Int)).toNat
          clear hR hy hJx hJ hY
          omega
        exact ⟨⟨k + 1, hlt, hrest, hint, J6, C6, C7, K6⟩, hms⟩
      · have J6 : Hid (Jx (nums (fixedT ++ t.2) (k + 1)) W6) := Lib.hid (by rw [HK.out, HNX.out]; exact hJx6)
        gi_wp2
        exact ⟨_, results_none rfl _ _ _, ⟨_, rfl⟩, .inr ⟨nums (fixedT ++ t.2) (k + 1), ⟨k + 1, hk1.out, rfl⟩, J6.out⟩⟩
    · have hk61 : k = 61 := by omega
      obtain ⟨K, hK⟩ : ∃ K : Nat, k + 1 = K := ⟨_, rfl⟩
      have hli : ¬ ((K : Int) ≤ 61) := by omega
      obtain ⟨r0, hr0⟩ : ∃ r0, bs (restN k) = r0 := ⟨_, rfl⟩
      rw [hK, hr0]
      have HJ61 : Hid (J (nums (fixedT ++ t.2) 61) wr) := Lib.hid (by rw [← hk61]; exact hJs.out)
      clear hJs hK hr0 hk61 hk hlt
      have c0' := cell_of_row wr M 0 _ _ _ hc0.out
      have c1' := cell_of_row wr (M + 1) 0 _ _ _ hc1.out
      have hgW := (HTW.out.lt.1)
      have htr : TAt wr g b t := HTW.out.kept hku.out.size (hku.out.same g hgW (.inl hg)) (fun hl => hku.out.same b hl (.inl hb))
      obtain ⟨⟨ao, off, c, hT0⟩, hok, hmx⟩ := htr
      have hrl : t.2.reverse.length = n := by rw [List.length_reverse]; exact hn
      unfold TRaw at hT0
      rw [hrl] at hT0
      obtain ⟨a1, a2, a3, _, _, _⟩ := three_cells hT0.1
      obtain ⟨V, hV⟩ : ∃ V, wr.alloc (.cells #[.slice ao n c] 78) = V := ⟨_, rfl⟩
      have hAV : Below wr.heap.size wr V := by rw [← hV]; exact (Below.refl _ wr).alloc (Nat.le_refl _) _
      have hn0w := HM0.out
      have hMw := HM.out
      have hVs : V.heap.size = wr.heap.size + 1 := by rw [← hV, World.size_alloc]
      have hMr := world_lt hc1.out
      have D0 := (hAV.block M (by omega)).trans hc0.out
      have D1 := (hAV.block (M + 1) (by omega)).trans hc1.out
      have D2 := (hAV.block g (world_lt hT0.1)).trans hT0.1
      have D3 := hT0.2.1.kept hAV.size (hAV.block b)
      have D4 : V.cell? ⟨wr.heap.size, 0, none⟩ = some (.slice ao n c) := by rw [← hV]; exact cell_of_row _ _ 0 _ _ _ (heap_alloc_new wr _)
      have DJ := hJ _ _ _ HJ61.out (hAV.mono (B' := M) (by omega))
      have HPb : 0 < c → b < n0 ∨ (M ≤ b ∧ b < V.heap.size) := fun _ => .inl hb
      have HRS := back_seq wr.heap.size b off n c ao t.2.reverse (fun k => k < n0 ∨ (M ≤ k ∧ k < V.heap.size)) V hnb (.inr ⟨by omega, by omega⟩) HPb D4 D3
      have HCJ := Lib.hid (fun k (hk : k ≤ n) => nums_backs t.2 n k hn hk hnb)
      have hVM : M + 1 < V.heap.size := by omega
      have HVM := Lib.hid hVM
      have HUP : Hid (∀ X Y, KU (fun k => k < n0) M X Y → KU (fun k => k < n0 ∨ (M ≤ k ∧ k < V.heap.size)) V.heap.size X Y) := Lib.hid fun X Y h => ⟨h.size, fun k hk hp => h.same k hk (by rcases hp with (h1 | h1) | h1; exact .inl h1; exact .inr h1.1; exact .inr (by omega))⟩
      gi_wp2
      refine ⟨trivial, fun h => (by cases h), (back_is _ _ _ _ _).mono ?_⟩
      rintro e w7 ⟨rfl, rfl⟩
      gi_wp2
      obtain ⟨B0, hB0e⟩ : ∃ B0, wr.heap.size = B0 := ⟨_, rfl⟩
      rw [hB0e] at HRS ⊢
      refine range_own (gf := 86) (rb := #[]) (lb := #[.pointer (some ⟨B0, 0, none⟩)]) rfl (enters_of Try.func86 (by kernel_rfl) rfl) HRS (fun k hk => by rcases hk with h | h <;> omega) (fun _ => rfl)
        (fun pre V' => J (nums (fixedT ++ t.2) 61 ++ pre.map (conv n)) V' ∧ V'.heap[M]? = some (.cells #[.pointer (some ⟨g, 0, none⟩)] 38 (0, 0)) ∧ V'.heap[M + 1]? = some (.cells #[.func (.yield l) #[] #[]] 126 (0, 0)) ∧ V'.heap[g]? = some (.cells #[.int .i64 (t.1 : Int), .int .i64 (sumL t.2.reverse : Int), .slice ao n c] 80 (0, 0)))
        (fun cc pre V' => cc = .ret ∧ Jx (nums (fixedT ++ t.2) 61 ++ pre.map (conv n)) V')
        (fun s X Y h k => ⟨hJ _ _ _ h.1 (k.mono (by omega)), (k.block _ (by omega)).trans h.2.1, (k.block _ (by omega)).trans h.2.2.1, (k.block _ (by omega)).trans h.2.2.2⟩)
        (fun cc s X Y h k => ⟨h.1, hJx _ _ _ h.2 (k.mono (by omega))⟩)
        ⟨by rw [List.map_nil, List.append_nil]; exact DJ, D0, D1, D2⟩
        (fun x a' V' => ∃ Bx, M + 1 < Bx ∧ V'.heap[Bx]? = some (.cells #[.string x.2.1, .string x.2.2] 82 (0, 0)) ∧ a' = { tmps := #[.pointer (some ⟨g, 0, none⟩), .func (.yield l) #[] #[], .pointer (some ⟨M, 0, none⟩), .pointer (some ⟨M + 1, 0, none⟩), .string r0, .int .i64 (K : Int), u6, .int .i64 (x.1 : Int), .pointer (some ⟨Bx, 0, none⟩), .int .i64 (K : Int), .bool false, u11, u12, u13, u14, u15, u16, u17, u18, u19, u20, u21, u22, .pointer (some ⟨g, 0, none⟩), .pointer (some ⟨g, 0, none⟩), .pointer (some ⟨g, 2, none⟩), .slice ao n c, .func (.func 86) #[] #[.pointer (some ⟨B0, 0, none⟩)], .int .i64 (x.1 : Int), .agg #[.string x.2.1, .string x.2.2], undef, undef, undef, undef, undef, undef, undef, undef], defers := [] })
        (fun x a' X i r o' h hl => by
          obtain ⟨Bx, h1, h2, h3⟩ := h
          exact ⟨Bx, h1, (World.putObj_heap_other (fun e => by subst e; rw [hl] at h2; cases h2)).trans h2, h3⟩)
        ?assign ?body ?done ?stop
      case assign =>
        rintro pre x V' K' hi hs' hK'
        obtain ⟨i, x, y⟩ := x
        gi_wp2
        have hAl : Below V'.heap.size V' (V'.alloc (.cells #[.string x, .string y] 82)) := (Below.refl _ V').alloc (Nat.le_refl _) _
        have hsM : M ≤ V'.heap.size := by omega
        have hMV := HVM.out
        exact hK' _ _ ((KU.refl _ _ _).alloc _) ⟨hJ _ _ _ hi.1 (hAl.mono hsM), (hAl.block M (by omega)).trans hi.2.1, (hAl.block (M + 1) (by omega)).trans hi.2.2.1, (hAl.block g (world_lt hi.2.2.2)).trans hi.2.2.2⟩ ⟨V'.heap.size, by omega, heap_alloc_new V' _, rfl⟩
      case body =>
        rintro pre ⟨i, x, y⟩ a' V' ⟨hJ', e0, e1, e2⟩ ⟨Bx, hBx, hX, rfl⟩ hlen hs'
        have hlast := Lib.hid (last_is g (.int .i64 (t.1 : Int)) (.int .i64 (sumL t.2.reverse : Int)) ao n c 80 V'.drew (Lib.hid e2) (by omega))
        have HCV := Lib.hid (show conv n (i, (x, y)) = (IntKind.i64.wrap ((61 : Int) + (n : Int) - (i : Int)), (x, y)) from rfl)
        have c0' := cell_of_row V' M 0 _ _ _ e0
        have c1' := cell_of_row V' (M + 1) 0 _ _ _ e1
        have c0d := cell_of_row V'.drew M 0 _ _ _ e0
        have c1d := cell_of_row V'.drew (M + 1) 0 _ _ _ e1
        obtain ⟨b1, b2, b3, b4⟩ := two_cells hX
        obtain ⟨d1, d2, d3, d4⟩ := two_cells (w := V'.drew) hX
        have hYd : YieldAt Fence.wide (m - 1 - 1 - 1) Try.prog l #[.int .i64 (IntKind.i64.wrap ((61 : Int) + (n : Int) - (i : Int))), .agg #[.string x, .string y]] V'.drew fun e W' => ∃ q, e = .returned (.bool q) ∧ Hid (KU (fun k => k < n0) M V'.drew W' ∧ (q = true → J (nums (fixedT ++ t.2) 61 ++ (pre ++ [(i, (x, y))]).map (conv n)) W') ∧ (q = false → Jx (nums (fixedT ++ t.2) 61 ++ (pre ++ [(i, (x, y))]).map (conv n)) W')) := by
          rw [List.map_append, ← List.append_assoc, List.map_cons, List.map_nil, HCV.out]
          refine (yield_any (hY (nums (fixedT ++ t.2) 61 ++ pre.map (conv n)) (IntKind.i64.wrap ((61 : Int) + (n : Int) - (i : Int)), (x, y)) V'.drew (hJ _ _ _ hJ' (Below.refl M V').drew) (by rw [List.length_append, List.length_map, nums_len]; omega))).mono ?_
          rintro e W' (⟨he, h1, h2⟩ | ⟨he, h1, h2⟩)
          · exact ⟨true, he, Lib.hid ⟨h2, fun _ => h1, fun h => by cases h⟩⟩
          · exact ⟨false, he, Lib.hid ⟨h2, (fun h => by cases h), fun _ => h1⟩⟩
        obtain ⟨fn, tmps, assign, body, hy, hR⟩ := hYd
        have HR := Lib.hid hR
        clear hR
        gi_wp2
        refine wpIn_region_any (by kernel_rfl) (any_round _ rfl (by kernel_rfl) _ _ _ _ ?_)
        change wpAnyIn _ _ _ _ _ _ _ _ _ (World.drew _)
        refine wpAnyIn_take (i := 3) (v := ?_) rfl rfl (by kernel_rfl) (by kernel_rfl) (by kernel_rfl) (fun _ _ _ h => h) ⟨Or.inl ⟨by rfl, ?_⟩, fun _ => rfl⟩ ?_
        · exact (.int .i64 (i : Int))
        · intro w; go_simp
        refine wpAnyIn_ready (rs := [0, 1, 5]) (by kernel_rfl) (by simp) ?_
        refine AllReadyIn.cons rfl (fun K hK => ?_) ?_
        · go_simp
          refine hK _ _ ?_
          clear hK K
          refine wpAnyIn_ready (rs := [1, 5]) (by kernel_rfl) (by simp) ?_
          refine AllReadyIn.cons rfl (fun K hK => ?_) ?_
          · go_simp
            refine hK _ _ ?_
            clear hK K
            refine wpAnyIn_ready (rs := [2, 5]) (by kernel_rfl) (by simp) ?_
            refine AllReadyIn.cons rfl (fun K hK => ?_) ?_
            · go_simp
              refine ⟨trivial, fun h => (by cases h), (callsIn_wide.2 hlast.out).mono ?_⟩
              rintro e w' ⟨rfl, rfl⟩
              refine hK _ _ ?_
              clear hK K
              refine wpAnyIn_take (i := 4) (v := ?_) rfl rfl (by kernel_rfl) (by kernel_rfl) (by kernel_rfl) (fun _ _ _ h => h) ⟨Or.inl ⟨by rfl, ?_⟩, fun _ => rfl⟩ ?_
              · exact (.int .i64 (IntKind.i64.wrap ((61 : Int) + (n : Int) - (i : Int))))
              · intro w; go_simp
              refine wpAnyIn_ready (rs := [5]) (by kernel_rfl) (by simp) ?_
              refine AllReadyIn.cons rfl (fun K hK => ?_) ?_
              · go_simp
                refine hK _ _ ?_
                clear hK K
                refine wpAnyIn_ready (rs := [6]) (by kernel_rfl) (by simp) ?_
                refine AllReadyIn.cons rfl (fun K hK => ?_) ?_
                · go_simp
                  refine ⟨fun h => (by cases h), HR.out.mono ?_⟩
                  rintro e W6 ⟨q, rfl, hQ⟩
                  refine hK _ _ ?_
                  clear hK K
                  refine wpAnyIn_take (i := 7) (v := ?_) rfl rfl (by kernel_rfl) (by kernel_rfl) (by kernel_rfl) (fun _ _ _ h => h) ⟨Or.inl ⟨by rfl, ?_⟩, fun _ => rfl⟩ ?_
                  · exact (.bool (!q))
                  · intro w; go_simp
                  refine wpAnyIn_done (by kernel_rfl) ?_ _
                  have hK6 := HUP.out _ _ hQ.out.1
                  have hK7 : KU (fun k => k < n0 ∨ (M ≤ k ∧ k < V.heap.size)) V.heap.size V' W6 := ⟨hK6.size, hK6.same⟩
                  rw [hVs, hB0e] at hK7
                  have f0 := (hQ.out.1.same M (world_lt e0) (.inr (Nat.le_refl _))).trans e0
                  have f1 := (hQ.out.1.same (M + 1) (world_lt e1) (.inr (Nat.le_succ _))).trans e1
                  have f2 := (hQ.out.1.same g (world_lt e2) (.inl hg)).trans e2
                  cases q with
                  | true =>
                    have hJ6 := hQ.out.2.1 rfl
                    gi_wp2
                    exact ⟨hK7, hJ6, f0, f1, f2⟩
                  | false =>
                    have hJ6 := hQ.out.2.2 rfl
                    gi_wp2
                    exact ⟨hK7, rfl, hJ6⟩
                exact AllReadyIn.nil
              exact AllReadyIn.nil
            refine AllReadyIn.cons rfl (fun K hK => ?_) ?_
            · go_simp
              refine hK _ _ ?_
              clear hK K
              refine wpAnyIn_ready (rs := [2]) (by kernel_rfl) (by simp) ?_
              refine AllReadyIn.cons rfl (fun K hK => ?_) ?_
              · go_simp
                refine ⟨trivial, fun h => (by cases h), (callsIn_wide.2 hlast.out).mono ?_⟩
                rintro e w' ⟨rfl, rfl⟩
                refine hK _ _ ?_
                clear hK K
                refine wpAnyIn_take (i := 4) (v := ?_) rfl rfl (by kernel_rfl) (by kernel_rfl) (by kernel_rfl) (fun _ _ _ h => h) ⟨Or.inl ⟨by rfl, ?_⟩, fun _ => rfl⟩ ?_
                · exact (.int .i64 (IntKind.i64.wrap ((61 : Int) + (n : Int) - (i : Int))))
                · intro w; go_simp
                refine wpAnyIn_ready (rs := [6]) (by kernel_rfl) (by simp) ?_
                refine AllReadyIn.cons rfl (fun K hK => ?_) ?_
                · go_simp
                  refine ⟨fun h => (by cases h), HR.out.mono ?_⟩
                  rintro e W6 ⟨q, rfl, hQ⟩
                  refine hK _ _ ?_
                  clear hK K
                  refine wpAnyIn_take (i := 7) (v := ?_) rfl rfl (by kernel_rfl) (by kernel_rfl) (by kernel_rfl) (fun _ _ _ h => h) ⟨Or.inl ⟨by rfl, ?_⟩, fun _ => rfl⟩ ?_
                  · exact (.bool (!q))
                  · intro w; go_simp
                  refine wpAnyIn_done (by kernel_rfl) ?_ _
                  have hK6 := HUP.out _ _ hQ.out.1
                  have hK7 : KU (fun k => k < n0 ∨ (M ≤ k ∧ k < V.heap.size)) V.heap.size V' W6 := ⟨hK6.size, hK6.same⟩
                  rw [hVs, hB0e] at hK7
                  have f0 := (hQ.out.1.same M (world_lt e0) (.inr (Nat.le_refl _))).trans e0
                  have f1 := (hQ.out.1.same (M + 1) (world_lt e1) (.inr (Nat.le_succ _))).trans e1
                  have f2 := (hQ.out.1.same g (world_lt e2) (.inl hg)).trans e2
                  cases q with
                  | true =>
                    have hJ6 := hQ.out.2.1 rfl
                    gi_wp2
                    exact ⟨hK7, hJ6, f0, f1, f2⟩
                  | false =>
                    have hJ6 := hQ.out.2.2 rfl
                    gi_wp2
                    exact ⟨hK7, rfl, hJ6⟩
                exact AllReadyIn.nil
              exact AllReadyIn.nil
            exact AllReadyIn.nil
          refine AllReadyIn.cons rfl (fun K hK => ?_) ?_
          · go_simp
            refine hK _ _ ?_
            clear hK K
            refine wpAnyIn_ready (rs := [1]) (by kernel_rfl) (by simp) ?_
            refine AllReadyIn.cons rfl (fun K hK => ?_) ?_
            · go_simp
              refine hK _ _ ?_
              clear hK K
              refine wpAnyIn_ready (rs := [2]) (by kernel_rfl) (by simp) ?_
              refine AllReadyIn.cons rfl (fun K hK => ?_) ?_
              · go_simp
                refine ⟨trivial, fun h => (by cases h), (callsIn_wide.2 hlast.out).mono ?_⟩
                rintro e w' ⟨rfl, rfl⟩
                refine hK _ _ ?_
                clear hK K
                refine wpAnyIn_take (i := 4) (v := ?_) rfl rfl (by kernel_rfl) (by kernel_rfl) (by kernel_rfl) (fun _ _ _ h => h) ⟨Or.inl ⟨by rfl, ?_⟩, fun _ => rfl⟩ ?_
                · exact (.int .i64 (IntKind.i64.wrap ((61 : Int) + (n : Int) - (i : Int))))
                · intro w; go_simp
                refine wpAnyIn_ready (rs := [6]) (by kernel_rfl) (by simp) ?_
                refine AllReadyIn.cons rfl (fun K hK => ?_) ?_
                · go_simp
                  refine ⟨fun h => (by cases h), HR.out.mono ?_⟩
                  rintro e W6 ⟨q, rfl, hQ⟩
                  refine hK _ _ ?_
                  clear hK K
                  refine wpAnyIn_take (i := 7) (v := ?_) rfl rfl (by kernel_rfl) (by kernel_rfl) (by kernel_rfl) (fun _ _ _ h => h) ⟨Or.inl ⟨by rfl, ?_⟩, fun _ => rfl⟩ ?_
                  · exact (.bool (!q))
                  · intro w; go_simp
                  refine wpAnyIn_done (by kernel_rfl) ?_ _
                  have hK6 := HUP.out _ _ hQ.out.1
                  have hK7 : KU (fun k => k < n0 ∨ (M ≤ k ∧ k < V.heap.size)) V.heap.size V' W6 := ⟨hK6.size, hK6.same⟩
                  rw [hVs, hB0e] at hK7
                  have f0 := (hQ.out.1.same M (world_lt e0) (.inr (Nat.le_refl _))).trans e0
                  have f1 := (hQ.out.1.same (M + 1) (world_lt e1) (.inr (Nat.le_succ _))).trans e1
                  have f2 := (hQ.out.1.same g (world_lt e2) (.inl hg)).trans e2
                  cases q with
                  | true =>
                    have hJ6 := hQ.out.2.1 rfl
                    gi_wp2
                    exact ⟨hK7, hJ6, f0, f1, f2⟩
                  | false =>
                    have hJ6 := hQ.out.2.2 rfl
                    gi_wp2
                    exact ⟨hK7, rfl, hJ6⟩
                exact AllReadyIn.nil
              exact AllReadyIn.nil
            exact AllReadyIn.nil
          exact AllReadyIn.nil
        refine AllReadyIn.cons rfl (fun K hK => ?_) ?_
        · go_simp
          refine hK _ _ ?_
          clear hK K
          refine wpAnyIn_ready (rs := [0, 2, 5]) (by kernel_rfl) (by simp) ?_
          refine AllReadyIn.cons rfl (fun K hK => ?_) ?_
          · go_simp
            refine hK _ _ ?_
            clear hK K
            refine wpAnyIn_ready (rs := [2, 5]) (by kernel_rfl) (by simp) ?_
            refine AllReadyIn.cons rfl (fun K hK => ?_) ?_
            · go_simp
              refine ⟨trivial, fun h => (by cases h), (callsIn_wide.2 hlast.out).mono ?_⟩
              rintro e w' ⟨rfl, rfl⟩
              refine hK _ _ ?_
              clear hK K
              refine wpAnyIn_take (i := 4) (v := ?_) rfl rfl (by kernel_rfl) (by kernel_rfl) (by kernel_rfl) (fun _ _ _ h => h) ⟨Or.inl ⟨by rfl, ?_⟩, fun _ => rfl⟩ ?_
              · exact (.int .i64 (IntKind.i64.wrap ((61 : Int) + (n : Int) - (i : Int))))
              · intro w; go_simp
              refine wpAnyIn_ready (rs := [5]) (by kernel_rfl) (by simp) ?_
              refine AllReadyIn.cons rfl (fun K hK => ?_) ?_
              · go_simp
                refine hK _ _ ?_
                clear hK K
                refine wpAnyIn_ready (rs := [6]) (by kernel_rfl) (by simp) ?_
                refine AllReadyIn.cons rfl (fun K hK => ?_) ?_
                · go_simp
                  refine ⟨fun h => (by cases h), HR.out.mono ?_⟩
                  rintro e W6 ⟨q, rfl, hQ⟩
                  refine hK _ _ ?_
                  clear hK K
                  refine wpAnyIn_take (i := 7) (v := ?_) rfl rfl (by kernel_rfl) (by kernel_rfl) (by kernel_rfl) (fun _ _ _ h => h) ⟨Or.inl ⟨by rfl, ?_⟩, fun _ => rfl⟩ ?_
                  · exact (.bool (!q))
                  · intro w; go_simp
                  refine wpAnyIn_done (by kernel_rfl) ?_ _
                  have hK6 := HUP.out _ _ hQ.out.1
                  have hK7 : KU (fun k => k < n0 ∨ (M ≤ k ∧ k < V.heap.size)) V.heap.size V' W6 := ⟨hK6.size, hK6.same⟩
                  rw [hVs, hB0e] at hK7
                  have f0 := (hQ.out.1.same M (world_lt e0) (.inr (Nat.le_refl _))).trans e0
                  have f1 := (hQ.out.1.same (M + 1) (world_lt e1) (.inr (Nat.le_succ _))).trans e1
                  have f2 := (hQ.out.1.same g (world_lt e2) (.inl hg)).trans e2
                  cases q with
                  | true =>
                    have hJ6 := hQ.out.2.1 rfl
                    gi_wp2
                    exact ⟨hK7, hJ6, f0, f1, f2⟩
                  | false =>
                    have hJ6 := hQ.out.2.2 rfl
                    gi_wp2
                    exact ⟨hK7, rfl, hJ6⟩
                exact AllReadyIn.nil
              exact AllReadyIn.nil
            refine AllReadyIn.cons rfl (fun K hK => ?_) ?_
            · go_simp
              refine hK _ _ ?_
              clear hK K
              refine wpAnyIn_ready (rs := [2]) (by kernel_rfl) (by simp) ?_
              refine AllReadyIn.cons rfl (fun K hK => ?_) ?_
              · go_simp
                refine ⟨trivial, fun h => (by cases h), (callsIn_wide.2 hlast.out).mono ?_⟩
                rintro e w' ⟨rfl, rfl⟩
                refine hK _ _ ?_
                clear hK K
                refine wpAnyIn_take (i := 4) (v := ?_) rfl rfl (by kernel_rfl) (by kernel_rfl) (by kernel_rfl) (fun _ _ _ h => h) ⟨Or.inl ⟨by rfl, ?_⟩, fun _ => rfl⟩ ?_
                · exact (.int .i64 (IntKind.i64.wrap ((61 : Int) + (n : Int) - (i : Int))))
                · intro w; go_simp
                refine wpAnyIn_ready (rs := [6]) (by kernel_rfl) (by simp) ?_
                refine AllReadyIn.cons rfl (fun K hK => ?_) ?_
                · go_simp
                  refine ⟨fun h => (by cases h), HR.out.mono ?_⟩
                  rintro e W6 ⟨q, rfl, hQ⟩
                  refine hK _ _ ?_
                  clear hK K
                  refine wpAnyIn_take (i := 7) (v := ?_) rfl rfl (by kernel_rfl) (by kernel_rfl) (by kernel_rfl) (fun _ _ _ h => h) ⟨Or.inl ⟨by rfl, ?_⟩, fun _ => rfl⟩ ?_
                  · exact (.bool (!q))
                  · intro w; go_simp
                  refine wpAnyIn_done (by kernel_rfl) ?_ _
                  have hK6 := HUP.out _ _ hQ.out.1
                  have hK7 : KU (fun k => k < n0 ∨ (M ≤ k ∧ k < V.heap.size)) V.heap.size V' W6 := ⟨hK6.size, hK6.same⟩
                  rw [hVs, hB0e] at hK7
                  have f0 := (hQ.out.1.same M (world_lt e0) (.inr (Nat.le_refl _))).trans e0
                  have f1 := (hQ.out.1.same (M + 1) (world_lt e1) (.inr (Nat.le_succ _))).trans e1
                  have f2 := (hQ.out.1.same g (world_lt e2) (.inl hg)).trans e2
                  cases q with
                  | true =>
                    have hJ6 := hQ.out.2.1 rfl
                    gi_wp2
                    exact ⟨hK7, hJ6, f0, f1, f2⟩
                  | false =>
                    have hJ6 := hQ.out.2.2 rfl
                    gi_wp2
                    exact ⟨hK7, rfl, hJ6⟩
                exact AllReadyIn.nil
              exact AllReadyIn.nil
            exact AllReadyIn.nil
          refine AllReadyIn.cons rfl (fun K hK => ?_) ?_
          · go_simp
            refine ⟨trivial, fun h => (by cases h), (callsIn_wide.2 hlast.out).mono ?_⟩
            rintro e w' ⟨rfl, rfl⟩
            refine hK _ _ ?_
            clear hK K
            refine wpAnyIn_take (i := 4) (v := ?_) rfl rfl (by kernel_rfl) (by kernel_rfl) (by kernel_rfl) (fun _ _ _ h => h) ⟨Or.inl ⟨by rfl, ?_⟩, fun _ => rfl⟩ ?_
            · exact (.int .i64 (IntKind.i64.wrap ((61 : Int) + (n : Int) - (i : Int))))
            · intro w; go_simp
            refine wpAnyIn_ready (rs := [0, 5]) (by kernel_rfl) (by simp) ?_
            refine AllReadyIn.cons rfl (fun K hK => ?_) ?_
            · go_simp
              refine hK _ _ ?_
              clear hK K
              refine wpAnyIn_ready (rs := [5]) (by kernel_rfl) (by simp) ?_
              refine AllReadyIn.cons rfl (fun K hK => ?_) ?_
              · go_simp
                refine hK _ _ ?_
                clear hK K
                refine wpAnyIn_ready (rs := [6]) (by kernel_rfl) (by simp) ?_
                refine AllReadyIn.cons rfl (fun K hK => ?_) ?_
                · go_simp
                  refine ⟨fun h => (by cases h), HR.out.mono ?_⟩
                  rintro e W6 ⟨q, rfl, hQ⟩
                  refine hK _ _ ?_
                  clear hK K
                  refine wpAnyIn_take (i := 7) (v := ?_) rfl rfl (by kernel_rfl) (by kernel_rfl) (by kernel_rfl) (fun _ _ _ h => h) ⟨Or.inl ⟨by rfl, ?_⟩, fun _ => rfl⟩ ?_
                  · exact (.bool (!q))
                  · intro w; go_simp
                  refine wpAnyIn_done (by kernel_rfl) ?_ _
                  have hK6 := HUP.out _ _ hQ.out.1
                  have hK7 : KU (fun k => k < n0 ∨ (M ≤ k ∧ k < V.heap.size)) V.heap.size V' W6 := ⟨hK6.size, hK6.same⟩
                  rw [hVs, hB0e] at hK7
                  have f0 := (hQ.out.1.same M (world_lt e0) (.inr (Nat.le_refl _))).trans e0
                  have f1 := (hQ.out.1.same (M + 1) (world_lt e1) (.inr (Nat.le_succ _))).trans e1
                  have f2 := (hQ.out.1.same g (world_lt e2) (.inl hg)).trans e2
                  cases q with
                  | true =>
                    have hJ6 := hQ.out.2.1 rfl
                    gi_wp2
                    exact ⟨hK7, hJ6, f0, f1, f2⟩
                  | false =>
                    have hJ6 := hQ.out.2.2 rfl
                    gi_wp2
                    exact ⟨hK7, rfl, hJ6⟩
                exact AllReadyIn.nil
              exact AllReadyIn.nil
            refine AllReadyIn.cons rfl (fun K hK => ?_) ?_
            · go_simp
              refine hK _ _ ?_
              clear hK K
              refine wpAnyIn_ready (rs := [0]) (by kernel_rfl) (by simp) ?_
              refine AllReadyIn.cons rfl (fun K hK => ?_) ?_
              · go_simp
                refine hK _ _ ?_
                clear hK K
                refine wpAnyIn_ready (rs := [6]) (by kernel_rfl) (by simp) ?_
                refine AllReadyIn.cons rfl (fun K hK => ?_) ?_
                · go_simp
                  refine ⟨fun h => (by cases h), HR.out.mono ?_⟩
                  rintro e W6 ⟨q, rfl, hQ⟩
                  refine hK _ _ ?_
                  clear hK K
                  refine wpAnyIn_take (i := 7) (v := ?_) rfl rfl (by kernel_rfl) (by kernel_rfl) (by kernel_rfl) (fun _ _ _ h => h) ⟨Or.inl ⟨by rfl, ?_⟩, fun _ => rfl⟩ ?_
                  · exact (.bool (!q))
                  · intro w; go_simp
                  refine wpAnyIn_done (by kernel_rfl) ?_ _
                  have hK6 := HUP.out _ _ hQ.out.1
                  have hK7 : KU (fun k => k < n0 ∨ (M ≤ k ∧ k < V.heap.size)) V.heap.size V' W6 := ⟨hK6.size, hK6.same⟩
                  rw [hVs, hB0e] at hK7
                  have f0 := (hQ.out.1.same M (world_lt e0) (.inr (Nat.le_refl _))).trans e0
                  have f1 := (hQ.out.1.same (M + 1) (world_lt e1) (.inr (Nat.le_succ _))).trans e1
                  have f2 := (hQ.out.1.same g (world_lt e2) (.inl hg)).trans e2
                  cases q with
                  | true =>
                    have hJ6 := hQ.out.2.1 rfl
                    gi_wp2
                    exact ⟨hK7, hJ6, f0, f1, f2⟩
                  | false =>
                    have hJ6 := hQ.out.2.2 rfl
                    gi_wp2
                    exact ⟨hK7, rfl, hJ6⟩
                exact AllReadyIn.nil
              exact AllReadyIn.nil
            exact AllReadyIn.nil
          refine AllReadyIn.cons rfl (fun K hK => ?_) ?_
          · go_simp
            refine hK _ _ ?_
            clear hK K
            refine wpAnyIn_ready (rs := [0, 2]) (by kernel_rfl) (by simp) ?_
            refine AllReadyIn.cons rfl (fun K hK => ?_) ?_
            · go_simp
              refine hK _ _ ?_
              clear hK K
              refine wpAnyIn_ready (rs := [2]) (by kernel_rfl) (by simp) ?_
              refine AllReadyIn.cons rfl (fun K hK => ?_) ?_
              · go_simp
                refine ⟨trivial, fun h => (by cases h), (callsIn_wide.2 hlast.out).mono ?_⟩
                rintro e w' ⟨rfl, rfl⟩
                refine hK _ _ ?_
                clear hK K
                refine wpAnyIn_take (i := 4) (v := ?_) rfl rfl (by kernel_rfl) (by kernel_rfl) (by kernel_rfl) (fun _ _ _ h => h) ⟨Or.inl ⟨by rfl, ?_⟩, fun _ => rfl⟩ ?_
                · exact (.int .i64 (IntKind.i64.wrap ((61 : Int) + (n : Int) - (i : Int))))
                · intro w; go_simp
                refine wpAnyIn_ready (rs := [6]) (by kernel_rfl) (by simp) ?_
                refine AllReadyIn.cons rfl (fun K hK => ?_) ?_
                · go_simp
                  refine ⟨fun h => (by cases h), HR.out.mono ?_⟩
                  rintro e W6 ⟨q, rfl, hQ⟩
                  refine hK _ _ ?_
                  clear hK K
                  refine wpAnyIn_take (i := 7) (v := ?_) rfl rfl (by kernel_rfl) (by kernel_rfl) (by kernel_rfl) (fun _ _ _ h => h) ⟨Or.inl ⟨by rfl, ?_⟩, fun _ => rfl⟩ ?_
                  · exact (.bool (!q))
                  · intro w; go_simp
                  refine wpAnyIn_done (by kernel_rfl) ?_ _
                  have hK6 := HUP.out _ _ hQ.out.1
                  have hK7 : KU (fun k => k < n0 ∨ (M ≤ k ∧ k < V.heap.size)) V.heap.size V' W6 := ⟨hK6.size, hK6.same⟩
                  rw [hVs, hB0e] at hK7
                  have f0 := (hQ.out.1.same M (world_lt e0) (.inr (Nat.le_refl _))).trans e0
                  have f1 := (hQ.out.1.same (M + 1) (world_lt e1) (.inr (Nat.le_succ _))).trans e1
                  have f2 := (hQ.out.1.same g (world_lt e2) (.inl hg)).trans e2
                  cases q with
                  | true =>
                    have hJ6 := hQ.out.2.1 rfl
                    gi_wp2
                    exact ⟨hK7, hJ6, f0, f1, f2⟩
                  | false =>
                    have hJ6 := hQ.out.2.2 rfl
                    gi_wp2
                    exact ⟨hK7, rfl, hJ6⟩
                exact AllReadyIn.nil
              exact AllReadyIn.nil
            refine AllReadyIn.cons rfl (fun K hK => ?_) ?_
            · go_simp
              refine ⟨trivial, fun h => (by cases h), (callsIn_wide.2 hlast.out).mono ?_⟩
              rintro e w' ⟨rfl, rfl⟩
              refine hK _ _ ?_
              clear hK K
              refine wpAnyIn_take (i := 4) (v := ?_) rfl rfl (by kernel_rfl) (by kernel_rfl) (by kernel_rfl) (fun _ _ _ h => h) ⟨Or.inl ⟨by rfl, ?_⟩, fun _ => rfl⟩ ?_
              · exact (.int .i64 (IntKind.i64.wrap ((61 : Int) + (n : Int) - (i : Int))))
              · intro w; go_simp
              refine wpAnyIn_ready (rs := [0]) (by kernel_rfl) (by simp) ?_
              refine AllReadyIn.cons rfl (fun K hK => ?_) ?_
              · go_simp
                refine hK _ _ ?_
                clear hK K
                refine wpAnyIn_ready (rs := [6]) (by kernel_rfl) (by simp) ?_
                refine AllReadyIn.cons rfl (fun K hK => ?_) ?_
                · go_simp
                  refine ⟨fun h => (by cases h), HR.out.mono ?_⟩
                  rintro e W6 ⟨q, rfl, hQ⟩
                  refine hK _ _ ?_
                  clear hK K
                  refine wpAnyIn_take (i := 7) (v := ?_) rfl rfl (by kernel_rfl) (by kernel_rfl) (by kernel_rfl) (fun _ _ _ h => h) ⟨Or.inl ⟨by rfl, ?_⟩, fun _ => rfl⟩ ?_
                  · exact (.bool (!q))
                  · intro w; go_simp
                  refine wpAnyIn_done (by kernel_rfl) ?_ _
                  have hK6 := HUP.out _ _ hQ.out.1
                  have hK7 : KU (fun k => k < n0 ∨ (M ≤ k ∧ k < V.heap.size)) V.heap.size V' W6 := ⟨hK6.size, hK6.same⟩
                  rw [hVs, hB0e] at hK7
                  have f0 := (hQ.out.1.same M (world_lt e0) (.inr (Nat.le_refl _))).trans e0
                  have f1 := (hQ.out.1.same (M + 1) (world_lt e1) (.inr (Nat.le_succ _))).trans e1
                  have f2 := (hQ.out.1.same g (world_lt e2) (.inl hg)).trans e2
                  cases q with
                  | true =>
                    have hJ6 := hQ.out.2.1 rfl
                    gi_wp2
                    exact ⟨hK7, hJ6, f0, f1, f2⟩
                  | false =>
                    have hJ6 := hQ.out.2.2 rfl
                    gi_wp2
                    exact ⟨hK7, rfl, hJ6⟩
                exact AllReadyIn.nil
              exact AllReadyIn.nil
            exact AllReadyIn.nil
          exact AllReadyIn.nil
        refine AllReadyIn.cons rfl (fun K hK => ?_) ?_
        · go_simp
          refine hK _ _ ?_
          clear hK K
          refine wpAnyIn_ready (rs := [0, 1]) (by kernel_rfl) (by simp) ?_
          refine AllReadyIn.cons rfl (fun K hK => ?_) ?_
          · go_simp
            refine hK _ _ ?_
            clear hK K
            refine wpAnyIn_ready (rs := [1]) (by kernel_rfl) (by simp) ?_
            refine AllReadyIn.cons rfl (fun K hK => ?_) ?_
            · go_simp
              refine hK _ _ ?_
              clear hK K
              refine wpAnyIn_ready (rs := [2]) (by kernel_rfl) (by simp) ?_
              refine AllReadyIn.cons rfl (fun K hK => ?_) ?_
              · go_simp
                refine ⟨trivial, fun h => (by cases h), (callsIn_wide.2 hlast.out).mono ?_⟩
                rintro e w' ⟨rfl, rfl⟩
                refine hK _ _ ?_
                clear hK K
                refine wpAnyIn_take (i := 4) (v := ?_) rfl rfl (by kernel_rfl) (by kernel_rfl) (by kernel_rfl) (fun _ _ _ h => h) ⟨Or.inl ⟨by rfl, ?_⟩, fun _ => rfl⟩ ?_
                · exact (.int .i64 (IntKind.i64.wrap ((61 : Int) + (n : Int) - (i : Int))))
                · intro w; go_simp
                refine wpAnyIn_ready (rs := [6]) (by kernel_rfl) (by simp) ?_
                refine AllReadyIn.cons rfl (fun K hK => ?_) ?_
                · go_simp
                  refine ⟨fun h => (by cases h), HR.out.mono ?_⟩
                  rintro e W6 ⟨q, rfl, hQ⟩
                  refine hK _ _ ?_
                  clear hK K
                  refine wpAnyIn_take (i := 7) (v := ?_) rfl rfl (by kernel_rfl) (by kernel_rfl) (by kernel_rfl) (fun _ _ _ h => h) ⟨Or.inl ⟨by rfl, ?_⟩, fun _ => rfl⟩ ?_
                  · exact (.bool (!q))
                  · intro w; go_simp
                  refine wpAnyIn_done (by kernel_rfl) ?_ _
                  have hK6 := HUP.out _ _ hQ.out.1
                  have hK7 : KU (fun k => k < n0 ∨ (M ≤ k ∧ k < V.heap.size)) V.heap.size V' W6 := ⟨hK6.size, hK6.same⟩
                  rw [hVs, hB0e] at hK7
                  have f0 := (hQ.out.1.same M (world_lt e0) (.inr (Nat.le_refl _))).trans e0
                  have f1 := (hQ.out.1.same (M + 1) (world_lt e1) (.inr (Nat.le_succ _))).trans e1
                  have f2 := (hQ.out.1.same g (world_lt e2) (.inl hg)).trans e2
                  cases q with
                  | true =>
                    have hJ6 := hQ.out.2.1 rfl
                    gi_wp2
                    exact ⟨hK7, hJ6, f0, f1, f2⟩
                  | false =>
                    have hJ6 := hQ.out.2.2 rfl
                    gi_wp2
                    exact ⟨hK7, rfl, hJ6⟩
                exact AllReadyIn.nil
              exact AllReadyIn.nil
            exact AllReadyIn.nil
          refine AllReadyIn.cons rfl (fun K hK => ?_) ?_
          · go_simp
            refine hK _ _ ?_
            clear hK K
            refine wpAnyIn_ready (rs := [0, 2]) (by kernel_rfl) (by simp) ?_
            refine AllReadyIn.cons rfl (fun K hK => ?_) ?_
            · go_simp
              refine hK _ _ ?_
              clear hK K
              refine wpAnyIn_ready (rs := [2]) (by kernel_rfl) (by simp) ?_
              refine AllReadyIn.cons rfl (fun K hK => ?_) ?_
              · go_simp
                refine ⟨trivial, fun h => (by cases h), (callsIn_wide.2 hlast.out).mono ?_⟩
                rintro e w' ⟨rfl, rfl⟩
                refine hK _ _ ?_
                clear hK K
                refine wpAnyIn_take (i := 4) (v := ?_) rfl rfl (by kernel_rfl) (by kernel_rfl) (by kernel_rfl) (fun _ _ _ h => h) ⟨Or.inl ⟨by rfl, ?_⟩, fun _ => rfl⟩ ?_
                · exact (.int .i64 (IntKind.i64.wrap ((61 : Int) + (n : Int) - (i : Int))))
                · intro w; go_simp
                refine wpAnyIn_ready (rs := [6]) (by kernel_rfl) (by simp) ?_
                refine AllReadyIn.cons rfl (fun K hK => ?_) ?_
                · go_simp
                  refine ⟨fun h => (by cases h), HR.out.mono ?_⟩
                  rintro e W6 ⟨q, rfl, hQ⟩
                  refine hK _ _ ?_
                  clear hK K
                  refine wpAnyIn_take (i := 7) (v := ?_) rfl rfl (by kernel_rfl) (by kernel_rfl) (by kernel_rfl) (fun _ _ _ h => h) ⟨Or.inl ⟨by rfl, ?_⟩, fun _ => rfl⟩ ?_
                  · exact (.bool (!q))
                  · intro w; go_simp
                  refine wpAnyIn_done (by kernel_rfl) ?_ _
                  have hK6 := HUP.out _ _ hQ.out.1
                  have hK7 : KU (fun k => k < n0 ∨ (M ≤ k ∧ k < V.heap.size)) V.heap.size V' W6 := ⟨hK6.size, hK6.same⟩
                  rw [hVs, hB0e] at hK7
                  have f0 := (hQ.out.1.same M (world_lt e0) (.inr (Nat.le_refl _))).trans e0
                  have f1 := (hQ.out.1.same (M + 1) (world_lt e1) (.inr (Nat.le_succ _))).trans e1
                  have f2 := (hQ.out.1.same g (world_lt e2) (.inl hg)).trans e2
                  cases q with
                  | true =>
                    have hJ6 := hQ.out.2.1 rfl
                    gi_wp2
                    exact ⟨hK7, hJ6, f0, f1, f2⟩
                  | false =>
                    have hJ6 := hQ.out.2.2 rfl
                    gi_wp2
                    exact ⟨hK7, rfl, hJ6⟩
                exact AllReadyIn.nil
              exact AllReadyIn.nil
            refine AllReadyIn.cons rfl (fun K hK => ?_) ?_
            · go_simp
              refine ⟨trivial, fun h => (by cases h), (callsIn_wide.2 hlast.out).mono ?_⟩
              rintro e w' ⟨rfl, rfl⟩
              refine hK _ _ ?_
              clear hK K
              refine wpAnyIn_take (i := 4) (v := ?_) rfl rfl (by kernel_rfl) (by kernel_rfl) (by kernel_rfl) (fun _ _ _ h => h) ⟨Or.inl ⟨by rfl, ?_⟩, fun _ => rfl⟩ ?_
              · exact (.int .i64 (IntKind.i64.wrap ((61 : Int) + (n : Int) - (i : Int))))
              · intro w; go_simp
              refine wpAnyIn_ready (rs := [0]) (by kernel_rfl) (by simp) ?_
              refine AllReadyIn.cons rfl (fun K hK => ?_) ?_
              · go_simp
                refine hK _ _ ?_
                clear hK K
                refine wpAnyIn_ready (rs := [6]) (by kernel_rfl) (by simp) ?_
                refine AllReadyIn.cons rfl (fun K hK => ?_) ?_
                · go_simp
                  refine ⟨fun h => (by cases h), HR.out.mono ?_⟩
                  rintro e W6 ⟨q, rfl, hQ⟩
                  refine hK _ _ ?_
                  clear hK K
                  refine wpAnyIn_take (i := 7) (v := ?_) rfl rfl (by kernel_rfl) (by kernel_rfl) (by kernel_rfl) (fun _ _ _ h => h) ⟨Or.inl ⟨by rfl, ?_⟩, fun _ => rfl⟩ ?_
                  · exact (.bool (!q))
                  · intro w; go_simp
                  refine wpAnyIn_done (by kernel_rfl) ?_ _
                  have hK6 := HUP.out _ _ hQ.out.1
                  have hK7 : KU (fun k => k < n0 ∨ (M ≤ k ∧ k < V.heap.size)) V.heap.size V' W6 := ⟨hK6.size, hK6.same⟩
                  rw [hVs, hB0e] at hK7
                  have f0 := (hQ.out.1.same M (world_lt e0) (.inr (Nat.le_refl _))).trans e0
                  have f1 := (hQ.out.1.same (M + 1) (world_lt e1) (.inr (Nat.le_succ _))).trans e1
                  have f2 := (hQ.out.1.same g (world_lt e2) (.inl hg)).trans e2
                  cases q with
                  | true =>
                    have hJ6 := hQ.out.2.1 rfl
                    gi_wp2
                    exact ⟨hK7, hJ6, f0, f1, f2⟩
                  | false =>
                    have hJ6 := hQ.out.2.2 rfl
                    gi_wp2
                    exact ⟨hK7, rfl, hJ6⟩
                exact AllReadyIn.nil
              exact AllReadyIn.nil
            exact AllReadyIn.nil
          exact AllReadyIn.nil
        exact AllReadyIn.nil
      case done =>
        rintro D xs V' hD rfl ⟨hJ', _, _, _⟩ hK
        rw [HCJ.out n (Nat.le_refl _)] at hJ'
        have hMV := HVM.out
        have hJD := hJ _ _ _ hJ' (below_put (W := V') (B := M) (l := D) (o := .deferred none) (by omega))
        gi_wp2
        refine ⟨by simp, .inl ⟨_, _, rfl, run_takeDeferred hK, ?_⟩⟩
        exact ⟨_, results_none rfl _ _ _, ⟨_, rfl⟩, .inl ⟨_, rfl, hJD⟩⟩
      case stop =>
        rintro D cc pre V' hD ⟨k, hk, rfl⟩ ⟨rfl, hJ'⟩ hK
        rw [HCJ.out k hk] at hJ'
        have hMV := HVM.out
        have hJD := hJx _ _ _ hJ' (below_put (W := V') (B := M) (l := D) (o := .deferred none) (by omega))
        have hk2 : 61 + k ≤ 61 + n := by omega
        gi_wp2
        refine ⟨by simp, .inl ⟨_, _, rfl, run_takeDeferred hK, ?_⟩⟩
        exact ⟨_, results_none rfl _ _ _, ⟨_, rfl⟩, .inr ⟨nums (fixedT ++ t.2) (61 + k), ⟨61 + k, hk2, rfl⟩, hJD⟩⟩
end Go.Proofs.Ytamgnbjdeoklbaa
