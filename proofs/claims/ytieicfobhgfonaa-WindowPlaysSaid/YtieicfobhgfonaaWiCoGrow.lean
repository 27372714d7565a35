/- The code's Grow of layer 17. For windows above -10^12. -/
import Derived.Test.YtieicfobhgfonaaProg
import Derived.Test.YtieicfobhgfonaaMpFun
import Derived.Test.YtieicfobhgfonaaWiMath
import Derived.Test.YtieicfobhgfonaaWiAt
import Derived.Test.YtieicfobhgfonaaWiMap
import Derived.WalkKit
import Derived.Lib.Hide
import Derived.Laws.Rows
import Derived.Outline
import Derived.IntWalk
import Derived.WalkSpells
import Derived.WalkLawsBesides
import Derived.LoopTactic
import Derived.Deep.CutRange
namespace Go.Proofs.Ytieicfobhgfonaa
open Go Go.RowKit Go.MapKept Mp Wi
set_option linter.unusedVariables false
section
variable (g b : Nat) (K : Int) (B B' : Bk) (id n c : Nat) (w : World)
set_option maxHeartbeats 4000000 in
set_option maxRecDepth 100000 in
theorem cgrow_yes (x o : Nat) (v : Int) (hc : Hid (w.cell? ⟨x, o, none⟩ = some (.int .i64 v))) (hf : Hid (w.frozen? ⟨x, o, none⟩ = false)) (hv : -1000000000000 ≤ v ∧ v ≤ 2147483647) (hn : n < 4294967296) (h : v + n ≤ 2147483647) :
    Calls Try.prog 24 #[.pointer (some ⟨x, o, none⟩), .int .u32 (n : Int)] w fun e w' => e = .returned (.int .u32 0) ∧ w' = w.setCell ⟨x, o, none⟩ (.int .i64 (v + n)) := by
  have hcv : IntKind.i64.wrap (n : Int) = (n : Int) := by rw [IntKind.wrap_i64]; omega
  have hsum : IntKind.i64.wrap (v + n) = v + n := by rw [IntKind.wrap_i64]; omega
  have hcm : ¬ (2147483647 : Int) < v + n := by omega
  have c0 := hc.out
  have f0 := hf.out
  clear hc hf h
  go_enter Try.func24, Try.ntmps24
  go_wp2_with fail
  go_ret
  exact ⟨rfl, rfl⟩
set_option maxHeartbeats 4000000 in
set_option maxRecDepth 100000 in
theorem cgrow_no (x o : Nat) (v : Int) (hc : Hid (w.cell? ⟨x, o, none⟩ = some (.int .i64 v))) (hv : -1000000000000 ≤ v ∧ v ≤ 2147483647) (hn : n < 4294967296) (h : 2147483647 < v + n) :
    Calls Try.prog 24 #[.pointer (some ⟨x, o, none⟩), .int .u32 (n : Int)] w fun e w' => e = .returned (.int .u32 3) ∧ w' = w := by
  have hcv : IntKind.i64.wrap (n : Int) = (n : Int) := by rw [IntKind.wrap_i64]; omega
  have hsum : IntKind.i64.wrap (v + n) = v + n := by rw [IntKind.wrap_i64]; omega
  have c0 := hc.out
  clear hc
  go_enter Try.func24, Try.ntmps24
  go_wp2_with fail
  go_ret
  exact ⟨rfl, rfl⟩
set_option maxHeartbeats 8000000 in
set_option maxRecDepth 100000 in
theorem wgrow_is (hB : Hid (BkAt w g b B)) (hI : Hid (Inv K B)) (hK : 0 ≤ K ∧ K ≤ 1000000000000) (hi : id < 4294967296) (hn : n < 4294967296) (hr : Hid (growB B id n = (B', c))) : Calls Try.prog 13 #[.pointer (some ⟨b, 0, none⟩), .int .u32 (id : Int), .int .u32 (n : Int)] w fun e w' => e = .returned (.int .u32 (c : Int)) ∧ Hid (BkAt w' g b B') ∧ Hid (BkK b w w') := by
  have hg := hB.out.gb
  obtain ⟨bm, hgm, hx, hm, hne⟩ := hB.out.box
  obtain ⟨c0, c1, c2, f0, f1⟩ := hx.cells
  have hc0 := hI.out.c0
  have hc1 := hI.out.c1
  unfold mostW at hc1
  have hr := hr.out
  unfold growB mostW at hr
  by_cases hid : id = 0
  · have hi0 : ((id : Int) == 0) = true := beq_iff_eq.2 (by omega)
    rw [if_pos hid] at hr
    by_cases ho : 2147483647 < B.conn + (n : Int)
    · rw [if_pos ho] at hr
      injection hr with h1 h2
      subst h1 h2
      have HG := Lib.hid (cgrow_no n w b 0 B.conn (Lib.hid c0) (by omega) hn ho)
      have HR := Lib.hid (And.intro hB.out (bkK_refl (b := b) w))
      clear hx hm hI hid ho
      go_enter Try.func13, Try.ntmps13
      go_wp2_with fail
      refine HG.out.mono ?_
      rintro e w1 ⟨rfl, rfl⟩
      go_wp2_with fail
      go_ret
      exact ⟨rfl, Lib.hid HR.out.1, Lib.hid HR.out.2⟩
    · rw [if_neg ho] at hr
      injection hr with h1 h2
      subst h1 h2
      have HG := Lib.hid (cgrow_yes n w b 0 B.conn (Lib.hid c0) (Lib.hid f0) (by omega) hn (by omega))
      obtain ⟨V, hV⟩ : ∃ V, w.setCell ⟨b, 0, none⟩ (.int .i64 (B.conn + n)) = V := ⟨_, rfl⟩
      have hx2 := boxB_conn hx (B.conn + n)
      have HR : Hid (BkAt V g b { B with conn := B.conn + n } ∧ BkK b w V) := Lib.hid (by rw [← hV]; exact ⟨⟨hg, bm, hgm, hx2, hm.kept (Below.heap_setCell w ⟨b, 0, none⟩ _ bm hne)⟩, bkK_set hx ⟨_, _, hx2⟩⟩)
      rw [hV] at HG
      clear hx hx2 hm hI hid ho hV
      go_enter Try.func13, Try.ntmps13
      go_wp2_with fail
      refine HG.out.mono ?_
      rintro e w1 ⟨rfl, rfl⟩
      go_wp2_with fail
      go_ret
      exact ⟨rfl, Lib.hid HR.out.1, Lib.hid HR.out.2⟩
  · have hi0 : ((id : Int) == 0) = false := beq_eq_false_iff_ne.2 (by omega)
    have hi1 : ¬ (id : Int) = 0 := by omega
    rw [if_neg hid] at hr
    cases ho : ofR B.rows id with
    | none =>
      rw [ho] at hr
      have hr : (B, 0) = (B', c) := hr
      injection hr with h1 h2
      subst h1 h2
      have hlk := look_b hm id none ho
      have HR := Lib.hid (And.intro (hB.out.below ((Below.refl w.heap.size w).alloc (Nat.le_refl _) (.cells #[.int .i64 0] 2))) (bkK_below hx ((Below.refl w.heap.size w).alloc (Nat.le_refl _) (.cells #[.int .i64 0] 2))))
      have hlk : (Instr.lookup 45 (.map (some bm)) (.int .u32 (id : Int)) true).run Try.prog w = .ok (.tuple #[.int .i64 0, .bool false]) w := hlk
      clear hx hm hI hid ho
      go_enter Try.func13, Try.ntmps13
      go_wp2_with fail
      go_ret
      exact ⟨rfl, Lib.hid HR.out.1, Lib.hid HR.out.2⟩
    | some v =>
      have hv := hI.out.of ho
      unfold mostW at hv
      rw [ho] at hr
      have hr : (if 2147483647 < v + (n : Int) then (B, 3) else (putB B id (v + n), 0)) = (B', c) := hr
      have hlk : (Instr.lookup 45 (.map (some bm)) (.int .u32 (id : Int)) true).run Try.prog w = .ok (.tuple #[.int .i64 v, .bool true]) w := look_b hm id (some v) ho
      obtain ⟨r, hr1⟩ : ∃ r, w.heap.size = r := ⟨_, rfl⟩
      obtain ⟨V, hV⟩ : ∃ V, w.alloc (.cells #[.int .i64 v] 2) = V := ⟨_, rfl⟩
      have hBV : Below w.heap.size w V := by rw [← hV]; exact (Below.refl _ w).alloc (Nat.le_refl _) _
      have hVX : V.heap[r]? = some (.cells #[.int .i64 v] 2 (0, 0)) := by rw [← hV, ← hr1]; exact heap_alloc_new w _
      have hlb := hm.lt
      have hlx := hx.lt
      by_cases hov : 2147483647 < v + (n : Int)
      · rw [if_pos hov] at hr
        injection hr with h1 h2
        subst h1 h2
        have HG := Lib.hid (cgrow_no n V r 0 v (Lib.hid (cell_of_row _ _ 0 _ _ _ hVX)) (by omega) hn hov)
        have hxV : BoxB V b B.conn B.first bm := (hBV.block b hlx).trans hx
        have hmV : MapF V.drew bm (.int .u32) (liftR B.rows) := hm.kept (hBV.block bm hlb)
        obtain ⟨w2, hrun, hm3, hgw⟩ := put_b hmV id v B.rows ho (fun _ _ => rfl)
        have hR1 := bk_map (w := V.drew) hg hgm hxV hne hm3 hgw
        have HK2 : BkK b V w2 := ⟨hR1.2.os, hR1.2.tape, hR1.2.output, hR1.2.size, hR1.2.block, hR1.2.same⟩
        have HR := Lib.hid (And.intro hR1.1 ((bkK_below hx hBV).trans HK2))
        have d0 := cell_of_row _ _ 0 _ _ _ hVX
        have d2 := hxV.cells.2.2.1
        have HV := Lib.hid hV
        have HRR := Lib.hid hr1
        clear hx hm hI ho hV hBV hVX hlb hlx hov hxV hmV hm3 hgw hR1 HK2 hB hr1
        go_enter Try.func13, Try.ntmps13
        go_wp2_with fail
        rw [HV.out, HRR.out]
        refine HG.out.mono ?_
        rintro e w1 ⟨rfl, rfl⟩
        go_wp2_with fail
        go_region
        go_wp2_with fail
        go_ret
        exact ⟨rfl, Lib.hid HR.out.1, Lib.hid HR.out.2⟩
      · rw [if_neg hov] at hr
        injection hr with h1 h2
        subst h1 h2
        have HG := Lib.hid (cgrow_yes n V r 0 v (Lib.hid (cell_of_row _ _ 0 _ _ _ hVX)) (Lib.hid (frozen_of_row _ _ 0 _ _ hVX)) (by omega) hn (by omega))
        obtain ⟨U, hU⟩ : ∃ U, V.setCell ⟨r, 0, none⟩ (.int .i64 (v + n)) = U := ⟨_, rfl⟩
        have hUX : U.heap[r]? = some (.cells #[.int .i64 (v + n)] 2 (0, 0)) := by rw [← hU]; exact heap_setCell_same V r 0 _ _ _ hVX
        have hBU : Below w.heap.size w U := by rw [← hU]; exact hBV.setCell (by show w.heap.size ≤ r; omega) _
        rw [hU] at HG
        have hxV : BoxB U b B.conn B.first bm := (hBU.block b hlx).trans hx
        have hmV : MapF U.drew bm (.int .u32) (liftR B.rows) := hm.kept (hBU.block bm hlb)
        obtain ⟨w2, hrun, hm3, hgw⟩ := put_b hmV id (v + n) (putB B id (v + n)).rows (by rw [ofR_put, if_pos rfl]) (fun j hj => by rw [ofR_put, if_neg hj])
        have hR1 := bk_map (w := U.drew) hg hgm hxV hne hm3 hgw
        have HK2 : BkK b U w2 := ⟨hR1.2.os, hR1.2.tape, hR1.2.output, hR1.2.size, hR1.2.block, hR1.2.same⟩
        have HR := Lib.hid (And.intro hR1.1 ((bkK_below hx hBU).trans HK2))
        have d0 := cell_of_row _ _ 0 _ _ _ hUX
        have d2 := hxV.cells.2.2.1
        have HV := Lib.hid hV
        have HRR := Lib.hid hr1
        clear hx hm hI ho hV hBV hVX hlb hlx hov hxV hmV hm3 hgw hR1 HK2 hB hr1 hU hUX hBU
        go_enter Try.func13, Try.ntmps13
        go_wp2_with fail
        rw [HV.out, HRR.out]
        refine HG.out.mono ?_
        rintro e w1 ⟨rfl, rfl⟩
        go_wp2_with fail
        go_region
        go_wp2_with fail
        go_ret
        exact ⟨rfl, Lib.hid HR.out.1, Lib.hid HR.out.2⟩
end
end Go.Proofs.Ytieicfobhgfonaa
