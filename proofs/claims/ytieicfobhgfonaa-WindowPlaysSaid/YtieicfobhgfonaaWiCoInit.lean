/- The code's Initial of layer 17. For windows above -10^12. -/
import Derived.Test.YtieicfobhgfonaaProg
import Derived.Test.YtieicfobhgfonaaMpFun
import Derived.Test.YtieicfobhgfonaaMpRng
import Derived.Test.YtieicfobhgfonaaWiMath
import Derived.Test.YtieicfobhgfonaaWiAt
import Derived.Test.YtieicfobhgfonaaWiMap
import Derived.Test.YtieicfobhgfonaaWiCoAbv
import Derived.WalkKit
import Derived.Lib.Hide
import Derived.Laws.Rows
import Derived.Outline
import Derived.IntWalk
import Derived.WalkSpells
import Derived.WalkLawsBesides
import Derived.LoopTactic
import Derived.Deep.CutRange
namespace Go.Proofs.Ytieicfobhgfonaa
open Go Go.RowKit Go.MapKept Mp Wi
set_option linter.unusedVariables false
namespace Wi
def addV (d : Int) : Value → Value
  | .int .i64 v => .int .i64 (v + d)
  | x => x
theorem liftR_inv {m : List (Nat × Int)} {k v : Value} (h : liftR m k = some v) : ∃ (j : Nat) (u : Int), k = .int .u32 (j : Int) ∧ v = .int .i64 u ∧ ofR m j = some u := by
  unfold liftR at h
  split at h
  · next n =>
    split at h
    · next h0 =>
      cases ho : ofR m n.toNat with
      | none => rw [ho] at h; cases h
      | some u =>
        rw [ho] at h
        exact ⟨n.toNat, u, by rw [Int.toNat_of_nonneg h0], (Option.some.inj h).symm, ho⟩
    · cases h
  · cases h
/-- All values have turned. -/
theorem map_all {W : World} {bm c : Nat} {es : Array MapEntry} {l : List (Nat × Int)} {d : Int} {seen : Array Nat} (hs : Stamped es c) (hf : ∀ x ∈ es.toList, IsKey (.int .u32) x.key ∧ liftR l x.key = some x.val) (hg : ∀ k v, liftR l k = some v → ∃ x ∈ es.toList, x.key = k ∧ x.val = v)
    (hb : W.heap[bm]? = some (.map (updA (addV d) seen es) c)) (h0 : (leftOf (updA (addV d) seen es) seen).size = 0) : MapF W bm (.int .u32) (liftR (shiftR l d)) := by
  refine ⟨_, c, hb, updA_stamped _ _ hs, fun x hx => ⟨updA_keys _ _ (fun y hy => (hf y hy).1) x hx, ?_⟩, fun k v h => ?_⟩
  · rw [updA_all _ h0, Array.toList_map] at hx
    obtain ⟨y, hy, rfl⟩ := List.mem_map.1 hx
    obtain ⟨k, v, h1, h2, h3⟩ := entry_row hf hy
    show liftR (shiftR l d) y.key = some (addV d y.val)
    rw [h1, h2, liftR_at, ofR_shift, h3]
    rfl
  · obtain ⟨j, u, rfl, rfl, h1⟩ := liftR_inv h
    rw [ofR_shift] at h1
    cases ho : ofR l j with
    | none => rw [ho] at h1; cases h1
    | some v0 =>
      rw [ho] at h1
      obtain ⟨x, hx, h2, h3⟩ := row_entry hg ho
      rw [updA_all _ h0, Array.toList_map]
      refine ⟨{ x with val := addV d x.val }, List.mem_map_of_mem hx, h2, ?_⟩
      show addV d x.val = _
      rw [h3]
      exact congrArg (Value.int .i64) (Option.some.inj h1)
end Wi
section
variable (g b : Nat) (K : Int) (B B' : Bk) (n c : Nat) (w : World)
set_option maxHeartbeats 8000000 in
set_option maxRecDepth 100000 in
theorem winit_is (hB : Hid (BkAt w g b B)) (hI : Hid (Inv K B)) (hK : 0 ≤ K ∧ K ≤ 1000000000000) (hn : n < 4294967296) (hr : Hid (initB B n = (B', c))) : Calls Try.prog 14 #[.pointer (some ⟨b, 0, none⟩), .int .u32 (n : Int)] w fun e w' => e = .returned (.int .u32 (c : Int)) ∧ Hid (BkAt w' g b B') ∧ Hid (BkK b w w') := by
  obtain ⟨bm0, _, hx, _, _⟩ := hB.out.box
  obtain ⟨c0, c1, c2, _, _⟩ := hx.cells
  have hf0 := hI.out.f0
  have hf1 := hI.out.f1
  unfold mostW at hf1
  obtain ⟨d, hd⟩ : ∃ d, (n : Int) - B.first = d := ⟨_, rfl⟩
  have hdb : -4294967296 ≤ d ∧ d ≤ 4294967296 := by omega
  have hcv : IntKind.i64.wrap (n : Int) = (n : Int) := by rw [IntKind.wrap_i64]; omega
  have hsub : IntKind.i64.wrap ((n : Int) - B.first) = d := by rw [IntKind.wrap_i64]; omega
  have hr := hr.out
  unfold initB at hr
  rw [hd] at hr
  have HD := Lib.hid hd
  by_cases hm : mostW < (n : Int)
  · rw [if_pos hm] at hr
    injection hr with h1 h2
    subst h1 h2
    have hgt : decide ((n : Int) > 2147483647) = true := decide_eq_true hm
    have hgt2 : (2147483647 : Int) < n := hm
    have HR := Lib.hid (And.intro hB.out (bkK_refl (b := b) w))
    clear hB hI hx hm hd hdb
    go_enter Try.func14, Try.ntmps14
    go_wp2_with fail
    go_ret
    exact ⟨rfl, Lib.hid HR.out.1, Lib.hid HR.out.2⟩
  · rw [if_neg hm] at hr
    have hgt : decide ((n : Int) > 2147483647) = false := decide_eq_false hm
    have hgt2 : ¬ (2147483647 : Int) < n := hm
    obtain ⟨q, hq⟩ : ∃ q, overR B.rows d = q := ⟨_, rfl⟩
    rw [hq] at hr
    have HA := Lib.hid (wabove_is g b K B d q w hB hI hK hdb (Lib.hid hq))
    have HBX := Lib.hid hx
    clear hx hm hd hq
    go_enter Try.func14, Try.ntmps14
    go_wp2_with fail
    refine HA.out.mono ?_
    rintro e w1 ⟨rfl, hB1⟩
    have HB1 := Lib.hid (hB.out.below hB1)
    have HK1 := Lib.hid (bkK_below HBX.out hB1)
    clear hB1 HA HBX c0 c1 c2
    cases q with
    | true =>
      rw [if_pos rfl] at hr
      injection hr with h1 h2
      subst h1 h2
      go_wp2_with fail
      go_ret
      exact ⟨rfl, HB1, HK1⟩
    | false =>
      rw [if_neg (by decide)] at hr
      injection hr with h1 h2
      subst h1 h2
      have hg := HB1.out.gb
      obtain ⟨bm, hgm, hx, hm, hne⟩ := HB1.out.box
      obtain ⟨es, ck, hb, hs, hf, hgg⟩ := hm
      obtain ⟨c0, c1, c2, _, _⟩ := hx.cells
      have hlb : bm < w1.heap.size := by
        rcases Nat.lt_or_ge bm w1.heap.size with h | h
        · exact h
        · rw [Array.getElem?_eq_none h] at hb; cases hb
      have hlx := hx.lt
      have hrg := run_range_map (P := Try.prog) w1 45 32 2 bm es ck Try.underlying45 hb
      obtain ⟨r, hr⟩ : ∃ r, w1.heap.size = r := ⟨_, rfl⟩
      obtain ⟨W0, hW0⟩ : ∃ W, w1.alloc (.mapIter (some bm) ck #[] ck) = W := ⟨_, rfl⟩
      have HI0 : Hid (W0.heap[r]? = some (.mapIter (some bm) ck #[] ck)) := Lib.hid (by rw [← hW0, ← hr]; exact heap_alloc_new w1 _)
      have HM0 : Hid (W0.heap[bm]? = some (.map (updA (addV d) #[] es) ck)) := Lib.hid (by rw [← hW0, updA_none, heap_alloc_old w1 _ hlb]; exact hb)
      have HG0 : Hid (w1.grownBy W0 (some bm)) := Lib.hid (by rw [← hW0]; exact ⟨rfl, rfl, rfl, by simp, fun k hk _ => heap_alloc_old w1 _ hk⟩)
      rw [hW0, hr] at hrg
      have HROW : Hid (∀ x ∈ es.toList, ∃ (k : Nat) (v : Int), x.key = .int .u32 (k : Int) ∧ x.val = .int .i64 v ∧ -1000000000000 ≤ v ∧ v ≤ 2147483647) := Lib.hid (fun x hx => by
        obtain ⟨k, v, h1, h2, h3⟩ := entry_row hf hx
        have h4 := hI.out.of h3
        unfold mostW at h4
        exact ⟨k, v, h1, h2, by omega, by omega⟩)
      have HS := Lib.hid hs
      have HKY := Lib.hid (fun x (hx : x ∈ es.toList) => (hf x hx).1)
      have HALL := Lib.hid (fun (W : World) (seen : Array Nat) h1 h2 => map_all (W := W) (bm := bm) (d := d) (seen := seen) hs hf hgg h1 h2)
      have HBX : Hid (∀ W : World, w1.grownBy W (some bm) → BoxB W b B.conn B.first bm) := Lib.hid (fun W h => (h.block b hlx (fun e => by injection e with e; exact hne e.symm)).trans hx)
      have HX1 := Lib.hid hx
      have HNE := Lib.hid hne
      have HRR := Lib.hid hr
      have HLB : Hid (bm < r) := Lib.hid (by omega)
      have HGM := Lib.hid (And.intro hg hgm)
      clear hb hs hf hgg hlb hW0 hx hne hr hlx hg hgm
      go_wp2_with fail
      clear c0 c1 c2 hrg
      go_loopw [] (fun wr => ∃ seen, Hid (wr.heap[r]? = some (.mapIter (some bm) ck seen ck)) ∧ Hid (wr.heap[bm]? = some (.map (updA (addV d) seen es) ck)) ∧ Hid (w1.grownBy wr (some bm))) (fun wr => (leftOf es (wr.iterSeen r)).size)
      case atStart => exact ⟨#[], HI0, HM0, HG0⟩
      case round =>
        obtain ⟨seen, hi, hmp, hgw⟩ := hrel
        have law := run_next_at (P := Try.prog) wr 0 r bm ck ck seen _ ck hi.out hmp.out (updA_stamped (addV d) seen HS.out).1 (Nat.le_refl _)
        rcases law with ⟨h0, hrun⟩ | ⟨e, he, w2, hw2, hrun⟩
        · have hnx : ∀ ty, (Instr.next (.pointer (some ⟨r, 0, none⟩)) false ty).run Try.prog wr = _ := fun _ => hrun
          have hbx := HBX.out wr hgw.out
          obtain ⟨c0, c1, c2, f0, f1⟩ := hbx.cells
          have hbx2 := boxB_first hbx (n : Int)
          have hm2 := HALL.out wr seen hmp.out h0
          have HR := Lib.hid (bk_map HGM.out.1 HGM.out.2 HX1.out HNE.out hm2 hgw.out)
          have HBF : Hid (BkAt (wr.setCell ⟨b, 1, none⟩ (.int .i64 (n : Int))) g b { conn := B.conn, first := (n : Int), rows := shiftR B.rows d }) := Lib.hid ⟨HGM.out.1, bm, HGM.out.2, hbx2, hm2.kept (Below.heap_setCell wr ⟨b, 1, none⟩ _ bm HNE.out)⟩
          have HKF : Hid (BkK b w (wr.setCell ⟨b, 1, none⟩ (.int .i64 (n : Int)))) := Lib.hid (HK1.out.trans (HR.out.2.trans (bkK_set hbx ⟨_, _, hbx2⟩)))
          clear hbx hbx2 hm2 h0 hrun
          go_wp2_with fail
          go_ret
          exact ⟨rfl, HBF, HKF⟩
        · obtain ⟨hl, hes, heu, hns⟩ := updA_left (addV d) he
          obtain ⟨k, v, hk, hv, hv1, hv2⟩ := HROW.out e hes
          obtain ⟨V, hV⟩ : ∃ V, Go.ChangeMaps.setBlock w2 r (.mapIter (some bm) ck (seen.push e.born) ck) = V := ⟨_, rfl⟩
          obtain ⟨v1, v2, v3, v4, v5, v6⟩ := heap_block (o' := .mapIter (some bm) ck (seen.push e.born) ck) hi.out hw2
          rw [hV] at v1 v2 v3 v4 v5 v6
          have hVM : V.heap[bm]? = some (.map (updA (addV d) seen es) ck) := (v2 bm (by have := HLB.out; omega)).trans hmp.out
          have hVG : w1.grownBy V (some bm) := ⟨v3.trans hgw.out.os, v4.trans hgw.out.tape, v5.trans hgw.out.output, by rw [v6]; exact hgw.out.size, fun j hj hjn => (v2 j (by have := HRR.out; omega)).trans (hgw.out.block j hj hjn)⟩
          have hSu := updA_stamped (addV d) seen HS.out
          have hKu := updA_keys (addV d) seen HKY.out
          have hen := run_entry_at (P := Try.prog) V r bm ck seen _ ck e v1 hVM heu hSu.2.1
          have hlk := look_there (P := Try.prog) (mty := 45) (kt := 32) (et := 2) hVM hSu hKu heu Try.underlying45 Try.underlying32
          have hput := put_there (P := Try.prog) (mty := 45) (kt := 32) (et := 2) hVM hSu hKu heu Try.underlying45 Try.underlying32 (.int .i64 (v + d))
          have hpush := updA_push (addV d) HS.out hes hns
          rw [show addV d e.val = .int .i64 (v + d) by rw [hv]; rfl] at hpush
          rw [hpush] at hput
          rw [hV, hk, hv] at hrun
          rw [hk, hv] at hen hlk
          rw [hk] at hput
          obtain ⟨U, hU⟩ : ∃ U, { V with heap := V.heap.setIfInBounds bm (.map (updA (addV d) (seen.push e.born) es) ck) } = U := ⟨_, rfl⟩
          rw [hU] at hput
          have HUM : Hid (U.heap[bm]? = some (.map (updA (addV d) (seen.push e.born) es) ck)) := Lib.hid (by rw [← hU]; exact (MapKept.heap_set hVM).1)
          have hUO : ∀ j, j ≠ bm → U.heap[j]? = V.heap[j]? := fun j hj => by rw [← hU]; exact (MapKept.heap_set hVM).2 j hj
          have HUI : Hid (U.heap[r]? = some (.mapIter (some bm) ck (seen.push e.born) ck)) := Lib.hid ((hUO r (by have := HLB.out; omega)).trans v1)
          have HUG : Hid (w1.grownBy U (some bm)) := Lib.hid ⟨by rw [← hU]; exact hVG.os, by rw [← hU]; exact hVG.tape, by rw [← hU]; exact hVG.output, by rw [← hU]; simpa using hVG.size, fun j hj hjn => (hUO j (fun e => hjn (by rw [e]))).trans (hVG.block j hj hjn)⟩
          have HMS : Hid ((leftOf es (U.iterSeen r)).size < (leftOf es (wr.iterSeen r)).size) := Lib.hid (by rw [iterSeen_at HUI.out, iterSeen_at hi.out]; exact left_shrinks es seen e hl)
          have hnx : ∀ ty, (Instr.next (.pointer (some ⟨r, 0, none⟩)) false ty).run Try.prog wr = _ := fun _ => hrun
          have hsum : IntKind.i64.wrap (v + d) = v + d := by rw [IntKind.wrap_i64]; omega
          obtain ⟨c0, c1, c2, f0, f1⟩ := (HBX.out V hVG).cells
          clear hV v1 v2 v3 v4 v5 v6 hVM hVG hSu hKu hpush hU hUO hl hes heu hns hk hv he hrun
          go_wp2_with fail
          go_roundw
          case rel => exact ⟨_, HUI, HUM, HUG⟩
          case measure => exact HMS.out
end
end Go.Proofs.Ytieicfobhgfonaa
