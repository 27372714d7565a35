import Derived.Test.YtieicfobhgfonaaRows
import Derived.Test.YtieicfobhgfonaaProg
import Derived.Test.YtieicfobhgfonaaWiMath
import Derived.Test.YtieicfobhgfonaaWiCame
import Derived.Test.YtieicfobhgfonaaWiRef
import Derived.Test.YtieicfobhgfonaaWiDrop
import Derived.Test.YtieicfobhgfonaaWiPut
import Derived.Test.YtieicfobhgfonaaWiOpen
import Derived.Test.YtieicfobhgfonaaWiBox
import Derived.Test.YtieicfobhgfonaaWiSame
import Derived.Test.YtieicfobhgfonaaWiMid
import Derived.Test.YtieicfobhgfonaaWiLeaf
import Derived.Test.YtieicfobhgfonaaWiPlay
import Derived.Test.YtieicfobhgfonaaWiCode
import Derived.Test.YtieicfobhgfonaaWiAwake
import Derived.LoopTactic
import Derived.Deep.CutRange
import Derived.Deep.RegionWith
import Derived.Lib.Hide
import Derived.Outline
import Derived.IntWalk
import Derived.WalkSpells
import Derived.WalkLawsBesides
import Derived.Laws.Rows
import Derived.WalkKit
import Derived.ProofKit
import Derived.OpenShut
import Derived.ShutString
import Derived.ChangeOld
import Derived.Below
namespace Go.Proofs.Ytieicfobhgfonaa.windowPlays
open Go Go.ChangeShapes Go.WideShapes Go.ChangeAt Go.RowKit Wi
open Go.ChangeMaps (open_string shut_string)
set_option linter.unusedVariables false

theorem own : ownKnob Try.prog.godebug = none := by kernel_rfl
theorem laidOut : laidOutB Try.prog = true := by kernel_rfl

set_option maxHeartbeats 8000000 in
set_option maxRecDepth 100000 in
theorem walk (a0 : Option Addr) (len0 cap0 : Nat) (L0 : List Ac) (w : World) (hl0 : len0 ≤ maxLen) (hL0 : L0.length = len0) (hR0 : RdA w w.heap.size a0 L0) :
    Calls Try.prog 3 #[.slice a0 len0 cap0] w fun e w' => e = .returned (.bool true) ∧ Below w.heap.size w w' := by
  have HL := Lib.hid hL0
  have HR := Lib.hid hR0
  clear hL0 hR0
  go_enter Try.func3, Try.ntmps3
  go_wp2_with fail
  refine (wawake_is w).mono ?_
  rintro e w1 ⟨rfl, hB1⟩
  have HB1 := Lib.hid hB1
  clear hB1
  by_cases h1 : (200 : Int) < (len0 : Int)
  · go_wp2_with fail
    go_ret
    exact ⟨rfl, HB1.out⟩
  have h1d : decide ((200 : Int) < (len0 : Int)) = false := decide_eq_false h1
  obtain ⟨g, hg⟩ : ∃ g, w.heap.size = g := ⟨_, rfl⟩
  have G := Lib.hid hg
  have HB1g : Hid (Below g w w1) := Lib.hid (by rw [← hg]; exact HB1.out)
  have HRg : Hid (RdA w g a0 L0) := Lib.hid (by rw [← hg]; exact HR.out)
  have hg1 : Hid (g ≤ w1.heap.size) := Lib.hid (by rw [← hg]; exact HB1.out.size)
  have HGW : Hid (w.heap.size = g) := Lib.hid hg
  clear hg HB1 HR
  go_wp2_with fail
  refine (wnew_is _).mono ?_
  rintro e w2 ⟨b, rfl, hb, hN, hB2, _⟩
  have HN2 : Hid (BkAt w2 g b newB) := Lib.hid (hN.out.lower hg1.out)
  have HB2 := Lib.hid (HB1g.out.trans (hB2.mono hg1.out))
  clear hN hB2 HB1g
  have HXN : Hid (Calls Try.prog 9 #[] w2 fun e w' => e = .returned (.agg #[.int .i64 65535, .int .i64 65535, .slice none 0 0]) ∧ Below w2.heap.size w2 w') := Lib.hid (xnew_is w2)
  go_wp2_with fail
  refine HXN.out.mono ?_
  rintro e w3 ⟨rfl, hB3⟩
  have HN3 := Lib.hid (HN2.out.below hB3)
  have HB3 : Hid (Below g w w3) := Lib.hid (HB2.out.trans (hB3.mono (by have := HN2.out.lt; have := HN2.out.gb; omega)))
  clear hB3 HXN HN2 HB2
  obtain ⟨X, hX⟩ : ∃ X, w3.heap.size = X := ⟨_, rfl⟩
  obtain ⟨W, hW⟩ : ∃ W, w3.alloc (.cells #[.int .i64 65535, .int .i64 65535, .slice none 0 0] 28) = W := ⟨_, rfl⟩
  have hBW : Below w3.heap.size w3 W := by rw [← hW]; exact (Below.refl _ w3).alloc (Nat.le_refl _) _
  have HXW : Hid (BoxK W X 65535 65535 (.slice none 0 0)) := Lib.hid (by rw [← hW, ← hX]; exact heap_alloc_new w3 _)
  have HNW := Lib.hid (HN3.out.below hBW)
  have hbX : b < X := by rw [← hX]; exact HN3.out.lt
  have hgX : g ≤ X := by have := HN3.out.gb; omega
  have HBW : Hid (Below g w W) := Lib.hid (HB3.out.trans (hBW.mono (by omega)))
  have HW := Lib.hid hW
  have HX := Lib.hid hX
  have HGX := Lib.hid hgX
  clear hW hX hBW HN3 HB3 hg1
  go_upto_region 7 with fail
  rw [HW.out, HX.out]
  go_wp2_with fail
  go_loopw [5, 6, 7] (fun i _ _ wr => ∃ (k : Nat) (B : Bk) (A : Option Addr) (n c : Nat), k ≤ len0 ∧ i = .int .i64 (k : Int) ∧ Hid (BkAt wr g b B) ∧ Hid (RdW wr wr.heap.size A B.rows) ∧ Hid (B.rows.length = n) ∧ Hid (Ok (k * 2147483647) k B) ∧ Hid (BoxK wr X B.conn B.first (.slice A n c)) ∧ Hid (Below g w wr)) (fun i _ _ _ => len0 - (intOf i).toNat)
  case atStart => exact ⟨0, newB, none, 0, 0, Nat.zero_le _, rfl, HNW, Lib.hid (rdw_none _ _), Lib.hid rfl, Lib.hid ⟨inv_new.more (by omega), Nat.zero_le _, fun x hx => by cases hx⟩, HXW, HBW⟩
  case round =>
    obtain ⟨k, B, A, n, c, hk, rfl, hBk, hRd, hLn, hOk, hXr, hBw⟩ := hrel
    by_cases hlt : k < len0
    · have hki : (k : Int) < (len0 : Int) := by omega
      have hk0 : (0 : Int) ≤ (k : Int) := by omega
      obtain ⟨b0, off, rfl, hb0, hc4, hoka⟩ := HRg.out k (by rw [HL.out]; exact hlt)
      obtain ⟨x, hx⟩ : ∃ x, acAt L0 k = x := ⟨_, rfl⟩
      rw [hx] at hc4 hoka
      have HOA := Lib.hid hoka
      have hKb : (0 : Int) ≤ (k : Int) * 2147483647 ∧ (k : Int) * 2147483647 ≤ 900000000000 := by omega
      have HPY := Lib.hid (fun (V : World) (h : Below wr.heap.size wr V) => wplay_is g b k (k * 2147483647) B A n c x V (Lib.hid (hBk.out.below h)) (Lib.hid (hRd.out.on h h.size)) hLn hOk (by omega) hKb HOA)
      unfold bkV at HPY
      have hcw := (show w.cell? ⟨b0, off + k * 4, none⟩ = some (.int .i64 x.kind) ∧ w.cell? ⟨b0, off + k * 4 + 1, none⟩ = some (.int .u32 (x.id : Int)) ∧ w.cell? ⟨b0, off + k * 4 + 2, none⟩ = some (.int .u32 (x.n : Int)) ∧ w.cell? ⟨b0, off + k * 4 + 3, none⟩ = some (.int .i64 x.want) from hc4)
      have d0 := (hBw.out.cell (p := ⟨b0, off + k * 4, none⟩) hb0).trans hcw.1
      have d1 := (hBw.out.cell (p := ⟨b0, off + k * 4 + 1, none⟩) hb0).trans hcw.2.1
      have d2 := (hBw.out.cell (p := ⟨b0, off + k * 4 + 2, none⟩) hb0).trans hcw.2.2.1
      have d3 := (hBw.out.cell (p := ⟨b0, off + k * 4 + 3, none⟩) hb0).trans hcw.2.2.2
      obtain ⟨x0, x1, x2⟩ := hXr.out.cells
      obtain ⟨U, hU⟩ : ∃ U, wr.alloc (.cells #[.int .i64 0, .int .i64 0, .slice none 0 0] 28) = U := ⟨_, rfl⟩
      have hBU : Below wr.heap.size wr U := by rw [← hU]; exact (Below.refl _ wr).alloc (Nat.le_refl _) _
      have hgr : g ≤ wr.heap.size := by have := hXr.out.lt; omega
      have hBwU : Below g w U := hBw.out.trans (hBU.mono hgr)
      have k0 := (hBwU.cell (p := ⟨b0, off + k * 4, none⟩) hb0).trans hcw.1
      have k1 := (hBwU.cell (p := ⟨b0, off + k * 4 + 1, none⟩) hb0).trans hcw.2.1
      have k2 := (hBwU.cell (p := ⟨b0, off + k * 4 + 2, none⟩) hb0).trans hcw.2.2.1
      have k3 := (hBwU.cell (p := ⟨b0, off + k * 4 + 3, none⟩) hb0).trans hcw.2.2.2
      obtain ⟨y0, y1, y2⟩ := (hXr.out.below hBU).cells
      rw [← hU] at k0 k1 k2 k3 y0 y1 y2
      have j1 : Below wr.heap.size wr wr.drew := (Below.refl _ wr).drew
      have j2 : Below wr.heap.size wr (wr.alloc (.cells #[.int .i64 0, .int .i64 0, .slice none 0 0] 28)).drew := by rw [hU]; exact hBU.drew
      have HZ : Hid (BoxK (wr.alloc (.cells #[.int .i64 0, .int .i64 0, .slice none 0 0] 28)).drew wr.heap.size 0 0 (.slice none 0 0)) := Lib.hid (heap_alloc_new wr _)
      have HBZ : Hid (BkAt (wr.alloc (.cells #[.int .i64 0, .int .i64 0, .slice none 0 0] 28)).drew g b B) := Lib.hid (hBk.out.below j2)
      have HXB : Hid (X ≠ b) := Lib.hid (by omega)
      have HXY : Hid (X ≠ wr.heap.size) := Lib.hid (by have := hXr.out.lt; omega)
      have HGY : Hid (g ≤ wr.heap.size) := Lib.hid hgr
      have HKK : Hid ((k : Int) * 2147483647 + 2147483647 ≤ ((k : Int) + 1) * 2147483647) := Lib.hid (by omega)
      have HL1 : Hid (BkAt wr.drew g b B) := Lib.hid (hBk.out.below j1)
      have HL2 : Hid (BoxK wr.drew X B.conn B.first (.slice A n c)) := Lib.hid hXr.out
      have HL3 : Hid (Below g w wr.drew) := Lib.hid hBw.out.drew
      have HM1 : Hid (BkAt (wr.alloc (.cells #[.int .i64 0, .int .i64 0, .slice none 0 0] 28)).drew g b B) := Lib.hid (hBk.out.below j2)
      have HM2 : Hid (BoxK (wr.alloc (.cells #[.int .i64 0, .int .i64 0, .slice none 0 0] 28)).drew X B.conn B.first (.slice A n c)) := Lib.hid (hXr.out.below j2)
      have HM3 : Hid (Below g w (wr.alloc (.cells #[.int .i64 0, .int .i64 0, .slice none 0 0] 28)).drew) := Lib.hid (hBw.out.trans (j2.mono hgr))
      have HYB : Hid (wr.heap.size ≠ b) := Lib.hid (by have := hBk.out.lt; omega)
      clear hx hc4 hoka hcw hb0 hU hBwU
      go_upto_region 10 with fail
      go_cut [6, 7] from 21 to 30 (fun q v wx => ∃ (Y : Nat) (B' : Bk) (A' : Option Addr) (m c' : Nat), q = .pointer (some ⟨Y, 0, none⟩) ∧ v = .bool true ∧ Hid (LfW w wx g b X Y ((k + 1) * 2147483647) (k + 1) B B' A A' n c m c'))
      case first =>
        go_region_with (go_at_call 10; first | (refine (HPY.out _ j1).mono ?_; rintro e w5 ⟨B', A', m, c', rfl, hB5, hR5, hL5, hO5, hK5⟩) | (refine (HPY.out _ j2).mono ?_; rintro e w5 ⟨B', A', m, c', rfl, hB5, hR5, hL5, hO5, hK5⟩; have HZ5 : Hid (BoxK w5 wr.heap.size 0 0 (.slice none 0 0)) := Lib.hid ((hK5.out.box HBZ.out HZ.out HYB.out).trans HZ.out); (obtain ⟨z0, z1, z2⟩ := HZ5.out.cells); have z3 := HZ5.out.frz 0; have z4 := HZ5.out.frz 1; have z5 := HZ5.out.frz 2))
        all_goals
          go_wp2_with fail
          go_meet
          refine ⟨_, B', A', m, c', rfl, rfl, Lib.hid ?_⟩
          first
            | (with_reducible exact leafA HL1.out HL2.out HL3.out HXB.out hB5.out hR5.out hL5.out (hO5.out.more HKK.out (Nat.le_refl _)) hK5.out)
            | (with_reducible exact leafB HM1.out HM2.out HM3.out HXB.out HYB.out HZ.out HXY.out HGY.out hB5.out hR5.out hL5.out (hO5.out.more HKK.out (Nat.le_refl _)) hK5.out)
      case rest =>
        obtain ⟨Y, B', A', m, c', rfl, rfl, hLf⟩ := hcut
        generalize wc = w6 at *
        obtain ⟨l1, l2, l3, l4, l5, l6, l7⟩ := hLf.out
        obtain ⟨F, hF⟩ : ∃ F, putK w6 X B'.conn B'.first (.slice A' m c') = F := ⟨_, rfl⟩
        have HF1 : Hid (BkAt F g b B') := Lib.hid (by rw [← hF]; exact (bk_put l1 l5).1)
        have HF2 : Hid (RdW F F.heap.size A' B'.rows) := Lib.hid (by rw [← hF]; exact rdw_put l2 l5)
        have HF3 : Hid (BoxK F X B'.conn B'.first (.slice A' m c')) := Lib.hid (by rw [← hF]; exact l5.put _ _ _)
        have HF4 : Hid (Below g w F) := Lib.hid (by rw [← hF]; exact putK_below l7 HGX.out)
        have HL6 := Lib.hid l3
        have HO6 := Lib.hid l4
        obtain ⟨y0, y1, y2⟩ := l6.cells
        obtain ⟨x0, x1, x2⟩ := l5.cells
        have z0 := l5.frz 0
        have z1 := l5.frz 1
        have z2 := l5.frz 2
        unfold putK at hF
        have HF := Lib.hid hF
        clear l1 l2 l3 l4 l5 l6 l7 hF hLf hBk hRd hLn hOk hXr hBw
        go_upto_region 12 with fail
        rw [HF.out]
        clear x0 x1 x2 y0 y1 y2 z0 z1 z2
        go_wp2_with fail
        go_roundw
        case rel => exact ⟨k + 1, B', A', m, c', by omega, by go_num, HF1, HF2, HL6, Lib.hid (HO6.out.more (by push_cast; omega) (Nat.le_refl _)), HF3, HF4⟩
        case measure => simp [intOf]; omega
    · have hnk : ¬ ((k : Int) < (len0 : Int)) := by omega
      go_wp2_with fail
      go_ret
      exact ⟨rfl, by rw [HGW.out]; exact hBw.out⟩

set_option maxRecDepth 100000 in
theorem lifted (os : Os) (started : os.Started) (H : Type) (enc : TypeId × Value → H) :
    ReturnsInHanded {} Try.checked os 3 .any (Rows.windowPlaysSpec.pre6 enc Try.prog Try.f3 Rows.windowPlaysRow.domain false) (Rows.windowPlaysSpec.post enc Try.prog Try.f3 false true false false) := by
  refine returnsInHanded_of_change (C := Try.checked) own started (by kernel_rfl) Try.func3
    (ChangeSpec.witness6 (enc := enc) (C := Try.checked) false ⟨#[], #[.slice none 0 0], []⟩ 8 (by kernel_rfl) (by kernel_rfl) (by kernel_rfl) (by kernel_rfl)) ?_
  intro W base args ds gs before hval0 hW hcnd _
  have hval : ∀ (j : Nat) t v, Try.f3.params[j]? = some t → args[j]? = some v → Value.okWide Try.prog W .any base t v := hval0
  have hW' := hW
  obtain ⟨p, q, hA0, hV, rfl, hfz, hnd⟩ := hW
  have hA : DataW.TrodAll enc Try.prog W 0 (fun _ => true) true Try.f3.params.toList args.toList ds p := hA0
  rw [Try.params3] at hA hval
  obtain ⟨v0, vs0, d0, ds0, p0, q0, hargs, rfl, rfl, h0, r0⟩ := trodAll_cons hA
  obtain ⟨rfl, rfl, rfl⟩ := trodAll_nil r0
  obtain rfl : args = #[v0] := by cases args; simp_all
  obtain ⟨rfl, rfl⟩ := trodVars_none hV
  obtain ⟨a0, len0, cap0, rfl⟩ := okWide_slice Try.underlying22 (hval 0 22 v0 rfl rfl)
  have k0 := h0
  have lt0 : ∀ x ∈ p0, x.block < W.heap.size := by obtain ⟨m, hm⟩ := k0; exact DataW.trod_lt m _ _ _ hm
  obtain ⟨hl0, L0, hN0, hR0⟩ : len0 ≤ maxLen ∧ ∃ L : List Ac, L.length = len0 ∧ RdA W W.heap.size a0 L := by
    obtain ⟨fuel, hf⟩ := h0
    exact rda_of_trod hf
  clear hA0 hval0
  refine (walk a0 len0 cap0 L0 W hl0 hN0 hR0).mono fun e W' ⟨he, bel⟩ => ?_
  subst he
  exact ⟨_, rfl, _, _, _, [], _, [], hW', trodAll_mk1 (shut_bool Try.underlying4 _), (trodAll_cons_mk (Below.trod laidOut (by kernel_rfl) (of_decide_eq_true (by kernel_rfl)) k0 bel lt0) trodAll_mk0), rfl, bel.frame _, fun h => by cases h⟩

theorem over : Rows.windowPlaysRow.holds Try.pinned (OpenSpec.ofChange Rows.windowPlaysSpec) :=
  OpenClaim.holds_of_wide 3 Try.f3 rfl rfl rfl rfl rfl rfl rfl ⟨rfl, rfl, rfl, rfl, rfl⟩ rfl rfl rfl rfl rfl (by kernel_rfl) Try.func3 (by kernel_rfl)
    (of_decide_eq_true (by kernel_rfl)) (by unfold Func.isWrapper; first | (rw [if_pos (by decide +kernel)]; kernel_rfl) | (rw [if_neg (by decide +kernel)]; exact ⟨rfl, rfl⟩))
    (fun os started H enc _ => lifted os started H enc)

theorem proved : Rows.WindowPlaysSaid := over
#print axioms proved
end Go.Proofs.Ytieicfobhgfonaa.windowPlays
