import Derived.Test.YtieicfobhgfonaaRows
import Derived.Test.YtieicfobhgfonaaProg
import Derived.Test.YtieicfobhgfonaaWiMath
import Derived.Test.YtieicfobhgfonaaWiCame
import Derived.Test.YtieicfobhgfonaaWiSums
import Derived.Test.YtieicfobhgfonaaWiBox
import Derived.Test.YtieicfobhgfonaaWiCode
import Derived.Test.YtieicfobhgfonaaWiAwake
import Derived.Test.YtieicfobhgfonaaWiTwo
import Derived.LoopTactic
import Derived.Deep.CutRange
import Derived.Lib.Hide
import Derived.Outline
import Derived.IntWalk
import Derived.WalkSpells
import Derived.WalkLawsBesides
import Derived.Laws.Rows
import Derived.WalkKit
import Derived.ProofKit
import Derived.OpenShut
import Derived.ShutString
import Derived.ChangeOld
import Derived.Below
namespace Go.Proofs.Ytieicfobhgfonaa.windowFirst
open Go Go.ChangeShapes Go.WideShapes Go.ChangeAt Go.RowKit Wi
open Go.ChangeMaps (open_string shut_string)
set_option linter.unusedVariables false

theorem own : ownKnob Try.prog.godebug = none := by kernel_rfl
theorem laidOut : laidOutB Try.prog = true := by kernel_rfl

set_option maxHeartbeats 8000000 in
set_option maxRecDepth 100000 in
theorem walk (a0 : Option Addr) (len0 cap0 : Nat) (L0 : List Ac) (m1 : Nat) (m2 : Nat) (m3 : Nat) (w : World) (hl0 : len0 ≤ maxLen) (hL0 : L0.length = len0) (hR0 : RdA w w.heap.size a0 L0) (hm1 : m1 ≤ 4294967295) (hm2 : m2 ≤ 4294967295) (hm3 : m3 ≤ 4294967295) :
    Calls Try.prog 5 #[.slice a0 len0 cap0, .int .u32 (m1 : Int), .int .u32 (m2 : Int), .int .u32 (m3 : Int)] w fun e w' => e = .returned (.bool true) ∧ Below w.heap.size w w' := by
  have HL := Lib.hid hL0
  have HR := Lib.hid hR0
  clear hL0 hR0
  go_enter Try.func5, Try.ntmps5
  go_wp2_with fail
  refine (wawake_is w).mono ?_
  rintro e w1 ⟨rfl, hB1⟩
  have HB1 := Lib.hid hB1
  clear hB1
  by_cases h1 : (100 : Int) < (len0 : Int)
  · go_wp2_with fail
    go_ret
    exact ⟨rfl, HB1.out⟩
  have h1d : decide ((100 : Int) < (len0 : Int)) = false := decide_eq_false h1
  by_cases h2 : m3 = 0
  · have h2i : ((m3 : Int) == 0) = true := by rw [h2]; rfl
    clear h2
    go_wp2_with fail
    go_ret
    exact ⟨rfl, HB1.out⟩
  have h2i : ((m3 : Int) == 0) = false := beq_eq_false_iff_ne.2 (by omega)
  clear h2
  obtain ⟨g, hg⟩ : ∃ g, w.heap.size = g := ⟨_, rfl⟩
  have G := Lib.hid hg
  have HB1g : Hid (Below g w w1) := Lib.hid (by rw [← hg]; exact HB1.out)
  have HRg : Hid (RdA w g a0 L0) := Lib.hid (by rw [← hg]; exact HR.out)
  have hg1 : Hid (g ≤ w1.heap.size) := Lib.hid (by rw [← hg]; exact HB1.out.size)
  clear hg HB1 HR
  go_wp2_with fail
  refine (wnew_is _).mono ?_
  rintro e w2 ⟨b, rfl, hb, hN, hB2, bm, hbm, hbl⟩
  have HN2 : Hid (BkAt w2 g b newB) := Lib.hid (hN.out.lower hg1.out)
  have HM2 := Lib.hid hbm
  have hg2 : Hid (g ≤ w2.heap.size) := Lib.hid (Nat.le_trans hg1.out hB2.size)
  have HB2 := Lib.hid (HB1g.out.trans (hB2.mono hg1.out))
  clear hN hB2 HB1g hbm
  go_wp2_with fail
  refine (wnew_is _).mono ?_
  rintro e w3 ⟨c, rfl, hc, hN, hB3, cm, hcm, hcl⟩
  have HT3 : Hid (Two w3 g b c newB newB) := Lib.hid (two_new HN2.out HM2.out hB3 (hN.out.lower hg2.out) hcm hc hcl)
  have HB3 := Lib.hid (HB2.out.trans (hB3.mono hg2.out))
  clear hN hB3 HB2 HN2 HM2 hcm hg1 hg2 hb hc hbl hcl
  go_wp2_with fail
  go_loopw [11, 12] (fun i _ wr => ∃ (k : Nat) (B : Bk), k ≤ len0 ∧ i = .int .i64 (k : Int) ∧ Hid (Inv 0 B) ∧ Hid (Two wr g b c B B) ∧ Hid (Below g w wr)) (fun i _ _ => len0 - (intOf i).toNat)
  case atStart => exact ⟨0, newB, Nat.zero_le _, rfl, Lib.hid inv_new, HT3, HB3⟩
  case round =>
    obtain ⟨k, B, hk, rfl, hI, hT, hBw⟩ := hrel
    by_cases hlt : k < len0
    · have hki : (k : Int) < (len0 : Int) := by omega
      have hk0 : (0 : Int) ≤ (k : Int) := by omega
      obtain ⟨b0, off, rfl, hb0, hc4, hoka⟩ := HRg.out k (by rw [HL.out]; exact hlt)
      obtain ⟨x, hx⟩ : ∃ x, acAt L0 k = x := ⟨_, rfl⟩
      rw [hx] at hc4 hoka
      have hcw := (show w.cell? ⟨b0, off + k * 4, none⟩ = some (.int .i64 x.kind) ∧ w.cell? ⟨b0, off + k * 4 + 1, none⟩ = some (.int .u32 (x.id : Int)) ∧ w.cell? ⟨b0, off + k * 4 + 2, none⟩ = some (.int .u32 (x.n : Int)) ∧ w.cell? ⟨b0, off + k * 4 + 3, none⟩ = some (.int .i64 x.want) from hc4)
      have d0 := (hBw.out.cell (p := ⟨b0, off + k * 4, none⟩) hb0).trans hcw.1
      have d1 := (hBw.out.cell (p := ⟨b0, off + k * 4 + 1, none⟩) hb0).trans hcw.2.1
      have d2 := (hBw.out.cell (p := ⟨b0, off + k * 4 + 2, none⟩) hb0).trans hcw.2.2.1
      have d3 := (hBw.out.cell (p := ⟨b0, off + k * 4 + 3, none⟩) hb0).trans hcw.2.2.2
      have HOK := Lib.hid hoka
      have HB0 := Lib.hid hb0
      clear hx hc4 hoka hcw hb0
      go_upto_region 10 with fail
      obtain ⟨hX, hBX, hsz⟩ := boxA_new wr x
      obtain ⟨w4, hw4⟩ : ∃ w4, wr.alloc (.cells #[.int .i64 x.kind, .int .u32 (x.id : Int), .int .u32 (x.n : Int), .int .i64 x.want] 34) = w4 := ⟨_, rfl⟩
      rw [hw4] at hX hBX hsz ⊢
      obtain ⟨X, hXX⟩ : ∃ X, wr.heap.size = X := ⟨_, rfl⟩
      have HT4 := Lib.hid (hT.out.below hBX)
      have hll := hT.out.l.lt
      have hlr := hT.out.r.lt
      have HB4 := Lib.hid (hBw.out.trans (hBX.mono (by have := hT.out.l.gb; omega)))
      rw [hXX] at hX hsz hll hlr ⊢
      have hXb : X ≠ b := by omega
      have hXc : X ≠ c := by omega
      have HX4 := Lib.hid hX
      clear hw4 hXX hX hBX hsz hll hlr hT hBw d0 d1 d2 d3
      obtain ⟨x0, x1, x2, x3⟩ := HX4.out.cells
      obtain ⟨kd, j, n, wa⟩ := x
      have x0 : w4.cell? ⟨X, 0, none⟩ = some (.int .i64 kd) := x0
      have x1 : w4.cell? ⟨X, 1, none⟩ = some (.int .u32 (j : Int)) := x1
      have x2 : w4.cell? ⟨X, 2, none⟩ = some (.int .u32 (n : Int)) := x2
      have x3 : w4.cell? ⟨X, 3, none⟩ = some (.int .i64 wa) := x3
      have hj : j < 4294967296 := HOK.out.i
      have hn : n < 4294967296 := HOK.out.n
      have hwa : -9223372036854775808 ≤ wa ∧ wa ≤ 9223372036854775807 := ⟨HOK.out.w0, HOK.out.w1⟩
      have hK0 : (0 : Int) ≤ 0 ∧ (0 : Int) ≤ 1000000000000 := by omega
      by_cases e0 : kd = 0
      · subst e0
        have HIN := Lib.hid (hI.out.openB (by decide) j)
        go_wp2_with fail
        refine (wopen_is g b 0 B j w4 (Lib.hid HT4.out.l) hI hK0 hj).mono ?_
        rintro e w5 ⟨rfl, hF, hK⟩
        have HT5 : Hid (Two w5 g b c (openB B j) B) := Lib.hid (HT4.out.fst hF.out hK.out)
        have HB5 := Lib.hid (HB4.out.trans (hK.out.below HT4.out.l))
        have hX5 := (hK.out.box HT4.out.l HX4.out hXb).trans HX4.out
        have HX5 : Hid (BoxA w5 X _) := Lib.hid hX5
        clear hF hK hX5 x0 x1 x2 x3
        obtain ⟨x0, x1, x2, x3⟩ := HX5.out.cells
        have x1 : w5.cell? ⟨X, 1, none⟩ = some (.int .u32 (j : Int)) := x1
        have x2 : w5.cell? ⟨X, 2, none⟩ = some (.int .u32 (n : Int)) := x2
        have x3 : w5.cell? ⟨X, 3, none⟩ = some (.int .i64 wa) := x3
        go_wp2_with fail
        refine (wopen_is g c 0 B j w5 (Lib.hid HT5.out.r) hI hK0 hj).mono ?_
        rintro e w6 ⟨rfl, hF, hK⟩
        have HT6 : Hid (Two w6 g b c (openB B j) (openB B j)) := Lib.hid (HT5.out.snd hF.out hK.out)
        have HB6 := Lib.hid (HB5.out.trans (hK.out.below HT5.out.r))
        clear hF hK
        go_wp2_with fail
        go_roundw
        case rel => exact ⟨k + 1, _, by omega, by go_num, HIN, HT6, HB6⟩
        case measure => simp [intOf]; omega
      have f0 : (kd == 0) = false := beq_eq_false_iff_ne.2 e0
      by_cases e2 : kd = 2
      · subst e2
        obtain ⟨⟨B', co⟩, hr⟩ : ∃ z, growB B j n = z := ⟨_, rfl⟩
        have hI' := hI.out.grow j n
        rw [hr] at hI'
        have HIN : Hid (Inv 0 B') := Lib.hid hI'
        have HR2 := Lib.hid hr
        clear hI' hr
        go_wp2_with fail
        refine (wgrow_is g b 0 B B' j n co w4 (Lib.hid HT4.out.l) hI hK0 hj hn HR2).mono ?_
        rintro e w5 ⟨rfl, hF, hK⟩
        have HT5 : Hid (Two w5 g b c (B') B) := Lib.hid (HT4.out.fst hF.out hK.out)
        have HB5 := Lib.hid (HB4.out.trans (hK.out.below HT4.out.l))
        have hX5 := (hK.out.box HT4.out.l HX4.out hXb).trans HX4.out
        have HX5 : Hid (BoxA w5 X _) := Lib.hid hX5
        clear hF hK hX5 x0 x1 x2 x3
        obtain ⟨x0, x1, x2, x3⟩ := HX5.out.cells
        have x1 : w5.cell? ⟨X, 1, none⟩ = some (.int .u32 (j : Int)) := x1
        have x2 : w5.cell? ⟨X, 2, none⟩ = some (.int .u32 (n : Int)) := x2
        have x3 : w5.cell? ⟨X, 3, none⟩ = some (.int .i64 wa) := x3
        go_wp2_with fail
        refine (wgrow_is g c 0 B B' j n co w5 (Lib.hid HT5.out.r) hI hK0 hj hn HR2).mono ?_
        rintro e w6 ⟨rfl, hF, hK⟩
        have HT6 : Hid (Two w6 g b c (B') (B')) := Lib.hid (HT5.out.snd hF.out hK.out)
        have HB6 := Lib.hid (HB5.out.trans (hK.out.below HT5.out.r))
        clear hF hK
        go_wp2_with fail
        go_roundw
        case rel => exact ⟨k + 1, _, by omega, by go_num, HIN, HT6, HB6⟩
        case measure => simp [intOf]; omega
      have f2 : (kd == 2) = false := beq_eq_false_iff_ne.2 e2
      by_cases e4 : kd = 4
      · subst e4
        obtain ⟨⟨B', tk⟩, hr⟩ : ∃ z, takeB B j wa = z := ⟨_, rfl⟩
        have hI' := hI.out.take (by decide) j wa
        rw [hr] at hI'
        have HIN : Hid (Inv 0 B') := Lib.hid hI'
        have HR2 := Lib.hid hr
        clear hI' hr
        go_wp2_with fail
        refine (wtake_is g b 0 B B' j wa tk w4 (Lib.hid HT4.out.l) hI hK0 hj hwa HR2).mono ?_
        rintro e w5 ⟨rfl, hF, hK⟩
        have HT5 : Hid (Two w5 g b c (B') B) := Lib.hid (HT4.out.fst hF.out hK.out)
        have HB5 := Lib.hid (HB4.out.trans (hK.out.below HT4.out.l))
        have hX5 := (hK.out.box HT4.out.l HX4.out hXb).trans HX4.out
        have HX5 : Hid (BoxA w5 X _) := Lib.hid hX5
        clear hF hK hX5 x0 x1 x2 x3
        obtain ⟨x0, x1, x2, x3⟩ := HX5.out.cells
        have x1 : w5.cell? ⟨X, 1, none⟩ = some (.int .u32 (j : Int)) := x1
        have x2 : w5.cell? ⟨X, 2, none⟩ = some (.int .u32 (n : Int)) := x2
        have x3 : w5.cell? ⟨X, 3, none⟩ = some (.int .i64 wa) := x3
        go_wp2_with fail
        refine (wtake_is g c 0 B B' j wa tk w5 (Lib.hid HT5.out.r) hI hK0 hj hwa HR2).mono ?_
        rintro e w6 ⟨rfl, hF, hK⟩
        have HT6 : Hid (Two w6 g b c (B') (B')) := Lib.hid (HT5.out.snd hF.out hK.out)
        have HB6 := Lib.hid (HB5.out.trans (hK.out.below HT5.out.r))
        clear hF hK
        go_wp2_with fail
        go_roundw
        case rel => exact ⟨k + 1, _, by omega, by go_num, HIN, HT6, HB6⟩
        case measure => simp [intOf]; omega
      have f4 : (kd == 4) = false := beq_eq_false_iff_ne.2 e4
      go_wp2_with fail
      go_roundw
      case rel => exact ⟨k + 1, B, by omega, by go_num, hI, HT4, HB4⟩
      case measure => simp [intOf]; omega
    · have hnk : ¬ ((k : Int) < (len0 : Int)) := by omega
      obtain ⟨⟨B1, c1⟩, hr1⟩ : ∃ z, initB B m1 = z := ⟨_, rfl⟩
      obtain ⟨⟨B2, c2⟩, hr2⟩ : ∃ z, initB B1 m2 = z := ⟨_, rfl⟩
      have hI1 := hI.out.init m1
      rw [hr1] at hI1
      have hI1 : Inv (0 + 2147483647) B1 := hI1
      have hI2 := hI1.init m2
      rw [hr2] at hI2
      have hI2 : Inv (0 + 2147483647 + 2147483647) B2 := hI2
      have HI1 := Lib.hid hI1
      have HI2 := Lib.hid hI2
      have HR1 := Lib.hid hr1
      have HR2 := Lib.hid hr2
      clear hI1 hI2 hr1 hr2
      have hm1 : m1 < 4294967296 := by omega
      have hm2 : m2 < 4294967296 := by omega
      go_wp2_with fail
      refine (winit_is g b 0 B B1 m1 c1 wr (Lib.hid hT.out.l) hI ⟨by decide, by decide⟩ hm1 HR1).mono ?_
      rintro e w4 ⟨rfl, hF, hK⟩
      have HT4 := Lib.hid (hT.out.fst hF.out hK.out)
      have HB4 := Lib.hid (hBw.out.trans (hK.out.below hT.out.l))
      clear hF hK hT hBw
      by_cases e1 : c1 = 0
      case neg =>
        have e1i : ((c1 : Int) != 0) = true := bne_iff_ne.2 (by omega)
        go_wp2_with fail
        go_ret
        exact ⟨rfl, by rw [G.out]; exact HB4.out⟩
      subst e1
      go_wp2_with fail
      refine (winit_is g b _ B1 B2 m2 c2 w4 (Lib.hid HT4.out.l) HI1 ⟨by decide, by decide⟩ hm2 HR2).mono ?_
      rintro e w5 ⟨rfl, hF, hK⟩
      have HT5 := Lib.hid (HT4.out.fst hF.out hK.out)
      have HB5 := Lib.hid (HB4.out.trans (hK.out.below HT4.out.l))
      clear hF hK HT4 HB4
      by_cases e2 : c2 = 0
      case neg =>
        have e2i : ((c2 : Int) != 0) = true := bne_iff_ne.2 (by omega)
        go_wp2_with fail
        go_ret
        exact ⟨rfl, by rw [G.out]; exact HB5.out⟩
      subst e2
      have HR3 := Lib.hid (init_twice HR1.out HR2.out)
      have HF2 := Lib.hid (init_first HR2.out)
      go_wp2_with fail
      refine (winit_is g c 0 B B2 m2 0 w5 (Lib.hid HT5.out.r) hI ⟨by decide, by decide⟩ hm2 HR3).mono ?_
      rintro e w6 ⟨rfl, hF, hK⟩
      have HT6 := Lib.hid (HT5.out.snd hF.out hK.out)
      have HB6 := Lib.hid (HB5.out.trans (hK.out.below HT5.out.r))
      clear hF hK HT5 HB5
      obtain ⟨E, hE⟩ : ∃ E, B2.conn = E := ⟨_, rfl⟩
      have HCL : Hid (∀ W : World, BkAt W g b B2 → Calls Try.prog 17 #[.pointer (some ⟨b, 0, none⟩)] W fun e w' => e = .returned (.int .i64 E) ∧ W = w') := Lib.hid (fun W h => by rw [← hE]; exact wconn_is g b _ W (Lib.hid h))
      have HCR : Hid (∀ W : World, BkAt W g c B2 → Calls Try.prog 17 #[.pointer (some ⟨c, 0, none⟩)] W fun e w' => e = .returned (.int .i64 E) ∧ W = w') := Lib.hid (fun W h => by rw [← hE]; exact wconn_is g c _ W (Lib.hid h))
      have nEE : (E != E) = false := by simp
      clear hE
      go_wp2_with fail
      refine (HCL.out _ HT6.out.l).mono ?_
      rintro e w7 ⟨rfl, rfl⟩
      go_wp2_with fail
      refine (HCR.out _ HT6.out.r).mono ?_
      rintro e w7 ⟨rfl, rfl⟩
      go_wp2_with fail
      clear hnk hlt hk
      go_loopw [13, 14, 15, 16, 17] (fun i _ _ _ _ wr => ∃ k : Nat, k ≤ len0 ∧ i = .int .i64 (k : Int) ∧ Hid (Two wr g b c B2 B2) ∧ Hid (Below g w wr)) (fun i _ _ _ _ _ => len0 - (intOf i).toNat)
      case atStart => exact ⟨0, Nat.zero_le _, rfl, HT6, HB6⟩
      case round =>
        obtain ⟨k, hk, rfl, hT, hBw⟩ := hrel
        by_cases hlt : k < len0
        · have hki : (k : Int) < (len0 : Int) := by omega
          have hk0 : (0 : Int) ≤ (k : Int) := by omega
          obtain ⟨b0, off, rfl, hb0, hc4, hoka⟩ := HRg.out k (by rw [HL.out]; exact hlt)
          obtain ⟨x, hx⟩ : ∃ x, acAt L0 k = x := ⟨_, rfl⟩
          rw [hx] at hc4 hoka
          have d1 := (hBw.out.cell (p := ⟨b0, off + k * 4 + 1, none⟩) hb0).trans hc4.2.1
          obtain ⟨kd, j, n, wa⟩ := x
          have d1 : wr.cell? ⟨b0, off + k * 4 + 1, none⟩ = some (.int .u32 (j : Int)) := d1
          have hw1 : w.cell? ⟨b0, off + k * 4 + 1, none⟩ = some (.int .u32 (j : Int)) := hc4.2.1
          have hj : j < 4294967296 := hoka.i
          have HW1 := Lib.hid hw1
          have HB0 := Lib.hid hb0
          clear hx hc4 hoka hb0 hw1
          obtain ⟨o, ho⟩ : ∃ o, ofR B2.rows j = o := ⟨_, rfl⟩
          have HO := Lib.hid ho
          clear ho
          have nbb : (o.isSome != o.isSome) = false := by simp
          have nvv : (o.getD 0 != o.getD 0) = false := by simp
          go_wp2_with fail
          refine (wof_is g b B2 j wr o (Lib.hid hT.out.l) hj HO).mono ?_
          rintro e w7 ⟨rfl, hB7⟩
          have HT7 := Lib.hid (hT.out.below hB7)
          have HB7 := Lib.hid (hBw.out.trans (hB7.mono (by have := hT.out.l.gb; have := hT.out.l.lt; omega)))
          clear hB7 d1
          have d2 : w7.cell? ⟨b0, off + k * 4 + 1, none⟩ = some (.int .u32 (j : Int)) := (HB7.out.cell (p := ⟨b0, off + k * 4 + 1, none⟩) HB0.out).trans HW1.out
          go_wp2_with fail
          refine (wof_is g c B2 j w7 o (Lib.hid HT7.out.r) hj HO).mono ?_
          rintro e w8 ⟨rfl, hB8⟩
          have HT8 := Lib.hid (HT7.out.below hB8)
          have HB8 := Lib.hid (HB7.out.trans (hB8.mono (by have := HT7.out.l.gb; have := HT7.out.l.lt; omega)))
          clear hB8 d2
          go_wp2_with fail
          go_roundw
          case rel => exact ⟨k + 1, by omega, by go_num, HT8, HB8⟩
          case measure => simp [intOf]; omega
        · have hnk : ¬ ((k : Int) < (len0 : Int)) := by omega
          have hof := of_open B2 m3
          rw [HF2.out] at hof
          have HOF := Lib.hid hof
          clear hof
          have hm3' : m3 < 4294967296 := by omega
          have hwm : IntKind.i64.wrap (m2 : Int) = (m2 : Int) := by rw [IntKind.wrap_i64]; omega
          have hmm : ((m2 : Int) == (m2 : Int)) = true := by simp
          go_wp2_with fail
          refine (wopen_is g b _ B2 m3 wr (Lib.hid hT.out.l) HI2 ⟨by decide, by decide⟩ hm3').mono ?_
          rintro e w7 ⟨rfl, hF, hK⟩
          have HB7 := Lib.hid (hBw.out.trans (hK.out.below hT.out.l))
          clear hK
          go_wp2_with fail
          refine (wof_is g b _ m3 w7 _ hF hm3' HOF).mono ?_
          rintro e w8 ⟨rfl, hB8⟩
          have HB8 := Lib.hid (HB7.out.trans (hB8.mono (by have := hF.out.gb; have := hF.out.lt; omega)))
          go_wp2_with fail
          go_ret
          exact ⟨rfl, by rw [G.out]; exact HB8.out⟩

set_option maxRecDepth 100000 in
theorem lifted (os : Os) (started : os.Started) (H : Type) (enc : TypeId × Value → H) :
    ReturnsInHanded {} Try.checked os 5 .any (Rows.windowFirstSpec.pre6 enc Try.prog Try.f5 Rows.windowFirstRow.domain false) (Rows.windowFirstSpec.post enc Try.prog Try.f5 false true false false) := by
  refine returnsInHanded_of_change (C := Try.checked) own started (by kernel_rfl) Try.func5
    (ChangeSpec.witness6 (enc := enc) (C := Try.checked) false ⟨#[], #[.slice none 0 0, .int .u32 0, .int .u32 0, .int .u32 0], []⟩ 8 (by kernel_rfl) (by kernel_rfl) (by kernel_rfl) (by kernel_rfl)) ?_
  intro W base args ds gs before hval0 hW hcnd _
  have hval : ∀ (j : Nat) t v, Try.f5.params[j]? = some t → args[j]? = some v → Value.okWide Try.prog W .any base t v := hval0
  have hW' := hW
  obtain ⟨p, q, hA0, hV, rfl, hfz, hnd⟩ := hW
  have hA : DataW.TrodAll enc Try.prog W 0 (fun _ => true) true Try.f5.params.toList args.toList ds p := hA0
  rw [Try.params5] at hA hval
  obtain ⟨v0, vs0, d0, ds0, p0, q0, hargs, rfl, rfl, h0, r0⟩ := trodAll_cons hA
  obtain ⟨v1, vs1, d1, ds1, p1, q1, rfl, rfl, rfl, h1, r1⟩ := trodAll_cons r0
  obtain ⟨v2, vs2, d2, ds2, p2, q2, rfl, rfl, rfl, h2, r2⟩ := trodAll_cons r1
  obtain ⟨v3, vs3, d3, ds3, p3, q3, rfl, rfl, rfl, h3, r3⟩ := trodAll_cons r2
  obtain ⟨rfl, rfl, rfl⟩ := trodAll_nil r3
  obtain rfl : args = #[v0, v1, v2, v3] := by cases args; simp_all
  obtain ⟨rfl, rfl⟩ := trodVars_none hV
  obtain ⟨a0, len0, cap0, rfl⟩ := okWide_slice Try.underlying22 (hval 0 22 v0 rfl rfl)
  have k0 := h0
  have lt0 : ∀ x ∈ p0, x.block < W.heap.size := by obtain ⟨m, hm⟩ := k0; exact DataW.trod_lt m _ _ _ hm
  obtain ⟨hl0, L0, hN0, hR0⟩ : len0 ≤ maxLen ∧ ∃ L : List Ac, L.length = len0 ∧ RdA W W.heap.size a0 L := by
    obtain ⟨fuel, hf⟩ := h0
    exact rda_of_trod hf
  obtain ⟨z1, rfl, rfl, rfl, wf1⟩ := open_int Try.underlying32 (hval 1 32 v1 rfl rfl) h1
  have bd1 := bounds_u32 wf1
  obtain ⟨m1, rfl⟩ := Int.eq_ofNat_of_zero_le bd1.1
  obtain ⟨z2, rfl, rfl, rfl, wf2⟩ := open_int Try.underlying32 (hval 2 32 v2 rfl rfl) h2
  have bd2 := bounds_u32 wf2
  obtain ⟨m2, rfl⟩ := Int.eq_ofNat_of_zero_le bd2.1
  obtain ⟨z3, rfl, rfl, rfl, wf3⟩ := open_int Try.underlying32 (hval 3 32 v3 rfl rfl) h3
  have bd3 := bounds_u32 wf3
  obtain ⟨m3, rfl⟩ := Int.eq_ofNat_of_zero_le bd3.1
  clear hA0 hval0
  refine (walk a0 len0 cap0 L0 m1 m2 m3 W hl0 hN0 hR0 (by omega) (by omega) (by omega)).mono fun e W' ⟨he, bel⟩ => ?_
  subst he
  exact ⟨_, rfl, _, _, _, [], _, [], hW', trodAll_mk1 (shut_bool Try.underlying4 _), (trodAll_cons_mk (Below.trod laidOut (by kernel_rfl) (of_decide_eq_true (by kernel_rfl)) k0 bel lt0) (trodAll_cons_mk (shut_int Try.underlying32 wf1) (trodAll_cons_mk (shut_int Try.underlying32 wf2) (trodAll_cons_mk (shut_int Try.underlying32 wf3) trodAll_mk0)))), rfl, bel.frame _, fun h => by cases h⟩

theorem over : Rows.windowFirstRow.holds Try.pinned (OpenSpec.ofChange Rows.windowFirstSpec) :=
  OpenClaim.holds_of_wide 5 Try.f5 rfl rfl rfl rfl rfl rfl rfl ⟨rfl, rfl, rfl, rfl, rfl⟩ rfl rfl rfl rfl rfl (by kernel_rfl) Try.func5 (by kernel_rfl)
    (of_decide_eq_true (by kernel_rfl)) (by unfold Func.isWrapper; first | (rw [if_pos (by decide +kernel)]; kernel_rfl) | (rw [if_neg (by decide +kernel)]; exact ⟨rfl, rfl⟩))
    (fun os started H enc _ => lifted os started H enc)

theorem proved : Rows.WindowFirstSaid := over
#print axioms proved
end Go.Proofs.Ytieicfobhgfonaa.windowFirst
