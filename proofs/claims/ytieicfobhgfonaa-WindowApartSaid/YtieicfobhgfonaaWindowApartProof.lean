import Derived.Test.YtieicfobhgfonaaRows
import Derived.Test.YtieicfobhgfonaaProg
import Derived.Test.YtieicfobhgfonaaWiMath
import Derived.Test.YtieicfobhgfonaaWiCame
import Derived.Test.YtieicfobhgfonaaWiSums
import Derived.Test.YtieicfobhgfonaaWiApart
import Derived.Test.YtieicfobhgfonaaWiBox
import Derived.Test.YtieicfobhgfonaaWiCode
import Derived.Test.YtieicfobhgfonaaWiAwake
import Derived.Test.YtieicfobhgfonaaWiTwo
import Derived.LoopTactic
import Derived.Deep.CutRange
import Derived.Lib.Hide
import Derived.Outline
import Derived.IntWalk
import Derived.WalkSpells
import Derived.WalkLawsBesides
import Derived.Laws.Rows
import Derived.WalkKit
import Derived.ProofKit
import Derived.OpenShut
import Derived.ShutString
import Derived.ChangeOld
import Derived.Below
namespace Go.Proofs.Ytieicfobhgfonaa.windowApart
open Go Go.ChangeShapes Go.WideShapes Go.ChangeAt Go.RowKit Wi
open Go.ChangeMaps (open_string shut_string)
set_option linter.unusedVariables false

theorem own : ownKnob Try.prog.godebug = none := by kernel_rfl
theorem laidOut : laidOutB Try.prog = true := by kernel_rfl

set_option maxHeartbeats 8000000 in
set_option maxRecDepth 100000 in
theorem walk (m0 : Nat) (a1 : Option Addr) (len1 cap1 : Nat) (L1 : List Ac) (w : World) (hm0 : m0 ≤ 4294967295) (hl1 : len1 ≤ maxLen) (hL1 : L1.length = len1) (hR1 : RdA w w.heap.size a1 L1) :
    Calls Try.prog 6 #[.int .u32 (m0 : Int), .slice a1 len1 cap1] w fun e w' => e = .returned (.bool true) ∧ Below w.heap.size w w' := by
  have HL := Lib.hid hL1
  have HR := Lib.hid hR1
  clear hL1 hR1
  obtain ⟨gB, hgB⟩ : ∃ gB, growB newB 0 2000000000 = (gB, 0) := ⟨_, rfl⟩
  have hgI := inv_new.grow 0 2000000000
  rw [hgB] at hgI
  have HGI : Hid (Inv 0 gB) := Lib.hid hgI
  have HGB := Lib.hid hgB
  have HAL0 : Hid (Al 2000065535 m0 (openB gB m0) (openB gB m0)) := Lib.hid (al_start hgB hgB m0)
  clear hgI hgB
  go_enter Try.func6, Try.ntmps6
  go_wp2_with fail
  refine (wawake_is w).mono ?_
  rintro e w1 ⟨rfl, hB1⟩
  have HB1 := Lib.hid hB1
  clear hB1
  by_cases h1 : (100 : Int) < (len1 : Int)
  · go_wp2_with fail
    go_ret
    exact ⟨rfl, HB1.out⟩
  have h1d : decide ((100 : Int) < (len1 : Int)) = false := decide_eq_false h1
  by_cases h2 : m0 = 0
  · have h2i : ((m0 : Int) == 0) = true := by rw [h2]; rfl
    clear h2
    go_wp2_with fail
    go_ret
    exact ⟨rfl, HB1.out⟩
  have h2i : ((m0 : Int) == 0) = false := beq_eq_false_iff_ne.2 (by omega)
  have HM := Lib.hid h2
  have hm : m0 < 4294967296 := by omega
  clear h2
  obtain ⟨g, hg⟩ : ∃ g, w.heap.size = g := ⟨_, rfl⟩
  have G := Lib.hid hg
  have HB1g : Hid (Below g w w1) := Lib.hid (by rw [← hg]; exact HB1.out)
  have HRg : Hid (RdA w g a1 L1) := Lib.hid (by rw [← hg]; exact HR.out)
  have hg1 : Hid (g ≤ w1.heap.size) := Lib.hid (by rw [← hg]; exact HB1.out.size)
  clear hg HB1 HR
  go_wp2_with fail
  refine (wnew_is _).mono ?_
  rintro e w2 ⟨b, rfl, hb, hN, hB2, bm, hbm, hbl⟩
  have HN2 : Hid (BkAt w2 g b newB) := Lib.hid (hN.out.lower hg1.out)
  have HM2 := Lib.hid hbm
  have hg2 : Hid (g ≤ w2.heap.size) := Lib.hid (Nat.le_trans hg1.out hB2.size)
  have HB2 := Lib.hid (HB1g.out.trans (hB2.mono hg1.out))
  clear hN hB2 HB1g hbm
  go_wp2_with fail
  refine (wnew_is _).mono ?_
  rintro e w3 ⟨c, rfl, hc, hN, hB3, cm, hcm, hcl⟩
  have HT3 : Hid (Two w3 g b c newB newB) := Lib.hid (two_new HN2.out HM2.out hB3 (hN.out.lower hg2.out) hcm hc hcl)
  have HB3 := Lib.hid (HB2.out.trans (hB3.mono hg2.out))
  clear hN hB3 HB2 HN2 HM2 hcm hg1 hg2 hb hc hbl hcl
  go_wp2_with fail
  refine (wgrow_is g b 0 newB gB 0 2000000000 0 w3 (Lib.hid HT3.out.l) (Lib.hid inv_new) ⟨by decide, by decide⟩ (by decide) (by decide) HGB).mono ?_
  rintro e w4 ⟨rfl, hF, hK⟩
  have HT4 := Lib.hid (HT3.out.fst hF.out hK.out)
  have HB4 := Lib.hid (HB3.out.trans (hK.out.below HT3.out.l))
  clear hF hK HT3 HB3
  go_wp2_with fail
  refine (wgrow_is g c 0 newB gB 0 2000000000 0 w4 (Lib.hid HT4.out.r) (Lib.hid inv_new) ⟨by decide, by decide⟩ (by decide) (by decide) HGB).mono ?_
  rintro e w5 ⟨rfl, hF, hK⟩
  have HT5 := Lib.hid (HT4.out.snd hF.out hK.out)
  have HB5 := Lib.hid (HB4.out.trans (hK.out.below HT4.out.r))
  clear hF hK HT4 HB4
  go_wp2_with fail
  refine (wopen_is g b 0 gB m0 w5 (Lib.hid HT5.out.l) HGI ⟨by decide, by decide⟩ hm).mono ?_
  rintro e w6 ⟨rfl, hF, hK⟩
  have HT6 := Lib.hid (HT5.out.fst hF.out hK.out)
  have HB6 := Lib.hid (HB5.out.trans (hK.out.below HT5.out.l))
  clear hF hK HT5 HB5
  go_wp2_with fail
  refine (wopen_is g c 0 gB m0 w6 (Lib.hid HT6.out.r) HGI ⟨by decide, by decide⟩ hm).mono ?_
  rintro e w7 ⟨rfl, hF, hK⟩
  have HT7 := Lib.hid (HT6.out.snd hF.out hK.out)
  have HB7 := Lib.hid (HB6.out.trans (hK.out.below HT6.out.r))
  have HI7 := Lib.hid (HGI.out.openB (by decide) m0)
  clear hF hK HT6 HB6 HGI HGB
  go_wp2_with fail
  go_loopw [7, 8, 9, 10, 11, 12, 13, 14] (fun i _ _ _ _ _ _ _ wr => ∃ (k : Nat) (A B : Bk), k ≤ len1 ∧ i = .int .i64 (k : Int) ∧ Hid (Inv 0 A) ∧ Hid (Inv 0 B) ∧ Hid (Al (2000065535 - k * 1000000) m0 A B) ∧ Hid (Two wr g b c A B) ∧ Hid (Below g w wr)) (fun i _ _ _ _ _ _ _ _ => len1 - (intOf i).toNat)
  case atStart => exact ⟨0, _, _, Nat.zero_le _, rfl, HI7, HI7, Lib.hid (HAL0.out.more (by omega)), HT7, HB7⟩
  case round =>
    obtain ⟨k, A, B, hk, rfl, hIA, hIB, hAl, hT, hBw⟩ := hrel
    by_cases hlt : k < len1
    case neg =>
      have hnk : ¬ ((k : Int) < (len1 : Int)) := by omega
      go_wp2_with fail
      go_ret
      exact ⟨rfl, by rw [G.out]; exact hBw.out⟩
    have hki : (k : Int) < (len1 : Int) := by omega
    have hk0 : (0 : Int) ≤ (k : Int) := by omega
    obtain ⟨b0, off, rfl, hb0, hc4, hoka⟩ := HRg.out k (by rw [HL.out]; exact hlt)
    obtain ⟨x, hx⟩ : ∃ x, acAt L1 k = x := ⟨_, rfl⟩
    rw [hx] at hc4 hoka
    have hcw := (show w.cell? ⟨b0, off + k * 4, none⟩ = some (.int .i64 x.kind) ∧ w.cell? ⟨b0, off + k * 4 + 1, none⟩ = some (.int .u32 (x.id : Int)) ∧ w.cell? ⟨b0, off + k * 4 + 2, none⟩ = some (.int .u32 (x.n : Int)) ∧ w.cell? ⟨b0, off + k * 4 + 3, none⟩ = some (.int .i64 x.want) from hc4)
    have d0 := (hBw.out.cell (p := ⟨b0, off + k * 4, none⟩) hb0).trans hcw.1
    have d1 := (hBw.out.cell (p := ⟨b0, off + k * 4 + 1, none⟩) hb0).trans hcw.2.1
    have d2 := (hBw.out.cell (p := ⟨b0, off + k * 4 + 2, none⟩) hb0).trans hcw.2.2.1
    have d3 := (hBw.out.cell (p := ⟨b0, off + k * 4 + 3, none⟩) hb0).trans hcw.2.2.2
    have HOK := Lib.hid hoka
    clear hx hc4 hoka hcw hb0
    go_upto_region 14 with fail
    obtain ⟨hX, hBX, hsz⟩ := boxA_new wr x
    obtain ⟨w3, hw3⟩ : ∃ w3, wr.alloc (.cells #[.int .i64 x.kind, .int .u32 (x.id : Int), .int .u32 (x.n : Int), .int .i64 x.want] 34) = w3 := ⟨_, rfl⟩
    rw [hw3] at hX hBX hsz ⊢
    obtain ⟨X, hXX⟩ : ∃ X, wr.heap.size = X := ⟨_, rfl⟩
    have HT3 := Lib.hid (hT.out.below hBX)
    have hll := hT.out.l.lt
    have hlr := hT.out.r.lt
    have hgl := hT.out.l.gb
    have HB3 := Lib.hid (hBw.out.trans (hBX.mono (by omega)))
    rw [hXX] at hX hsz hll hlr ⊢
    have hXb : X ≠ b := by omega
    have hXc : X ≠ c := by omega
    have hgX : g ≤ X := by omega
    have HX3 := Lib.hid hX
    clear hw3 hXX hX hBX hsz hll hlr hgl hT hBw d0 d1 d2 d3
    obtain ⟨kd, j, n, wb⟩ := x
    have hj : j < 4294967296 := HOK.out.i
    have hn : n < 4294967296 := HOK.out.n
    have hwb : -9223372036854775808 ≤ wb ∧ wb ≤ 9223372036854775807 := ⟨HOK.out.w0, HOK.out.w1⟩
    go_cut [] from 46 to 50 (fun wx => ∃ wa : Int, 0 ≤ wa ∧ wa ≤ 1000000 ∧ Hid (BoxA wx X ⟨kd, j, n, wa⟩) ∧ Hid (Two wx g b c A B) ∧ Hid (Below g w wx))
    case first =>
      obtain ⟨x0, x1, x2, x3⟩ := HX3.out.cells
      have x3 : w3.cell? ⟨X, 3, none⟩ = some (.int .i64 wb) := x3
      have f3 : w3.frozen? ⟨X, 3, none⟩ = false := by have h := HX3.out; unfold BoxA at h; simp [World.frozen?, h]
      have HSET : Hid (∀ wa : Int, BoxA (w3.setCell ⟨X, 3, none⟩ (.int .i64 wa)) X ⟨kd, j, n, wa⟩) := Lib.hid (fun wa => by
        have h := HX3.out
        unfold BoxA at h ⊢
        simp [World.setCell, Array.getElem?_modify, h])
      have HTS : Hid (∀ v : Value, Two (w3.setCell ⟨X, 3, none⟩ v) g b c A B) := Lib.hid (fun v => two_set HT3.out HX3.out hXb hXc v)
      have HBS : Hid (∀ v : Value, Below g w (w3.setCell ⟨X, 3, none⟩ v)) := Lib.hid (fun v => HB3.out.setCell (p := ⟨X, 3, none⟩) hgX v)
      clear x0 x1 x2
      go_wp2_with fail
      all_goals
        go_meet
        exact ⟨_, by first | omega | (split <;> omega), by first | omega | (split <;> omega), Lib.hid (HSET.out _), Lib.hid (HTS.out _), Lib.hid (HBS.out _)⟩
    case rest =>
      obtain ⟨wa, hw0, hw1, HX4, HT4, HB4⟩ := hcut
      generalize wc = w4 at *
      clear HX3 HT3 HB3
      obtain ⟨x0, x1, x2, x3⟩ := HX4.out.cells
      have x0 : w4.cell? ⟨X, 0, none⟩ = some (.int .i64 kd) := x0
      have x1 : w4.cell? ⟨X, 1, none⟩ = some (.int .u32 (j : Int)) := x1
      have x2 : w4.cell? ⟨X, 2, none⟩ = some (.int .u32 (n : Int)) := x2
      have x3 : w4.cell? ⟨X, 3, none⟩ = some (.int .i64 wa) := x3
      have hwa : -9223372036854775808 ≤ wa ∧ wa ≤ 9223372036854775807 := by omega
      have hK0 : (0 : Int) ≤ 0 ∧ (0 : Int) ≤ 1000000000000 := by omega
      have hM1 : (1000000 : Int) ≤ 2000065535 - k * 1000000 := by omega
      by_cases e3 : kd = 3
      · subst e3
        go_wp2_with fail
        go_roundw
        case rel => exact ⟨k + 1, A, B, by omega, by go_num, hIA, hIB, Lib.hid (hAl.out.more (by omega)), HT4, HB4⟩
        case measure => simp [intOf]; omega
      have f3 : (kd == 3) = false := beq_eq_false_iff_ne.2 e3
      by_cases e2 : kd = 2
      · subst e2
        by_cases ez : j = 0
        · subst ez
          go_wp2_with fail
          go_roundw
          case rel => exact ⟨k + 1, A, B, by omega, by go_num, hIA, hIB, Lib.hid (hAl.out.more (by omega)), HT4, HB4⟩
          case measure => simp [intOf]; omega
        have fz : ((j : Int) == 0) = false := beq_eq_false_iff_ne.2 (by omega)
        by_cases ej : j = m0
        · subst j
          obtain ⟨⟨A', s⟩, hra⟩ : ∃ z, growB A m0 n = z := ⟨_, rfl⟩
          have hia := hIA.out.grow m0 n
          rw [hra] at hia
          have HIA : Hid (Inv 0 A') := Lib.hid hia
          have HRA := Lib.hid hra
          clear hia hra
          obtain ⟨⟨B', t⟩, hrb⟩ : ∃ z, growB B m0 n = z := ⟨_, rfl⟩
          have hib := hIB.out.grow m0 n
          rw [hrb] at hib
          have HIB : Hid (Inv 0 B') := Lib.hid hib
          have HRB := Lib.hid hrb
          clear hib hrb
          obtain ⟨hst, hal2⟩ := hAl.out.grown HM.out HRA.out HRB.out
          have HAL := Lib.hid hal2
          clear hal2
          subst hst
          have hsc := grow_code HRA.out
          have hws : IntKind.i64.wrap (s : Int) = (s : Int) := by rw [IntKind.wrap_i64]; omega
          have hss : ((s : Int) != (s : Int)) = false := by simp
          clear hsc
          go_wp2_with fail
          refine (wgrow_is g b 0 A A' m0 n s w4 (Lib.hid HT4.out.l) hIA hK0 hm hn HRA).mono ?_
          rintro e w5 ⟨rfl, hF, hK⟩
          have HT5 : Hid (Two w5 g b c (A') B) := Lib.hid (HT4.out.fst hF.out hK.out)
          have HB5 := Lib.hid (HB4.out.trans (hK.out.below HT4.out.l))
          have hX5 := (hK.out.box HT4.out.l HX4.out hXb).trans HX4.out
          have HX5 : Hid (BoxA w5 X _) := Lib.hid hX5
          clear hF hK hX5
          clear x0 x1 x2 x3
          obtain ⟨x0, x1, x2, x3⟩ := HX5.out.cells
          have x1 : w5.cell? ⟨X, 1, none⟩ = some (.int .u32 (m0 : Int)) := x1
          have x2 : w5.cell? ⟨X, 2, none⟩ = some (.int .u32 (n : Int)) := x2
          have x3 : w5.cell? ⟨X, 3, none⟩ = some (.int .i64 wa) := x3
          go_wp2_with fail
          refine (wgrow_is g c 0 B B' m0 n s w5 (Lib.hid HT5.out.r) hIB hK0 hm hn HRB).mono ?_
          rintro e w6 ⟨rfl, hF, hK⟩
          have HT6 : Hid (Two w6 g b c (A') (B')) := Lib.hid (HT5.out.snd hF.out hK.out)
          have HB6 := Lib.hid (HB5.out.trans (hK.out.below HT5.out.r))
          clear hF hK x0 x1 x2 x3
          have hal := (HAL.out).of
          obtain ⟨q, hq⟩ : ∃ q, ofR (A').rows m0 = q := ⟨_, rfl⟩
          rw [hq] at hal
          have HOL := Lib.hid hq
          have HOR := Lib.hid hal.symm
          have nbb : (q.isSome != q.isSome) = false := by simp
          have nvv : (q.getD 0 != q.getD 0) = false := by simp
          clear hal hq
          go_wp2_with fail
          refine (wof_is g b _ m0 w6 q (Lib.hid HT6.out.l) hm HOL).mono ?_
          rintro e w8 ⟨rfl, hB8⟩
          have HT8 := Lib.hid (HT6.out.below hB8)
          have HB8 := Lib.hid (HB6.out.trans (hB8.mono (by have := HT6.out.l.gb; have := HT6.out.l.lt; omega)))
          clear hB8
          go_wp2_with fail
          refine (wof_is g c _ m0 w8 q (Lib.hid HT8.out.r) hm HOR).mono ?_
          rintro e w9 ⟨rfl, hB9⟩
          have HT9 := Lib.hid (HT8.out.below hB9)
          have HB9 := Lib.hid (HB8.out.trans (hB9.mono (by have := HT8.out.l.gb; have := HT8.out.l.lt; omega)))
          clear hB9
          go_wp2_with fail
          go_roundw
          case rel => exact ⟨k + 1, _, _, by omega, by go_num, HIA, HIB, Lib.hid ((HAL.out).more (by omega)), HT9, HB9⟩
          case measure => simp [intOf]; omega
        · obtain ⟨⟨A', s⟩, hra⟩ : ∃ z, growB A j n = z := ⟨_, rfl⟩
          have hia := hIA.out.grow j n
          rw [hra] at hia
          have HIA : Hid (Inv 0 A') := Lib.hid hia
          have HRA := Lib.hid hra
          clear hia hra
          have HAL := Lib.hid (hAl.out.grown1 ej ez HRA.out)
          have hsc := grow_code HRA.out
          have hws : IntKind.i64.wrap (s : Int) = (s : Int) := by rw [IntKind.wrap_i64]; omega
          have hss : ((s : Int) != (s : Int)) = false := by simp
          clear hsc
          have qj : ((j : Int) == (m0 : Int)) = false := beq_eq_false_iff_ne.2 (by omega)
          go_wp2_with fail
          refine (wgrow_is g b 0 A A' j n s w4 (Lib.hid HT4.out.l) hIA hK0 hj hn HRA).mono ?_
          rintro e w5 ⟨rfl, hF, hK⟩
          have HT5 : Hid (Two w5 g b c (A') B) := Lib.hid (HT4.out.fst hF.out hK.out)
          have HB5 := Lib.hid (HB4.out.trans (hK.out.below HT4.out.l))
          have hX5 := (hK.out.box HT4.out.l HX4.out hXb).trans HX4.out
          have HX5 : Hid (BoxA w5 X _) := Lib.hid hX5
          clear hF hK hX5
          clear x0 x1 x2 x3
          obtain ⟨x0, x1, x2, x3⟩ := HX5.out.cells
          have x1 : w5.cell? ⟨X, 1, none⟩ = some (.int .u32 (j : Int)) := x1
          have x2 : w5.cell? ⟨X, 2, none⟩ = some (.int .u32 (n : Int)) := x2
          have x3 : w5.cell? ⟨X, 3, none⟩ = some (.int .i64 wa) := x3
          have hal := (HAL.out).of
          obtain ⟨q, hq⟩ : ∃ q, ofR (A').rows m0 = q := ⟨_, rfl⟩
          rw [hq] at hal
          have HOL := Lib.hid hq
          have HOR := Lib.hid hal.symm
          have nbb : (q.isSome != q.isSome) = false := by simp
          have nvv : (q.getD 0 != q.getD 0) = false := by simp
          clear hal hq
          go_wp2_with fail
          refine (wof_is g b _ m0 w5 q (Lib.hid HT5.out.l) hm HOL).mono ?_
          rintro e w8 ⟨rfl, hB8⟩
          have HT8 := Lib.hid (HT5.out.below hB8)
          have HB8 := Lib.hid (HB5.out.trans (hB8.mono (by have := HT5.out.l.gb; have := HT5.out.l.lt; omega)))
          clear hB8
          go_wp2_with fail
          refine (wof_is g c _ m0 w8 q (Lib.hid HT8.out.r) hm HOR).mono ?_
          rintro e w9 ⟨rfl, hB9⟩
          have HT9 := Lib.hid (HT8.out.below hB9)
          have HB9 := Lib.hid (HB8.out.trans (hB9.mono (by have := HT8.out.l.gb; have := HT8.out.l.lt; omega)))
          clear hB9
          go_wp2_with fail
          go_roundw
          case rel => exact ⟨k + 1, _, _, by omega, by go_num, HIA, hIB, Lib.hid ((HAL.out).more (by omega)), HT9, HB9⟩
          case measure => simp [intOf]; omega
      have f2 : (kd == 2) = false := beq_eq_false_iff_ne.2 e2
      by_cases e0 : kd = 0
      · subst e0
        by_cases ej : j = m0
        · subst j
          have HIA := Lib.hid (hIA.out.openB (by decide) m0)
          have HIB := Lib.hid (hIB.out.openB (by decide) m0)
          have HAL := Lib.hid (hAl.out.opened)
          go_wp2_with fail
          refine (wopen_is g b 0 A m0 w4 (Lib.hid HT4.out.l) hIA hK0 hm).mono ?_
          rintro e w5 ⟨rfl, hF, hK⟩
          have HT5 : Hid (Two w5 g b c (openB A m0) B) := Lib.hid (HT4.out.fst hF.out hK.out)
          have HB5 := Lib.hid (HB4.out.trans (hK.out.below HT4.out.l))
          have hX5 := (hK.out.box HT4.out.l HX4.out hXb).trans HX4.out
          have HX5 : Hid (BoxA w5 X _) := Lib.hid hX5
          clear hF hK hX5
          clear x0 x1 x2 x3
          obtain ⟨x0, x1, x2, x3⟩ := HX5.out.cells
          have x1 : w5.cell? ⟨X, 1, none⟩ = some (.int .u32 (m0 : Int)) := x1
          have x2 : w5.cell? ⟨X, 2, none⟩ = some (.int .u32 (n : Int)) := x2
          have x3 : w5.cell? ⟨X, 3, none⟩ = some (.int .i64 wa) := x3
          go_wp2_with fail
          refine (wopen_is g c 0 B m0 w5 (Lib.hid HT5.out.r) hIB hK0 hm).mono ?_
          rintro e w6 ⟨rfl, hF, hK⟩
          have HT6 : Hid (Two w6 g b c (openB A m0) (openB B m0)) := Lib.hid (HT5.out.snd hF.out hK.out)
          have HB6 := Lib.hid (HB5.out.trans (hK.out.below HT5.out.r))
          clear hF hK x0 x1 x2 x3
          have hal := (HAL.out).of
          obtain ⟨q, hq⟩ : ∃ q, ofR (openB A m0).rows m0 = q := ⟨_, rfl⟩
          rw [hq] at hal
          have HOL := Lib.hid hq
          have HOR := Lib.hid hal.symm
          have nbb : (q.isSome != q.isSome) = false := by simp
          have nvv : (q.getD 0 != q.getD 0) = false := by simp
          clear hal hq
          go_wp2_with fail
          refine (wof_is g b _ m0 w6 q (Lib.hid HT6.out.l) hm HOL).mono ?_
          rintro e w8 ⟨rfl, hB8⟩
          have HT8 := Lib.hid (HT6.out.below hB8)
          have HB8 := Lib.hid (HB6.out.trans (hB8.mono (by have := HT6.out.l.gb; have := HT6.out.l.lt; omega)))
          clear hB8
          go_wp2_with fail
          refine (wof_is g c _ m0 w8 q (Lib.hid HT8.out.r) hm HOR).mono ?_
          rintro e w9 ⟨rfl, hB9⟩
          have HT9 := Lib.hid (HT8.out.below hB9)
          have HB9 := Lib.hid (HB8.out.trans (hB9.mono (by have := HT8.out.l.gb; have := HT8.out.l.lt; omega)))
          clear hB9
          go_wp2_with fail
          go_roundw
          case rel => exact ⟨k + 1, _, _, by omega, by go_num, HIA, HIB, Lib.hid ((HAL.out).more (by omega)), HT9, HB9⟩
          case measure => simp [intOf]; omega
        · have HIA := Lib.hid (hIA.out.openB (by decide) j)
          have HAL := Lib.hid (hAl.out.opened1 ej)
          have qj : ((j : Int) == (m0 : Int)) = false := beq_eq_false_iff_ne.2 (by omega)
          go_wp2_with fail
          refine (wopen_is g b 0 A j w4 (Lib.hid HT4.out.l) hIA hK0 hj).mono ?_
          rintro e w5 ⟨rfl, hF, hK⟩
          have HT5 : Hid (Two w5 g b c (openB A j) B) := Lib.hid (HT4.out.fst hF.out hK.out)
          have HB5 := Lib.hid (HB4.out.trans (hK.out.below HT4.out.l))
          have hX5 := (hK.out.box HT4.out.l HX4.out hXb).trans HX4.out
          have HX5 : Hid (BoxA w5 X _) := Lib.hid hX5
          clear hF hK hX5
          clear x0 x1 x2 x3
          obtain ⟨x0, x1, x2, x3⟩ := HX5.out.cells
          have x1 : w5.cell? ⟨X, 1, none⟩ = some (.int .u32 (j : Int)) := x1
          have x2 : w5.cell? ⟨X, 2, none⟩ = some (.int .u32 (n : Int)) := x2
          have x3 : w5.cell? ⟨X, 3, none⟩ = some (.int .i64 wa) := x3
          have hal := (HAL.out).of
          obtain ⟨q, hq⟩ : ∃ q, ofR (openB A j).rows m0 = q := ⟨_, rfl⟩
          rw [hq] at hal
          have HOL := Lib.hid hq
          have HOR := Lib.hid hal.symm
          have nbb : (q.isSome != q.isSome) = false := by simp
          have nvv : (q.getD 0 != q.getD 0) = false := by simp
          clear hal hq
          go_wp2_with fail
          refine (wof_is g b _ m0 w5 q (Lib.hid HT5.out.l) hm HOL).mono ?_
          rintro e w8 ⟨rfl, hB8⟩
          have HT8 := Lib.hid (HT5.out.below hB8)
          have HB8 := Lib.hid (HB5.out.trans (hB8.mono (by have := HT5.out.l.gb; have := HT5.out.l.lt; omega)))
          clear hB8
          go_wp2_with fail
          refine (wof_is g c _ m0 w8 q (Lib.hid HT8.out.r) hm HOR).mono ?_
          rintro e w9 ⟨rfl, hB9⟩
          have HT9 := Lib.hid (HT8.out.below hB9)
          have HB9 := Lib.hid (HB8.out.trans (hB9.mono (by have := HT8.out.l.gb; have := HT8.out.l.lt; omega)))
          clear hB9
          go_wp2_with fail
          go_roundw
          case rel => exact ⟨k + 1, _, _, by omega, by go_num, HIA, hIB, Lib.hid ((HAL.out).more (by omega)), HT9, HB9⟩
          case measure => simp [intOf]; omega
      have f0 : (kd == 0) = false := beq_eq_false_iff_ne.2 e0
      by_cases e1 : kd = 1
      · subst e1
        by_cases ej : j = m0
        · subst j
          have HIA := Lib.hid (hIA.out.drop m0)
          have HIB := Lib.hid (hIB.out.drop m0)
          have HAL := Lib.hid (hAl.out.dropped)
          go_wp2_with fail
          refine (wdrop_is g b 0 A m0 w4 (Lib.hid HT4.out.l) hIA hm).mono ?_
          rintro e w5 ⟨rfl, hF, hK⟩
          have HT5 : Hid (Two w5 g b c (dropB A m0) B) := Lib.hid (HT4.out.fst hF.out hK.out)
          have HB5 := Lib.hid (HB4.out.trans (hK.out.below HT4.out.l))
          have hX5 := (hK.out.box HT4.out.l HX4.out hXb).trans HX4.out
          have HX5 : Hid (BoxA w5 X _) := Lib.hid hX5
          clear hF hK hX5
          clear x0 x1 x2 x3
          obtain ⟨x0, x1, x2, x3⟩ := HX5.out.cells
          have x1 : w5.cell? ⟨X, 1, none⟩ = some (.int .u32 (m0 : Int)) := x1
          have x2 : w5.cell? ⟨X, 2, none⟩ = some (.int .u32 (n : Int)) := x2
          have x3 : w5.cell? ⟨X, 3, none⟩ = some (.int .i64 wa) := x3
          go_wp2_with fail
          refine (wdrop_is g c 0 B m0 w5 (Lib.hid HT5.out.r) hIB hm).mono ?_
          rintro e w6 ⟨rfl, hF, hK⟩
          have HT6 : Hid (Two w6 g b c (dropB A m0) (dropB B m0)) := Lib.hid (HT5.out.snd hF.out hK.out)
          have HB6 := Lib.hid (HB5.out.trans (hK.out.below HT5.out.r))
          clear hF hK x0 x1 x2 x3
          have hal := (HAL.out).of
          obtain ⟨q, hq⟩ : ∃ q, ofR (dropB A m0).rows m0 = q := ⟨_, rfl⟩
          rw [hq] at hal
          have HOL := Lib.hid hq
          have HOR := Lib.hid hal.symm
          have nbb : (q.isSome != q.isSome) = false := by simp
          have nvv : (q.getD 0 != q.getD 0) = false := by simp
          clear hal hq
          go_wp2_with fail
          refine (wof_is g b _ m0 w6 q (Lib.hid HT6.out.l) hm HOL).mono ?_
          rintro e w8 ⟨rfl, hB8⟩
          have HT8 := Lib.hid (HT6.out.below hB8)
          have HB8 := Lib.hid (HB6.out.trans (hB8.mono (by have := HT6.out.l.gb; have := HT6.out.l.lt; omega)))
          clear hB8
          go_wp2_with fail
          refine (wof_is g c _ m0 w8 q (Lib.hid HT8.out.r) hm HOR).mono ?_
          rintro e w9 ⟨rfl, hB9⟩
          have HT9 := Lib.hid (HT8.out.below hB9)
          have HB9 := Lib.hid (HB8.out.trans (hB9.mono (by have := HT8.out.l.gb; have := HT8.out.l.lt; omega)))
          clear hB9
          go_wp2_with fail
          go_roundw
          case rel => exact ⟨k + 1, _, _, by omega, by go_num, HIA, HIB, Lib.hid ((HAL.out).more (by omega)), HT9, HB9⟩
          case measure => simp [intOf]; omega
        · have HIA := Lib.hid (hIA.out.drop j)
          have HAL := Lib.hid (hAl.out.dropped1 ej)
          have qj : ((j : Int) == (m0 : Int)) = false := beq_eq_false_iff_ne.2 (by omega)
          go_wp2_with fail
          refine (wdrop_is g b 0 A j w4 (Lib.hid HT4.out.l) hIA hj).mono ?_
          rintro e w5 ⟨rfl, hF, hK⟩
          have HT5 : Hid (Two w5 g b c (dropB A j) B) := Lib.hid (HT4.out.fst hF.out hK.out)
          have HB5 := Lib.hid (HB4.out.trans (hK.out.below HT4.out.l))
          have hX5 := (hK.out.box HT4.out.l HX4.out hXb).trans HX4.out
          have HX5 : Hid (BoxA w5 X _) := Lib.hid hX5
          clear hF hK hX5
          clear x0 x1 x2 x3
          obtain ⟨x0, x1, x2, x3⟩ := HX5.out.cells
          have x1 : w5.cell? ⟨X, 1, none⟩ = some (.int .u32 (j : Int)) := x1
          have x2 : w5.cell? ⟨X, 2, none⟩ = some (.int .u32 (n : Int)) := x2
          have x3 : w5.cell? ⟨X, 3, none⟩ = some (.int .i64 wa) := x3
          have hal := (HAL.out).of
          obtain ⟨q, hq⟩ : ∃ q, ofR (dropB A j).rows m0 = q := ⟨_, rfl⟩
          rw [hq] at hal
          have HOL := Lib.hid hq
          have HOR := Lib.hid hal.symm
          have nbb : (q.isSome != q.isSome) = false := by simp
          have nvv : (q.getD 0 != q.getD 0) = false := by simp
          clear hal hq
          go_wp2_with fail
          refine (wof_is g b _ m0 w5 q (Lib.hid HT5.out.l) hm HOL).mono ?_
          rintro e w8 ⟨rfl, hB8⟩
          have HT8 := Lib.hid (HT5.out.below hB8)
          have HB8 := Lib.hid (HB5.out.trans (hB8.mono (by have := HT5.out.l.gb; have := HT5.out.l.lt; omega)))
          clear hB8
          go_wp2_with fail
          refine (wof_is g c _ m0 w8 q (Lib.hid HT8.out.r) hm HOR).mono ?_
          rintro e w9 ⟨rfl, hB9⟩
          have HT9 := Lib.hid (HT8.out.below hB9)
          have HB9 := Lib.hid (HB8.out.trans (hB9.mono (by have := HT8.out.l.gb; have := HT8.out.l.lt; omega)))
          clear hB9
          go_wp2_with fail
          go_roundw
          case rel => exact ⟨k + 1, _, _, by omega, by go_num, HIA, hIB, Lib.hid ((HAL.out).more (by omega)), HT9, HB9⟩
          case measure => simp [intOf]; omega
      have f1 : (kd == 1) = false := beq_eq_false_iff_ne.2 e1
      by_cases e4 : kd = 4
      · subst e4
        by_cases ej : j = m0
        · subst j
          obtain ⟨⟨A', s⟩, hra⟩ : ∃ z, takeB A m0 wa = z := ⟨_, rfl⟩
          have hia := hIA.out.take (by decide) m0 wa
          rw [hra] at hia
          have HIA : Hid (Inv 0 A') := Lib.hid hia
          have HRA := Lib.hid hra
          clear hia hra
          obtain ⟨⟨B', t⟩, hrb⟩ : ∃ z, takeB B m0 wa = z := ⟨_, rfl⟩
          have hib := hIB.out.take (by decide) m0 wa
          rw [hrb] at hib
          have HIB : Hid (Inv 0 B') := Lib.hid hib
          have HRB := Lib.hid hrb
          clear hib hrb
          obtain ⟨hst, hal2⟩ := hAl.out.took hw1 hM1 HRA.out HRB.out
          have HAL := Lib.hid hal2
          clear hal2
          subst hst
          have hss : (s != s) = false := by simp
          go_wp2_with fail
          refine (wtake_is g b 0 A A' m0 wa s w4 (Lib.hid HT4.out.l) hIA hK0 hm hwa HRA).mono ?_
          rintro e w5 ⟨rfl, hF, hK⟩
          have HT5 : Hid (Two w5 g b c (A') B) := Lib.hid (HT4.out.fst hF.out hK.out)
          have HB5 := Lib.hid (HB4.out.trans (hK.out.below HT4.out.l))
          have hX5 := (hK.out.box HT4.out.l HX4.out hXb).trans HX4.out
          have HX5 : Hid (BoxA w5 X _) := Lib.hid hX5
          clear hF hK hX5
          clear x0 x1 x2 x3
          obtain ⟨x0, x1, x2, x3⟩ := HX5.out.cells
          have x1 : w5.cell? ⟨X, 1, none⟩ = some (.int .u32 (m0 : Int)) := x1
          have x2 : w5.cell? ⟨X, 2, none⟩ = some (.int .u32 (n : Int)) := x2
          have x3 : w5.cell? ⟨X, 3, none⟩ = some (.int .i64 wa) := x3
          go_wp2_with fail
          refine (wtake_is g c 0 B B' m0 wa s w5 (Lib.hid HT5.out.r) hIB hK0 hm hwa HRB).mono ?_
          rintro e w6 ⟨rfl, hF, hK⟩
          have HT6 : Hid (Two w6 g b c (A') (B')) := Lib.hid (HT5.out.snd hF.out hK.out)
          have HB6 := Lib.hid (HB5.out.trans (hK.out.below HT5.out.r))
          clear hF hK x0 x1 x2 x3
          have hal := (HAL.out).of
          obtain ⟨q, hq⟩ : ∃ q, ofR (A').rows m0 = q := ⟨_, rfl⟩
          rw [hq] at hal
          have HOL := Lib.hid hq
          have HOR := Lib.hid hal.symm
          have nbb : (q.isSome != q.isSome) = false := by simp
          have nvv : (q.getD 0 != q.getD 0) = false := by simp
          clear hal hq
          go_wp2_with fail
          refine (wof_is g b _ m0 w6 q (Lib.hid HT6.out.l) hm HOL).mono ?_
          rintro e w8 ⟨rfl, hB8⟩
          have HT8 := Lib.hid (HT6.out.below hB8)
          have HB8 := Lib.hid (HB6.out.trans (hB8.mono (by have := HT6.out.l.gb; have := HT6.out.l.lt; omega)))
          clear hB8
          go_wp2_with fail
          refine (wof_is g c _ m0 w8 q (Lib.hid HT8.out.r) hm HOR).mono ?_
          rintro e w9 ⟨rfl, hB9⟩
          have HT9 := Lib.hid (HT8.out.below hB9)
          have HB9 := Lib.hid (HB8.out.trans (hB9.mono (by have := HT8.out.l.gb; have := HT8.out.l.lt; omega)))
          clear hB9
          go_wp2_with fail
          go_roundw
          case rel => exact ⟨k + 1, _, _, by omega, by go_num, HIA, HIB, Lib.hid ((HAL.out).more (by omega)), HT9, HB9⟩
          case measure => simp [intOf]; omega
        · obtain ⟨⟨A', s⟩, hra⟩ : ∃ z, takeB A j wa = z := ⟨_, rfl⟩
          have hia := hIA.out.take (by decide) j wa
          rw [hra] at hia
          have HIA : Hid (Inv 0 A') := Lib.hid hia
          have HRA := Lib.hid hra
          clear hia hra
          have HAL := Lib.hid (hAl.out.took1 ej hw1 HRA.out)
          have hss : (s != s) = false := by simp
          have qj : ((j : Int) == (m0 : Int)) = false := beq_eq_false_iff_ne.2 (by omega)
          go_wp2_with fail
          refine (wtake_is g b 0 A A' j wa s w4 (Lib.hid HT4.out.l) hIA hK0 hj hwa HRA).mono ?_
          rintro e w5 ⟨rfl, hF, hK⟩
          have HT5 : Hid (Two w5 g b c (A') B) := Lib.hid (HT4.out.fst hF.out hK.out)
          have HB5 := Lib.hid (HB4.out.trans (hK.out.below HT4.out.l))
          have hX5 := (hK.out.box HT4.out.l HX4.out hXb).trans HX4.out
          have HX5 : Hid (BoxA w5 X _) := Lib.hid hX5
          clear hF hK hX5
          clear x0 x1 x2 x3
          obtain ⟨x0, x1, x2, x3⟩ := HX5.out.cells
          have x1 : w5.cell? ⟨X, 1, none⟩ = some (.int .u32 (j : Int)) := x1
          have x2 : w5.cell? ⟨X, 2, none⟩ = some (.int .u32 (n : Int)) := x2
          have x3 : w5.cell? ⟨X, 3, none⟩ = some (.int .i64 wa) := x3
          have hal := (HAL.out).of
          obtain ⟨q, hq⟩ : ∃ q, ofR (A').rows m0 = q := ⟨_, rfl⟩
          rw [hq] at hal
          have HOL := Lib.hid hq
          have HOR := Lib.hid hal.symm
          have nbb : (q.isSome != q.isSome) = false := by simp
          have nvv : (q.getD 0 != q.getD 0) = false := by simp
          clear hal hq
          go_wp2_with fail
          refine (wof_is g b _ m0 w5 q (Lib.hid HT5.out.l) hm HOL).mono ?_
          rintro e w8 ⟨rfl, hB8⟩
          have HT8 := Lib.hid (HT5.out.below hB8)
          have HB8 := Lib.hid (HB5.out.trans (hB8.mono (by have := HT5.out.l.gb; have := HT5.out.l.lt; omega)))
          clear hB8
          go_wp2_with fail
          refine (wof_is g c _ m0 w8 q (Lib.hid HT8.out.r) hm HOR).mono ?_
          rintro e w9 ⟨rfl, hB9⟩
          have HT9 := Lib.hid (HT8.out.below hB9)
          have HB9 := Lib.hid (HB8.out.trans (hB9.mono (by have := HT8.out.l.gb; have := HT8.out.l.lt; omega)))
          clear hB9
          go_wp2_with fail
          go_roundw
          case rel => exact ⟨k + 1, _, _, by omega, by go_num, HIA, hIB, Lib.hid ((HAL.out).more (by omega)), HT9, HB9⟩
          case measure => simp [intOf]; omega
      have f4 : (kd == 4) = false := beq_eq_false_iff_ne.2 e4
      by_cases ej : j = m0
      · subst j
        have hal := (hAl.out).of
        obtain ⟨q, hq⟩ : ∃ q, ofR (A).rows m0 = q := ⟨_, rfl⟩
        rw [hq] at hal
        have HOL := Lib.hid hq
        have HOR := Lib.hid hal.symm
        have nbb : (q.isSome != q.isSome) = false := by simp
        have nvv : (q.getD 0 != q.getD 0) = false := by simp
        clear hal hq
        go_wp2_with fail
        refine (wof_is g b _ m0 w4 q (Lib.hid HT4.out.l) hm HOL).mono ?_
        rintro e w8 ⟨rfl, hB8⟩
        have HT8 := Lib.hid (HT4.out.below hB8)
        have HB8 := Lib.hid (HB4.out.trans (hB8.mono (by have := HT4.out.l.gb; have := HT4.out.l.lt; omega)))
        clear hB8
        go_wp2_with fail
        refine (wof_is g c _ m0 w8 q (Lib.hid HT8.out.r) hm HOR).mono ?_
        rintro e w9 ⟨rfl, hB9⟩
        have HT9 := Lib.hid (HT8.out.below hB9)
        have HB9 := Lib.hid (HB8.out.trans (hB9.mono (by have := HT8.out.l.gb; have := HT8.out.l.lt; omega)))
        clear hB9
        go_wp2_with fail
        go_roundw
        case rel => exact ⟨k + 1, _, _, by omega, by go_num, hIA, hIB, Lib.hid ((hAl.out).more (by omega)), HT9, HB9⟩
        case measure => simp [intOf]; omega
      · have qj : ((j : Int) == (m0 : Int)) = false := beq_eq_false_iff_ne.2 (by omega)
        have hal := (hAl.out).of
        obtain ⟨q, hq⟩ : ∃ q, ofR (A).rows m0 = q := ⟨_, rfl⟩
        rw [hq] at hal
        have HOL := Lib.hid hq
        have HOR := Lib.hid hal.symm
        have nbb : (q.isSome != q.isSome) = false := by simp
        have nvv : (q.getD 0 != q.getD 0) = false := by simp
        clear hal hq
        go_wp2_with fail
        refine (wof_is g b _ m0 w4 q (Lib.hid HT4.out.l) hm HOL).mono ?_
        rintro e w8 ⟨rfl, hB8⟩
        have HT8 := Lib.hid (HT4.out.below hB8)
        have HB8 := Lib.hid (HB4.out.trans (hB8.mono (by have := HT4.out.l.gb; have := HT4.out.l.lt; omega)))
        clear hB8
        go_wp2_with fail
        refine (wof_is g c _ m0 w8 q (Lib.hid HT8.out.r) hm HOR).mono ?_
        rintro e w9 ⟨rfl, hB9⟩
        have HT9 := Lib.hid (HT8.out.below hB9)
        have HB9 := Lib.hid (HB8.out.trans (hB9.mono (by have := HT8.out.l.gb; have := HT8.out.l.lt; omega)))
        clear hB9
        go_wp2_with fail
        go_roundw
        case rel => exact ⟨k + 1, _, _, by omega, by go_num, hIA, hIB, Lib.hid ((hAl.out).more (by omega)), HT9, HB9⟩
        case measure => simp [intOf]; omega

set_option maxRecDepth 100000 in
theorem lifted (os : Os) (started : os.Started) (H : Type) (enc : TypeId × Value → H) :
    ReturnsInHanded {} Try.checked os 6 .any (Rows.windowApartSpec.pre6 enc Try.prog Try.f6 Rows.windowApartRow.domain false) (Rows.windowApartSpec.post enc Try.prog Try.f6 false true false false) := by
  refine returnsInHanded_of_change (C := Try.checked) own started (by kernel_rfl) Try.func6
    (ChangeSpec.witness6 (enc := enc) (C := Try.checked) false ⟨#[], #[.int .u32 0, .slice none 0 0], []⟩ 8 (by kernel_rfl) (by kernel_rfl) (by kernel_rfl) (by kernel_rfl)) ?_
  intro W base args ds gs before hval0 hW hcnd _
  have hval : ∀ (j : Nat) t v, Try.f6.params[j]? = some t → args[j]? = some v → Value.okWide Try.prog W .any base t v := hval0
  have hW' := hW
  obtain ⟨p, q, hA0, hV, rfl, hfz, hnd⟩ := hW
  have hA : DataW.TrodAll enc Try.prog W 0 (fun _ => true) true Try.f6.params.toList args.toList ds p := hA0
  rw [Try.params6] at hA hval
  obtain ⟨v0, vs0, d0, ds0, p0, q0, hargs, rfl, rfl, h0, r0⟩ := trodAll_cons hA
  obtain ⟨v1, vs1, d1, ds1, p1, q1, rfl, rfl, rfl, h1, r1⟩ := trodAll_cons r0
  obtain ⟨rfl, rfl, rfl⟩ := trodAll_nil r1
  obtain rfl : args = #[v0, v1] := by cases args; simp_all
  obtain ⟨rfl, rfl⟩ := trodVars_none hV
  obtain ⟨z0, rfl, rfl, rfl, wf0⟩ := open_int Try.underlying32 (hval 0 32 v0 rfl rfl) h0
  have bd0 := bounds_u32 wf0
  obtain ⟨m0, rfl⟩ := Int.eq_ofNat_of_zero_le bd0.1
  obtain ⟨a1, len1, cap1, rfl⟩ := okWide_slice Try.underlying22 (hval 1 22 v1 rfl rfl)
  have k1 := h1
  have lt1 : ∀ x ∈ p1, x.block < W.heap.size := by obtain ⟨m, hm⟩ := k1; exact DataW.trod_lt m _ _ _ hm
  obtain ⟨hl1, L1, hN1, hR1⟩ : len1 ≤ maxLen ∧ ∃ L : List Ac, L.length = len1 ∧ RdA W W.heap.size a1 L := by
    obtain ⟨fuel, hf⟩ := h1
    exact rda_of_trod hf
  clear hA0 hval0
  refine (walk m0 a1 len1 cap1 L1 W (by omega) hl1 hN1 hR1).mono fun e W' ⟨he, bel⟩ => ?_
  subst he
  exact ⟨_, rfl, _, _, _, [], _, [], hW', trodAll_mk1 (shut_bool Try.underlying4 _), (trodAll_cons_mk (shut_int Try.underlying32 wf0) (trodAll_cons_mk (Below.trod laidOut (by kernel_rfl) (of_decide_eq_true (by kernel_rfl)) k1 bel lt1) trodAll_mk0)), rfl, bel.frame _, fun h => by cases h⟩

theorem over : Rows.windowApartRow.holds Try.pinned (OpenSpec.ofChange Rows.windowApartSpec) :=
  OpenClaim.holds_of_wide 6 Try.f6 rfl rfl rfl rfl rfl rfl rfl ⟨rfl, rfl, rfl, rfl, rfl⟩ rfl rfl rfl rfl rfl (by kernel_rfl) Try.func6 (by kernel_rfl)
    (of_decide_eq_true (by kernel_rfl)) (by unfold Func.isWrapper; first | (rw [if_pos (by decide +kernel)]; kernel_rfl) | (rw [if_neg (by decide +kernel)]; exact ⟨rfl, rfl⟩))
    (fun os started H enc _ => lifted os started H enc)

theorem proved : Rows.WindowApartSaid := over
#print axioms proved
end Go.Proofs.Ytieicfobhgfonaa.windowApart
