/- Proves TableApart: a copy tells the same and goes its own way. No condition. -/
import Derived.Test.YtchfineobpfinaaRows
import Derived.Test.YtchfineobpfinaaTbMath
import Derived.Test.YtchfineobpfinaaTbMem
import Derived.Test.YtchfineobpfinaaTbLeast
import Derived.Test.YtchfineobpfinaaTbRef
import Derived.Test.YtchfineobpfinaaTbFix
import Derived.Test.YtchfineobpfinaaTbAt
import Derived.Test.YtchfineobpfinaaTcMem
import Derived.Test.YtchfineobpfinaaTcLow
import Derived.Test.YtchfineobpfinaaTcShrink
import Derived.Test.YtchfineobpfinaaTcAdd
import Derived.Test.YtchfineobpfinaaTcAt
import Derived.Test.YtchfineobpfinaaTcActs
import Derived.Test.YtchfineobpfinaaTcFew
import Derived.Test.YtchfineobpfinaaTcPlay
import Derived.Test.YtchfineobpfinaaTcSame
import Derived.Test.YtchfineobpfinaaTcAwake
import Derived.Test.YtchfineobpfinaaTcLoop
import Derived.Test.YtchfineobpfinaaTcCopy
import Derived.Test.YtchfineobpfinaaTcKnow
import Derived.Test.YtchfineobpfinaaTcApart
import Derived.WalkKit
import Derived.ProofKit
import Derived.OpenShut
import Derived.ShutString
import Derived.ChangeOld
import Derived.Below
import Derived.StillTailTactics
import Derived.Deep.QuietTactic
import Derived.BigQuiet
namespace Go.Proofs.Ytchfineobpfinaa.tableApart
open Go.ChangeShapes Go.WideShapes Go.ChangeAt Go.RowKit Tb
open Go.ChangeMaps (open_string shut_string)
set_option linter.unusedVariables false

theorem own : ownKnob Try.prog.godebug = none := by kernel_rfl
theorem laidOut : laidOutB Try.prog = true := by kernel_rfl

set_option maxRecDepth 100000 in
set_option maxHeartbeats 4000000 in
theorem walk (m0 : Int) (a1 : Option Addr) (len1 cap1 : Nat) (a2 : Option Addr) (len2 cap2 : Nat) (L L2 : List ActE) (w : World) (hm1 : -9223372036854775808 ≤ m0) (hm2 : m0 ≤ 9223372036854775807) (hl : len1 ≤ maxLen) (hR : RdT w w.heap.size a1 len1 L) (hl2 : len2 ≤ maxLen) (hR2 : RdT w w.heap.size a2 len2 L2) :
    Calls Try.prog 6 #[.int .i64 m0, .slice a1 len1 cap1, .slice a2 len2 cap2] w fun e w' => e = .returned (.bool true) ∧ Below w.heap.size w w' := by
  have hI := Lib.hid hR
  have hI2 := Lib.hid hR2
  clear hR hR2
  obtain ⟨B, hB0⟩ : ∃ B, w.heap.size = B := ⟨_, rfl⟩
  have GB := Lib.hid hB0
  clear hB0
  have hnb : len1 ≤ 9223372036854775807 := by unfold maxLen at hl; omega
  have hnb2 : len2 ≤ 9223372036854775807 := by unfold maxLen at hl2; omega
  by_cases h50 : (50 : Int) < len1 ∨ (50 : Int) < len2
  · by_cases hx1 : (50 : Int) < len1
    all_goals
      by_cases hx2 : (50 : Int) < len2
    all_goals
      go_enter Try.func6, Try.ntmps6
      go_wp2_with fail
      refine (awake_is _).mono ?_
      rintro e w1 ⟨rfl, hB⟩
      go_wp2_with fail
      refine (few_is a1 len1 cap1 L w1 (Lib.hid (hI.out.on hB hB.size)) hl).mono ?_
      rintro e w2 (⟨rfl, hB2, _⟩ | ⟨rfl, hB2⟩)
      · have hBt := hB.trans (hB2.mono hB.size)
        go_wp2_with fail
        refine (few_is a2 len2 cap2 L2 w2 (Lib.hid (hI2.out.on hBt hBt.size)) hl2).mono ?_
        rintro e w3 (⟨rfl, hB3, _⟩ | ⟨rfl, hB3⟩)
        · first
            | (exfalso; omega)
            | (go_wp2_with fail
               go_ret
               exact ⟨rfl, hBt.trans (hB3.mono hBt.size)⟩)
        · go_wp2_with fail
          go_ret
          exact ⟨rfl, hBt.trans (hB3.mono hBt.size)⟩
      · go_wp2_with fail
        go_ret
        exact ⟨rfl, hB.trans (hB2.mono hB.size)⟩
  have hle : len1 ≤ 50 := by omega
  have hle2 : len2 ≤ 50 := by omega
  go_enter Try.func6, Try.ntmps6
  go_wp2_with fail
  refine (awake_is _).mono ?_
  rintro e w1 ⟨rfl, hB⟩
  go_wp2_with fail
  refine (few_is a1 len1 cap1 L w1 (Lib.hid (hI.out.on hB hB.size)) hl).mono ?_
  rintro e w1b (⟨rfl, hB2, HF⟩ | ⟨rfl, hB2⟩)
  rotate_left
  · go_wp2_with fail
    go_ret
    exact ⟨rfl, hB.trans (hB2.mono hB.size)⟩
  have hBt := hB.trans (hB2.mono hB.size)
  clear hB hB2
  go_wp2_with fail
  refine (few_is a2 len2 cap2 L2 w1b (Lib.hid (hI2.out.on hBt hBt.size)) hl2).mono ?_
  rintro e w2 (⟨rfl, hB3, HF2⟩ | ⟨rfl, hB3⟩)
  rotate_left
  · go_wp2_with fail
    go_ret
    exact ⟨rfl, hBt.trans (hB3.mono hBt.size)⟩
  have hBw2 := hBt.trans (hB3.mono hBt.size)
  rw [GB.out] at hBw2
  have H2 := Lib.hid hBw2
  clear hBt hB3 hBw2
  go_wp2_with fail
  refine (new_is m0 w2 hm1 hm2).mono ?_
  rintro e w3 ⟨rfl, hT3, hB3⟩
  obtain ⟨g, hg⟩ : ∃ g, w2.heap.size = g := ⟨_, rfl⟩
  rw [hg] at hT3 hB3
  rw [hg]
  have hBg : B ≤ g := by have := H2.out.size; have := GB.out; omega
  have H3 := Lib.hid (H2.out.trans (hB3.mono hBg))
  have HT3 := Lib.hid hT3
  obtain ⟨M0, hM0⟩ : ∃ M0 : Int, (m0.toNat : Int) = M0 := ⟨_, rfl⟩
  have HM0 := Lib.hid hM0
  clear hT3 hB3 hg hM0
  go_wp2_with fail
  refine (refNew_m m0 M0 w3 HM0 hm1 hm2).mono ?_
  rintro e w4 ⟨rfl, hB4⟩
  have hgs := HT3.out.lt.1
  have HP0 := Lib.hid (PI.start (HT3.out.below hB4) hBg (H3.out.trans (hB4.mono (by omega))) HM0.out)
  clear hgs hB4
  obtain ⟨m, hm⟩ : ∃ m, w4.heap.size = m := ⟨_, rfl⟩
  rw [hm] at HP0
  obtain ⟨W4, hW4⟩ : ∃ W4, w4.alloc (.cells #[.int .i64 M0, .slice none 0 0] 29) = W4 := ⟨_, rfl⟩
  rw [hW4] at HP0
  have HP1 := Lib.hid HP0.out.again
  obtain ⟨a1c, a2c, a3c, a4c⟩ := two_cells HP0.out.2.1
  go_wp2_with fail
  clear a1c a2c a3c a4c HP0
  go_loopw [9] (fun i wr => ∃ (k n b c : Nat) (A : Option Addr) (M : Int) (t : Tab), k ≤ len1 ∧ i = .int .i64 (k : Int) ∧ Hid (PI w B g m b A n c M wr t) ∧ Hid (Few3 k t)) (fun i _ => len1 - (intOf i).toNat)
  case atStart => exact ⟨0, 0, g, 0, none, M0, newT m0, by omega, rfl, HP1, Lib.hid (Few3.new m0)⟩
  case round =>
    rename_i wr _
    obtain ⟨k, n, b, c, A, M, t, hk, rfl, HP, H3⟩ := hrel
    by_cases hlt : k < len1
    · have hli : (k : Int) < (len1 : Int) := by omega
      obtain ⟨bs, off, rfl, hb, c0, c1, c2, hz1, hz2, _, _⟩ := hI.out.2 k hlt
      obtain ⟨hsx, hsy⟩ := HF.out k hlt
      obtain ⟨act, hact⟩ : ∃ act, actAt L k = act := ⟨_, rfl⟩
      rw [hact] at c0 c1 c2 hz1 hz2 hsx hsy
      have hBw := HP.out.2.2.2.2.2
      rw [GB.out] at hb
      have d0 := (hBw.cell (p := ⟨bs, off + k * 3, none⟩) hb).trans c0
      have d1 := (hBw.cell (p := ⟨bs, off + k * 3 + 1, none⟩) hb).trans c1
      have d2 := (hBw.cell (p := ⟨bs, off + k * 3 + 2, none⟩) hb).trans c2
      have hof := off_add_addr bs off (k * 3)
      obtain ⟨f0, f1, f2, f3⟩ := two_cells HP.out.2.1
      obtain ⟨x, y, mo⟩ := act
      dsimp only at hsx hsy hz1 hz2 d0 d1 d2
      have e1 : IntKind.i64.wrap ((k : Int) + 1) = ((k + 1 : Nat) : Int) := by rw [IntKind.wrap_i64]; omega
      have hk0 : (0 : Int) ≤ (k : Int) := by omega
      clear c0 c1 c2 hact hBw
      go_wp2_with fail
      go_still_tail 6, (by kernel_rfl)
      have HPd := Lib.hid (HP.out.below (Below.refl _ wr).drew)
      change wpList _ _ _ _ _ wr.drew
      generalize wr.drew = wd at *
      go_wp2_with fail
      refine (play_step w B g m b A n c M t ⟨x, y, mo⟩ k wd HPd H3 (by omega) hsx hsy hz1 hz2).mono ?_
      rintro r w7 ⟨M2, A2, n2', c2, rfl, hrow, hPI⟩
      obtain ⟨b2, hPI⟩ := hPI.out
      have HP7 := Lib.hid hPI
      have H37 := Lib.hid (H3.out.act (e := ⟨x, y, mo⟩) hsx hsy)
      obtain ⟨p1, p2, p3, p4⟩ := two_cells hrow
      obtain ⟨o1, o2, o3, o4⟩ := two_cells (zero_set (y := .int .i64 M2) hrow)
      generalize actT t ⟨x, y, mo⟩ = t7 at *
      clear hPI hrow d0 d1 d2 hof f0 f1 f2 f3 HPd HP
      go_wp2_with fail
      generalize (w7.setCell ⟨m, 0, none⟩ (.int .i64 M2)).setCell ⟨m, 1, none⟩ (.slice A2 n2' c2) = w8 at *
      clear p1 p2 p3 p4 o1 o2 o3 o4
      go_wp2_with fail
      go_roundw
      case rel => exact ⟨k + 1, n2', b2, c2, A2, M2, t7, by omega, rfl, HP7, H37⟩
      case measure => simp [intOf] <;> omega
    · have hli : ¬ (k : Int) < (len1 : Int) := by omega
      have H3k := Lib.hid (H3.out.more (show k ≤ 50 by omega))
      have HFt := Lib.hid (H3k.out.fit (by omega))
      go_wp2_with fail
      refine (copy_is g b t wr (Lib.hid HP.out.1.1) HFt).mono ?_
      rintro e w5 ⟨gc, rfl, hgc, hB5, bc, hTc, hbc⟩
      have HP5 := Lib.hid (HP.out.below hB5)
      have HC5 := Lib.hid (HP.out.copied hB5 hTc hgc hbc)
      obtain ⟨f0, f1, f2, f3⟩ := two_cells HP5.out.2.1
      have HB5 := Lib.hid hB5
      clear hB5 hTc
      go_wp2_with fail
      refine (same_pb w B gc m bc A n c M t 50 w5 HC5 H3k (by omega)).mono ?_
      rintro e w6 ⟨rfl, hB6⟩
      have HB6 := Lib.hid (HB5.out.trans (hB6.mono HB5.out.size))
      have HTc := Lib.hid (HC5.out.below hB6).1.1
      obtain ⟨X, hX⟩ : ∃ X, wr.heap.size = X := ⟨_, rfl⟩
      have GX := Lib.hid hX
      clear hB6 f0 f1 f2 f3 HC5 HP5 HB5 hX
      go_wp2_with fail
      go_loopw [11] (fun i wq => ∃ (j bq : Nat) (tc : Tab), j ≤ len2 ∧ i = .int .i64 (j : Int) ∧ Hid (TAt wq gc bq tc) ∧ wr.heap.size ≤ bq ∧ Hid (Below wr.heap.size wr wq) ∧ Hid (Few3 (50 + j) tc)) (fun i _ => len2 - (intOf i).toNat)
      case atStart => exact ⟨0, bc, t, by omega, rfl, HTc, hbc, HB6, H3k⟩
      case round =>
        obtain ⟨j, bq, tc, hj, rfl, hTq, hbq, hBq, hFq⟩ := hrel
        by_cases hlt2 : j < len2
        · have hji : (j : Int) < (len2 : Int) := by omega
          obtain ⟨bs, off, rfl, hb, c0, c1, c2, hz1, hz2, _, _⟩ := hI2.out.2 j hlt2
          obtain ⟨hsx, hsy⟩ := HF2.out j hlt2
          obtain ⟨act, hact⟩ : ∃ act, actAt L2 j = act := ⟨_, rfl⟩
          rw [hact] at c0 c1 c2 hz1 hz2 hsx hsy
          have hPq := HP.out.below hBq.out
          have hBw := hPq.2.2.2.2.2
          rw [GB.out] at hb
          have d0 := (hBw.cell (p := ⟨bs, off + j * 3, none⟩) hb).trans c0
          have d1 := (hBw.cell (p := ⟨bs, off + j * 3 + 1, none⟩) hb).trans c1
          have d2 := (hBw.cell (p := ⟨bs, off + j * 3 + 2, none⟩) hb).trans c2
          have hof := off_add_addr bs off (j * 3)
          obtain ⟨f0, f1, f2, f3⟩ := two_cells hPq.2.1
          obtain ⟨x, y, mo⟩ := act
          dsimp only at hsx hsy hz1 hz2 d0 d1 d2
          have e1 : IntKind.i64.wrap ((j : Int) + 1) = ((j + 1 : Nat) : Int) := by rw [IntKind.wrap_i64]; omega
          have hk0 : (0 : Int) ≤ (j : Int) := by omega
          clear c0 c1 c2 hact hBw hPq
          go_wp2_with fail
          go_still_tail 6, (by kernel_rfl)
          have HBd := Lib.hid hBq.out.drew
          have HTd := Lib.hid (hTq.out.below (Below.refl _ wr).drew)
          change wpList _ _ _ _ _ wr.drew
          generalize wr.drew = wd at *
          go_wp2_with fail
          refine (play_far w B g m b A n c M t ⟨x, y, mo⟩ 50 (50 + j) _ wd gc bq tc HP H3k (by omega) hFq (by omega) HTd hgc hbq HBd hsx hsy hz1 hz2).mono ?_
          rintro r w7 ⟨M2, A2, n2', c2, rfl, hQ⟩
          obtain ⟨bq2, hT7, hb7, hB7⟩ := hQ.out
          have HT7 := Lib.hid hT7
          have HB7 := Lib.hid hB7
          have HF7 := Lib.hid (hFq.out.act (e := ⟨x, y, mo⟩) hsx hsy)
          clear hQ hT7 hB7 d0 d1 d2 f0 f1 f2 f3
          generalize actT tc ⟨x, y, mo⟩ = t7 at *
          go_wp2_with fail
          go_roundw
          case rel => exact ⟨j + 1, bq2, t7, by omega, rfl, HT7, hb7, HB7, HF7⟩
          case measure => simp [intOf] <;> omega
        · have hji : ¬ (j : Int) < (len2 : Int) := by omega
          have HPq := Lib.hid (HP.out.below hBq.out)
          obtain ⟨f0, f1, f2, f3⟩ := two_cells HPq.out.2.1
          clear hTq hBq hFq HP HTc HB6
          go_wp2_with fail
          refine (same_pb w B g m b A n c M t 50 _ HPq H3k (by omega)).mono ?_
          rintro e w8 ⟨rfl, hB8⟩
          have HP8 := Lib.hid (HPq.out.below hB8)
          clear hB8 f0 f1 f2 f3 HPq
          go_wp2_with fail
          refine (copy_is g b t w8 (Lib.hid HP8.out.1.1) HFt).mono ?_
          rintro e w9 ⟨gd, rfl, hgd, hB9, bd, hTd, hbd⟩
          have hP9 := HP8.out.below hB9
          have hC9 := HP8.out.copied hB9 hTd hgd hbd
          obtain ⟨f0, f1, f2, f3⟩ := two_cells hP9.2.1
          have hD := hP9.dup
          have hCD := hC9.below ((Below.refl w9.heap.size w9).alloc (Nat.le_refl _) (.cells #[.int .i64 M, .slice A n c] 29))
          have hg8 := HP8.out.1.1.lt
          have hm8 := world_lt HP8.out.2.1
          have hA8 := tabE_lt HP8.out.1.2.1
          have hAg := HP8.out.1.2.2
          have hAm := mat_apart HP8.out.1.2 HP8.out.2.1
          have hmm := HP8.out.2.2.2.1
          have hd9 := hC9.1.1.lt
          have h89 := hB9.size
          have hB9s : B ≤ w9.heap.size := by have := HP8.out.2.2.2.2.1.1; omega
          have HAP := Lib.hid (show Apt g b w9.heap.size gd bd m A from ⟨⟨by omega, by omega, by omega⟩, ⟨by omega, by omega, by omega⟩, ⟨by omega, by omega, by omega⟩, fun r o e => ⟨(hAg r o e).1, (hAg r o e).2, by have := hA8 r o e; omega⟩⟩)
          have hCE := hCD.other (x := w9.heap.size) (i := 1) ⟨by omega, by omega, by omega⟩ (fun r o e => by have := hA8 r o e; omega) hB9s (.slice A n c)
          have HDE := Lib.hid hD.again
          have HCE := Lib.hid hCE
          have HD1 := Lib.hid hD
          have HC1 := Lib.hid hCD
          obtain ⟨a1c, a2c, a3c, a4c⟩ := two_cells hD.2.1
          obtain ⟨m2, hm2'⟩ : ∃ m2, w9.heap.size = m2 := ⟨_, rfl⟩
          rw [hm2'] at HAP HDE HCE HD1 a1c a2c a3c a4c
          obtain ⟨W9, hW9⟩ : ∃ W9, w9.alloc (.cells #[.int .i64 M, .slice A n c] 29) = W9 := ⟨_, rfl⟩
          rw [hW9] at HDE HCE HD1 HC1 a1c a2c a3c a4c
          clear hP9 hC9 hD hCD hg8 hm8 hA8 hAg hAm hmm hd9 h89 hB9s hCE hB9 hTd
          go_wp2_with fail
          clear a1c a2c a3c a4c f0 f1 f2 f3 HP8
          go_loopw [13] (fun i wq => ∃ (j bq n1 c1 : Nat) (A1 : Option Addr) (M1 : Int) (t1 : Tab), j ≤ len2 ∧ i = .int .i64 (j : Int) ∧ Hid (PI w B g m2 bq A1 n1 c1 M1 wq t1) ∧ Hid (PI w B gd m bd A n c M wq t) ∧ Hid (Apt g bq m2 gd bd m A) ∧ Hid (Few3 (50 + j) t1)) (fun i _ => len2 - (intOf i).toNat)
          case atStart => first | exact ⟨0, b, n, c, A, M, t, by omega, rfl, HD1, HC1, HAP, H3k⟩ | exact ⟨0, b, n, c, A, M, t, by omega, rfl, HDE, HCE, HAP, H3k⟩
          case round =>
            obtain ⟨p, bp, n1, c1, A1, M1, t1, hp, rfl, HPp, HCp, HAp, HFp⟩ := hrel
            by_cases hlt3 : p < len2
            · have hpi : (p : Int) < (len2 : Int) := by omega
              obtain ⟨bs, off, rfl, hb, c0, c1', c2, hz1, hz2, _, _⟩ := hI2.out.2 p hlt3
              obtain ⟨hsx, hsy⟩ := HF2.out p hlt3
              obtain ⟨act, hact⟩ : ∃ act, actAt L2 p = act := ⟨_, rfl⟩
              rw [hact] at c0 c1' c2 hz1 hz2 hsx hsy
              have hBw := HPp.out.2.2.2.2.2
              rw [GB.out] at hb
              have d0 := (hBw.cell (p := ⟨bs, off + p * 3, none⟩) hb).trans c0
              have d1 := (hBw.cell (p := ⟨bs, off + p * 3 + 1, none⟩) hb).trans c1'
              have d2 := (hBw.cell (p := ⟨bs, off + p * 3 + 2, none⟩) hb).trans c2
              have hof := off_add_addr bs off (p * 3)
              obtain ⟨f0, f1, f2, f3⟩ := two_cells HPp.out.2.1
              obtain ⟨x, y, mo⟩ := act
              dsimp only at hsx hsy hz1 hz2 d0 d1 d2
              have e1 : IntKind.i64.wrap ((p : Int) + 1) = ((p + 1 : Nat) : Int) := by rw [IntKind.wrap_i64]; omega
              have hk0 : (0 : Int) ≤ (p : Int) := by omega
              clear c0 c1' c2 hact hBw
              go_wp2_with fail
              go_still_tail 6, (by kernel_rfl)
              have HPd := Lib.hid (HPp.out.below (Below.refl _ wr).drew)
              have HCd := Lib.hid (HCp.out.below (Below.refl _ wr).drew)
              change wpList _ _ _ _ _ wr.drew
              generalize wr.drew = wd at *
              go_wp2_with fail
              refine (play_both w B g m2 bp A1 n1 c1 M1 t1 gd m bd A n c M t ⟨x, y, mo⟩ (50 + p) wd HPd HCd HAp HFp (by omega) hsx hsy hz1 hz2).mono ?_
              rintro r w7 ⟨M2, A2, n2', c2, rfl, hrow, hQ⟩
              obtain ⟨b2, hPI, hCI, hAI⟩ := hQ.out
              have HP7 := Lib.hid hPI
              have HC7 := Lib.hid hCI
              have HA7 := Lib.hid hAI
              have HF7 := Lib.hid (HFp.out.act (e := ⟨x, y, mo⟩) hsx hsy)
              obtain ⟨p1, p2, p3, p4⟩ := two_cells hrow
              obtain ⟨o1, o2, o3, o4⟩ := two_cells (zero_set (y := .int .i64 M2) hrow)
              generalize actT t1 ⟨x, y, mo⟩ = t7 at *
              clear hQ hPI hCI hAI hrow d0 d1 d2 hof f0 f1 f2 f3 HPd HCd HPp HCp HAp HFp
              go_wp2_with fail
              generalize (w7.setCell ⟨m2, 0, none⟩ (.int .i64 M2)).setCell ⟨m2, 1, none⟩ (.slice A2 n2' c2) = w8 at *
              clear p1 p2 p3 p4 o1 o2 o3 o4
              go_wp2_with fail
              go_roundw
              case rel => exact ⟨p + 1, b2, n2', c2, A2, M2, t7, by omega, rfl, HP7, HC7, HA7, HF7⟩
              case measure => simp [intOf] <;> omega
            · have hpi : ¬ (p : Int) < (len2 : Int) := by omega
              obtain ⟨f0, f1, f2, f3⟩ := two_cells HCp.out.2.1
              go_wp2_with fail
              refine (same_pb w B gd m bd A n c M t 50 _ HCp H3k (by omega)).mono ?_
              rintro e wx ⟨rfl, hBx⟩
              have HPx := Lib.hid (HPp.out.below hBx)
              clear f0 f1 f2 f3 hBx
              obtain ⟨f0, f1, f2, f3⟩ := two_cells HPx.out.2.1
              go_wp2_with fail
              refine (same_pb w B g m2 bp A1 n1 c1 M1 t1 (50 + p) _ HPx HFp (by omega)).mono ?_
              rintro e wy ⟨rfl, hBy⟩
              have HBf := Lib.hid ((HPx.out.below hBy).2.2.2.2.2)
              clear hBy
              go_wp2_with fail
              go_ret
              exact ⟨rfl, by first | exact HBf.out | (rw [GB.out]; exact HBf.out)⟩
set_option maxRecDepth 100000 in
theorem lifted (os : Os) (started : os.Started) (H : Type) (enc : TypeId × Value → H) :
    ReturnsInHanded {} Try.checked os 6 .any (Rows.tableApartSpec.pre6 enc Try.prog Try.f6 Rows.tableApartRow.domain false) (Rows.tableApartSpec.post enc Try.prog Try.f6 false true false false) := by
  refine returnsInHanded_of_change (C := Try.checked) own started (by kernel_rfl) Try.func6
    (ChangeSpec.witness6 (enc := enc) (C := Try.checked) false ⟨#[], #[.int .i64 0, .slice none 0 0, .slice none 0 0], []⟩ 8 (by kernel_rfl) (by kernel_rfl) (by kernel_rfl) (by kernel_rfl)) ?_
  intro W base args ds gs before hval0 hW hcnd _
  have hval : ∀ (j : Nat) t v, Try.f6.params[j]? = some t → args[j]? = some v → Value.okWide Try.prog W .any base t v := hval0
  have hW' := hW
  obtain ⟨p, q, hA0, hV, rfl, hfz, hnd⟩ := hW
  have hA : DataW.TrodAll enc Try.prog W 0 (fun _ => true) true Try.f6.params.toList args.toList ds p := hA0
  rw [Try.params6] at hA hval
  obtain ⟨v0, vs0, d0, ds0, p0, q0, hargs, rfl, rfl, h0, r0⟩ := trodAll_cons hA
  obtain ⟨v1, vs1, d1, ds1, p1, q1, rfl, rfl, rfl, h1, r1⟩ := trodAll_cons r0
  obtain ⟨v2, vs2, d2, ds2, p2, q2, rfl, rfl, rfl, h2, r2⟩ := trodAll_cons r1
  obtain ⟨rfl, rfl, rfl⟩ := trodAll_nil r2
  obtain rfl : args = #[v0, v1, v2] := by cases args; simp_all
  obtain ⟨rfl, rfl⟩ := trodVars_none hV
  obtain ⟨z0, rfl, rfl, rfl, wf0⟩ := open_int Try.underlying3 (hval 0 3 v0 rfl rfl) h0
  have bd0 := bounds_i64 wf0
  obtain ⟨a1, len1, cap1, rfl⟩ := okWide_slice Try.underlying22 (hval 1 22 v1 rfl rfl)
  have k1 := h1
  have lt1 : ∀ x ∈ p1, x.block < W.heap.size := by obtain ⟨m, hm⟩ := k1; exact DataW.trod_lt m _ _ _ hm
  obtain ⟨hl1, L1, hR1⟩ : len1 ≤ maxLen ∧ ∃ L, RdT W W.heap.size a1 len1 L := by
    obtain ⟨fuel, hf⟩ := h1
    exact rdt_of_trod hf
  obtain ⟨a2, len2, cap2, rfl⟩ := okWide_slice Try.underlying22 (hval 2 22 v2 rfl rfl)
  have k2 := h2
  have lt2 : ∀ x ∈ p2, x.block < W.heap.size := by obtain ⟨m, hm⟩ := k2; exact DataW.trod_lt m _ _ _ hm
  obtain ⟨hl2, L2, hR2⟩ : len2 ≤ maxLen ∧ ∃ L, RdT W W.heap.size a2 len2 L := by
    obtain ⟨fuel, hf⟩ := h2
    exact rdt_of_trod hf
  clear hA0 hval0
  refine (walk z0 a1 len1 cap1 a2 len2 cap2 L1 L2 W bd0.1 bd0.2  hl1 hR1 hl2 hR2).mono fun e W' ⟨he, bel⟩ => ?_
  subst he
  exact ⟨_, rfl, _, _, _, [], _, [], hW', trodAll_mk1 (shut_bool Try.underlying4 _), (trodAll_cons_mk (shut_int Try.underlying3 wf0) (trodAll_cons_mk (Below.trod laidOut (by kernel_rfl) (of_decide_eq_true (by kernel_rfl)) k1 bel lt1) (trodAll_cons_mk (Below.trod laidOut (by kernel_rfl) (of_decide_eq_true (by kernel_rfl)) k2 bel lt2) trodAll_mk0))), rfl, bel.frame _, fun h => by cases h⟩

theorem over : Rows.tableApartRow.holds Try.pinned (OpenSpec.ofChange Rows.tableApartSpec) :=
  OpenClaim.holds_of_wide 6 Try.f6 rfl rfl rfl rfl rfl rfl rfl ⟨rfl, rfl, rfl, rfl, rfl⟩ rfl rfl rfl rfl rfl (by kernel_rfl) Try.func6 (by kernel_rfl)
    (of_decide_eq_true (by kernel_rfl)) (by unfold Func.isWrapper; first | (rw [if_pos (by decide +kernel)]; kernel_rfl) | (rw [if_neg (by decide +kernel)]; exact ⟨rfl, rfl⟩))
    (fun os started H enc _ => lifted os started H enc)

theorem proved : Rows.TableApartSaid := over
#print axioms proved
end Go.Proofs.Ytchfineobpfinaa.tableApart
