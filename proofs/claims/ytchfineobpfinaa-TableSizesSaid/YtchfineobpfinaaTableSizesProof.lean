/- Proves TableSizes: a table made smaller keeps its youngest entries that have room, made greater just these; two steps do as one. No condition. -/
import Derived.Test.YtchfineobpfinaaRows
import Derived.Test.YtchfineobpfinaaTbMath
import Derived.Test.YtchfineobpfinaaTbMem
import Derived.Test.YtchfineobpfinaaTbLeast
import Derived.Test.YtchfineobpfinaaTbRef
import Derived.Test.YtchfineobpfinaaTbFix
import Derived.Test.YtchfineobpfinaaTbAt
import Derived.Test.YtchfineobpfinaaTcMem
import Derived.Test.YtchfineobpfinaaTcLow
import Derived.Test.YtchfineobpfinaaTcShrink
import Derived.Test.YtchfineobpfinaaTcAdd
import Derived.Test.YtchfineobpfinaaTcAt
import Derived.Test.YtchfineobpfinaaTcActs
import Derived.Test.YtchfineobpfinaaTcFew
import Derived.Test.YtchfineobpfinaaTcPlay
import Derived.Test.YtchfineobpfinaaTcSame
import Derived.Test.YtchfineobpfinaaTcAwake
import Derived.Test.YtchfineobpfinaaTcLoop
import Derived.Test.YtchfineobpfinaaTcCopy
import Derived.Test.YtchfineobpfinaaTcKnow
import Derived.WalkKit
import Derived.ProofKit
import Derived.OpenShut
import Derived.ShutString
import Derived.ChangeOld
import Derived.Below
import Derived.StillTailTactics
import Derived.Deep.QuietTactic
import Derived.BigQuiet
namespace Go.Proofs.Ytchfineobpfinaa.tableSizes
open Go.ChangeShapes Go.WideShapes Go.ChangeAt Go.RowKit Tb
open Go.ChangeMaps (open_string shut_string)
set_option linter.unusedVariables false

theorem own : ownKnob Try.prog.godebug = none := by kernel_rfl
theorem laidOut : laidOutB Try.prog = true := by kernel_rfl

set_option maxRecDepth 100000 in
set_option maxHeartbeats 4000000 in
theorem walk (m0 : Int) (a1 : Option Addr) (len1 cap1 : Nat) (na nb : Int) (L : List ActE) (w : World) (hm1 : -9223372036854775808 ≤ m0) (hm2 : m0 ≤ 9223372036854775807) (ha1 : -9223372036854775808 ≤ na) (ha2 : na ≤ 9223372036854775807) (hb1 : -9223372036854775808 ≤ nb) (hb2 : nb ≤ 9223372036854775807) (hl : len1 ≤ maxLen) (hR : RdT w w.heap.size a1 len1 L) :
    Calls Try.prog 7 #[.int .i64 m0, .slice a1 len1 cap1, .int .i64 na, .int .i64 nb] w fun e w' => e = .returned (.bool true) ∧ Below w.heap.size w w' := by
  have hI := Lib.hid hR
  clear hR
  obtain ⟨B, hB0⟩ : ∃ B, w.heap.size = B := ⟨_, rfl⟩
  have GB := Lib.hid hB0
  clear hB0
  have hnb : len1 ≤ 9223372036854775807 := by unfold maxLen at hl; omega
  by_cases h2 : (100 : Int) < len1
  · go_enter Try.func7, Try.ntmps7
    go_wp2_with fail
    refine (awake_is _).mono ?_
    rintro e w1 ⟨rfl, hB⟩
    go_wp2_with fail
    refine (few_is a1 len1 cap1 L w1 (Lib.hid (hI.out.on hB hB.size)) hl).mono ?_
    rintro e w2 (⟨rfl, hB2, _⟩ | ⟨rfl, hB2⟩)
    · go_wp2_with fail
      go_ret
      exact ⟨rfl, hB.trans (hB2.mono hB.size)⟩
    · go_wp2_with fail
      go_ret
      exact ⟨rfl, hB.trans (hB2.mono hB.size)⟩
  have hle : len1 ≤ 100 := by omega
  go_enter Try.func7, Try.ntmps7
  go_wp2_with fail
  refine (awake_is _).mono ?_
  rintro e w1 ⟨rfl, hB⟩
  go_wp2_with fail
  refine (few_is a1 len1 cap1 L w1 (Lib.hid (hI.out.on hB hB.size)) hl).mono ?_
  rintro e w2 (⟨rfl, hB2, HF⟩ | ⟨rfl, hB2⟩)
  rotate_left
  · go_wp2_with fail
    go_ret
    exact ⟨rfl, hB.trans (hB2.mono hB.size)⟩
  have hBw2 := hB.trans (hB2.mono hB.size)
  rw [GB.out] at hBw2
  have H2 := Lib.hid hBw2
  clear hB hB2 hBw2
  go_wp2_with fail
  refine (new_is m0 w2 hm1 hm2).mono ?_
  rintro e w3 ⟨rfl, hT3, hB3⟩
  obtain ⟨g, hg⟩ : ∃ g, w2.heap.size = g := ⟨_, rfl⟩
  rw [hg] at hT3 hB3
  rw [hg]
  have hBg : B ≤ g := by have := H2.out.size; have := GB.out; omega
  have H3 := Lib.hid (H2.out.trans (hB3.mono hBg))
  have HT3 := Lib.hid hT3
  obtain ⟨M0, hM0⟩ : ∃ M0 : Int, (m0.toNat : Int) = M0 := ⟨_, rfl⟩
  have HM0 := Lib.hid hM0
  clear hT3 hB3 hg hM0
  go_wp2_with fail
  refine (refNew_m m0 M0 w3 HM0 hm1 hm2).mono ?_
  rintro e w4 ⟨rfl, hB4⟩
  have hgs := HT3.out.lt.1
  have HP0 := Lib.hid (PI.start (HT3.out.below hB4) hBg (H3.out.trans (hB4.mono (by omega))) HM0.out)
  clear hgs hB4
  obtain ⟨m, hm⟩ : ∃ m, w4.heap.size = m := ⟨_, rfl⟩
  rw [hm] at HP0
  obtain ⟨W4, hW4⟩ : ∃ W4, w4.alloc (.cells #[.int .i64 M0, .slice none 0 0] 29) = W4 := ⟨_, rfl⟩
  rw [hW4] at HP0
  have HP1 := Lib.hid HP0.out.again
  obtain ⟨a1c, a2c, a3c, a4c⟩ := two_cells HP0.out.2.1
  go_wp2_with fail
  clear a1c a2c a3c a4c HP0
  go_loopw [11] (fun i wr => ∃ (k n b c : Nat) (A : Option Addr) (M : Int) (t : Tab), k ≤ len1 ∧ i = .int .i64 (k : Int) ∧ Hid (PI w B g m b A n c M wr t) ∧ Hid (Few3 k t)) (fun i _ => len1 - (intOf i).toNat)
  case atStart => exact ⟨0, 0, g, 0, none, M0, newT m0, by omega, rfl, HP1, Lib.hid (Few3.new m0)⟩
  case round =>
    rename_i wr _
    obtain ⟨k, n, b, c, A, M, t, hk, rfl, HP, H3⟩ := hrel
    by_cases hlt : k < len1
    · have hli : (k : Int) < (len1 : Int) := by omega
      obtain ⟨bs, off, rfl, hb, c0, c1, c2, hz1, hz2, _, _⟩ := hI.out.2 k hlt
      obtain ⟨hsx, hsy⟩ := HF.out k hlt
      obtain ⟨act, hact⟩ : ∃ act, actAt L k = act := ⟨_, rfl⟩
      rw [hact] at c0 c1 c2 hz1 hz2 hsx hsy
      have hBw := HP.out.2.2.2.2.2
      rw [GB.out] at hb
      have d0 := (hBw.cell (p := ⟨bs, off + k * 3, none⟩) hb).trans c0
      have d1 := (hBw.cell (p := ⟨bs, off + k * 3 + 1, none⟩) hb).trans c1
      have d2 := (hBw.cell (p := ⟨bs, off + k * 3 + 2, none⟩) hb).trans c2
      have hof := off_add_addr bs off (k * 3)
      obtain ⟨f0, f1, f2, f3⟩ := two_cells HP.out.2.1
      obtain ⟨x, y, mo⟩ := act
      dsimp only at hsx hsy hz1 hz2 d0 d1 d2
      have e1 : IntKind.i64.wrap ((k : Int) + 1) = ((k + 1 : Nat) : Int) := by rw [IntKind.wrap_i64]; omega
      have hk0 : (0 : Int) ≤ (k : Int) := by omega
      clear c0 c1 c2 hact hBw
      go_wp2_with fail
      go_still_tail 6, (by kernel_rfl)
      have HPd := Lib.hid (HP.out.below (Below.refl _ wr).drew)
      change wpList _ _ _ _ _ wr.drew
      generalize wr.drew = wd at *
      go_wp2_with fail
      refine (play_step w B g m b A n c M t ⟨x, y, mo⟩ k wd HPd H3 (by omega) hsx hsy hz1 hz2).mono ?_
      rintro r w7 ⟨M2, A2, n2', c2, rfl, hrow, hPI⟩
      obtain ⟨b2, hPI⟩ := hPI.out
      have HP7 := Lib.hid hPI
      have H37 := Lib.hid (H3.out.act (e := ⟨x, y, mo⟩) hsx hsy)
      obtain ⟨p1, p2, p3, p4⟩ := two_cells hrow
      obtain ⟨o1, o2, o3, o4⟩ := two_cells (zero_set (y := .int .i64 M2) hrow)
      generalize actT t ⟨x, y, mo⟩ = t7 at *
      clear hPI hrow d0 d1 d2 hof f0 f1 f2 f3 HPd HP
      go_wp2_with fail
      generalize (w7.setCell ⟨m, 0, none⟩ (.int .i64 M2)).setCell ⟨m, 1, none⟩ (.slice A2 n2' c2) = w8 at *
      clear p1 p2 p3 p4 o1 o2 o3 o4
      go_wp2_with fail
      go_roundw
      case rel => exact ⟨k + 1, n2', b2, c2, A2, M2, t7, by omega, rfl, HP7, H37⟩
      case measure => simp [intOf] <;> omega
    · have hli : ¬ (k : Int) < (len1 : Int) := by omega
      obtain ⟨lo, hlo⟩ : ∃ lo : Int, min na nb = lo := ⟨_, rfl⟩
      obtain ⟨hi, hhi⟩ : ∃ hi : Int, max na nb = hi := ⟨_, rfl⟩
      have hlh : lo ≤ hi := by omega
      have hlo1 : -9223372036854775808 ≤ lo := by omega
      have hhi1 : -9223372036854775808 ≤ hi := by omega
      have hlo2 : lo ≤ 9223372036854775807 := by omega
      have hhi2 : hi ≤ 9223372036854775807 := by omega
      obtain ⟨z, hz⟩ : ∃ z : Int, max lo 0 = z := ⟨_, rfl⟩
      have HZ := Lib.hid (show z = (lo.toNat : Int) by omega)
      have hf : Fit t := H3.out.fit (by omega)
      have HFt := Lib.hid hf
      have HFh := Lib.hid ((H3.out.res hi).fit (by omega))
      have HFl := Lib.hid ((H3.out.res lo).fit (by omega))
      have HTU := Lib.hid (show resT (resT t hi) lo = resT t lo from by
        show (lo.toNat, leastL (leastL t.2 hi.toNat) lo.toNat) = (lo.toNat, leastL t.2 lo.toNat)
        rw [leastL_twice _ _ _ (by omega)])
      have hfits : leastL (leastL t.2 lo.toNat) hi.toNat = leastL t.2 lo.toNat := leastL_fits _ _ (Nat.le_trans (leastL_sum _ _) (by omega))
      obtain ⟨nv, hnv⟩ : ∃ nv, (resT t lo).2.length = nv := ⟨_, rfl⟩
      obtain ⟨nt, hnt⟩ : ∃ nt, t.2.length = nt := ⟨_, rfl⟩
      obtain ⟨sv, hsv⟩ : ∃ sv, sumL (resT t lo).2 = sv := ⟨_, rfl⟩
      have hnn : nv ≤ nt := by rw [← hnv, ← hnt]; exact leastL_len _ _
      have hss : (sv : Int) ≤ z := by
        have h1 := leastL_sum t.2 lo.toNat
        rw [← hsv, HZ.out]
        show ((sumL (leastL t.2 lo.toNat) : Nat) : Int) ≤ _
        omega
      have hntb : nt ≤ 100 := by rw [← hnt]; have := H3.out.1; omega
      have hg1 : ¬ (nt : Int) < (nv : Int) := by omega
      have hg2 : ¬ z < (sv : Int) := by omega
      have HNV := Lib.hid hnv
      have HNT := Lib.hid hnt
      have HSV := Lib.hid hsv
      have HNV2 := Lib.hid (show (resT (resT t lo) hi).2.length = nv by show (leastL (leastL t.2 lo.toNat) hi.toNat).length = nv; rw [hfits]; exact hnv)
      have HSV2 := Lib.hid (show sumL (resT (resT t lo) hi).2 = sv by show sumL (leastL (leastL t.2 lo.toNat) hi.toNat) = sv; rw [hfits]; exact hsv)
      have HFv := Lib.hid (((H3.out.res lo).res hi).fit (by omega))
      have HE2 := Lib.hid (show (resT (resT t lo) hi).2 = leastL t.2 lo.toNat from hfits)
      have HT0 := Lib.hid HP.out.1.1
      have hBx := HP.out.2.2.2.2.2
      have hBs := HP.out.2.2.2.2.1.1
      clear hf hnv hnt hsv hfits hss
      obtain ⟨X0, hX0⟩ : ∃ X, wr.heap.size = X := ⟨_, rfl⟩
      have GX0 := Lib.hid hX0
      have hBX : B ≤ X0 := by have := HT0.out.lt.1; omega
      have HBX := Lib.hid hBx
      have hgX : g < X0 ∧ b < X0 := by have := HT0.out.lt; omega
      clear hBx HP hX0
      go_wp2_with fail
      refine (copy_is g b t wr HT0 HFt).mono ?_
      rintro e w1 ⟨gu, rfl, hgu, hB1, bu, hTu, hbu⟩
      rw [GX0.out] at hgu hbu hB1
      have HTu := Lib.hid hTu
      have HB1 := Lib.hid hB1
      have hs1 : X0 ≤ w1.heap.size := by have := hB1.size; have := GX0.out; omega
      clear hTu hB1
      go_wp2_with fail
      refine (resize_is gu bu t hi w1 HTu HFt hhi1 hhi2).mono ?_
      rintro e w2 ⟨rfl, bu2, hTu2, hK2, hbb⟩
      have hbu2 : X0 ≤ bu2 := by rcases hbb with rfl | rfl; exact hbu; exact hgu
      have HB2 := Lib.hid (hK2.below HB1.out hgu hbu hs1)
      have HTu2 := Lib.hid hTu2
      have hs2 : X0 ≤ w2.heap.size := Nat.le_trans hs1 hK2.size
      clear hTu2 hK2 hbb HTu
      go_wp2_with fail
      refine (resize_is gu bu2 (resT t hi) lo w2 HTu2 HFh hlo1 hlo2).mono ?_
      rintro e w3 ⟨rfl, bu3, hTu3, hK3, hbb⟩
      have hbu3 : X0 ≤ bu3 := by rcases hbb with rfl | rfl; exact hbu2; exact hgu
      rw [HTU.out] at hTu3
      have HB3 := Lib.hid (hK3.below HB2.out hgu hbu2 hs2)
      have HTu3 := Lib.hid hTu3
      have HTt3 := Lib.hid (HT0.out.below (by rw [GX0.out]; exact HB3.out))
      have hs3 : X0 ≤ w3.heap.size := Nat.le_trans hs2 hK3.size
      obtain ⟨X3, hX3⟩ : ∃ X, w3.heap.size = X := ⟨_, rfl⟩
      have GX3 := Lib.hid hX3
      clear hTu3 hK3 hbb HTu2 HB1 HB2 hX3
      go_wp2_with fail
      refine (copy_is g b t w3 HTt3 HFt).mono ?_
      rintro e w4 ⟨gv, rfl, hgv, hB4, bv, hTv, hbv⟩
      rw [GX3.out] at hgv hbv hB4
      have HTv := Lib.hid hTv
      have HB4 := Lib.hid hB4
      have hs4 : X3 ≤ w4.heap.size := by have := hB4.size; have := GX3.out; omega
      clear hTv hB4
      go_wp2_with fail
      refine (resize_is gv bv t lo w4 HTv HFt hlo1 hlo2).mono ?_
      rintro e w5 ⟨rfl, bv2, hTv2, hK5, hbb⟩
      have hbv2 : X3 ≤ bv2 := by rcases hbb with rfl | rfl; exact hbv; exact hgv
      have HB5 := Lib.hid (hK5.below HB4.out hgv hbv hs4)
      have HTv5 := Lib.hid hTv2
      have hs5 : X3 ≤ w5.heap.size := Nat.le_trans hs4 hK5.size
      have HTu5 := Lib.hid (HTu3.out.below (by rw [GX3.out]; exact HB5.out))
      have HTt5 := Lib.hid (HTt3.out.below (by rw [GX3.out]; exact HB5.out))
      clear hTv2 hK5 hbb HB4
      go_wp2_with fail
      refine (len_t gu bu3 _ nv w5 HTu5 HNV).mono ?_
      rintro e w6 ⟨rfl, rfl⟩
      go_wp2_with fail
      refine (len_t gv bv2 _ nv _ HTv5 HNV).mono ?_
      rintro e w6 ⟨rfl, rfl⟩
      go_wp2_with fail
      refine (size_t gu bu3 _ sv _ HTu5 HSV).mono ?_
      rintro e w6 ⟨rfl, rfl⟩
      go_wp2_with fail
      refine (size_t gv bv2 _ sv _ HTv5 HSV).mono ?_
      rintro e w6 ⟨rfl, rfl⟩
      go_wp2_with fail
      refine (len_t gv bv2 _ nv _ HTv5 HNV).mono ?_
      rintro e w6 ⟨rfl, rfl⟩
      go_wp2_with fail
      refine (len_t g b _ nt _ HTt5 HNT).mono ?_
      rintro e w6 ⟨rfl, rfl⟩
      go_wp2_with fail
      refine (size_t gv bv2 _ sv _ HTv5 HSV).mono ?_
      rintro e w6 ⟨rfl, rfl⟩
      go_wp2_with fail
      refine (len_t gv bv2 _ nv _ HTv5 HNV).mono ?_
      rintro e w6 ⟨rfl, rfl⟩
      go_wp2_with fail
      refine (resize_is gv bv2 (resT t lo) hi _ HTv5 HFl hhi1 hhi2).mono ?_
      rintro e w7 ⟨rfl, bv3, hTv7, hK7, hbb⟩
      have hB7 := hK7.below HB5.out hgv hbv2 hs5
      have HTv7 := Lib.hid hTv7
      have HTu7 := Lib.hid (HTu3.out.below (by rw [GX3.out]; exact hB7))
      have HTt7 := Lib.hid (HTt3.out.below (by rw [GX3.out]; exact hB7))
      have HB7 := Lib.hid (HBX.out.trans ((HB3.out.trans (hB7.mono (by have := HB3.out.size; have := GX3.out; have := GX0.out; omega))).mono hBX))
      have hs7 : X3 ≤ w7.heap.size := Nat.le_trans hs5 hK7.size
      have hBs7 : B ≤ w7.heap.size := by have := HB3.out.size; have := GX3.out; have := GX0.out; omega
      clear hTv7 hK7 hbb hB7 HTu5 HTt5 HTv5 HTu3 HTt3 HTv HT0 HB3 HB5 HBX
      go_wp2_with fail
      refine (len_t gv bv3 _ nv w7 HTv7 HNV2).mono ?_
      rintro e w6 ⟨rfl, rfl⟩
      go_wp2_with fail
      go_loopw [17, 18, 19, 20, 21, 22, 23, 24, 25, 26] (fun i _ _ _ _ _ _ _ _ _ wr2 => ∃ j : Nat, j ≤ nv ∧ i = .int .i64 (j : Int) ∧ Hid (Below w6.heap.size w6 wr2)) (fun i _ _ _ _ _ _ _ _ _ _ => nv - (intOf i).toNat)
      case atStart => exact ⟨0, Nat.zero_le _, rfl, Lib.hid (Below.refl _ _)⟩
      case round =>
        obtain ⟨j, hj, rfl, hBj⟩ := hrel
        by_cases hlt2 : j < nv
        · have hji : (j : Int) < (nv : Int) := by omega
          obtain ⟨x, y, hxy⟩ : ∃ x y, entAt t.2 j = (x, y) := ⟨_, _, rfl⟩
          have hle1 : entAt (leastL t.2 lo.toNat) j = (x, y) := (entAt_least (by show j < (resT t lo).2.length; rw [HNV.out]; exact hlt2)).trans hxy
          have A1 := Lib.hid (show atR (fixedT ++ t.2) (62 + (j : Int)) = ((x, y), true) by rw [at_mine (by rw [HNT.out]; omega), hxy])
          have A2 := Lib.hid (show atR (fixedT ++ (resT t lo).2) (62 + (j : Int)) = ((x, y), true) by
            rw [at_mine (by rw [HNV.out]; omega)]
            show (entAt (leastL t.2 lo.toNat) j, true) = _
            rw [hle1])
          have A3 := Lib.hid (show atR (fixedT ++ (resT (resT t lo) hi).2) (62 + (j : Int)) = ((x, y), true) by
            rw [at_mine (by rw [HNV2.out]; omega), HE2.out, hle1])
          have e62 : IntKind.i64.wrap (62 + (j : Int)) = 62 + (j : Int) := by rw [IntKind.wrap_i64]; omega
          have ej : IntKind.i64.wrap ((j : Int) + 1) = ((j + 1 : Nat) : Int) := by rw [IntKind.wrap_i64]; omega
          clear hxy hle1
          have T1 := Lib.hid (HTt7.out.below hBj.out)
          go_wp2_with fail
          refine (at_is g b t (62 + (j : Int)) x y true _ T1 HFt (by omega) (by omega) A1).mono ?_
          rintro e wa ⟨rfl, hBa⟩
          have hszq := hBj.out.size
          have HBa := Lib.hid (hBj.out.trans (hBa.mono hszq))
          have T2 := Lib.hid (HTv7.out.below HBa.out)
          clear hBa
          go_wp2_with fail
          refine (at_is gv bv3 _ (62 + (j : Int)) x y true wa T2 HFv (by omega) (by omega) A3).mono ?_
          rintro e wb ⟨rfl, hBb⟩
          have HBb := Lib.hid (HBa.out.trans (hBb.mono HBa.out.size))
          have T3 := Lib.hid (HTu7.out.below HBb.out)
          clear hBb
          go_wp2_with fail
          refine (at_is gu bu3 _ (62 + (j : Int)) x y true wb T3 HFl (by omega) (by omega) A2).mono ?_
          rintro e wc ⟨rfl, hBc⟩
          have HBc := Lib.hid (HBb.out.trans (hBc.mono HBb.out.size))
          clear hBc
          go_wp2_with fail
          go_roundw
          case rel => exact ⟨j + 1, by omega, rfl, HBc⟩
          case measure => simp [intOf] <;> omega
        · have hji : ¬ (j : Int) < (nv : Int) := by omega
          have T1 := Lib.hid (HTt7.out.below hBj.out)
          have T2 := Lib.hid (HTv7.out.below hBj.out)
          have HBq := Lib.hid (HB7.out.trans (hBj.out.mono hBs7))
          by_cases hnn2 : nv < nt
          · have hni : (nv : Int) < (nt : Int) := by omega
            obtain ⟨x, y, hxy⟩ : ∃ x y, entAt t.2 nv = (x, y) := ⟨_, _, rfl⟩
            have A1 := Lib.hid (show atR (fixedT ++ t.2) (62 + (nv : Int)) = ((x, y), true) by rw [at_mine (by rw [HNT.out]; omega), hxy])
            have e62 : IntKind.i64.wrap (62 + (nv : Int)) = 62 + (nv : Int) := by rw [IntKind.wrap_i64]; omega
            have hnx := leastL_next t.2 lo.toNat nv HNV.out (by rw [HNT.out]; omega)
            have hxy2 : t.2.getD nv (⟨#[]⟩, ⟨#[]⟩) = (x, y) := hxy
            rw [hxy2, show sumL (leastL t.2 lo.toNat) = sv from HSV.out] at hnx
            have hsz2 : sz (x, y) = x.size + y.size + 32 := rfl
            have hsmx := HFt.out.2.1.at (k := nv) (by rw [HNT.out]; omega)
            rw [hxy] at hsmx
            dsimp only at hsmx
            obtain ⟨hsm1, hsm2⟩ := hsmx
            have hzn := HZ.out
            have hz0 : 0 ≤ z ∧ z ≤ 9223372036854775807 := by omega
            have w1e : IntKind.i64.wrap (z - (x.size : Int)) = z - (x.size : Int) := by rw [IntKind.wrap_i64]; omega
            have w2e : IntKind.i64.wrap (z - (x.size : Int) - (y.size : Int)) = z - (x.size : Int) - (y.size : Int) := by rw [IntKind.wrap_i64]; omega
            have w3e : IntKind.i64.wrap (z - (x.size : Int) - (y.size : Int) - 32) = z - (x.size : Int) - (y.size : Int) - 32 := by rw [IntKind.wrap_i64]; omega
            have hgt : z - (x.size : Int) - (y.size : Int) - 32 < (sv : Int) := by omega
            clear hxy hxy2 hnx hsz2 hzn
            go_wp2_with fail
            refine (len_t g b t nt _ T1 HNT).mono ?_
            rintro e w6 ⟨rfl, rfl⟩
            go_wp2_with fail
            refine (at_is g b t (62 + (nv : Int)) x y true _ T1 HFt (by omega) (by omega) A1).mono ?_
            rintro e wa ⟨rfl, hBa⟩
            have T2a := Lib.hid (T2.out.below (hBa.mono (Nat.le_refl _)))
            have HBa := Lib.hid (HBq.out.trans (hBa.mono (by have := HBq.out.size; have := hBj.out.size; omega)))
            clear hBa
            go_wp2_with fail
            refine (size_t gv bv3 _ sv wa T2a HSV2).mono ?_
            rintro e w6 ⟨rfl, rfl⟩
            go_wp2_with fail
            go_ret
            exact ⟨rfl, by first | exact HBa.out | (rw [GB.out]; exact HBa.out)⟩
          · have hni : ¬ (nv : Int) < (nt : Int) := by omega
            go_wp2_with fail
            refine (len_t g b t nt _ T1 HNT).mono ?_
            rintro e w6 ⟨rfl, rfl⟩
            go_wp2_with fail
            go_ret
            exact ⟨rfl, by first | exact HBq.out | (rw [GB.out]; exact HBq.out)⟩
set_option maxRecDepth 100000 in
theorem lifted (os : Os) (started : os.Started) (H : Type) (enc : TypeId × Value → H) :
    ReturnsInHanded {} Try.checked os 7 .any (Rows.tableSizesSpec.pre6 enc Try.prog Try.f7 Rows.tableSizesRow.domain false) (Rows.tableSizesSpec.post enc Try.prog Try.f7 false true false false) := by
  refine returnsInHanded_of_change (C := Try.checked) own started (by kernel_rfl) Try.func7
    (ChangeSpec.witness6 (enc := enc) (C := Try.checked) false ⟨#[], #[.int .i64 0, .slice none 0 0, .int .i64 0, .int .i64 0], []⟩ 8 (by kernel_rfl) (by kernel_rfl) (by kernel_rfl) (by kernel_rfl)) ?_
  intro W base args ds gs before hval0 hW hcnd _
  have hval : ∀ (j : Nat) t v, Try.f7.params[j]? = some t → args[j]? = some v → Value.okWide Try.prog W .any base t v := hval0
  have hW' := hW
  obtain ⟨p, q, hA0, hV, rfl, hfz, hnd⟩ := hW
  have hA : DataW.TrodAll enc Try.prog W 0 (fun _ => true) true Try.f7.params.toList args.toList ds p := hA0
  rw [Try.params7] at hA hval
  obtain ⟨v0, vs0, d0, ds0, p0, q0, hargs, rfl, rfl, h0, r0⟩ := trodAll_cons hA
  obtain ⟨v1, vs1, d1, ds1, p1, q1, rfl, rfl, rfl, h1, r1⟩ := trodAll_cons r0
  obtain ⟨v2, vs2, d2, ds2, p2, q2, rfl, rfl, rfl, h2, r2⟩ := trodAll_cons r1
  obtain ⟨v3, vs3, d3, ds3, p3, q3, rfl, rfl, rfl, h3, r3⟩ := trodAll_cons r2
  obtain ⟨rfl, rfl, rfl⟩ := trodAll_nil r3
  obtain rfl : args = #[v0, v1, v2, v3] := by cases args; simp_all
  obtain ⟨rfl, rfl⟩ := trodVars_none hV
  obtain ⟨z0, rfl, rfl, rfl, wf0⟩ := open_int Try.underlying3 (hval 0 3 v0 rfl rfl) h0
  have bd0 := bounds_i64 wf0
  obtain ⟨a1, len1, cap1, rfl⟩ := okWide_slice Try.underlying22 (hval 1 22 v1 rfl rfl)
  have k1 := h1
  have lt1 : ∀ x ∈ p1, x.block < W.heap.size := by obtain ⟨m, hm⟩ := k1; exact DataW.trod_lt m _ _ _ hm
  obtain ⟨hl1, L1, hR1⟩ : len1 ≤ maxLen ∧ ∃ L, RdT W W.heap.size a1 len1 L := by
    obtain ⟨fuel, hf⟩ := h1
    exact rdt_of_trod hf
  obtain ⟨z2, rfl, rfl, rfl, wf2⟩ := open_int Try.underlying3 (hval 2 3 v2 rfl rfl) h2
  have bd2 := bounds_i64 wf2
  obtain ⟨z3, rfl, rfl, rfl, wf3⟩ := open_int Try.underlying3 (hval 3 3 v3 rfl rfl) h3
  have bd3 := bounds_i64 wf3
  clear hA0 hval0
  refine (walk z0 a1 len1 cap1 z2 z3 L1 W bd0.1 bd0.2 bd2.1 bd2.2 bd3.1 bd3.2  hl1 hR1).mono fun e W' ⟨he, bel⟩ => ?_
  subst he
  exact ⟨_, rfl, _, _, _, [], _, [], hW', trodAll_mk1 (shut_bool Try.underlying4 _), (trodAll_cons_mk (shut_int Try.underlying3 wf0) (trodAll_cons_mk (Below.trod laidOut (by kernel_rfl) (of_decide_eq_true (by kernel_rfl)) k1 bel lt1) (trodAll_cons_mk (shut_int Try.underlying3 wf2) (trodAll_cons_mk (shut_int Try.underlying3 wf3) trodAll_mk0)))), rfl, bel.frame _, fun h => by cases h⟩

theorem over : Rows.tableSizesRow.holds Try.pinned (OpenSpec.ofChange Rows.tableSizesSpec) :=
  OpenClaim.holds_of_wide 7 Try.f7 rfl rfl rfl rfl rfl rfl rfl ⟨rfl, rfl, rfl, rfl, rfl⟩ rfl rfl rfl rfl rfl (by kernel_rfl) Try.func7 (by kernel_rfl)
    (of_decide_eq_true (by kernel_rfl)) (by unfold Func.isWrapper; first | (rw [if_pos (by decide +kernel)]; kernel_rfl) | (rw [if_neg (by decide +kernel)]; exact ⟨rfl, rfl⟩))
    (fun os started H enc _ => lifted os started H enc)

theorem proved : Rows.TableSizesSaid := over
#print axioms proved
end Go.Proofs.Ytchfineobpfinaa.tableSizes
