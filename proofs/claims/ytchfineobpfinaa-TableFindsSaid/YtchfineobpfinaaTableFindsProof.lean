/- Proves TableFinds: any name and value, and those of all entries, are found where the document finds them. No condition. -/
import Derived.Test.YtchfineobpfinaaRows
import Derived.Test.YtchfineobpfinaaTbMath
import Derived.Test.YtchfineobpfinaaTbMem
import Derived.Test.YtchfineobpfinaaTbLeast
import Derived.Test.YtchfineobpfinaaTbRef
import Derived.Test.YtchfineobpfinaaTbFix
import Derived.Test.YtchfineobpfinaaTbAt
import Derived.Test.YtchfineobpfinaaTcMem
import Derived.Test.YtchfineobpfinaaTcLow
import Derived.Test.YtchfineobpfinaaTcShrink
import Derived.Test.YtchfineobpfinaaTcAdd
import Derived.Test.YtchfineobpfinaaTcAt
import Derived.Test.YtchfineobpfinaaTcActs
import Derived.Test.YtchfineobpfinaaTcFew
import Derived.Test.YtchfineobpfinaaTcPlay
import Derived.Test.YtchfineobpfinaaTcSame
import Derived.Test.YtchfineobpfinaaTcAwake
import Derived.Test.YtchfineobpfinaaTcLoop
import Derived.Test.YtchfineobpfinaaTcCopy
import Derived.Test.YtchfineobpfinaaTcKnow
import Derived.Test.YtchfineobpfinaaTbAll
import Derived.Test.YtchfineobpfinaaTbFind
import Derived.Test.YtchfineobpfinaaTcFind
import Derived.Deep.RegionHeld3
import Derived.WalkKit
import Derived.ProofKit
import Derived.OpenShut
import Derived.ShutString
import Derived.ChangeOld
import Derived.Below
import Derived.StillTailTactics
import Derived.Deep.RegionHeld3
import Derived.Deep.QuietTactic
import Derived.BigQuiet
namespace Go.Proofs.Ytchfineobpfinaa.tableFinds
open Go.ChangeShapes Go.WideShapes Go.ChangeAt Go.RowKit Tb
open Go.ChangeMaps (open_string shut_string)
set_option linter.unusedVariables false

theorem own : ownKnob Try.prog.godebug = none := by kernel_rfl
theorem laidOut : laidOutB Try.prog = true := by kernel_rfl

theorem all_own (M : Int) (A : Option Addr) (n c : Nat) (L : List Ent) (w : World) (h : Hid (TabE w w.heap.size A n c L)) (hb : n ≤ 30000) :
    Calls Try.prog 16 #[.agg #[.int .i64 M, .slice A n c]] w fun e w' => ∃ v, e = .returned v ∧ Hid (w'.ownsRow w.heap.size 38 2 v (61 + n) (entCs (fixedT ++ L))) ∧ Below w.heap.size w w' := by
  rcases h.out with ⟨rfl, rfl, rfl, rfl⟩ | ⟨b, o, rfl, h2, h3, h4⟩
  · exact (all_nil M w).mono fun e w' ⟨v, he, hO, hB⟩ => ⟨v, he, Lib.hid (by rw [List.append_nil]; exact hO), hB⟩
  · exact (all_some M b o n c L w (Lib.hid h3) (Lib.hid h4) hb h2).mono fun e w' ⟨v, he, hO, hB⟩ => ⟨v, he, Lib.hid hO, hB⟩

set_option maxRecDepth 100000 in
set_option maxHeartbeats 4000000 in
theorem walk (m0 : Int) (a1 : Option Addr) (len1 cap1 : Nat) (s2 s3 : ByteArray) (L : List ActE) (w : World) (hm1 : -9223372036854775808 ≤ m0) (hm2 : m0 ≤ 9223372036854775807) (ws2 : s2.size ≤ maxLen) (ws3 : s3.size ≤ maxLen) (hl : len1 ≤ maxLen) (hR : RdT w w.heap.size a1 len1 L) :
    Calls Try.prog 4 #[.int .i64 m0, .slice a1 len1 cap1, .string s2, .string s3] w fun e w' => e = .returned (.bool true) ∧ Below w.heap.size w w' := by
  have hI := Lib.hid hR
  clear hR
  obtain ⟨B, hB0⟩ : ∃ B, w.heap.size = B := ⟨_, rfl⟩
  have GB := Lib.hid hB0
  clear hB0
  have hnb : len1 ≤ 9223372036854775807 := by unfold maxLen at hl; omega
  unfold maxLen at ws2 ws3
  by_cases h2 : (100 : Int) < len1
  · go_enter Try.func4, Try.ntmps4
    go_wp2_with fail
    refine (awake_is _).mono ?_
    rintro e w1 ⟨rfl, hB⟩
    go_wp2_with fail
    refine (few_is a1 len1 cap1 L w1 (Lib.hid (hI.out.on hB hB.size)) hl).mono ?_
    rintro e w2 (⟨rfl, hB2, _⟩ | ⟨rfl, hB2⟩)
    · go_wp2_with fail
      go_ret
      exact ⟨rfl, hB.trans (hB2.mono hB.size)⟩
    · go_wp2_with fail
      go_ret
      exact ⟨rfl, hB.trans (hB2.mono hB.size)⟩
  by_cases h3 : (3000 : Int) < s2.size
  · go_enter Try.func4, Try.ntmps4
    go_wp2_with fail
    refine (awake_is _).mono ?_
    rintro e w1 ⟨rfl, hB⟩
    go_wp2_with fail
    refine (few_is a1 len1 cap1 L w1 (Lib.hid (hI.out.on hB hB.size)) hl).mono ?_
    rintro e w2 (⟨rfl, hB2, _⟩ | ⟨rfl, hB2⟩)
    · go_wp2_with fail
      go_ret
      exact ⟨rfl, hB.trans (hB2.mono hB.size)⟩
    · go_wp2_with fail
      go_ret
      exact ⟨rfl, hB.trans (hB2.mono hB.size)⟩
  by_cases h4 : (3000 : Int) < s3.size
  · go_enter Try.func4, Try.ntmps4
    go_wp2_with fail
    refine (awake_is _).mono ?_
    rintro e w1 ⟨rfl, hB⟩
    go_wp2_with fail
    refine (few_is a1 len1 cap1 L w1 (Lib.hid (hI.out.on hB hB.size)) hl).mono ?_
    rintro e w2 (⟨rfl, hB2, _⟩ | ⟨rfl, hB2⟩)
    · go_wp2_with fail
      go_ret
      exact ⟨rfl, hB.trans (hB2.mono hB.size)⟩
    · go_wp2_with fail
      go_ret
      exact ⟨rfl, hB.trans (hB2.mono hB.size)⟩
  have hle : len1 ≤ 100 := by omega
  go_enter Try.func4, Try.ntmps4
  go_wp2_with fail
  refine (awake_is _).mono ?_
  rintro e w1 ⟨rfl, hB⟩
  go_wp2_with fail
  refine (few_is a1 len1 cap1 L w1 (Lib.hid (hI.out.on hB hB.size)) hl).mono ?_
  rintro e w2 (⟨rfl, hB2, HF⟩ | ⟨rfl, hB2⟩)
  rotate_left
  · go_wp2_with fail
    go_ret
    exact ⟨rfl, hB.trans (hB2.mono hB.size)⟩
  have hBw2 := hB.trans (hB2.mono hB.size)
  rw [GB.out] at hBw2
  have H2 := Lib.hid hBw2
  clear hB hB2 hBw2
  go_wp2_with fail
  refine (new_is m0 w2 hm1 hm2).mono ?_
  rintro e w3 ⟨rfl, hT3, hB3⟩
  obtain ⟨g, hg⟩ : ∃ g, w2.heap.size = g := ⟨_, rfl⟩
  rw [hg] at hT3 hB3
  rw [hg]
  have hBg : B ≤ g := by have := H2.out.size; have := GB.out; omega
  have H3 := Lib.hid (H2.out.trans (hB3.mono hBg))
  have HT3 := Lib.hid hT3
  obtain ⟨M0, hM0⟩ : ∃ M0 : Int, (m0.toNat : Int) = M0 := ⟨_, rfl⟩
  have HM0 := Lib.hid hM0
  clear hT3 hB3 hg hM0
  go_wp2_with fail
  refine (refNew_m m0 M0 w3 HM0 hm1 hm2).mono ?_
  rintro e w4 ⟨rfl, hB4⟩
  have hgs := HT3.out.lt.1
  have HP0 := Lib.hid (PI.start (HT3.out.below hB4) hBg (H3.out.trans (hB4.mono (by omega))) HM0.out)
  clear hgs hB4
  obtain ⟨m, hm⟩ : ∃ m, w4.heap.size = m := ⟨_, rfl⟩
  rw [hm] at HP0
  obtain ⟨W4, hW4⟩ : ∃ W4, w4.alloc (.cells #[.int .i64 M0, .slice none 0 0] 29) = W4 := ⟨_, rfl⟩
  rw [hW4] at HP0
  have HP1 := Lib.hid HP0.out.again
  obtain ⟨a1c, a2c, a3c, a4c⟩ := two_cells HP0.out.2.1
  go_wp2_with fail
  clear a1c a2c a3c a4c HP0
  go_loopw [11] (fun i wr => ∃ (k n b c : Nat) (A : Option Addr) (M : Int) (t : Tab), k ≤ len1 ∧ i = .int .i64 (k : Int) ∧ Hid (PI w B g m b A n c M wr t) ∧ Hid (Few3 k t)) (fun i _ => len1 - (intOf i).toNat)
  case atStart => exact ⟨0, 0, g, 0, none, M0, newT m0, by omega, rfl, HP1, Lib.hid (Few3.new m0)⟩
  case round =>
    rename_i wr _
    obtain ⟨k, n, b, c, A, M, t, hk, rfl, HP, H3⟩ := hrel
    by_cases hlt : k < len1
    · have hli : (k : Int) < (len1 : Int) := by omega
      obtain ⟨bs, off, rfl, hb, c0, c1, c2, hz1, hz2, _, _⟩ := hI.out.2 k hlt
      obtain ⟨hsx, hsy⟩ := HF.out k hlt
      obtain ⟨act, hact⟩ : ∃ act, actAt L k = act := ⟨_, rfl⟩
      rw [hact] at c0 c1 c2 hz1 hz2 hsx hsy
      have hBw := HP.out.2.2.2.2.2
      rw [GB.out] at hb
      have d0 := (hBw.cell (p := ⟨bs, off + k * 3, none⟩) hb).trans c0
      have d1 := (hBw.cell (p := ⟨bs, off + k * 3 + 1, none⟩) hb).trans c1
      have d2 := (hBw.cell (p := ⟨bs, off + k * 3 + 2, none⟩) hb).trans c2
      have hof := off_add_addr bs off (k * 3)
      obtain ⟨f0, f1, f2, f3⟩ := two_cells HP.out.2.1
      obtain ⟨x, y, mo⟩ := act
      dsimp only at hsx hsy hz1 hz2 d0 d1 d2
      have e1 : IntKind.i64.wrap ((k : Int) + 1) = ((k + 1 : Nat) : Int) := by rw [IntKind.wrap_i64]; omega
      have hk0 : (0 : Int) ≤ (k : Int) := by omega
      clear c0 c1 c2 hact hBw
      go_wp2_with fail
      go_still_tail 6, (by kernel_rfl)
      have HPd := Lib.hid (HP.out.below (Below.refl _ wr).drew)
      change wpList _ _ _ _ _ wr.drew
      generalize wr.drew = wd at *
      go_wp2_with fail
      refine (play_step w B g m b A n c M t ⟨x, y, mo⟩ k wd HPd H3 (by omega) hsx hsy hz1 hz2).mono ?_
      rintro r w7 ⟨M2, A2, n2', c2, rfl, hrow, hPI⟩
      obtain ⟨b2, hPI⟩ := hPI.out
      have HP7 := Lib.hid hPI
      have H37 := Lib.hid (H3.out.act (e := ⟨x, y, mo⟩) hsx hsy)
      obtain ⟨p1, p2, p3, p4⟩ := two_cells hrow
      obtain ⟨o1, o2, o3, o4⟩ := two_cells (zero_set (y := .int .i64 M2) hrow)
      generalize actT t ⟨x, y, mo⟩ = t7 at *
      clear hPI hrow d0 d1 d2 hof f0 f1 f2 f3 HPd HP
      go_wp2_with fail
      generalize (w7.setCell ⟨m, 0, none⟩ (.int .i64 M2)).setCell ⟨m, 1, none⟩ (.slice A2 n2' c2) = w8 at *
      clear p1 p2 p3 p4 o1 o2 o3 o4
      go_wp2_with fail
      go_roundw
      case rel => exact ⟨k + 1, n2', b2, c2, A2, M2, t7, by omega, rfl, HP7, H37⟩
      case measure => simp [intOf] <;> omega
    · have hli : ¬ (k : Int) < (len1 : Int) := by omega
      have HFt := Lib.hid (H3.out.fit (by omega))
      obtain ⟨i0, hi, hz0, hz1, hz2⟩ := info_parts infoE
      have HI := Lib.hid hi
      have HZ0 := Lib.hid hz0
      have HZ1 := Lib.hid hz1
      have HZ2 := Lib.hid hz2
      have hlen := H3.out.1
      have HMn := Lib.hid HP.out.2.2.1
      have hnb3 : n ≤ 100 := by have := HMn.out.2; omega
      obtain ⟨f0, f1, f2, f3⟩ := two_cells HP.out.2.1
      obtain ⟨X0, hX0⟩ : ∃ X, wr.heap.size = X := ⟨_, rfl⟩
      have GX0 := Lib.hid hX0
      clear hi hz0 hz1 hz2 hX0
      go_wp2_with fail
      refine (all_own M A n c t.2 wr (Lib.hid HP.out.tabE) (by omega)).mono ?_
      rintro e w1 ⟨v, rfl, hO, hB1⟩
      rw [GX0.out] at hO hB1
      have HB1 := Lib.hid hB1
      have hs1 : X0 ≤ w1.heap.size := by have := hB1.size; have := GX0.out; omega
      clear hB1
      go_wp2_with (at_builtin; refine wpList_append_own _ rfl _ _ 27 rfl X0 38 i0 (.agg #[.string ⟨#[]⟩, .string ⟨#[]⟩]) 2 32 Try.underlying27 HI.out HZ0.out HZ1.out HZ2.out rfl (by decide) _ _ _ rfl (hO.out.alloc _) ⟨w1.heap.size, 0, none⟩ 1 1 [.string s2, .string s3] rfl rfl ?d1a ?d2a ?d3a ?d4a ?d5a ?_)
      case d1a =>
        intro j u hj
        match j, hj with
        | 0, hj => simp at hj; subst hj; rw [zero_add_addr]; exact cell_of_row _ w1.heap.size 0 #[.string s2, .string s3] _ _ (heap_alloc_new w1 _)
        | 1, hj => simp at hj; subst hj; rw [zero_add_addr]; exact cell_of_row _ w1.heap.size 1 #[.string s2, .string s3] _ _ (heap_alloc_new w1 _)
      case d2a =>
        intro u hu
        simp at hu
        rcases hu with rfl | rfl <;> rfl
      case d3a => unfold maxLen; omega
      case d4a => omega
      case d5a => simp; omega
      intro v' w2 hown hgrow _
      have hown2 : w2.ownsRow X0 38 2 v' (61 + n + 1) (entCs (fixedT ++ t.2 ++ [(s2, s3)])) := by
        rw [entCs_cat, entCs_one]
        exact hown
      have hl62 : 61 + n + 1 = (fixedT ++ t.2 ++ [(s2, s3)]).length := by
        rw [List.length_append, List.length_append, HMn.out.2]; rfl
      have hB2 := (HB1.out.alloc hs1 (.cells #[.string s2, .string s3] 38)).grown hgrow (by simp; omega) (fun b hb => by have := (hO.out.lt b hb).1; omega)
      obtain ⟨gl, cap, hv, hrd⟩ : ∃ gl cap, v' = .slice gl (61 + n + 1) cap ∧ RdE w2 w2.heap.size gl (fixedT ++ t.2 ++ [(s2, s3)]) := by
        obtain ⟨A2, c2, hv, _, hr, _⟩ := own_rde hown2 hl62
        exact ⟨A2, c2, hv, hr⟩
      subst hv
      have HRD := Lib.hid hrd
      obtain ⟨K, hK⟩ : ∃ K, fixedT ++ t.2 ++ [(s2, s3)] = K := ⟨_, rfl⟩
      rw [hK] at HRD hl62
      obtain ⟨ln, hln⟩ : ∃ ln, 61 + n + 1 = ln := ⟨_, rfl⟩
      rw [hln] at hl62
      have HKL := Lib.hid hl62
      have hlnb : ln ≤ 200 := by omega
      have HPz := Lib.hid (HP.out.below (by rw [GX0.out]; exact hB2))
      clear hown hown2 hgrow hl62 hB2 hrd hK f0 f1 f2 f3 HP hO HB1 hs1 HI HZ0 HZ1 HZ2
      rw [hln]
      clear hln
      go_wp2_with fail
      go_loopw [13, 14, 15, 16, 17] (fun i _ _ _ _ wr => ∃ j : Nat, j ≤ ln ∧ i = .int .i64 (j : Int) ∧ Hid (Below w2.heap.size w2 wr)) (fun i _ _ _ _ _ => ln - (intOf i).toNat)
      case atStart => exact ⟨0, Nat.zero_le _, rfl, Lib.hid (Below.refl _ _)⟩
      case round =>
        obtain ⟨j, hj, rfl, hBj⟩ := hrel
        by_cases hlt2 : j < ln
        · have hji : (j : Int) < (ln : Int) := by omega
          obtain ⟨x, y, hxy⟩ : ∃ x y, entAt K j = (x, y) := ⟨_, _, rfl⟩
          obtain ⟨bl, ol, rfl, hbl, c0, c1⟩ := HRD.out.get (k := j) (by rw [← HKL.out]; exact hlt2)
          rw [hxy] at c0 c1
          dsimp only at c0 c1
          obtain ⟨r1, q1, hr1⟩ : ∃ r q, findT x y (fixedT ++ t.2) = (r, q) := ⟨_, _, rfl⟩
          obtain ⟨r2, q2, hr2⟩ : ∃ r q, findT x s3 (fixedT ++ t.2) = (r, q) := ⟨_, _, rfl⟩
          have HR1 := Lib.hid hr1
          have HR2 := Lib.hid hr2
          have hof := off_add_addr bl ol (j * 2)
          have hj0 : (0 : Int) ≤ (j : Int) := by omega
          have ej : IntKind.i64.wrap ((j : Int) + 1) = ((j + 1 : Nat) : Int) := by rw [IntKind.wrap_i64]; omega
          have HC := Lib.hid (fun (wz : World) (hz : Below w2.heap.size w2 wz) => (⟨(hz.cell (p := ⟨bl, ol + j * 2, none⟩) hbl).trans c0, (hz.cell (p := ⟨bl, ol + j * 2 + 1, none⟩) hbl).trans c1⟩ : wz.cell? ⟨bl, ol + j * 2, none⟩ = some (.string x) ∧ wz.cell? ⟨bl, ol + j * 2 + 1, none⟩ = some (.string y)))
          obtain ⟨d0, d1⟩ := HC.out _ hBj.out
          clear hr1 hr2 c0 c1 hxy hbl
          have HF1 : Hid (∀ X, Hid (Below w2.heap.size w2 X) → Calls Try.prog 17 #[.pointer (some ⟨g, 0, none⟩), .string x, .string y] X fun e w' => e = .returned (.tuple #[.int .i64 (r1 : Int), .bool q1]) ∧ w'.cell? ⟨bl, ol + j * 2, none⟩ = some (.string x) ∧ w'.cell? ⟨bl, ol + j * 2 + 1, none⟩ = some (.string y) ∧ Hid (Below w2.heap.size w2 w')) := Lib.hid fun X hX => by
            refine (find_is g b t x y r1 q1 X (Lib.hid (HPz.out.below hX.out).1.1) HFt HR1).mono ?_
            rintro e w' ⟨he, hB⟩
            have hB' := hX.out.trans (hB.mono hX.out.size)
            exact ⟨he, (HC.out _ hB').1, (HC.out _ hB').2, Lib.hid hB'⟩
          have HF2 : Hid (∀ X, Hid (Below w2.heap.size w2 X) → Calls Try.prog 18 #[.agg #[.int .i64 M, .slice A n c], .string x, .string y] X fun e w' => e = .returned (.tuple #[.int .i64 (r1 : Int), .bool q1]) ∧ w'.cell? ⟨bl, ol + j * 2, none⟩ = some (.string x) ∧ w'.cell? ⟨bl, ol + j * 2 + 1, none⟩ = some (.string y) ∧ w'.cell? ⟨m, 0, none⟩ = some (.int .i64 M) ∧ w'.cell? ⟨m, 1, none⟩ = some (.slice A n c) ∧ Hid (Below w2.heap.size w2 w')) := Lib.hid fun X hX => by
            refine (refFind_is M A n c t.2 x y r1 q1 X (Lib.hid (HPz.out.below hX.out).tabE) (Lib.hid HMn.out.2) (by omega) HR1).mono ?_
            rintro e w' ⟨he, hB⟩
            have hB' := hX.out.trans (hB.mono hX.out.size)
            obtain ⟨m0', m1', _, _⟩ := two_cells (HPz.out.below hB').2.1
            exact ⟨he, (HC.out _ hB').1, (HC.out _ hB').2, m0', m1', Lib.hid hB'⟩
          have HF4 : Hid (∀ X, Hid (Below w2.heap.size w2 X) → Calls Try.prog 18 #[.agg #[.int .i64 M, .slice A n c], .string x, .string s3] X fun e w' => e = .returned (.tuple #[.int .i64 (r2 : Int), .bool q2]) ∧ w'.cell? ⟨bl, ol + j * 2, none⟩ = some (.string x) ∧ w'.cell? ⟨m, 0, none⟩ = some (.int .i64 M) ∧ w'.cell? ⟨m, 1, none⟩ = some (.slice A n c) ∧ Hid (Below w2.heap.size w2 w')) := Lib.hid fun X hX => by
            refine (refFind_is M A n c t.2 x s3 r2 q2 X (Lib.hid (HPz.out.below hX.out).tabE) (Lib.hid HMn.out.2) (by omega) HR2).mono ?_
            rintro e w' ⟨he, hB⟩
            have hB' := hX.out.trans (hB.mono hX.out.size)
            obtain ⟨m0', m1', _, _⟩ := two_cells (HPz.out.below hB').2.1
            exact ⟨he, (HC.out _ hB').1, m0', m1', Lib.hid hB'⟩
          have HBd := Lib.hid hBj.out.drew
          obtain ⟨k0, k1⟩ := HC.out _ HBd.out
          go_upto_region 15 with fail
          go_region_held3 (fun w' => w'.cell? ⟨bl, ol + j * 2, none⟩ = some (.string x) ∧ w'.cell? ⟨bl, ol + j * 2 + 1, none⟩ = some (.string y) ∧ Hid (Below w2.heap.size w2 w')) (first | go_keep | exact ⟨d0, d1, hBj⟩ | exact ⟨k0, k1, HBd⟩ | exact ⟨c5, c6, hB5⟩) (first | (go_at_call 17; (with_reducible refine (HF1.out _ ?_).mono ?_); (first | assumption | (simp [*])); rintro e w5 ⟨rfl, c5, c6, hB5⟩))
          clear d0 d1 k0 k1 HBd hBj
          obtain ⟨p0, p1, _, _⟩ := two_cells (HPz.out.below hB5.out).2.1
          have HBd := Lib.hid hB5.out.drew
          obtain ⟨k0, k1⟩ := HC.out _ HBd.out
          obtain ⟨p2, p3, _, _⟩ := two_cells (HPz.out.below HBd.out).2.1
          go_upto_region 16 with fail
          go_region_held3 (fun w' => w'.cell? ⟨bl, ol + j * 2, none⟩ = some (.string x) ∧ w'.cell? ⟨bl, ol + j * 2 + 1, none⟩ = some (.string y) ∧ w'.cell? ⟨m, 0, none⟩ = some (.int .i64 M) ∧ w'.cell? ⟨m, 1, none⟩ = some (.slice A n c) ∧ Hid (Below w2.heap.size w2 w')) (first | go_keep | exact ⟨c5, c6, p0, p1, hB5⟩ | exact ⟨k0, k1, p2, p3, HBd⟩ | exact ⟨d5, d6, d7, d8, hB6⟩) (first | (go_at_call 18; (with_reducible refine (HF2.out _ ?_).mono ?_); (first | assumption | (simp [*])); rintro e w6 ⟨rfl, d5, d6, d7, d8, hB6⟩))
          clear c5 c6 p0 p1 p2 p3 k0 k1 HBd hB5
          go_wp2_with fail
          refine (find_is g b t x s3 r2 q2 _ (Lib.hid (HPz.out.below hB6.out).1.1) HFt HR2).mono ?_
          rintro e w7 ⟨rfl, hB7⟩
          have HB7 := Lib.hid (hB6.out.trans (hB7.mono hB6.out.size))
          obtain ⟨c5, c6⟩ := HC.out _ HB7.out
          obtain ⟨p0, p1, _, _⟩ := two_cells (HPz.out.below HB7.out).2.1
          have HBd := Lib.hid HB7.out.drew
          obtain ⟨k0, k1⟩ := HC.out _ HBd.out
          obtain ⟨p2, p3, _, _⟩ := two_cells (HPz.out.below HBd.out).2.1
          clear hB7 d5 d6 d7 d8 hB6
          go_upto_region 20 with fail
          go_region_held3 (fun w' => w'.cell? ⟨bl, ol + j * 2, none⟩ = some (.string x) ∧ w'.cell? ⟨m, 0, none⟩ = some (.int .i64 M) ∧ w'.cell? ⟨m, 1, none⟩ = some (.slice A n c) ∧ Hid (Below w2.heap.size w2 w')) (first | go_keep | exact ⟨c5, p0, p1, HB7⟩ | exact ⟨k0, p2, p3, HBd⟩ | exact ⟨d5, d7, d8, hB8⟩) (first | (go_at_call 18; (with_reducible refine (HF4.out _ ?_).mono ?_); (first | assumption | (simp [*])); rintro e w8 ⟨rfl, d5, d7, d8, hB8⟩))
          clear c5 c6 p0 p1 p2 p3 k0 k1 HBd HB7 d5 d7 d8
          go_wp2_with fail
          go_roundw
          case rel => exact ⟨j + 1, by omega, rfl, hB8⟩
          case measure => simp [intOf] <;> omega
        · have hji : ¬ (j : Int) < (ln : Int) := by omega
          have HBf := Lib.hid ((HPz.out.below hBj.out).2.2.2.2.2)
          go_wp2_with fail
          go_ret
          exact ⟨rfl, by first | exact HBf.out | (rw [GB.out]; exact HBf.out)⟩
set_option maxRecDepth 100000 in
theorem lifted (os : Os) (started : os.Started) (H : Type) (enc : TypeId × Value → H) :
    ReturnsInHanded {} Try.checked os 4 .any (Rows.tableFindsSpec.pre6 enc Try.prog Try.f4 Rows.tableFindsRow.domain false) (Rows.tableFindsSpec.post enc Try.prog Try.f4 false true false false) := by
  refine returnsInHanded_of_change (C := Try.checked) own started (by kernel_rfl) Try.func4
    (ChangeSpec.witness6 (enc := enc) (C := Try.checked) false ⟨#[], #[.int .i64 0, .slice none 0 0, .string ByteArray.empty, .string ByteArray.empty], []⟩ 8 (by kernel_rfl) (by kernel_rfl) (by kernel_rfl) (by kernel_rfl)) ?_
  intro W base args ds gs before hval0 hW hcnd _
  have hval : ∀ (j : Nat) t v, Try.f4.params[j]? = some t → args[j]? = some v → Value.okWide Try.prog W .any base t v := hval0
  have hW' := hW
  obtain ⟨p, q, hA0, hV, rfl, hfz, hnd⟩ := hW
  have hA : DataW.TrodAll enc Try.prog W 0 (fun _ => true) true Try.f4.params.toList args.toList ds p := hA0
  rw [Try.params4] at hA hval
  obtain ⟨v0, vs0, d0, ds0, p0, q0, hargs, rfl, rfl, h0, r0⟩ := trodAll_cons hA
  obtain ⟨v1, vs1, d1, ds1, p1, q1, rfl, rfl, rfl, h1, r1⟩ := trodAll_cons r0
  obtain ⟨v2, vs2, d2, ds2, p2, q2, rfl, rfl, rfl, h2, r2⟩ := trodAll_cons r1
  obtain ⟨v3, vs3, d3, ds3, p3, q3, rfl, rfl, rfl, h3, r3⟩ := trodAll_cons r2
  obtain ⟨rfl, rfl, rfl⟩ := trodAll_nil r3
  obtain rfl : args = #[v0, v1, v2, v3] := by cases args; simp_all
  obtain ⟨rfl, rfl⟩ := trodVars_none hV
  obtain ⟨z0, rfl, rfl, rfl, wf0⟩ := open_int Try.underlying3 (hval 0 3 v0 rfl rfl) h0
  have bd0 := bounds_i64 wf0
  obtain ⟨a1, len1, cap1, rfl⟩ := okWide_slice Try.underlying22 (hval 1 22 v1 rfl rfl)
  have k1 := h1
  have lt1 : ∀ x ∈ p1, x.block < W.heap.size := by obtain ⟨m, hm⟩ := k1; exact DataW.trod_lt m _ _ _ hm
  obtain ⟨hl1, L1, hR1⟩ : len1 ≤ maxLen ∧ ∃ L, RdT W W.heap.size a1 len1 L := by
    obtain ⟨fuel, hf⟩ := h1
    exact rdt_of_trod hf
  obtain ⟨s2, rfl, rfl, rfl, ws2⟩ := open_string Try.underlying9 (hval 2 9 v2 rfl rfl) h2
  obtain ⟨s3, rfl, rfl, rfl, ws3⟩ := open_string Try.underlying9 (hval 3 9 v3 rfl rfl) h3
  clear hA0 hval0
  refine (walk z0 a1 len1 cap1 s2 s3 L1 W bd0.1 bd0.2 ws2 ws3 hl1 hR1).mono fun e W' ⟨he, bel⟩ => ?_
  subst he
  exact ⟨_, rfl, _, _, _, [], _, [], hW', trodAll_mk1 (shut_bool Try.underlying4 _), (trodAll_cons_mk (shut_int Try.underlying3 wf0) (trodAll_cons_mk (Below.trod laidOut (by kernel_rfl) (of_decide_eq_true (by kernel_rfl)) k1 bel lt1) (trodAll_cons_mk (shut_string Try.underlying9 ws2) (trodAll_cons_mk (shut_string Try.underlying9 ws3) trodAll_mk0)))), rfl, bel.frame _, fun h => by cases h⟩

theorem over : Rows.tableFindsRow.holds Try.pinned (OpenSpec.ofChange Rows.tableFindsSpec) :=
  OpenClaim.holds_of_wide 4 Try.f4 rfl rfl rfl rfl rfl rfl rfl ⟨rfl, rfl, rfl, rfl, rfl⟩ rfl rfl rfl rfl rfl (by kernel_rfl) Try.func4 (by kernel_rfl)
    (of_decide_eq_true (by kernel_rfl)) (by unfold Func.isWrapper; first | (rw [if_pos (by decide +kernel)]; kernel_rfl) | (rw [if_neg (by decide +kernel)]; exact ⟨rfl, rfl⟩))
    (fun os started H enc _ => lifted os started H enc)

theorem proved : Rows.TableFindsSaid := over
#print axioms proved
end Go.Proofs.Ytchfineobpfinaa.tableFinds
