/- Proves TablePlays: any acts leave just the document's table; at any number there is just its entry. No condition. -/
import Derived.Test.YtchfineobpfinaaRows
import Derived.Test.YtchfineobpfinaaTbMath
import Derived.Test.YtchfineobpfinaaTbMem
import Derived.Test.YtchfineobpfinaaTbLeast
import Derived.Test.YtchfineobpfinaaTbRef
import Derived.Test.YtchfineobpfinaaTbFix
import Derived.Test.YtchfineobpfinaaTbAt
import Derived.Test.YtchfineobpfinaaTcMem
import Derived.Test.YtchfineobpfinaaTcLow
import Derived.Test.YtchfineobpfinaaTcShrink
import Derived.Test.YtchfineobpfinaaTcAdd
import Derived.Test.YtchfineobpfinaaTcAt
import Derived.Test.YtchfineobpfinaaTcActs
import Derived.Test.YtchfineobpfinaaTcFew
import Derived.Test.YtchfineobpfinaaTcPlay
import Derived.Test.YtchfineobpfinaaTcSame
import Derived.Test.YtchfineobpfinaaTcAwake
import Derived.Test.YtchfineobpfinaaTcLoop
import Derived.WalkKit
import Derived.ProofKit
import Derived.OpenShut
import Derived.ShutString
import Derived.ChangeOld
import Derived.Below
import Derived.StillTailTactics
import Derived.Deep.QuietTactic
import Derived.BigQuiet
namespace Go.Proofs.Ytchfineobpfinaa.tablePlays
open Go.ChangeShapes Go.WideShapes Go.ChangeAt Go.RowKit Tb
open Go.ChangeMaps (open_string shut_string)
set_option linter.unusedVariables false

theorem own : ownKnob Try.prog.godebug = none := by kernel_rfl
theorem laidOut : laidOutB Try.prog = true := by kernel_rfl

set_option maxRecDepth 100000 in
set_option maxHeartbeats 4000000 in
theorem walk (m0 : Int) (a1 : Option Addr) (len1 cap1 : Nat) (n2 : Int) (L : List ActE) (w : World) (hm1 : -9223372036854775808 ≤ m0) (hm2 : m0 ≤ 9223372036854775807) (hn1 : -9223372036854775808 ≤ n2) (hn2 : n2 ≤ 9223372036854775807) (hl : len1 ≤ maxLen) (hR : RdT w w.heap.size a1 len1 L) :
    Calls Try.prog 3 #[.int .i64 m0, .slice a1 len1 cap1, .int .i64 n2] w fun e w' => e = .returned (.bool true) ∧ Below w.heap.size w w' := by
  have hI := Lib.hid hR
  clear hR
  obtain ⟨B, hB0⟩ : ∃ B, w.heap.size = B := ⟨_, rfl⟩
  have GB := Lib.hid hB0
  clear hB0
  have hnb : len1 ≤ 9223372036854775807 := by unfold maxLen at hl; omega
  by_cases h2 : (100 : Int) < len1
  · go_enter Try.func3, Try.ntmps3
    go_wp2_with fail
    refine (awake_is _).mono ?_
    rintro e w1 ⟨rfl, hB⟩
    go_wp2_with fail
    refine (few_is a1 len1 cap1 L w1 (Lib.hid (hI.out.on hB hB.size)) hl).mono ?_
    rintro e w2 (⟨rfl, hB2, _⟩ | ⟨rfl, hB2⟩)
    · go_wp2_with fail
      go_ret
      exact ⟨rfl, hB.trans (hB2.mono hB.size)⟩
    · go_wp2_with fail
      go_ret
      exact ⟨rfl, hB.trans (hB2.mono hB.size)⟩
  have hle : len1 ≤ 100 := by omega
  go_enter Try.func3, Try.ntmps3
  go_wp2_with fail
  refine (awake_is _).mono ?_
  rintro e w1 ⟨rfl, hB⟩
  go_wp2_with fail
  refine (few_is a1 len1 cap1 L w1 (Lib.hid (hI.out.on hB hB.size)) hl).mono ?_
  rintro e w2 (⟨rfl, hB2, HF⟩ | ⟨rfl, hB2⟩)
  rotate_left
  · go_wp2_with fail
    go_ret
    exact ⟨rfl, hB.trans (hB2.mono hB.size)⟩
  have hBw2 := hB.trans (hB2.mono hB.size)
  rw [GB.out] at hBw2
  have H2 := Lib.hid hBw2
  clear hB hB2 hBw2
  go_wp2_with fail
  refine (new_is m0 w2 hm1 hm2).mono ?_
  rintro e w3 ⟨rfl, hT3, hB3⟩
  obtain ⟨g, hg⟩ : ∃ g, w2.heap.size = g := ⟨_, rfl⟩
  rw [hg] at hT3 hB3
  rw [hg]
  have hBg : B ≤ g := by have := H2.out.size; have := GB.out; omega
  have H3 := Lib.hid (H2.out.trans (hB3.mono hBg))
  have HT3 := Lib.hid hT3
  obtain ⟨M0, hM0⟩ : ∃ M0 : Int, (m0.toNat : Int) = M0 := ⟨_, rfl⟩
  have HM0 := Lib.hid hM0
  clear hT3 hB3 hg hM0
  go_wp2_with fail
  refine (refNew_m m0 M0 w3 HM0 hm1 hm2).mono ?_
  rintro e w4 ⟨rfl, hB4⟩
  have hgs := HT3.out.lt.1
  have HP0 := Lib.hid (PI.start (HT3.out.below hB4) hBg (H3.out.trans (hB4.mono (by omega))) HM0.out)
  clear hgs hB4
  obtain ⟨m, hm⟩ : ∃ m, w4.heap.size = m := ⟨_, rfl⟩
  rw [hm] at HP0
  obtain ⟨W4, hW4⟩ : ∃ W4, w4.alloc (.cells #[.int .i64 M0, .slice none 0 0] 29) = W4 := ⟨_, rfl⟩
  rw [hW4] at HP0
  have HP1 := Lib.hid HP0.out.again
  obtain ⟨a1c, a2c, a3c, a4c⟩ := two_cells HP0.out.2.1
  go_wp2_with fail
  refine (same_pi w B g m g none 0 0 M0 (newT m0) 0 _ HP1 (Lib.hid (Few3.new m0)) (by omega)).mono ?_
  rintro e w5 ⟨rfl, HP5⟩
  clear a1c a2c a3c a4c HP0 HP1
  go_wp2_with fail
  go_loopw [9] (fun i wr => ∃ (k n b c : Nat) (A : Option Addr) (M : Int) (t : Tab), k ≤ len1 ∧ i = .int .i64 (k : Int) ∧ Hid (PI w B g m b A n c M wr t) ∧ Hid (Few3 k t)) (fun i _ => len1 - (intOf i).toNat)
  case atStart => exact ⟨0, 0, g, 0, none, M0, newT m0, by omega, rfl, HP5, Lib.hid (Few3.new m0)⟩
  case round =>
    rename_i wr _
    obtain ⟨k, n, b, c, A, M, t, hk, rfl, HP, H3⟩ := hrel
    by_cases hlt : k < len1
    · have hli : (k : Int) < (len1 : Int) := by omega
      obtain ⟨bs, off, rfl, hb, c0, c1, c2, hz1, hz2, _, _⟩ := hI.out.2 k hlt
      obtain ⟨hsx, hsy⟩ := HF.out k hlt
      obtain ⟨act, hact⟩ : ∃ act, actAt L k = act := ⟨_, rfl⟩
      rw [hact] at c0 c1 c2 hz1 hz2 hsx hsy
      have hBw := HP.out.2.2.2.2.2
      rw [GB.out] at hb
      have d0 := (hBw.cell (p := ⟨bs, off + k * 3, none⟩) hb).trans c0
      have d1 := (hBw.cell (p := ⟨bs, off + k * 3 + 1, none⟩) hb).trans c1
      have d2 := (hBw.cell (p := ⟨bs, off + k * 3 + 2, none⟩) hb).trans c2
      have hof := off_add_addr bs off (k * 3)
      obtain ⟨f0, f1, f2, f3⟩ := two_cells HP.out.2.1
      obtain ⟨x, y, mo⟩ := act
      dsimp only at hsx hsy hz1 hz2 d0 d1 d2
      have e1 : IntKind.i64.wrap ((k : Int) + 1) = ((k + 1 : Nat) : Int) := by rw [IntKind.wrap_i64]; omega
      have hk0 : (0 : Int) ≤ (k : Int) := by omega
      clear c0 c1 c2 hact hBw
      go_wp2_with fail
      go_still_tail 6, (by kernel_rfl)
      have HPd := Lib.hid (HP.out.below (Below.refl _ wr).drew)
      change wpList _ _ _ _ _ wr.drew
      generalize wr.drew = wd at *
      go_wp2_with fail
      refine (play_step w B g m b A n c M t ⟨x, y, mo⟩ k wd HPd H3 (by omega) hsx hsy hz1 hz2).mono ?_
      rintro r w7 ⟨M2, A2, n2', c2, rfl, hrow, hPI⟩
      obtain ⟨b2, hPI⟩ := hPI.out
      have HP7 := Lib.hid hPI
      have H37 := Lib.hid (H3.out.act (e := ⟨x, y, mo⟩) hsx hsy)
      obtain ⟨p1, p2, p3, p4⟩ := two_cells hrow
      obtain ⟨o1, o2, o3, o4⟩ := two_cells (zero_set (y := .int .i64 M2) hrow)
      generalize actT t ⟨x, y, mo⟩ = t7 at *
      clear hPI hrow d0 d1 d2 hof f0 f1 f2 f3 HPd HP
      go_wp2_with fail
      obtain ⟨u1, u2, u3, u4⟩ := two_cells HP7.out.2.1
      generalize (w7.setCell ⟨m, 0, none⟩ (.int .i64 M2)).setCell ⟨m, 1, none⟩ (.slice A2 n2' c2) = w8 at *
      clear p1 p2 p3 p4 o1 o2 o3 o4
      go_wp2_with fail
      refine (same_pi w B g m b2 A2 n2' c2 M2 t7 (k + 1) w8 HP7 H37 (by omega)).mono ?_
      rintro e w9 ⟨rfl, HP9⟩
      go_wp2_with fail
      go_roundw
      case rel => exact ⟨k + 1, n2', b2, c2, A2, M2, t7, by omega, rfl, HP9, H37⟩
      case measure => simp [intOf] <;> omega
    · have hli : ¬ (k : Int) < (len1 : Int) := by omega
      obtain ⟨x, y, q, hq⟩ : ∃ x y q, atR (fixedT ++ t.2) n2 = ((x, y), q) := ⟨_, _, _, rfl⟩
      have HQ := Lib.hid hq
      clear hq
      have hlen := H3.out.1
      have HMn := Lib.hid HP.out.2.2.1
      go_wp2_with fail
      refine (at_is g b t n2 x y q wr (Lib.hid HP.out.1.1) (Lib.hid (H3.out.fit (by omega))) hn1 hn2 HQ).mono ?_
      rintro e w5 ⟨rfl, hB5⟩
      have HP5 := Lib.hid (HP.out.below hB5)
      clear hB5
      obtain ⟨f0, f1, f2, f3⟩ := two_cells HP5.out.2.1
      go_wp2_with fail
      refine (refAt_is M A n c t.2 n2 x y q w5 (Lib.hid HP5.out.tabE) (Lib.hid HMn.out.2) (by have := HMn.out.2; omega) hn1 hn2 HQ).mono ?_
      rintro e w6 ⟨rfl, hB6⟩
      have hBA := (Below.refl w6.heap.size w6).alloc (Nat.le_refl _) (.cells #[.string x, .string y] 38)
      have hP6 := HP5.out.below hB6
      have hP7 := hP6.below hBA
      have HBf := Lib.hid hP7.2.2.2.2.2
      obtain ⟨r1, r2, _, _⟩ := two_cells (heap_alloc_new w6 (.cells #[.string x, .string y] 38))
      clear hB6 hBA hP6 hP7
      go_wp2_with fail
      go_ret
      exact ⟨rfl, by first | exact HBf.out | (rw [GB.out]; exact HBf.out)⟩
set_option maxRecDepth 100000 in
theorem lifted (os : Os) (started : os.Started) (H : Type) (enc : TypeId × Value → H) :
    ReturnsInHanded {} Try.checked os 3 .any (Rows.tablePlaysSpec.pre6 enc Try.prog Try.f3 Rows.tablePlaysRow.domain false) (Rows.tablePlaysSpec.post enc Try.prog Try.f3 false true false false) := by
  refine returnsInHanded_of_change (C := Try.checked) own started (by kernel_rfl) Try.func3
    (ChangeSpec.witness6 (enc := enc) (C := Try.checked) false ⟨#[], #[.int .i64 0, .slice none 0 0, .int .i64 0], []⟩ 8 (by kernel_rfl) (by kernel_rfl) (by kernel_rfl) (by kernel_rfl)) ?_
  intro W base args ds gs before hval0 hW hcnd _
  have hval : ∀ (j : Nat) t v, Try.f3.params[j]? = some t → args[j]? = some v → Value.okWide Try.prog W .any base t v := hval0
  have hW' := hW
  obtain ⟨p, q, hA0, hV, rfl, hfz, hnd⟩ := hW
  have hA : DataW.TrodAll enc Try.prog W 0 (fun _ => true) true Try.f3.params.toList args.toList ds p := hA0
  rw [Try.params3] at hA hval
  obtain ⟨v0, vs0, d0, ds0, p0, q0, hargs, rfl, rfl, h0, r0⟩ := trodAll_cons hA
  obtain ⟨v1, vs1, d1, ds1, p1, q1, rfl, rfl, rfl, h1, r1⟩ := trodAll_cons r0
  obtain ⟨v2, vs2, d2, ds2, p2, q2, rfl, rfl, rfl, h2, r2⟩ := trodAll_cons r1
  obtain ⟨rfl, rfl, rfl⟩ := trodAll_nil r2
  obtain rfl : args = #[v0, v1, v2] := by cases args; simp_all
  obtain ⟨rfl, rfl⟩ := trodVars_none hV
  obtain ⟨z0, rfl, rfl, rfl, wf0⟩ := open_int Try.underlying3 (hval 0 3 v0 rfl rfl) h0
  have bd0 := bounds_i64 wf0
  obtain ⟨a1, len1, cap1, rfl⟩ := okWide_slice Try.underlying22 (hval 1 22 v1 rfl rfl)
  have k1 := h1
  have lt1 : ∀ x ∈ p1, x.block < W.heap.size := by obtain ⟨m, hm⟩ := k1; exact DataW.trod_lt m _ _ _ hm
  obtain ⟨hl1, L1, hR1⟩ : len1 ≤ maxLen ∧ ∃ L, RdT W W.heap.size a1 len1 L := by
    obtain ⟨fuel, hf⟩ := h1
    exact rdt_of_trod hf
  obtain ⟨z2, rfl, rfl, rfl, wf2⟩ := open_int Try.underlying3 (hval 2 3 v2 rfl rfl) h2
  have bd2 := bounds_i64 wf2
  clear hA0 hval0
  refine (walk z0 a1 len1 cap1 z2 L1 W bd0.1 bd0.2 bd2.1 bd2.2  hl1 hR1).mono fun e W' ⟨he, bel⟩ => ?_
  subst he
  exact ⟨_, rfl, _, _, _, [], _, [], hW', trodAll_mk1 (shut_bool Try.underlying4 _), (trodAll_cons_mk (shut_int Try.underlying3 wf0) (trodAll_cons_mk (Below.trod laidOut (by kernel_rfl) (of_decide_eq_true (by kernel_rfl)) k1 bel lt1) (trodAll_cons_mk (shut_int Try.underlying3 wf2) trodAll_mk0))), rfl, bel.frame _, fun h => by cases h⟩

theorem over : Rows.tablePlaysRow.holds Try.pinned (OpenSpec.ofChange Rows.tablePlaysSpec) :=
  OpenClaim.holds_of_wide 3 Try.f3 rfl rfl rfl rfl rfl rfl rfl ⟨rfl, rfl, rfl, rfl, rfl⟩ rfl rfl rfl rfl rfl (by kernel_rfl) Try.func3 (by kernel_rfl)
    (of_decide_eq_true (by kernel_rfl)) (by unfold Func.isWrapper; first | (rw [if_pos (by decide +kernel)]; kernel_rfl) | (rw [if_neg (by decide +kernel)]; exact ⟨rfl, rfl⟩))
    (fun os started H enc _ => lifted os started H enc)

theorem proved : Rows.TablePlaysSaid := over
#print axioms proved
end Go.Proofs.Ytchfineobpfinaa.tablePlays
