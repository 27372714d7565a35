/- Proves TableHolds: the size is never above the greatest; what was added last is the first entry, or there is none; an entry keeps its place behind those that came behind it. No condition. -/
import Derived.Test.YtchfineobpfinaaRows
import Derived.Test.YtchfineobpfinaaTbMath
import Derived.Test.YtchfineobpfinaaTbMem
import Derived.Test.YtchfineobpfinaaTbLeast
import Derived.Test.YtchfineobpfinaaTbRef
import Derived.Test.YtchfineobpfinaaTbFix
import Derived.Test.YtchfineobpfinaaTbAt
import Derived.Test.YtchfineobpfinaaTcMem
import Derived.Test.YtchfineobpfinaaTcLow
import Derived.Test.YtchfineobpfinaaTcShrink
import Derived.Test.YtchfineobpfinaaTcAdd
import Derived.Test.YtchfineobpfinaaTcAt
import Derived.Test.YtchfineobpfinaaTcActs
import Derived.Test.YtchfineobpfinaaTcFew
import Derived.Test.YtchfineobpfinaaTcPlay
import Derived.Test.YtchfineobpfinaaTcSame
import Derived.Test.YtchfineobpfinaaTcAwake
import Derived.Test.YtchfineobpfinaaTcLoop
import Derived.Test.YtchfineobpfinaaTcCopy
import Derived.Test.YtchfineobpfinaaTcKnow
import Derived.WalkKit
import Derived.ProofKit
import Derived.OpenShut
import Derived.ShutString
import Derived.ChangeOld
import Derived.Below
import Derived.StillTailTactics
import Derived.Deep.RegionHeld3
import Derived.Deep.QuietTactic
import Derived.BigQuiet
namespace Go.Proofs.Ytchfineobpfinaa.tableHolds
open Go.ChangeShapes Go.WideShapes Go.ChangeAt Go.RowKit Tb
open Go.ChangeMaps (open_string shut_string)
set_option linter.unusedVariables false

theorem own : ownKnob Try.prog.godebug = none := by kernel_rfl
theorem laidOut : laidOutB Try.prog = true := by kernel_rfl

theorem at62_none {L : List Ent} (h : L = []) : atR (fixedT ++ L) 62 = ((⟨#[]⟩, ⟨#[]⟩), false) := by subst h; exact at_none (i := 0) (Nat.zero_le _)
theorem at62_some (e : Ent) (l : List Ent) : atR (fixedT ++ e :: l) 62 = (e, true) := at_mine (L := e :: l) (i := 0) (Nat.succ_pos _)
theorem at63_one (e : Ent) : atR (fixedT ++ [e]) 63 = ((⟨#[]⟩, ⟨#[]⟩), false) := at_none (L := [e]) (i := 1) (Nat.le_refl _)
theorem at63_none {L : List Ent} (h : L = []) : atR (fixedT ++ L) 63 = ((⟨#[]⟩, ⟨#[]⟩), false) := by subst h; exact at_none (L := []) (i := 1) (Nat.zero_le _)
theorem at63_some (e f : Ent) (l : List Ent) : atR (fixedT ++ e :: f :: l) 63 = (f, true) := at_mine (L := e :: f :: l) (i := 1) (Nat.succ_lt_succ (Nat.succ_pos _))
theorem sum_take {L : List Ent} {j : Nat} (h : j < L.length) : sumL (L.take (j + 1)) = sumL (L.take j) + sz (entAt L j) := by
  rw [entAt_take h, sumL_cat]
  rfl
theorem sum_take_le (L : List Ent) (j : Nat) : sumL (L.take j) ≤ sumL L := by
  have h := sumL_cat (L.take j) (L.drop j)
  rw [List.take_append_drop] at h
  omega

set_option maxRecDepth 100000 in
set_option maxHeartbeats 4000000 in
theorem walk (m0 : Int) (a1 : Option Addr) (len1 cap1 : Nat) (L : List ActE) (w : World) (hm1 : -9223372036854775808 ≤ m0) (hm2 : m0 ≤ 9223372036854775807) (hl : len1 ≤ maxLen) (hR : RdT w w.heap.size a1 len1 L) :
    Calls Try.prog 5 #[.int .i64 m0, .slice a1 len1 cap1] w fun e w' => e = .returned (.bool true) ∧ Below w.heap.size w w' := by
  have hI := Lib.hid hR
  clear hR
  obtain ⟨B, hB0⟩ : ∃ B, w.heap.size = B := ⟨_, rfl⟩
  have GB := Lib.hid hB0
  clear hB0
  have hnb : len1 ≤ 9223372036854775807 := by unfold maxLen at hl; omega
  by_cases h2 : (100 : Int) < len1
  · go_enter Try.func5, Try.ntmps5
    go_wp2_with fail
    refine (awake_is _).mono ?_
    rintro e w1 ⟨rfl, hB⟩
    go_wp2_with fail
    refine (few_is a1 len1 cap1 L w1 (Lib.hid (hI.out.on hB hB.size)) hl).mono ?_
    rintro e w2 (⟨rfl, hB2, _⟩ | ⟨rfl, hB2⟩)
    · go_wp2_with fail
      go_ret
      exact ⟨rfl, hB.trans (hB2.mono hB.size)⟩
    · go_wp2_with fail
      go_ret
      exact ⟨rfl, hB.trans (hB2.mono hB.size)⟩
  have hle : len1 ≤ 100 := by omega
  go_enter Try.func5, Try.ntmps5
  go_wp2_with fail
  refine (awake_is _).mono ?_
  rintro e w1 ⟨rfl, hB⟩
  go_wp2_with fail
  refine (few_is a1 len1 cap1 L w1 (Lib.hid (hI.out.on hB hB.size)) hl).mono ?_
  rintro e w2 (⟨rfl, hB2, HF⟩ | ⟨rfl, hB2⟩)
  rotate_left
  · go_wp2_with fail
    go_ret
    exact ⟨rfl, hB.trans (hB2.mono hB.size)⟩
  have hBw2 := hB.trans (hB2.mono hB.size)
  rw [GB.out] at hBw2
  have H2 := Lib.hid hBw2
  clear hB hB2 hBw2
  go_wp2_with fail
  refine (new_is m0 w2 hm1 hm2).mono ?_
  rintro e w3 ⟨rfl, hT3, hB3⟩
  obtain ⟨g, hg⟩ : ∃ g, w2.heap.size = g := ⟨_, rfl⟩
  rw [hg] at hT3 hB3
  rw [hg]
  have hBg : B ≤ g := by have := H2.out.size; have := GB.out; omega
  have H3 := Lib.hid (H2.out.trans (hB3.mono hBg))
  have HT3 := Lib.hid hT3
  clear hT3 hB3 hg
  go_wp2_with fail
  go_loopw [6, 7, 8, 9, 10, 11, 12, 13, 14, 15, 16, 17, 18, 19, 20, 21, 22] (fun i _ _ _ _ _ _ _ _ _ _ _ _ _ _ _ _ wr => ∃ (k b : Nat) (t : Tab), k ≤ len1 ∧ i = .int .i64 (k : Int) ∧ Hid (TAt wr g b t) ∧ B ≤ b ∧ Hid (Below B w wr) ∧ Hid (Few3 k t)) (fun i _ _ _ _ _ _ _ _ _ _ _ _ _ _ _ _ _ => len1 - (intOf i).toNat)
  case atStart => exact ⟨0, g, newT m0, by omega, rfl, HT3, hBg, H3, Lib.hid (Few3.new m0)⟩
  case round =>
    obtain ⟨k, b, t, hk, rfl, HT, hBb, HBw, HF3⟩ := hrel
    by_cases hlt : k < len1
    · have hli : (k : Int) < (len1 : Int) := by omega
      obtain ⟨bs, off, rfl, hb, c0, c1, c2, hz1, hz2, _, _⟩ := hI.out.2 k hlt
      obtain ⟨hsx, hsy⟩ := HF.out k hlt
      obtain ⟨act, hact⟩ : ∃ act, actAt L k = act := ⟨_, rfl⟩
      rw [hact] at c0 c1 c2 hz1 hz2 hsx hsy
      rw [GB.out] at hb
      have d0 := (HBw.out.cell (p := ⟨bs, off + k * 3, none⟩) hb).trans c0
      have d1 := (HBw.out.cell (p := ⟨bs, off + k * 3 + 1, none⟩) hb).trans c1
      have d2 := (HBw.out.cell (p := ⟨bs, off + k * 3 + 2, none⟩) hb).trans c2
      have hof := off_add_addr bs off (k * 3)
      obtain ⟨x, y, mo⟩ := act
      dsimp only at hsx hsy hz1 hz2 d0 d1 d2
      have e1 : IntKind.i64.wrap ((k : Int) + 1) = ((k + 1 : Nat) : Int) := by rw [IntKind.wrap_i64]; omega
      have hk0 : (0 : Int) ≤ (k : Int) := by omega
      obtain ⟨fx, fy, hd, hfx⟩ : ∃ fx fy hd, atR (fixedT ++ t.2) 62 = ((fx, fy), hd) := ⟨_, _, _, rfl⟩
      have HA0 := Lib.hid hfx
      obtain ⟨n, hn⟩ : ∃ n, t.2.length = n := ⟨_, rfl⟩
      have HN := Lib.hid hn
      have hnb2 : n ≤ 100 := by have := HF3.out.1; omega
      have HFt := Lib.hid (HF3.out.fit (by omega))
      obtain ⟨W, hW⟩ : ∃ W, wr.alloc (.cells #[.string x, .string y, .int .i64 mo] 34) = W := ⟨_, rfl⟩
      obtain ⟨E, hE⟩ : ∃ E, wr.heap.size = E := ⟨_, rfl⟩
      have hTl := HT.out.lt
      rw [hE] at hTl
      obtain ⟨hgE, hbE⟩ := hTl
      have hBA := (Below.refl wr.heap.size wr).alloc (Nat.le_refl _) (.cells #[.string x, .string y, .int .i64 mo] 34)
      have hEW : W.heap[E]? = some (.cells #[.string x, .string y, .int .i64 mo] 34 (0, 0)) := by rw [← hW, ← hE]; exact heap_alloc_new wr _
      rw [hW] at hBA
      have HTW := Lib.hid (HT.out.below hBA)
      have HEW := Lib.hid hEW
      have HBW := Lib.hid (HBw.out.trans (hBA.mono (by omega)))
      clear c0 c1 c2 hact hfx hn hBA hEW
      go_wp2_with fail
      refine (at_is g b t 62 fx fy hd W HTW HFt (by omega) (by omega) HA0).mono ?_
      rintro e w4 ⟨rfl, hB4⟩
      have HT4 := Lib.hid (HTW.out.below hB4)
      have HE4 := Lib.hid ((hB4.block E (world_lt HEW.out)).trans HEW.out)
      have HB4 := Lib.hid (HBW.out.trans (hB4.mono (by have := HTW.out.lt.1; omega)))
      clear hB4 d0 d1 d2 hof HTW HEW HBW HT
      go_wp2_with fail
      refine (len_t g b t n w4 HT4 HN).mono ?_
      rintro e w5 ⟨rfl, rfl⟩
      obtain ⟨q0, q1, q2, q3, q4, q5⟩ := three_cells HE4.out
      have z1 := isEmpty_is x
      have z2 := isEmpty_is y
      have hMx := HT4.out.2.2
      obtain ⟨M, hM⟩ : ∃ M : Int, (t.1 : Int) = M := ⟨_, rfl⟩
      have HMM := Lib.hid hM
      by_cases hboth : x.size = 0 ∧ y.size = 0
      · rw [decide_eq_true hboth.1] at z1
        rw [decide_eq_true hboth.2] at z2
        clear hM
        go_wp2_with fail
        refine (resize_is g b t mo _ HT4 HFt hz1 hz2).mono ?_
        rintro e wz ⟨rfl, b2, hT7, hK7, hbb⟩
        have hBb2 : B ≤ b2 := by rcases hbb with rfl | rfl; exact hBb; exact hBg
        have HB7 := Lib.hid (hK7.below HB4.out hBg hBb (by have := HT4.out.lt.1; omega))
        have HT7 := Lib.hid hT7
        have HF7 := Lib.hid ((HF3.out.res mo).more (Nat.le_succ k))
        clear hT7 hK7 hbb q0 q1 q2 q3 q4 q5 z1 z2 HE4 HT4 HB4
        generalize resT t mo = t7 at *
        all_goals
          obtain ⟨n7, hn7⟩ : ∃ n7, t7.2.length = n7 := ⟨_, rfl⟩
          obtain ⟨M7, hM7⟩ : ∃ M7 : Int, (t7.1 : Int) = M7 := ⟨_, rfl⟩
          obtain ⟨s7, hs7⟩ : ∃ s7, sumL t7.2 = s7 := ⟨_, rfl⟩
          have HN7 := Lib.hid hn7
          have HM7 := Lib.hid hM7
          have HS7 := Lib.hid hs7
          have HFt7 := Lib.hid (HF7.out.fit (by omega))
          have hn7b : n7 ≤ 101 := by have := HF7.out.1; omega
          have hs7b : s7 ≤ 900000000 := by rw [← hs7]; exact HF7.out.sum (by omega)
          have hsm7 : ¬ M7 < (s7 : Int) := by have h1 : sumL t7.2 ≤ t7.1 := HT7.out.2.1; omega
          have hM70 : ¬ M7 < 0 := by omega
          clear hn7 hM7 hs7
          go_wp2_with fail
          go_loopw [18, 19, 20, 21, 22] (fun s i _ _ _ wr => ∃ (j sj : Nat), j ≤ n7 ∧ s = .int .i64 (sj : Int) ∧ i = .int .i64 (j : Int) ∧ Hid (sumL (t7.2.take j) = sj) ∧ Hid (Below wz.heap.size wz wr)) (fun _ i _ _ _ _ => n7 - (intOf i).toNat)
          case atStart => exact ⟨0, 0, Nat.zero_le _, rfl, rfl, Lib.hid rfl, Lib.hid (Below.refl _ _)⟩
          case round =>
            obtain ⟨j, sj, hj, rfl, rfl, hSj, hBj⟩ := hrel
            have HTj := Lib.hid (HT7.out.below hBj.out)
            by_cases hlt2 : j < n7
            · have hji : (j : Int) < (n7 : Int) := by omega
              obtain ⟨ex, ey, hexy⟩ : ∃ x y, entAt t7.2 j = (x, y) := ⟨_, _, rfl⟩
              have A1 := Lib.hid (show atR (fixedT ++ t7.2) (62 + (j : Int)) = ((ex, ey), true) by rw [at_mine (by rw [HN7.out]; omega), hexy])
              have hst := sum_take (L := t7.2) (j := j) (by rw [HN7.out]; omega)
              have hle3 := sum_take_le t7.2 (j + 1)
              rw [hSj.out, hexy] at hst
              rw [HS7.out] at hle3
              have hsz : sz (ex, ey) = ex.size + ey.size + 32 := rfl
              obtain ⟨sj2, hsj2⟩ : ∃ sj2, sumL (t7.2.take (j + 1)) = sj2 := ⟨_, rfl⟩
              have HSj2 := Lib.hid hsj2
              rw [hsj2] at hst hle3
              have e62 : IntKind.i64.wrap (62 + (j : Int)) = 62 + (j : Int) := by rw [IntKind.wrap_i64]; omega
              have ej : IntKind.i64.wrap ((j : Int) + 1) = ((j + 1 : Nat) : Int) := by rw [IntKind.wrap_i64]; omega
              have w1e : IntKind.i64.wrap ((sj : Int) + (ex.size : Int)) = (sj : Int) + (ex.size : Int) := by rw [IntKind.wrap_i64]; omega
              have w2e : IntKind.i64.wrap ((sj : Int) + (ex.size : Int) + (ey.size : Int)) = (sj : Int) + (ex.size : Int) + (ey.size : Int) := by rw [IntKind.wrap_i64]; omega
              have w3e : IntKind.i64.wrap ((sj : Int) + (ex.size : Int) + (ey.size : Int) + 32) = (sj2 : Int) := by rw [IntKind.wrap_i64]; omega
              clear hexy hst hle3 hsz hsj2
              go_wp2_with fail
              refine (len_t g b2 t7 n7 _ HTj HN7).mono ?_
              rintro e wl ⟨rfl, rfl⟩
              go_wp2_with fail
              refine (at_is g b2 t7 (62 + (j : Int)) ex ey true _ HTj HFt7 (by omega) (by omega) A1).mono ?_
              rintro e wa ⟨rfl, hBa⟩
              have HBa := Lib.hid (hBj.out.trans (hBa.mono hBj.out.size))
              clear hBa
              go_wp2_with fail
              go_roundw
              case rel => exact ⟨j + 1, sj2, by omega, rfl, rfl, HSj2, HBa⟩
              case measure => simp [intOf] <;> omega
            · have hji : ¬ (j : Int) < (n7 : Int) := by omega
              have hsj : sj = s7 := by
                have : j = n7 := by omega
                rw [← hSj.out, this, ← HN7.out, List.take_length, HS7.out]
              rw [hsj]
              have HBq := Lib.hid (HB7.out.trans (hBj.out.mono (by have := HT7.out.lt.1; omega)))
              go_wp2_with fail
              refine (len_t g b2 t7 n7 _ HTj HN7).mono ?_
              rintro e wl ⟨rfl, rfl⟩
              go_wp2_with fail
              refine (size_t g b2 t7 s7 _ HTj HS7).mono ?_
              rintro e wl ⟨rfl, rfl⟩
              go_wp2_with fail
              refine (most_t g b2 t7 M7 _ HTj HM7).mono ?_
              rintro e wl ⟨rfl, rfl⟩
              go_wp2_with fail
              refine (most_t g b2 t7 M7 _ HTj HM7).mono ?_
              rintro e wl ⟨rfl, rfl⟩
              go_wp2_with fail
              go_roundw
              case rel => exact ⟨k + 1, b2, t7, by omega, rfl, HTj, hBb2, HBq, HF7⟩
              case measure => simp [intOf] <;> omega
      · by_cases h0 : x.size = 0
        · rw [decide_eq_true h0] at z1
          rw [decide_eq_false (fun h2 => hboth ⟨h0, h2⟩)] at z2
          go_wp2_with fail
          clear z2 h0 hboth
          refine (add_is g b t x y _ HT4 HFt (by omega) (by omega)).mono ?_
          rintro e w5 ⟨rfl, b2, hT7, hK7, hbb⟩
          have hgs := HT4.out.lt
          have hBb2 : B ≤ b2 := by rcases hbb with rfl | rfl | hbb <;> omega
          have HB5 := Lib.hid (hK7.below HB4.out hBg hBb (by omega))
          have HT5 := Lib.hid hT7
          have HE5 := Lib.hid ((hK7.block E (world_lt HE4.out) (by omega) (by omega)).trans HE4.out)
          have HF7 := Lib.hid (HF3.out.add hsx hsy)
          have HFtx := Lib.hid (HF7.out.fit (by omega))
          have hnx : (addT t (x, y)).2.length ≤ n + 1 := by rw [← HN.out]; exact leastL_len _ _
          have hsz : sz (x, y) = x.size + y.size + 32 := rfl
          obtain ⟨nx7, hnx7⟩ : ∃ nx7, (addT t (x, y)).2.length = nx7 := ⟨_, rfl⟩
          have HNx := Lib.hid hnx7
          have hnle : nx7 ≤ n + 1 := by omega
          have hcmp : ¬ (((n + 1 : Nat) : Int) < (nx7 : Int)) := by omega
          have w1x : IntKind.i64.wrap ((x.size : Int) + (y.size : Int)) = (x.size : Int) + (y.size : Int) := by rw [IntKind.wrap_i64]; omega
          have w2x : IntKind.i64.wrap (M - 32) = M - 32 := by rw [IntKind.wrap_i64]; omega
          have w3x : IntKind.i64.wrap ((n : Int) + 1) = ((n + 1 : Nat) : Int) := by rw [IntKind.wrap_i64]; omega
          have HLe : Hid (∀ X, Hid (TAt X g b2 (addT t (x, y))) → Calls Try.prog 19 #[.pointer (some ⟨g, 0, none⟩)] X fun e w' => e = .returned (.int .i64 (nx7 : Int)) ∧ w' = X) := Lib.hid fun X hX => len_t g b2 _ nx7 X hX HNx
          have HMo : Hid (∀ X, Hid (TAt X g b2 (addT t (x, y))) → Calls Try.prog 22 #[.pointer (some ⟨g, 0, none⟩)] X fun e w' => e = .returned (.int .i64 M) ∧ w' = X) := Lib.hid fun X hX => most_t g b2 _ M X hX HMM
          clear hT7 hK7 hbb q0 q1 q2 q3 q4 q5 z1 HE4 HB4 hgs hnx
          by_cases hs : sz (x, y) ≤ t.1
          · have h2 : (addT t (x, y)).2 = (x, y) :: leastL t.2 (t.1 - sz (x, y)) := by
              show leastL ((x, y) :: t.2) t.1 = _
              rw [leastL, if_pos hs]
            have hle62 : (x.size : Int) + (y.size : Int) ≤ M - 32 := by omega
            have hnpos : (0 : Int) < (nx7 : Int) := by rw [← hnx7, h2, List.length_cons]; omega
            have hd1 : decide ((0 : Int) < (nx7 : Int)) = true := decide_eq_true hnpos
            have hd3 : decide (0 < nx7) = true := decide_eq_true (by omega)
            have hd4 : 0 < nx7 := by omega
            have hd2 : decide ((x.size : Int) + (y.size : Int) ≤ M - 32) = true := decide_eq_true hle62
            have HA1 := Lib.hid (show atR (fixedT ++ (addT t (x, y)).2) 62 = ((x, y), true) by rw [h2]; exact at62_some _ _)
            cases hl : leastL t.2 (t.1 - sz (x, y)) with
            | nil =>
              have HA2 := Lib.hid (show atR (fixedT ++ (addT t (x, y)).2) 63 = ((⟨#[]⟩, ⟨#[]⟩), false) by rw [h2, hl]; exact at63_one _)
              clear hl h2 hs hsz HT4 hM hnx7
              generalize addT t (x, y) = t7 at *
              go_wp2_with fail
              refine (at_is g b2 t7 62 x y true w5 HT5 HFtx (by omega) (by omega) HA1).mono ?_
              rintro e w6 ⟨rfl, hB6⟩
              have hs5 := HT5.out.lt.1
              have HT6 := Lib.hid (HT5.out.below hB6)
              have HE6 := (hB6.block E (world_lt HE5.out)).trans HE5.out
              have HB6 := Lib.hid (HB5.out.trans (hB6.mono (by omega)))
              have HTd := Lib.hid (fun q => HT6.out.below (below_drewN (Below.refl _ w6) q))
              have HBd := Lib.hid (fun q => below_drewN HB6.out q)
              obtain ⟨q0, q1, _, _, _, _⟩ := three_cells HE6
              clear hB6 HE6
              go_upto_region 16 with fail
              go_quiet (first | (go_at_call 19; exact Calls.quiet_of_same (HLe.out _ (Lib.hid (HTd.out _)))) | (go_at_call 22; exact Calls.quiet_of_same (HMo.out _ (Lib.hid (HTd.out _)))))
              clear q0 q1
              go_wp2_with fail
              refine (at_is g b2 t7 63 ⟨#[]⟩ ⟨#[]⟩ false _ (Lib.hid (HTd.out _)) HFtx (by omega) (by omega) HA2).mono ?_
              rintro e wz ⟨rfl, hBz⟩
              have HT7 := Lib.hid ((HTd.out _).below hBz)
              have hg6 := HT6.out.lt.1
              have HB7 := Lib.hid ((HBd.out _).trans (hBz.mono (show B ≤ w6.heap.size by omega)))
              clear hBz HT6 HTd HB6 HBd HT5 HE5 HB5
              go_wp2_with fail
              refine (len_t g b2 t7 nx7 wz HT7 HNx).mono ?_
              rintro e wz ⟨rfl, rfl⟩
              clear HLe HMo HA1 HA2 HNx
              obtain ⟨n7, hn7⟩ : ∃ n7, t7.2.length = n7 := ⟨_, rfl⟩
              obtain ⟨M7, hM7⟩ : ∃ M7 : Int, (t7.1 : Int) = M7 := ⟨_, rfl⟩
              obtain ⟨s7, hs7⟩ : ∃ s7, sumL t7.2 = s7 := ⟨_, rfl⟩
              have HN7 := Lib.hid hn7
              have HM7 := Lib.hid hM7
              have HS7 := Lib.hid hs7
              have HFt7 := Lib.hid (HF7.out.fit (by omega))
              have hn7b : n7 ≤ 101 := by have := HF7.out.1; omega
              have hs7b : s7 ≤ 900000000 := by rw [← hs7]; exact HF7.out.sum (by omega)
              have hsm7 : ¬ M7 < (s7 : Int) := by have h1 : sumL t7.2 ≤ t7.1 := HT7.out.2.1; omega
              have hM70 : ¬ M7 < 0 := by omega
              clear hn7 hM7 hs7
              go_wp2_with fail
              go_loopw [18, 19, 20, 21, 22] (fun s i _ _ _ wr => ∃ (j sj : Nat), j ≤ n7 ∧ s = .int .i64 (sj : Int) ∧ i = .int .i64 (j : Int) ∧ Hid (sumL (t7.2.take j) = sj) ∧ Hid (Below wz.heap.size wz wr)) (fun _ i _ _ _ _ => n7 - (intOf i).toNat)
              case atStart => exact ⟨0, 0, Nat.zero_le _, rfl, rfl, Lib.hid rfl, Lib.hid (Below.refl _ _)⟩
              case round =>
                obtain ⟨j, sj, hj, rfl, rfl, hSj, hBj⟩ := hrel
                have HTj := Lib.hid (HT7.out.below hBj.out)
                by_cases hlt2 : j < n7
                · have hji : (j : Int) < (n7 : Int) := by omega
                  obtain ⟨ex, ey, hexy⟩ : ∃ x y, entAt t7.2 j = (x, y) := ⟨_, _, rfl⟩
                  have A1 := Lib.hid (show atR (fixedT ++ t7.2) (62 + (j : Int)) = ((ex, ey), true) by rw [at_mine (by rw [HN7.out]; omega), hexy])
                  have hst := sum_take (L := t7.2) (j := j) (by rw [HN7.out]; omega)
                  have hle3 := sum_take_le t7.2 (j + 1)
                  rw [hSj.out, hexy] at hst
                  rw [HS7.out] at hle3
                  have hsz : sz (ex, ey) = ex.size + ey.size + 32 := rfl
                  obtain ⟨sj2, hsj2⟩ : ∃ sj2, sumL (t7.2.take (j + 1)) = sj2 := ⟨_, rfl⟩
                  have HSj2 := Lib.hid hsj2
                  rw [hsj2] at hst hle3
                  have e62 : IntKind.i64.wrap (62 + (j : Int)) = 62 + (j : Int) := by rw [IntKind.wrap_i64]; omega
                  have ej : IntKind.i64.wrap ((j : Int) + 1) = ((j + 1 : Nat) : Int) := by rw [IntKind.wrap_i64]; omega
                  have w1e : IntKind.i64.wrap ((sj : Int) + (ex.size : Int)) = (sj : Int) + (ex.size : Int) := by rw [IntKind.wrap_i64]; omega
                  have w2e : IntKind.i64.wrap ((sj : Int) + (ex.size : Int) + (ey.size : Int)) = (sj : Int) + (ex.size : Int) + (ey.size : Int) := by rw [IntKind.wrap_i64]; omega
                  have w3e : IntKind.i64.wrap ((sj : Int) + (ex.size : Int) + (ey.size : Int) + 32) = (sj2 : Int) := by rw [IntKind.wrap_i64]; omega
                  clear hexy hst hle3 hsz hsj2
                  go_wp2_with fail
                  refine (len_t g b2 t7 n7 _ HTj HN7).mono ?_
                  rintro e wl ⟨rfl, rfl⟩
                  go_wp2_with fail
                  refine (at_is g b2 t7 (62 + (j : Int)) ex ey true _ HTj HFt7 (by omega) (by omega) A1).mono ?_
                  rintro e wa ⟨rfl, hBa⟩
                  have HBa := Lib.hid (hBj.out.trans (hBa.mono hBj.out.size))
                  clear hBa
                  go_wp2_with fail
                  go_roundw
                  case rel => exact ⟨j + 1, sj2, by omega, rfl, rfl, HSj2, HBa⟩
                  case measure => simp [intOf] <;> omega
                · have hji : ¬ (j : Int) < (n7 : Int) := by omega
                  have hsj : sj = s7 := by
                    have : j = n7 := by omega
                    rw [← hSj.out, this, ← HN7.out, List.take_length, HS7.out]
                  rw [hsj]
                  have HBq := Lib.hid (HB7.out.trans (hBj.out.mono (by have := HT7.out.lt.1; omega)))
                  go_wp2_with fail
                  refine (len_t g b2 t7 n7 _ HTj HN7).mono ?_
                  rintro e wl ⟨rfl, rfl⟩
                  go_wp2_with fail
                  refine (size_t g b2 t7 s7 _ HTj HS7).mono ?_
                  rintro e wl ⟨rfl, rfl⟩
                  go_wp2_with fail
                  refine (most_t g b2 t7 M7 _ HTj HM7).mono ?_
                  rintro e wl ⟨rfl, rfl⟩
                  go_wp2_with fail
                  refine (most_t g b2 t7 M7 _ HTj HM7).mono ?_
                  rintro e wl ⟨rfl, rfl⟩
                  go_wp2_with fail
                  go_roundw
                  case rel => exact ⟨k + 1, b2, t7, by omega, rfl, HTj, hBb2, HBq, HF7⟩
                  case measure => simp [intOf] <;> omega
            | cons f l =>
              have HA2 := Lib.hid (show atR (fixedT ++ (addT t (x, y)).2) 63 = (f, true) by rw [h2, hl]; exact at63_some _ _ _)
              have hf0 : atR (fixedT ++ t.2) 62 = (f, true) := by
                obtain ⟨kk, _, hk2⟩ := leastL_pre t.2 (t.1 - sz (x, y))
                rw [hl] at hk2
                cases ht : t.2 with
                | nil => rw [ht, List.take_nil] at hk2; cases hk2
                | cons f2 l2 =>
                  rw [ht] at hk2
                  cases kk with
                  | zero => cases hk2
                  | succ kk =>
                    rw [List.take_succ_cons] at hk2
                    injection hk2 with h3 _
                    rw [h3]
                    exact at62_some _ _
              rw [HA0.out] at hf0
              injection hf0 with hf1 hf2
              subst hf2
              rw [← hf1] at HA2
              clear hl h2 hs hsz HT4 hM hnx7 hf1
              generalize addT t (x, y) = t7 at *
              go_wp2_with fail
              refine (at_is g b2 t7 62 x y true w5 HT5 HFtx (by omega) (by omega) HA1).mono ?_
              rintro e w6 ⟨rfl, hB6⟩
              have hs5 := HT5.out.lt.1
              have HT6 := Lib.hid (HT5.out.below hB6)
              have HE6 := (hB6.block E (world_lt HE5.out)).trans HE5.out
              have HB6 := Lib.hid (HB5.out.trans (hB6.mono (by omega)))
              have HTd := Lib.hid (fun q => HT6.out.below (below_drewN (Below.refl _ w6) q))
              have HBd := Lib.hid (fun q => below_drewN HB6.out q)
              obtain ⟨q0, q1, _, _, _, _⟩ := three_cells HE6
              clear hB6 HE6
              go_upto_region 16 with fail
              go_quiet (first | (go_at_call 19; exact Calls.quiet_of_same (HLe.out _ (Lib.hid (HTd.out _)))) | (go_at_call 22; exact Calls.quiet_of_same (HMo.out _ (Lib.hid (HTd.out _)))))
              clear q0 q1
              go_wp2_with fail
              refine (at_is g b2 t7 63 fx fy true _ (Lib.hid (HTd.out _)) HFtx (by omega) (by omega) HA2).mono ?_
              rintro e wz ⟨rfl, hBz⟩
              have HT7 := Lib.hid ((HTd.out _).below hBz)
              have hg6 := HT6.out.lt.1
              have HB7 := Lib.hid ((HBd.out _).trans (hBz.mono (show B ≤ w6.heap.size by omega)))
              clear hBz HT6 HTd HB6 HBd HT5 HE5 HB5
              go_wp2_with fail
              refine (len_t g b2 t7 nx7 wz HT7 HNx).mono ?_
              rintro e wz ⟨rfl, rfl⟩
              clear HLe HMo HA1 HA2 HNx
              obtain ⟨n7, hn7⟩ : ∃ n7, t7.2.length = n7 := ⟨_, rfl⟩
              obtain ⟨M7, hM7⟩ : ∃ M7 : Int, (t7.1 : Int) = M7 := ⟨_, rfl⟩
              obtain ⟨s7, hs7⟩ : ∃ s7, sumL t7.2 = s7 := ⟨_, rfl⟩
              have HN7 := Lib.hid hn7
              have HM7 := Lib.hid hM7
              have HS7 := Lib.hid hs7
              have HFt7 := Lib.hid (HF7.out.fit (by omega))
              have hn7b : n7 ≤ 101 := by have := HF7.out.1; omega
              have hs7b : s7 ≤ 900000000 := by rw [← hs7]; exact HF7.out.sum (by omega)
              have hsm7 : ¬ M7 < (s7 : Int) := by have h1 : sumL t7.2 ≤ t7.1 := HT7.out.2.1; omega
              have hM70 : ¬ M7 < 0 := by omega
              clear hn7 hM7 hs7
              go_wp2_with fail
              go_loopw [18, 19, 20, 21, 22] (fun s i _ _ _ wr => ∃ (j sj : Nat), j ≤ n7 ∧ s = .int .i64 (sj : Int) ∧ i = .int .i64 (j : Int) ∧ Hid (sumL (t7.2.take j) = sj) ∧ Hid (Below wz.heap.size wz wr)) (fun _ i _ _ _ _ => n7 - (intOf i).toNat)
              case atStart => exact ⟨0, 0, Nat.zero_le _, rfl, rfl, Lib.hid rfl, Lib.hid (Below.refl _ _)⟩
              case round =>
                obtain ⟨j, sj, hj, rfl, rfl, hSj, hBj⟩ := hrel
                have HTj := Lib.hid (HT7.out.below hBj.out)
                by_cases hlt2 : j < n7
                · have hji : (j : Int) < (n7 : Int) := by omega
                  obtain ⟨ex, ey, hexy⟩ : ∃ x y, entAt t7.2 j = (x, y) := ⟨_, _, rfl⟩
                  have A1 := Lib.hid (show atR (fixedT ++ t7.2) (62 + (j : Int)) = ((ex, ey), true) by rw [at_mine (by rw [HN7.out]; omega), hexy])
                  have hst := sum_take (L := t7.2) (j := j) (by rw [HN7.out]; omega)
                  have hle3 := sum_take_le t7.2 (j + 1)
                  rw [hSj.out, hexy] at hst
                  rw [HS7.out] at hle3
                  have hsz : sz (ex, ey) = ex.size + ey.size + 32 := rfl
                  obtain ⟨sj2, hsj2⟩ : ∃ sj2, sumL (t7.2.take (j + 1)) = sj2 := ⟨_, rfl⟩
                  have HSj2 := Lib.hid hsj2
                  rw [hsj2] at hst hle3
                  have e62 : IntKind.i64.wrap (62 + (j : Int)) = 62 + (j : Int) := by rw [IntKind.wrap_i64]; omega
                  have ej : IntKind.i64.wrap ((j : Int) + 1) = ((j + 1 : Nat) : Int) := by rw [IntKind.wrap_i64]; omega
                  have w1e : IntKind.i64.wrap ((sj : Int) + (ex.size : Int)) = (sj : Int) + (ex.size : Int) := by rw [IntKind.wrap_i64]; omega
                  have w2e : IntKind.i64.wrap ((sj : Int) + (ex.size : Int) + (ey.size : Int)) = (sj : Int) + (ex.size : Int) + (ey.size : Int) := by rw [IntKind.wrap_i64]; omega
                  have w3e : IntKind.i64.wrap ((sj : Int) + (ex.size : Int) + (ey.size : Int) + 32) = (sj2 : Int) := by rw [IntKind.wrap_i64]; omega
                  clear hexy hst hle3 hsz hsj2
                  go_wp2_with fail
                  refine (len_t g b2 t7 n7 _ HTj HN7).mono ?_
                  rintro e wl ⟨rfl, rfl⟩
                  go_wp2_with fail
                  refine (at_is g b2 t7 (62 + (j : Int)) ex ey true _ HTj HFt7 (by omega) (by omega) A1).mono ?_
                  rintro e wa ⟨rfl, hBa⟩
                  have HBa := Lib.hid (hBj.out.trans (hBa.mono hBj.out.size))
                  clear hBa
                  go_wp2_with fail
                  go_roundw
                  case rel => exact ⟨j + 1, sj2, by omega, rfl, rfl, HSj2, HBa⟩
                  case measure => simp [intOf] <;> omega
                · have hji : ¬ (j : Int) < (n7 : Int) := by omega
                  have hsj : sj = s7 := by
                    have : j = n7 := by omega
                    rw [← hSj.out, this, ← HN7.out, List.take_length, HS7.out]
                  rw [hsj]
                  have HBq := Lib.hid (HB7.out.trans (hBj.out.mono (by have := HT7.out.lt.1; omega)))
                  go_wp2_with fail
                  refine (len_t g b2 t7 n7 _ HTj HN7).mono ?_
                  rintro e wl ⟨rfl, rfl⟩
                  go_wp2_with fail
                  refine (size_t g b2 t7 s7 _ HTj HS7).mono ?_
                  rintro e wl ⟨rfl, rfl⟩
                  go_wp2_with fail
                  refine (most_t g b2 t7 M7 _ HTj HM7).mono ?_
                  rintro e wl ⟨rfl, rfl⟩
                  go_wp2_with fail
                  refine (most_t g b2 t7 M7 _ HTj HM7).mono ?_
                  rintro e wl ⟨rfl, rfl⟩
                  go_wp2_with fail
                  go_roundw
                  case rel => exact ⟨k + 1, b2, t7, by omega, rfl, HTj, hBb2, HBq, HF7⟩
                  case measure => simp [intOf] <;> omega
          · have h2 : (addT t (x, y)).2 = [] := addT_none hs
            have hle62 : ¬ ((x.size : Int) + (y.size : Int) ≤ M - 32) := by omega
            have hd2 : decide ((x.size : Int) + (y.size : Int) ≤ M - 32) = false := decide_eq_false hle62
            have hn0 : nx7 = 0 := by rw [← hnx7, h2]; rfl
            subst hn0
            have HA1 := Lib.hid (at62_none h2)
            have HA2 := Lib.hid (at63_none h2)
            clear h2 hs hsz HT4 hM hnx7
            generalize addT t (x, y) = t7 at *
            go_wp2_with fail
            refine (at_is g b2 t7 62 ⟨#[]⟩ ⟨#[]⟩ false w5 HT5 HFtx (by omega) (by omega) HA1).mono ?_
            rintro e w6 ⟨rfl, hB6⟩
            have hs5 := HT5.out.lt.1
            have HT6 := Lib.hid (HT5.out.below hB6)
            have HE6 := (hB6.block E (world_lt HE5.out)).trans HE5.out
            have HB6 := Lib.hid (HB5.out.trans (hB6.mono (by omega)))
            have HTd := Lib.hid (fun q => HT6.out.below (below_drewN (Below.refl _ w6) q))
            have HBd := Lib.hid (fun q => below_drewN HB6.out q)
            obtain ⟨q0, q1, _, _, _, _⟩ := three_cells HE6
            clear hB6 HE6
            go_upto_region 16 with fail
            go_quiet (first | (go_at_call 19; exact Calls.quiet_of_same (HLe.out _ (Lib.hid (HTd.out _)))) | (go_at_call 22; exact Calls.quiet_of_same (HMo.out _ (Lib.hid (HTd.out _)))))
            clear q0 q1
            go_wp2_with fail
            refine (at_is g b2 t7 63 ⟨#[]⟩ ⟨#[]⟩ false _ (Lib.hid (HTd.out _)) HFtx (by omega) (by omega) HA2).mono ?_
            rintro e wz ⟨rfl, hBz⟩
            have HT7 := Lib.hid ((HTd.out _).below hBz)
            have hg6 := HT6.out.lt.1
            have HB7 := Lib.hid ((HBd.out _).trans (hBz.mono (show B ≤ w6.heap.size by omega)))
            clear hBz HT6 HTd HB6 HBd HT5 HE5 HB5
            go_wp2_with fail
            refine (len_t g b2 t7 0 wz HT7 HNx).mono ?_
            rintro e wz ⟨rfl, rfl⟩
            clear HLe HMo HA1 HA2 HNx
            obtain ⟨n7, hn7⟩ : ∃ n7, t7.2.length = n7 := ⟨_, rfl⟩
            obtain ⟨M7, hM7⟩ : ∃ M7 : Int, (t7.1 : Int) = M7 := ⟨_, rfl⟩
            obtain ⟨s7, hs7⟩ : ∃ s7, sumL t7.2 = s7 := ⟨_, rfl⟩
            have HN7 := Lib.hid hn7
            have HM7 := Lib.hid hM7
            have HS7 := Lib.hid hs7
            have HFt7 := Lib.hid (HF7.out.fit (by omega))
            have hn7b : n7 ≤ 101 := by have := HF7.out.1; omega
            have hs7b : s7 ≤ 900000000 := by rw [← hs7]; exact HF7.out.sum (by omega)
            have hsm7 : ¬ M7 < (s7 : Int) := by have h1 : sumL t7.2 ≤ t7.1 := HT7.out.2.1; omega
            have hM70 : ¬ M7 < 0 := by omega
            clear hn7 hM7 hs7
            go_wp2_with fail
            go_loopw [18, 19, 20, 21, 22] (fun s i _ _ _ wr => ∃ (j sj : Nat), j ≤ n7 ∧ s = .int .i64 (sj : Int) ∧ i = .int .i64 (j : Int) ∧ Hid (sumL (t7.2.take j) = sj) ∧ Hid (Below wz.heap.size wz wr)) (fun _ i _ _ _ _ => n7 - (intOf i).toNat)
            case atStart => exact ⟨0, 0, Nat.zero_le _, rfl, rfl, Lib.hid rfl, Lib.hid (Below.refl _ _)⟩
            case round =>
              obtain ⟨j, sj, hj, rfl, rfl, hSj, hBj⟩ := hrel
              have HTj := Lib.hid (HT7.out.below hBj.out)
              by_cases hlt2 : j < n7
              · have hji : (j : Int) < (n7 : Int) := by omega
                obtain ⟨ex, ey, hexy⟩ : ∃ x y, entAt t7.2 j = (x, y) := ⟨_, _, rfl⟩
                have A1 := Lib.hid (show atR (fixedT ++ t7.2) (62 + (j : Int)) = ((ex, ey), true) by rw [at_mine (by rw [HN7.out]; omega), hexy])
                have hst := sum_take (L := t7.2) (j := j) (by rw [HN7.out]; omega)
                have hle3 := sum_take_le t7.2 (j + 1)
                rw [hSj.out, hexy] at hst
                rw [HS7.out] at hle3
                have hsz : sz (ex, ey) = ex.size + ey.size + 32 := rfl
                obtain ⟨sj2, hsj2⟩ : ∃ sj2, sumL (t7.2.take (j + 1)) = sj2 := ⟨_, rfl⟩
                have HSj2 := Lib.hid hsj2
                rw [hsj2] at hst hle3
                have e62 : IntKind.i64.wrap (62 + (j : Int)) = 62 + (j : Int) := by rw [IntKind.wrap_i64]; omega
                have ej : IntKind.i64.wrap ((j : Int) + 1) = ((j + 1 : Nat) : Int) := by rw [IntKind.wrap_i64]; omega
                have w1e : IntKind.i64.wrap ((sj : Int) + (ex.size : Int)) = (sj : Int) + (ex.size : Int) := by rw [IntKind.wrap_i64]; omega
                have w2e : IntKind.i64.wrap ((sj : Int) + (ex.size : Int) + (ey.size : Int)) = (sj : Int) + (ex.size : Int) + (ey.size : Int) := by rw [IntKind.wrap_i64]; omega
                have w3e : IntKind.i64.wrap ((sj : Int) + (ex.size : Int) + (ey.size : Int) + 32) = (sj2 : Int) := by rw [IntKind.wrap_i64]; omega
                clear hexy hst hle3 hsz hsj2
                go_wp2_with fail
                refine (len_t g b2 t7 n7 _ HTj HN7).mono ?_
                rintro e wl ⟨rfl, rfl⟩
                go_wp2_with fail
                refine (at_is g b2 t7 (62 + (j : Int)) ex ey true _ HTj HFt7 (by omega) (by omega) A1).mono ?_
                rintro e wa ⟨rfl, hBa⟩
                have HBa := Lib.hid (hBj.out.trans (hBa.mono hBj.out.size))
                clear hBa
                go_wp2_with fail
                go_roundw
                case rel => exact ⟨j + 1, sj2, by omega, rfl, rfl, HSj2, HBa⟩
                case measure => simp [intOf] <;> omega
              · have hji : ¬ (j : Int) < (n7 : Int) := by omega
                have hsj : sj = s7 := by
                  have : j = n7 := by omega
                  rw [← hSj.out, this, ← HN7.out, List.take_length, HS7.out]
                rw [hsj]
                have HBq := Lib.hid (HB7.out.trans (hBj.out.mono (by have := HT7.out.lt.1; omega)))
                go_wp2_with fail
                refine (len_t g b2 t7 n7 _ HTj HN7).mono ?_
                rintro e wl ⟨rfl, rfl⟩
                go_wp2_with fail
                refine (size_t g b2 t7 s7 _ HTj HS7).mono ?_
                rintro e wl ⟨rfl, rfl⟩
                go_wp2_with fail
                refine (most_t g b2 t7 M7 _ HTj HM7).mono ?_
                rintro e wl ⟨rfl, rfl⟩
                go_wp2_with fail
                refine (most_t g b2 t7 M7 _ HTj HM7).mono ?_
                rintro e wl ⟨rfl, rfl⟩
                go_wp2_with fail
                go_roundw
                case rel => exact ⟨k + 1, b2, t7, by omega, rfl, HTj, hBb2, HBq, HF7⟩
                case measure => simp [intOf] <;> omega
        · rw [decide_eq_false h0] at z1
          clear z2 h0 hboth
          go_wp2_with fail
          refine (add_is g b t x y _ HT4 HFt (by omega) (by omega)).mono ?_
          rintro e w5 ⟨rfl, b2, hT7, hK7, hbb⟩
          have hgs := HT4.out.lt
          have hBb2 : B ≤ b2 := by rcases hbb with rfl | rfl | hbb <;> omega
          have HB5 := Lib.hid (hK7.below HB4.out hBg hBb (by omega))
          have HT5 := Lib.hid hT7
          have HE5 := Lib.hid ((hK7.block E (world_lt HE4.out) (by omega) (by omega)).trans HE4.out)
          have HF7 := Lib.hid (HF3.out.add hsx hsy)
          have HFtx := Lib.hid (HF7.out.fit (by omega))
          have hnx : (addT t (x, y)).2.length ≤ n + 1 := by rw [← HN.out]; exact leastL_len _ _
          have hsz : sz (x, y) = x.size + y.size + 32 := rfl
          obtain ⟨nx7, hnx7⟩ : ∃ nx7, (addT t (x, y)).2.length = nx7 := ⟨_, rfl⟩
          have HNx := Lib.hid hnx7
          have hnle : nx7 ≤ n + 1 := by omega
          have hcmp : ¬ (((n + 1 : Nat) : Int) < (nx7 : Int)) := by omega
          have w1x : IntKind.i64.wrap ((x.size : Int) + (y.size : Int)) = (x.size : Int) + (y.size : Int) := by rw [IntKind.wrap_i64]; omega
          have w2x : IntKind.i64.wrap (M - 32) = M - 32 := by rw [IntKind.wrap_i64]; omega
          have w3x : IntKind.i64.wrap ((n : Int) + 1) = ((n + 1 : Nat) : Int) := by rw [IntKind.wrap_i64]; omega
          have HLe : Hid (∀ X, Hid (TAt X g b2 (addT t (x, y))) → Calls Try.prog 19 #[.pointer (some ⟨g, 0, none⟩)] X fun e w' => e = .returned (.int .i64 (nx7 : Int)) ∧ w' = X) := Lib.hid fun X hX => len_t g b2 _ nx7 X hX HNx
          have HMo : Hid (∀ X, Hid (TAt X g b2 (addT t (x, y))) → Calls Try.prog 22 #[.pointer (some ⟨g, 0, none⟩)] X fun e w' => e = .returned (.int .i64 M) ∧ w' = X) := Lib.hid fun X hX => most_t g b2 _ M X hX HMM
          clear hT7 hK7 hbb q0 q1 q2 q3 q4 q5 z1 HE4 HB4 hgs hnx
          by_cases hs : sz (x, y) ≤ t.1
          · have h2 : (addT t (x, y)).2 = (x, y) :: leastL t.2 (t.1 - sz (x, y)) := by
              show leastL ((x, y) :: t.2) t.1 = _
              rw [leastL, if_pos hs]
            have hle62 : (x.size : Int) + (y.size : Int) ≤ M - 32 := by omega
            have hnpos : (0 : Int) < (nx7 : Int) := by rw [← hnx7, h2, List.length_cons]; omega
            have hd1 : decide ((0 : Int) < (nx7 : Int)) = true := decide_eq_true hnpos
            have hd3 : decide (0 < nx7) = true := decide_eq_true (by omega)
            have hd4 : 0 < nx7 := by omega
            have hd2 : decide ((x.size : Int) + (y.size : Int) ≤ M - 32) = true := decide_eq_true hle62
            have HA1 := Lib.hid (show atR (fixedT ++ (addT t (x, y)).2) 62 = ((x, y), true) by rw [h2]; exact at62_some _ _)
            cases hl : leastL t.2 (t.1 - sz (x, y)) with
            | nil =>
              have HA2 := Lib.hid (show atR (fixedT ++ (addT t (x, y)).2) 63 = ((⟨#[]⟩, ⟨#[]⟩), false) by rw [h2, hl]; exact at63_one _)
              clear hl h2 hs hsz HT4 hM hnx7
              generalize addT t (x, y) = t7 at *
              go_wp2_with fail
              refine (at_is g b2 t7 62 x y true w5 HT5 HFtx (by omega) (by omega) HA1).mono ?_
              rintro e w6 ⟨rfl, hB6⟩
              have hs5 := HT5.out.lt.1
              have HT6 := Lib.hid (HT5.out.below hB6)
              have HE6 := (hB6.block E (world_lt HE5.out)).trans HE5.out
              have HB6 := Lib.hid (HB5.out.trans (hB6.mono (by omega)))
              have HTd := Lib.hid (fun q => HT6.out.below (below_drewN (Below.refl _ w6) q))
              have HBd := Lib.hid (fun q => below_drewN HB6.out q)
              obtain ⟨q0, q1, _, _, _, _⟩ := three_cells HE6
              clear hB6 HE6
              go_upto_region 16 with fail
              go_quiet (first | (go_at_call 19; exact Calls.quiet_of_same (HLe.out _ (Lib.hid (HTd.out _)))) | (go_at_call 22; exact Calls.quiet_of_same (HMo.out _ (Lib.hid (HTd.out _)))))
              clear q0 q1
              go_wp2_with fail
              refine (at_is g b2 t7 63 ⟨#[]⟩ ⟨#[]⟩ false _ (Lib.hid (HTd.out _)) HFtx (by omega) (by omega) HA2).mono ?_
              rintro e wz ⟨rfl, hBz⟩
              have HT7 := Lib.hid ((HTd.out _).below hBz)
              have hg6 := HT6.out.lt.1
              have HB7 := Lib.hid ((HBd.out _).trans (hBz.mono (show B ≤ w6.heap.size by omega)))
              clear hBz HT6 HTd HB6 HBd HT5 HE5 HB5
              go_wp2_with fail
              refine (len_t g b2 t7 nx7 wz HT7 HNx).mono ?_
              rintro e wz ⟨rfl, rfl⟩
              clear HLe HMo HA1 HA2 HNx
              obtain ⟨n7, hn7⟩ : ∃ n7, t7.2.length = n7 := ⟨_, rfl⟩
              obtain ⟨M7, hM7⟩ : ∃ M7 : Int, (t7.1 : Int) = M7 := ⟨_, rfl⟩
              obtain ⟨s7, hs7⟩ : ∃ s7, sumL t7.2 = s7 := ⟨_, rfl⟩
              have HN7 := Lib.hid hn7
              have HM7 := Lib.hid hM7
              have HS7 := Lib.hid hs7
              have HFt7 := Lib.hid (HF7.out.fit (by omega))
              have hn7b : n7 ≤ 101 := by have := HF7.out.1; omega
              have hs7b : s7 ≤ 900000000 := by rw [← hs7]; exact HF7.out.sum (by omega)
              have hsm7 : ¬ M7 < (s7 : Int) := by have h1 : sumL t7.2 ≤ t7.1 := HT7.out.2.1; omega
              have hM70 : ¬ M7 < 0 := by omega
              clear hn7 hM7 hs7
              go_wp2_with fail
              go_loopw [18, 19, 20, 21, 22] (fun s i _ _ _ wr => ∃ (j sj : Nat), j ≤ n7 ∧ s = .int .i64 (sj : Int) ∧ i = .int .i64 (j : Int) ∧ Hid (sumL (t7.2.take j) = sj) ∧ Hid (Below wz.heap.size wz wr)) (fun _ i _ _ _ _ => n7 - (intOf i).toNat)
              case atStart => exact ⟨0, 0, Nat.zero_le _, rfl, rfl, Lib.hid rfl, Lib.hid (Below.refl _ _)⟩
              case round =>
                obtain ⟨j, sj, hj, rfl, rfl, hSj, hBj⟩ := hrel
                have HTj := Lib.hid (HT7.out.below hBj.out)
                by_cases hlt2 : j < n7
                · have hji : (j : Int) < (n7 : Int) := by omega
                  obtain ⟨ex, ey, hexy⟩ : ∃ x y, entAt t7.2 j = (x, y) := ⟨_, _, rfl⟩
                  have A1 := Lib.hid (show atR (fixedT ++ t7.2) (62 + (j : Int)) = ((ex, ey), true) by rw [at_mine (by rw [HN7.out]; omega), hexy])
                  have hst := sum_take (L := t7.2) (j := j) (by rw [HN7.out]; omega)
                  have hle3 := sum_take_le t7.2 (j + 1)
                  rw [hSj.out, hexy] at hst
                  rw [HS7.out] at hle3
                  have hsz : sz (ex, ey) = ex.size + ey.size + 32 := rfl
                  obtain ⟨sj2, hsj2⟩ : ∃ sj2, sumL (t7.2.take (j + 1)) = sj2 := ⟨_, rfl⟩
                  have HSj2 := Lib.hid hsj2
                  rw [hsj2] at hst hle3
                  have e62 : IntKind.i64.wrap (62 + (j : Int)) = 62 + (j : Int) := by rw [IntKind.wrap_i64]; omega
                  have ej : IntKind.i64.wrap ((j : Int) + 1) = ((j + 1 : Nat) : Int) := by rw [IntKind.wrap_i64]; omega
                  have w1e : IntKind.i64.wrap ((sj : Int) + (ex.size : Int)) = (sj : Int) + (ex.size : Int) := by rw [IntKind.wrap_i64]; omega
                  have w2e : IntKind.i64.wrap ((sj : Int) + (ex.size : Int) + (ey.size : Int)) = (sj : Int) + (ex.size : Int) + (ey.size : Int) := by rw [IntKind.wrap_i64]; omega
                  have w3e : IntKind.i64.wrap ((sj : Int) + (ex.size : Int) + (ey.size : Int) + 32) = (sj2 : Int) := by rw [IntKind.wrap_i64]; omega
                  clear hexy hst hle3 hsz hsj2
                  go_wp2_with fail
                  refine (len_t g b2 t7 n7 _ HTj HN7).mono ?_
                  rintro e wl ⟨rfl, rfl⟩
                  go_wp2_with fail
                  refine (at_is g b2 t7 (62 + (j : Int)) ex ey true _ HTj HFt7 (by omega) (by omega) A1).mono ?_
                  rintro e wa ⟨rfl, hBa⟩
                  have HBa := Lib.hid (hBj.out.trans (hBa.mono hBj.out.size))
                  clear hBa
                  go_wp2_with fail
                  go_roundw
                  case rel => exact ⟨j + 1, sj2, by omega, rfl, rfl, HSj2, HBa⟩
                  case measure => simp [intOf] <;> omega
                · have hji : ¬ (j : Int) < (n7 : Int) := by omega
                  have hsj : sj = s7 := by
                    have : j = n7 := by omega
                    rw [← hSj.out, this, ← HN7.out, List.take_length, HS7.out]
                  rw [hsj]
                  have HBq := Lib.hid (HB7.out.trans (hBj.out.mono (by have := HT7.out.lt.1; omega)))
                  go_wp2_with fail
                  refine (len_t g b2 t7 n7 _ HTj HN7).mono ?_
                  rintro e wl ⟨rfl, rfl⟩
                  go_wp2_with fail
                  refine (size_t g b2 t7 s7 _ HTj HS7).mono ?_
                  rintro e wl ⟨rfl, rfl⟩
                  go_wp2_with fail
                  refine (most_t g b2 t7 M7 _ HTj HM7).mono ?_
                  rintro e wl ⟨rfl, rfl⟩
                  go_wp2_with fail
                  refine (most_t g b2 t7 M7 _ HTj HM7).mono ?_
                  rintro e wl ⟨rfl, rfl⟩
                  go_wp2_with fail
                  go_roundw
                  case rel => exact ⟨k + 1, b2, t7, by omega, rfl, HTj, hBb2, HBq, HF7⟩
                  case measure => simp [intOf] <;> omega
            | cons f l =>
              have HA2 := Lib.hid (show atR (fixedT ++ (addT t (x, y)).2) 63 = (f, true) by rw [h2, hl]; exact at63_some _ _ _)
              have hf0 : atR (fixedT ++ t.2) 62 = (f, true) := by
                obtain ⟨kk, _, hk2⟩ := leastL_pre t.2 (t.1 - sz (x, y))
                rw [hl] at hk2
                cases ht : t.2 with
                | nil => rw [ht, List.take_nil] at hk2; cases hk2
                | cons f2 l2 =>
                  rw [ht] at hk2
                  cases kk with
                  | zero => cases hk2
                  | succ kk =>
                    rw [List.take_succ_cons] at hk2
                    injection hk2 with h3 _
                    rw [h3]
                    exact at62_some _ _
              rw [HA0.out] at hf0
              injection hf0 with hf1 hf2
              subst hf2
              rw [← hf1] at HA2
              clear hl h2 hs hsz HT4 hM hnx7 hf1
              generalize addT t (x, y) = t7 at *
              go_wp2_with fail
              refine (at_is g b2 t7 62 x y true w5 HT5 HFtx (by omega) (by omega) HA1).mono ?_
              rintro e w6 ⟨rfl, hB6⟩
              have hs5 := HT5.out.lt.1
              have HT6 := Lib.hid (HT5.out.below hB6)
              have HE6 := (hB6.block E (world_lt HE5.out)).trans HE5.out
              have HB6 := Lib.hid (HB5.out.trans (hB6.mono (by omega)))
              have HTd := Lib.hid (fun q => HT6.out.below (below_drewN (Below.refl _ w6) q))
              have HBd := Lib.hid (fun q => below_drewN HB6.out q)
              obtain ⟨q0, q1, _, _, _, _⟩ := three_cells HE6
              clear hB6 HE6
              go_upto_region 16 with fail
              go_quiet (first | (go_at_call 19; exact Calls.quiet_of_same (HLe.out _ (Lib.hid (HTd.out _)))) | (go_at_call 22; exact Calls.quiet_of_same (HMo.out _ (Lib.hid (HTd.out _)))))
              clear q0 q1
              go_wp2_with fail
              refine (at_is g b2 t7 63 fx fy true _ (Lib.hid (HTd.out _)) HFtx (by omega) (by omega) HA2).mono ?_
              rintro e wz ⟨rfl, hBz⟩
              have HT7 := Lib.hid ((HTd.out _).below hBz)
              have hg6 := HT6.out.lt.1
              have HB7 := Lib.hid ((HBd.out _).trans (hBz.mono (show B ≤ w6.heap.size by omega)))
              clear hBz HT6 HTd HB6 HBd HT5 HE5 HB5
              go_wp2_with fail
              refine (len_t g b2 t7 nx7 wz HT7 HNx).mono ?_
              rintro e wz ⟨rfl, rfl⟩
              clear HLe HMo HA1 HA2 HNx
              obtain ⟨n7, hn7⟩ : ∃ n7, t7.2.length = n7 := ⟨_, rfl⟩
              obtain ⟨M7, hM7⟩ : ∃ M7 : Int, (t7.1 : Int) = M7 := ⟨_, rfl⟩
              obtain ⟨s7, hs7⟩ : ∃ s7, sumL t7.2 = s7 := ⟨_, rfl⟩
              have HN7 := Lib.hid hn7
              have HM7 := Lib.hid hM7
              have HS7 := Lib.hid hs7
              have HFt7 := Lib.hid (HF7.out.fit (by omega))
              have hn7b : n7 ≤ 101 := by have := HF7.out.1; omega
              have hs7b : s7 ≤ 900000000 := by rw [← hs7]; exact HF7.out.sum (by omega)
              have hsm7 : ¬ M7 < (s7 : Int) := by have h1 : sumL t7.2 ≤ t7.1 := HT7.out.2.1; omega
              have hM70 : ¬ M7 < 0 := by omega
              clear hn7 hM7 hs7
              go_wp2_with fail
              go_loopw [18, 19, 20, 21, 22] (fun s i _ _ _ wr => ∃ (j sj : Nat), j ≤ n7 ∧ s = .int .i64 (sj : Int) ∧ i = .int .i64 (j : Int) ∧ Hid (sumL (t7.2.take j) = sj) ∧ Hid (Below wz.heap.size wz wr)) (fun _ i _ _ _ _ => n7 - (intOf i).toNat)
              case atStart => exact ⟨0, 0, Nat.zero_le _, rfl, rfl, Lib.hid rfl, Lib.hid (Below.refl _ _)⟩
              case round =>
                obtain ⟨j, sj, hj, rfl, rfl, hSj, hBj⟩ := hrel
                have HTj := Lib.hid (HT7.out.below hBj.out)
                by_cases hlt2 : j < n7
                · have hji : (j : Int) < (n7 : Int) := by omega
                  obtain ⟨ex, ey, hexy⟩ : ∃ x y, entAt t7.2 j = (x, y) := ⟨_, _, rfl⟩
                  have A1 := Lib.hid (show atR (fixedT ++ t7.2) (62 + (j : Int)) = ((ex, ey), true) by rw [at_mine (by rw [HN7.out]; omega), hexy])
                  have hst := sum_take (L := t7.2) (j := j) (by rw [HN7.out]; omega)
                  have hle3 := sum_take_le t7.2 (j + 1)
                  rw [hSj.out, hexy] at hst
                  rw [HS7.out] at hle3
                  have hsz : sz (ex, ey) = ex.size + ey.size + 32 := rfl
                  obtain ⟨sj2, hsj2⟩ : ∃ sj2, sumL (t7.2.take (j + 1)) = sj2 := ⟨_, rfl⟩
                  have HSj2 := Lib.hid hsj2
                  rw [hsj2] at hst hle3
                  have e62 : IntKind.i64.wrap (62 + (j : Int)) = 62 + (j : Int) := by rw [IntKind.wrap_i64]; omega
                  have ej : IntKind.i64.wrap ((j : Int) + 1) = ((j + 1 : Nat) : Int) := by rw [IntKind.wrap_i64]; omega
                  have w1e : IntKind.i64.wrap ((sj : Int) + (ex.size : Int)) = (sj : Int) + (ex.size : Int) := by rw [IntKind.wrap_i64]; omega
                  have w2e : IntKind.i64.wrap ((sj : Int) + (ex.size : Int) + (ey.size : Int)) = (sj : Int) + (ex.size : Int) + (ey.size : Int) := by rw [IntKind.wrap_i64]; omega
                  have w3e : IntKind.i64.wrap ((sj : Int) + (ex.size : Int) + (ey.size : Int) + 32) = (sj2 : Int) := by rw [IntKind.wrap_i64]; omega
                  clear hexy hst hle3 hsz hsj2
                  go_wp2_with fail
                  refine (len_t g b2 t7 n7 _ HTj HN7).mono ?_
                  rintro e wl ⟨rfl, rfl⟩
                  go_wp2_with fail
                  refine (at_is g b2 t7 (62 + (j : Int)) ex ey true _ HTj HFt7 (by omega) (by omega) A1).mono ?_
                  rintro e wa ⟨rfl, hBa⟩
                  have HBa := Lib.hid (hBj.out.trans (hBa.mono hBj.out.size))
                  clear hBa
                  go_wp2_with fail
                  go_roundw
                  case rel => exact ⟨j + 1, sj2, by omega, rfl, rfl, HSj2, HBa⟩
                  case measure => simp [intOf] <;> omega
                · have hji : ¬ (j : Int) < (n7 : Int) := by omega
                  have hsj : sj = s7 := by
                    have : j = n7 := by omega
                    rw [← hSj.out, this, ← HN7.out, List.take_length, HS7.out]
                  rw [hsj]
                  have HBq := Lib.hid (HB7.out.trans (hBj.out.mono (by have := HT7.out.lt.1; omega)))
                  go_wp2_with fail
                  refine (len_t g b2 t7 n7 _ HTj HN7).mono ?_
                  rintro e wl ⟨rfl, rfl⟩
                  go_wp2_with fail
                  refine (size_t g b2 t7 s7 _ HTj HS7).mono ?_
                  rintro e wl ⟨rfl, rfl⟩
                  go_wp2_with fail
                  refine (most_t g b2 t7 M7 _ HTj HM7).mono ?_
                  rintro e wl ⟨rfl, rfl⟩
                  go_wp2_with fail
                  refine (most_t g b2 t7 M7 _ HTj HM7).mono ?_
                  rintro e wl ⟨rfl, rfl⟩
                  go_wp2_with fail
                  go_roundw
                  case rel => exact ⟨k + 1, b2, t7, by omega, rfl, HTj, hBb2, HBq, HF7⟩
                  case measure => simp [intOf] <;> omega
          · have h2 : (addT t (x, y)).2 = [] := addT_none hs
            have hle62 : ¬ ((x.size : Int) + (y.size : Int) ≤ M - 32) := by omega
            have hd2 : decide ((x.size : Int) + (y.size : Int) ≤ M - 32) = false := decide_eq_false hle62
            have hn0 : nx7 = 0 := by rw [← hnx7, h2]; rfl
            subst hn0
            have HA1 := Lib.hid (at62_none h2)
            have HA2 := Lib.hid (at63_none h2)
            clear h2 hs hsz HT4 hM hnx7
            generalize addT t (x, y) = t7 at *
            go_wp2_with fail
            refine (at_is g b2 t7 62 ⟨#[]⟩ ⟨#[]⟩ false w5 HT5 HFtx (by omega) (by omega) HA1).mono ?_
            rintro e w6 ⟨rfl, hB6⟩
            have hs5 := HT5.out.lt.1
            have HT6 := Lib.hid (HT5.out.below hB6)
            have HE6 := (hB6.block E (world_lt HE5.out)).trans HE5.out
            have HB6 := Lib.hid (HB5.out.trans (hB6.mono (by omega)))
            have HTd := Lib.hid (fun q => HT6.out.below (below_drewN (Below.refl _ w6) q))
            have HBd := Lib.hid (fun q => below_drewN HB6.out q)
            obtain ⟨q0, q1, _, _, _, _⟩ := three_cells HE6
            clear hB6 HE6
            go_upto_region 16 with fail
            go_quiet (first | (go_at_call 19; exact Calls.quiet_of_same (HLe.out _ (Lib.hid (HTd.out _)))) | (go_at_call 22; exact Calls.quiet_of_same (HMo.out _ (Lib.hid (HTd.out _)))))
            clear q0 q1
            go_wp2_with fail
            refine (at_is g b2 t7 63 ⟨#[]⟩ ⟨#[]⟩ false _ (Lib.hid (HTd.out _)) HFtx (by omega) (by omega) HA2).mono ?_
            rintro e wz ⟨rfl, hBz⟩
            have HT7 := Lib.hid ((HTd.out _).below hBz)
            have hg6 := HT6.out.lt.1
            have HB7 := Lib.hid ((HBd.out _).trans (hBz.mono (show B ≤ w6.heap.size by omega)))
            clear hBz HT6 HTd HB6 HBd HT5 HE5 HB5
            go_wp2_with fail
            refine (len_t g b2 t7 0 wz HT7 HNx).mono ?_
            rintro e wz ⟨rfl, rfl⟩
            clear HLe HMo HA1 HA2 HNx
            obtain ⟨n7, hn7⟩ : ∃ n7, t7.2.length = n7 := ⟨_, rfl⟩
            obtain ⟨M7, hM7⟩ : ∃ M7 : Int, (t7.1 : Int) = M7 := ⟨_, rfl⟩
            obtain ⟨s7, hs7⟩ : ∃ s7, sumL t7.2 = s7 := ⟨_, rfl⟩
            have HN7 := Lib.hid hn7
            have HM7 := Lib.hid hM7
            have HS7 := Lib.hid hs7
            have HFt7 := Lib.hid (HF7.out.fit (by omega))
            have hn7b : n7 ≤ 101 := by have := HF7.out.1; omega
            have hs7b : s7 ≤ 900000000 := by rw [← hs7]; exact HF7.out.sum (by omega)
            have hsm7 : ¬ M7 < (s7 : Int) := by have h1 : sumL t7.2 ≤ t7.1 := HT7.out.2.1; omega
            have hM70 : ¬ M7 < 0 := by omega
            clear hn7 hM7 hs7
            go_wp2_with fail
            go_loopw [18, 19, 20, 21, 22] (fun s i _ _ _ wr => ∃ (j sj : Nat), j ≤ n7 ∧ s = .int .i64 (sj : Int) ∧ i = .int .i64 (j : Int) ∧ Hid (sumL (t7.2.take j) = sj) ∧ Hid (Below wz.heap.size wz wr)) (fun _ i _ _ _ _ => n7 - (intOf i).toNat)
            case atStart => exact ⟨0, 0, Nat.zero_le _, rfl, rfl, Lib.hid rfl, Lib.hid (Below.refl _ _)⟩
            case round =>
              obtain ⟨j, sj, hj, rfl, rfl, hSj, hBj⟩ := hrel
              have HTj := Lib.hid (HT7.out.below hBj.out)
              by_cases hlt2 : j < n7
              · have hji : (j : Int) < (n7 : Int) := by omega
                obtain ⟨ex, ey, hexy⟩ : ∃ x y, entAt t7.2 j = (x, y) := ⟨_, _, rfl⟩
                have A1 := Lib.hid (show atR (fixedT ++ t7.2) (62 + (j : Int)) = ((ex, ey), true) by rw [at_mine (by rw [HN7.out]; omega), hexy])
                have hst := sum_take (L := t7.2) (j := j) (by rw [HN7.out]; omega)
                have hle3 := sum_take_le t7.2 (j + 1)
                rw [hSj.out, hexy] at hst
                rw [HS7.out] at hle3
                have hsz : sz (ex, ey) = ex.size + ey.size + 32 := rfl
                obtain ⟨sj2, hsj2⟩ : ∃ sj2, sumL (t7.2.take (j + 1)) = sj2 := ⟨_, rfl⟩
                have HSj2 := Lib.hid hsj2
                rw [hsj2] at hst hle3
                have e62 : IntKind.i64.wrap (62 + (j : Int)) = 62 + (j : Int) := by rw [IntKind.wrap_i64]; omega
                have ej : IntKind.i64.wrap ((j : Int) + 1) = ((j + 1 : Nat) : Int) := by rw [IntKind.wrap_i64]; omega
                have w1e : IntKind.i64.wrap ((sj : Int) + (ex.size : Int)) = (sj : Int) + (ex.size : Int) := by rw [IntKind.wrap_i64]; omega
                have w2e : IntKind.i64.wrap ((sj : Int) + (ex.size : Int) + (ey.size : Int)) = (sj : Int) + (ex.size : Int) + (ey.size : Int) := by rw [IntKind.wrap_i64]; omega
                have w3e : IntKind.i64.wrap ((sj : Int) + (ex.size : Int) + (ey.size : Int) + 32) = (sj2 : Int) := by rw [IntKind.wrap_i64]; omega
                clear hexy hst hle3 hsz hsj2
                go_wp2_with fail
                refine (len_t g b2 t7 n7 _ HTj HN7).mono ?_
                rintro e wl ⟨rfl, rfl⟩
                go_wp2_with fail
                refine (at_is g b2 t7 (62 + (j : Int)) ex ey true _ HTj HFt7 (by omega) (by omega) A1).mono ?_
                rintro e wa ⟨rfl, hBa⟩
                have HBa := Lib.hid (hBj.out.trans (hBa.mono hBj.out.size))
                clear hBa
                go_wp2_with fail
                go_roundw
                case rel => exact ⟨j + 1, sj2, by omega, rfl, rfl, HSj2, HBa⟩
                case measure => simp [intOf] <;> omega
              · have hji : ¬ (j : Int) < (n7 : Int) := by omega
                have hsj : sj = s7 := by
                  have : j = n7 := by omega
                  rw [← hSj.out, this, ← HN7.out, List.take_length, HS7.out]
                rw [hsj]
                have HBq := Lib.hid (HB7.out.trans (hBj.out.mono (by have := HT7.out.lt.1; omega)))
                go_wp2_with fail
                refine (len_t g b2 t7 n7 _ HTj HN7).mono ?_
                rintro e wl ⟨rfl, rfl⟩
                go_wp2_with fail
                refine (size_t g b2 t7 s7 _ HTj HS7).mono ?_
                rintro e wl ⟨rfl, rfl⟩
                go_wp2_with fail
                refine (most_t g b2 t7 M7 _ HTj HM7).mono ?_
                rintro e wl ⟨rfl, rfl⟩
                go_wp2_with fail
                refine (most_t g b2 t7 M7 _ HTj HM7).mono ?_
                rintro e wl ⟨rfl, rfl⟩
                go_wp2_with fail
                go_roundw
                case rel => exact ⟨k + 1, b2, t7, by omega, rfl, HTj, hBb2, HBq, HF7⟩
                case measure => simp [intOf] <;> omega
    · have hli : ¬ (k : Int) < (len1 : Int) := by omega
      go_wp2_with fail
      go_ret
      exact ⟨rfl, by first | exact HBw.out | (rw [GB.out]; exact HBw.out)⟩
set_option maxRecDepth 100000 in
theorem lifted (os : Os) (started : os.Started) (H : Type) (enc : TypeId × Value → H) :
    ReturnsInHanded {} Try.checked os 5 .any (Rows.tableHoldsSpec.pre6 enc Try.prog Try.f5 Rows.tableHoldsRow.domain false) (Rows.tableHoldsSpec.post enc Try.prog Try.f5 false true false false) := by
  refine returnsInHanded_of_change (C := Try.checked) own started (by kernel_rfl) Try.func5
    (ChangeSpec.witness6 (enc := enc) (C := Try.checked) false ⟨#[], #[.int .i64 0, .slice none 0 0], []⟩ 8 (by kernel_rfl) (by kernel_rfl) (by kernel_rfl) (by kernel_rfl)) ?_
  intro W base args ds gs before hval0 hW hcnd _
  have hval : ∀ (j : Nat) t v, Try.f5.params[j]? = some t → args[j]? = some v → Value.okWide Try.prog W .any base t v := hval0
  have hW' := hW
  obtain ⟨p, q, hA0, hV, rfl, hfz, hnd⟩ := hW
  have hA : DataW.TrodAll enc Try.prog W 0 (fun _ => true) true Try.f5.params.toList args.toList ds p := hA0
  rw [Try.params5] at hA hval
  obtain ⟨v0, vs0, d0, ds0, p0, q0, hargs, rfl, rfl, h0, r0⟩ := trodAll_cons hA
  obtain ⟨v1, vs1, d1, ds1, p1, q1, rfl, rfl, rfl, h1, r1⟩ := trodAll_cons r0
  obtain ⟨rfl, rfl, rfl⟩ := trodAll_nil r1
  obtain rfl : args = #[v0, v1] := by cases args; simp_all
  obtain ⟨rfl, rfl⟩ := trodVars_none hV
  obtain ⟨z0, rfl, rfl, rfl, wf0⟩ := open_int Try.underlying3 (hval 0 3 v0 rfl rfl) h0
  have bd0 := bounds_i64 wf0
  obtain ⟨a1, len1, cap1, rfl⟩ := okWide_slice Try.underlying22 (hval 1 22 v1 rfl rfl)
  have k1 := h1
  have lt1 : ∀ x ∈ p1, x.block < W.heap.size := by obtain ⟨m, hm⟩ := k1; exact DataW.trod_lt m _ _ _ hm
  obtain ⟨hl1, L1, hR1⟩ : len1 ≤ maxLen ∧ ∃ L, RdT W W.heap.size a1 len1 L := by
    obtain ⟨fuel, hf⟩ := h1
    exact rdt_of_trod hf
  clear hA0 hval0
  refine (walk z0 a1 len1 cap1 L1 W bd0.1 bd0.2  hl1 hR1).mono fun e W' ⟨he, bel⟩ => ?_
  subst he
  exact ⟨_, rfl, _, _, _, [], _, [], hW', trodAll_mk1 (shut_bool Try.underlying4 _), (trodAll_cons_mk (shut_int Try.underlying3 wf0) (trodAll_cons_mk (Below.trod laidOut (by kernel_rfl) (of_decide_eq_true (by kernel_rfl)) k1 bel lt1) trodAll_mk0)), rfl, bel.frame _, fun h => by cases h⟩

theorem over : Rows.tableHoldsRow.holds Try.pinned (OpenSpec.ofChange Rows.tableHoldsSpec) :=
  OpenClaim.holds_of_wide 5 Try.f5 rfl rfl rfl rfl rfl rfl rfl ⟨rfl, rfl, rfl, rfl, rfl⟩ rfl rfl rfl rfl rfl (by kernel_rfl) Try.func5 (by kernel_rfl)
    (of_decide_eq_true (by kernel_rfl)) (by unfold Func.isWrapper; first | (rw [if_pos (by decide +kernel)]; kernel_rfl) | (rw [if_neg (by decide +kernel)]; exact ⟨rfl, rfl⟩))
    (fun os started H enc _ => lifted os started H enc)

theorem proved : Rows.TableHoldsSaid := over
#print axioms proved
end Go.Proofs.Ytchfineobpfinaa.tableHolds
