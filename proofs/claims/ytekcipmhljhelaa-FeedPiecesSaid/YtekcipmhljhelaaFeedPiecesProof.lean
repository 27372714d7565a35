import Derived.Test.YtekcipmhljhelaaRows
import Derived.Test.YtekcipmhljhelaaProg
import Derived.Test.YtekcipmhljhelaaBytes
import Derived.Test.YtekcipmhljhelaaNumBe
import Derived.Test.YtekcipmhljhelaaFrMath
import Derived.Test.YtekcipmhljhelaaStrs
import Derived.Test.YtekcipmhljhelaaUpCame
import Derived.Test.YtekcipmhljhelaaFdMath
import Derived.Test.YtekcipmhljhelaaFdMore
import Derived.Test.YtekcipmhljhelaaFdRow
import Derived.Test.YtekcipmhljhelaaFdSame
import Derived.Test.YtekcipmhljhelaaFdCode
import Derived.Test.YtekcipmhljhelaaFdAwake
import Derived.Test.YtekcipmhljhelaaFdKeep
import Derived.Deep.CutRange
import Derived.LoopTactic
import Derived.Lib.Hide
import Derived.Outline
import Derived.IntWalk
import Derived.WalkSpells
import Derived.WalkLawsBesides
import Derived.Laws.Rows
import Derived.WalkKit
import Derived.ProofKit
import Derived.OpenShut
import Derived.ShutString
import Derived.ChangeOld
import Derived.Below
namespace Go.Proofs.Ytekcipmhljhelaa.feedPieces
open Go Go.ChangeShapes Go.WideShapes Go.ChangeAt Go.RowKit Bytes Fr Fd
open Go.ChangeMaps (open_string shut_string)
set_option linter.unusedVariables false

theorem own : ownKnob Try.prog.godebug = none := by kernel_rfl
theorem laidOut : laidOutB Try.prog = true := by kernel_rfl

set_option maxHeartbeats 8000000 in
set_option maxRecDepth 100000 in
theorem walk (q0 : Bool) (s1 : ByteArray) (z2 : Int) (w : World) (hs1 : s1.size ≤ maxLen) (hz2 : -9223372036854775808 ≤ z2) (hy2 : z2 ≤ 9223372036854775807) :
    Calls Try.prog 4 #[.bool q0, .string s1, .int .i64 z2] w fun e w' => e = .returned (.bool true) ∧ Below w.heap.size w w' := by
  go_enter Try.func4, Try.ntmps4
  go_wp2_with fail
  refine (awake_is w).mono ?_
  rintro e w1 ⟨rfl, hB1⟩
  have HB1 := Lib.hid hB1
  clear hB1
  by_cases hbig : 3000 < s1.size
  · have b1 : (3000 : Int) < (s1.size : Int) := by omega
    go_wp2_with fail
    go_ret
    exact ⟨rfl, HB1.out⟩
  have b1 : ¬ ((3000 : Int) < (s1.size : Int)) := by omega
  have b1d : decide ((3000 : Int) < (s1.size : Int)) = false := decide_eq_false b1
  have hsz : s1.size ≤ 3000 := by omega
  obtain ⟨g, hg⟩ : ∃ g, w.heap.size = g := ⟨_, rfl⟩
  have G := Lib.hid hg
  have HB1g : Hid (Below g w w1) := Lib.hid (by rw [← hg]; exact HB1.out)
  have hg1 : Hid (g ≤ w1.heap.size) := Lib.hid (by rw [← hg]; exact HB1.out.size)
  clear hg HB1 hbig
  go_wp2_with fail
  refine (fnew2_is q0 _).mono ?_
  rintro e w2 ⟨ba, rfl, hba, hFa, hB2, _⟩
  have hga : g ≤ ba := Nat.le_trans hg1.out hba
  have HB2 := Lib.hid (HB1g.out.trans (hB2.mono hg1.out))
  have hg2 : Hid (g ≤ w2.heap.size) := Lib.hid (Nat.le_trans hg1.out hB2.size)
  have hal := hFa.out.lt
  clear hB2 HB1g
  go_wp2_with fail
  refine (fnew2_is q0 _).mono ?_
  rintro e w3 ⟨bb, rfl, hbb, hFb, hB3, hNb⟩
  have HNB := Lib.hid hNb
  clear hNb
  have hab : ba < bb := Nat.lt_of_lt_of_le hal hbb
  have hFa3 := Lib.hid (hFa.out.below hB3)
  have HB3 := Lib.hid (HB2.out.trans (hB3.mono hg2.out))
  have hg3 : Hid (g ≤ w3.heap.size) := Lib.hid (Nat.le_trans hg2.out hB3.size)
  have hbl := hFb.out.lt
  clear hB3 HB2 hFa hba
  go_wp2_with fail
  refine (fnew2_is q0 _).mono ?_
  rintro e w4 ⟨bc, rfl, hbc, hFc, hB4, hNc⟩
  have HNC := Lib.hid hNc
  have HNB4 : Hid (rowOf w4 bb = none) := Lib.hid ((hFb.out.row_below hB4).trans HNB.out)
  clear hNc HNB
  have hbbc : bb < bc := Nat.lt_of_lt_of_le hbl hbc
  have hFa4 := Lib.hid (hFa3.out.below hB4)
  have hFb4 := Lib.hid (hFb.out.below hB4)
  have HB4 := Lib.hid (HB3.out.trans (hB4.mono hg3.out))
  have hg4 : Hid (g ≤ w4.heap.size) := Lib.hid (Nat.le_trans hg3.out hB4.size)
  clear hB4 HB3 hFa3 hFb hbb hbc hal hbl
  obtain ⟨⟨X, cx, Sa⟩, hadd⟩ : ∃ z, add ⟨q0, [], false⟩ s1.data.toList = z := ⟨_, rfl⟩
  have hca := (came_add (came_new q0) hadd).1
  rw [List.nil_append, List.nil_append, Nat.zero_max] at hca
  have HCA := Lib.hid hca
  have HADD := Lib.hid hadd
  have hs0 : Hid ((FSt.mk q0 [] false).held.length + s1.size ≤ 200000) := Lib.hid (by show 0 + s1.size ≤ 200000; omega)
  clear hadd hca
  go_wp2_with fail
  refine (fadd_is ba _ Sa s1 X cx w4 hFa4 hs0 HADD).mono ?_
  rintro e w5 ⟨vx, nx, rfl, hE⟩
  have HRX := Lib.hid hE.out.own
  have HNX := Lib.hid hE.out.len
  have hFa5 := Lib.hid hE.out.fd
  have hb5 := hFb4.out.other hFa4.out hE.out.kept (by omega) (aps_none HNB4.out)
  have hc5 := hFc.out.other hFa4.out hE.out.kept (by omega) (aps_none HNC.out)
  have hFb5 := Lib.hid hb5.1
  have hFc5 := Lib.hid hc5.1
  have HAB5 : Hid (Aps w5 ba bb) := Lib.hid hb5.2.1.symm
  have HNC5 : Hid (rowOf w5 bc = none) := Lib.hid (hc5.2.2.trans HNC.out)
  clear hb5 hc5 HNB4 HNC
  have HB5 := Lib.hid (HB4.out.trans (hE.out.kept.below (g := g) hga hg4.out))
  have hg5 : Hid (g ≤ w5.heap.size) := Lib.hid (Nat.le_trans hg4.out hE.out.kept.size)
  obtain ⟨gx, hgx⟩ : ∃ gx, w4.heap.size = gx := ⟨_, rfl⟩
  rw [hgx] at HRX
  clear hE hFa4 hFb4 hFc HB4 hgx HADD hs0
  obtain ⟨qc, hqc⟩ : ∃ q, decide (z2 < 0 ∨ (s1.size : Int) < z2) = q := ⟨_, rfl⟩
  go_upto_region 7 with fail
  go_cut [45] from 38 to 45 (fun v wx => v = .bool qc ∧ w5 = wx)
  case first =>
    by_cases hc1 : z2 < 0
    · obtain rfl : qc = true := by rw [← hqc]; exact decide_eq_true (.inl hc1)
      clear hqc
      go_wp2_with fail
      go_meet
      exact ⟨rfl, rfl⟩
    · by_cases hc2 : (s1.size : Int) < z2
      · obtain rfl : qc = true := by rw [← hqc]; exact decide_eq_true (.inr hc2)
        clear hqc
        go_wp2_with fail
        go_meet
        exact ⟨rfl, rfl⟩
      · obtain rfl : qc = false := by rw [← hqc]; exact decide_eq_false (by omega)
        clear hqc
        go_wp2_with fail
        go_meet
        exact ⟨rfl, rfl⟩
  case rest =>
    obtain ⟨rfl, rfl⟩ := hcut
    have HQC := Lib.hid hqc
    clear hqc
    go_upto_if 45 with fail
    go_cut [2] from 46 to 48 (fun v wx => ∃ k : Nat, v = .int .i64 (k : Int) ∧ k ≤ s1.size ∧ w5 = wx)
    case first =>
      cases qc with
      | true =>
        have hd2 : (s1.size : Int) / 2 = ((s1.size / 2 : Nat) : Int) := by omega
        have hd3 : (s1.size : Int).tdiv 2 = ((s1.size / 2 : Nat) : Int) := by rw [Int.tdiv_eq_ediv_of_nonneg (by omega)]; exact hd2
        obtain ⟨h2, hh2⟩ : ∃ h, s1.size / 2 = h := ⟨_, rfl⟩
        have h2s : h2 ≤ s1.size := by omega
        rw [hh2] at hd2 hd3
        go_wp2_with fail
        go_meet
        exact ⟨h2, rfl, h2s, rfl⟩
      | false =>
        have hno := of_decide_eq_false HQC.out
        go_wp2_with fail
        go_meet
        exact ⟨z2.toNat, by rw [Int.toNat_of_nonneg (by omega)], by omega, rfl⟩
    case rest =>
      obtain ⟨k, rfl, hks, rfl⟩ := hcut
      clear HQC
      have hk0 : (0 : Int) ≤ (k : Int) := by omega
      have hki : (k : Int) ≤ (s1.size : Int) := by omega
      obtain ⟨p1, hp1⟩ : ∃ p, s1.extract 0 k = p := ⟨_, rfl⟩
      obtain ⟨p2, hp2⟩ : ∃ p, s1.extract k s1.size = p := ⟨_, rfl⟩
      have hp1l : p1.data.toList = s1.data.toList.take k := by rw [← hp1, extract_list, List.drop_zero]
      have hp2l : p2.data.toList = s1.data.toList.drop k := by rw [← hp2, extract_list, ← size_l, List.take_length]
      have hp1s : p1.size ≤ 3000 := by rw [← size_l, hp1l, List.length_take, size_l]; omega
      have hp2s : p2.size ≤ 3000 := by rw [← size_l, hp2l, List.length_drop, size_l]; omega
      obtain ⟨⟨Y1, c1, Sb1⟩, hadd1⟩ : ∃ z, add ⟨q0, [], false⟩ p1.data.toList = z := ⟨_, rfl⟩
      have hcb1 := (came_add (came_new q0) hadd1).1
      rw [List.nil_append, List.nil_append, Nat.zero_max] at hcb1
      obtain ⟨⟨Y2, c2, Sb2⟩, hadd2⟩ : ∃ z, add Sb1 p2.data.toList = z := ⟨_, rfl⟩
      have hcb2 := (came_add hcb1 hadd2).1
      rw [hp1l, hp2l, List.take_append_drop] at hcb2
      have hsb1 : Hid (Sb1.held.length + p2.size ≤ 200000) := Lib.hid (by
        have h1 := hcb1.held
        have h2 := (all_held q0 p1.data.toList).1
        rw [size_l] at h2
        omega)
      have hs0 : Hid ((FSt.mk q0 [] false).held.length + p1.size ≤ 200000) := Lib.hid (by show 0 + p1.size ≤ 200000; omega)
      have HADD1 := Lib.hid hadd1
      have HADD2 := Lib.hid hadd2
      have HCB := Lib.hid hcb2
      have HXY : Hid (Y1 ++ Y2 = X ∧ max c1 c2 = cx ∧ Sb2.held.length = Sa.held.length) := Lib.hid ⟨hcb2.frames.symm.trans HCA.out.frames, hcb2.code.symm.trans HCA.out.code, hcb2.held.trans HCA.out.held.symm⟩
      clear hadd1 hadd2 hcb1 hcb2 hp1l hp2l
      go_wp2_with fail
      refine (fadd_is bb _ Sb1 p1 Y1 c1 w5 hFb5 hs0 HADD1).mono ?_
      rintro e w6 ⟨vy, ny, rfl, hE⟩
      have HRX6 := Lib.hid (own_fdk HRX.out hFb5.out hE.out.kept)
      have HRY := Lib.hid hE.out.own
      have HNY := Lib.hid hE.out.len
      have ha6 := hFa5.out.other hFb5.out hE.out.kept (by omega) HAB5.out
      have hc6 := hFc5.out.other hFb5.out hE.out.kept (by omega) (aps_none HNC5.out)
      have hFa6 := Lib.hid ha6.1
      have hFb6 := Lib.hid hE.out.fd
      have hFc6 := Lib.hid hc6.1
      have HAB6 : Hid (Aps w6 ba bb) := Lib.hid ha6.2.1
      have HNC6 : Hid (rowOf w6 bc = none) := Lib.hid (hc6.2.2.trans HNC5.out)
      clear ha6 hc6 HAB5 HNC5
      have HB6 := Lib.hid (HB5.out.trans (hE.out.kept.below (g := g) (by omega) hg5.out))
      have hg6 : Hid (g ≤ w6.heap.size) := Lib.hid (Nat.le_trans hg5.out hE.out.kept.size)
      obtain ⟨gy, hgy⟩ : ∃ gy, w5.heap.size = gy := ⟨_, rfl⟩
      rw [hgy] at HRY
      have HLX : Hid (∀ j, vx.ownBlock = some j → j < gy) := Lib.hid (fun j hj => by rw [← hgy]; exact (HRX.out.lt j hj).2)
      have hggy : g ≤ gy := by rw [← hgy]; exact hg5.out
      have hy6 : Hid (gy ≤ w6.heap.size) := Lib.hid (by rw [← hgy]; exact hE.out.kept.size)
      clear hE hFa5 hFb5 hFc5 HB5 hgy HADD1 hs0 HRX
      go_wp2_with fail
      refine (fadd_is bb Sb1 Sb2 p2 Y2 c2 w6 hFb6 hsb1 HADD2).mono ?_
      rintro e w7 ⟨vm, nm, rfl, hE⟩
      have HRX7 := Lib.hid (own_fdk HRX6.out hFb6.out hE.out.kept)
      have HRY7 := Lib.hid (own_fdk HRY.out hFb6.out hE.out.kept)
      have ha7 := hFa6.out.other hFb6.out hE.out.kept (by omega) HAB6.out
      have hc7 := hFc6.out.other hFb6.out hE.out.kept (by omega) (aps_none HNC6.out)
      have hFa7 := Lib.hid ha7.1
      have hFb7 := Lib.hid hE.out.fd
      have hFc7 := Lib.hid hc7.1
      have HNC7 : Hid (rowOf w7 bc = none) := Lib.hid (hc7.2.2.trans HNC6.out)
      clear ha7 hc7 HAB6 HNC6
      have HB7 := Lib.hid (HB6.out.trans (hE.out.kept.below (g := g) (by omega) hg6.out))
      have hg7 : Hid (g ≤ w7.heap.size) := Lib.hid (Nat.le_trans hg6.out hE.out.kept.size)
      have hy7 : Hid (gy ≤ w7.heap.size) := Lib.hid (Nat.le_trans hy6.out hE.out.kept.size)
      obtain ⟨Am, cm, rfl, hrdm, _, hnilm⟩ := own_rdf hE.out.own hE.out.len.symm
      have HRDM := Lib.hid hrdm
      have HNILM := Lib.hid hnilm
      have HNM := Lib.hid hE.out.len
      have hfew := all_few q0 s1.data.toList
      rw [HCA.out.frames, ← HXY.out.1, List.length_append, size_l] at hfew
      have hnn : ny + nm ≤ 3000 := by rw [← HNY.out, ← HNM.out]; omega
      clear hE hFa6 hFb6 hFc6 HB6 HADD2 hsb1 HRX6 HRY hrdm hnilm hfew
      go_wp2_with (at_builtin; refine wpList_append_frs rfl _ _ rfl gy _ ny Y1 rfl HRY7.out nm cm Am Y2 rfl HNM.out HNILM.out w7.heap.size HRDM.out ?c1 ?c2 ?_)
      case c1 => omega
      case c2 => exact hy7.out
      intro vy2 w8 hown hgrow
      have HRX8 := Lib.hid (own_apart HRX7.out hgrow (fun j hj e => by have := (HRY7.out.lt j e).1; have := HLX.out j hj; omega))
      have hFa8 := Lib.hid (hFa7.out.grown HRY7.out hgrow)
      have hFb8 := Lib.hid (hFb7.out.grown HRY7.out hgrow)
      have hFc8 := Lib.hid (hFc7.out.grown HRY7.out hgrow)
      have HNC8 : Hid (rowOf w8 bc = none) := Lib.hid ((hFc7.out.grown2 HRY7.out hgrow).2.trans HNC7.out)
      have hbg := (Below.refl g w7).grown hgrow hg7.out (fun j hj => Nat.le_trans hggy (HRY7.out.lt j hj).1)
      rw [HXY.out.1] at hown
      have hnx : ny + nm = nx := by rw [← HNY.out, ← HNM.out, ← List.length_append, HXY.out.1]; exact HNX.out
      rw [hnx] at hown
      have HB8 := Lib.hid (HB7.out.trans hbg)
      have hg8 : Hid (g ≤ w8.heap.size) := Lib.hid (Nat.le_trans hg7.out hbg.size)
      obtain ⟨Ax, cpx, rfl, _⟩ := own_rdf HRX8.out HNX.out.symm
      obtain ⟨Ay, cpy, rfl, _⟩ := own_rdf hown HNX.out.symm
      obtain ⟨gz, hgz⟩ : ∃ gz, w8.heap.size = gz := ⟨_, rfl⟩
      have HBX : Hid (∀ j, (Value.slice Ax nx cpx).ownBlock = some j → j < gz) := Lib.hid (fun j hj => by rw [← hgz]; exact (HRX8.out.lt j hj).2)
      have HBY : Hid (∀ j, (Value.slice Ay nx cpy).ownBlock = some j → j < gz) := Lib.hid (fun j hj => by rw [← hgz]; exact (hown.lt j hj).2)
      have HREST : Hid (Fours w8 gx gy (.slice Ax nx cpx) (.slice Ay nx cpy) nx nx X X ba bb bc Sa Sb2 ⟨q0, [], false⟩) := Lib.hid ⟨HRX8.out, hown, hFa8.out, hFb8.out, hFc8.out, Aps.symm (aps_none HNC8.out), Aps.symm (aps_none HNC8.out)⟩
      have hgz8 : Hid (gz ≤ w8.heap.size) := Lib.hid (Nat.le_of_eq hgz.symm)
      have hggz : g ≤ gz := by rw [← hgz]; exact hg8.out
      have hmaxc : (if c1 < c2 then (c2 : Int) else (c1 : Int)) = (cx : Int) := by
        have := HXY.out.2.1
        split <;> omega
      have HSB : Hid (Sb2.held.length = Sa.held.length) := Lib.hid HXY.out.2.2
      clear hown hgrow hbg hgz hFa7 hFb7 hFc7 HB7 HRX7 HRY7 hFa8 hFb8 HRX8 HNC7 HNC8 HRDM HNILM hg8 HXY HCB hnn
      go_wp2_with fail
      go_loopw [16, 17, 18, 19, 20] (fun z th i _ _ wr => ∃ (j m c : Nat) (Z : List Frm) (S : FSt), j ≤ s1.size ∧ i = .int .i64 (j : Int) ∧ th = .int .u32 (c : Int) ∧ Hid (Came q0 (s1.data.toList.take j) S Z c) ∧ Hid (Z.length = m) ∧ Hid (wr.ownsRow gz 40 4 z m (frCs Z)) ∧ Hid (FdAt wr bc S) ∧ Hid (Fours wr gx gy (.slice Ax nx cpx) (.slice Ay nx cpy) nx nx X X ba bb bc Sa Sb2 S) ∧ Hid (Below g w wr) ∧ Hid (gz ≤ wr.heap.size)) (fun _ _ i _ _ _ => s1.size - (intOf i).toNat)
      case atStart => exact ⟨0, 0, 0, [], ⟨q0, [], false⟩, Nat.zero_le _, rfl, rfl, Lib.hid (by rw [List.take_zero]; exact came_new q0), Lib.hid rfl, Lib.hid ⟨rfl, .inl ⟨rfl, rfl⟩⟩, hFc8, HREST, HB8, hgz8⟩
      case round =>
        obtain ⟨j, m, c, Z, S, hj, rfl, rfl, hC, hZ, hO, hFd, hRest, hBw, hgw⟩ := hrel
        by_cases hlt : j < s1.size
        · have hji : (j : Int) < (s1.size : Int) := by omega
          have hj0 : (0 : Int) ≤ (j : Int) := by omega
          have hj1 : IntKind.i64.wrap ((j : Int) + 1) = ((j + 1 : Nat) : Int) := by rw [IntKind.wrap_i64]; omega
          have hj2 : (j : Int) ≤ ((j + 1 : Nat) : Int) := by omega
          have hj3 : ((j + 1 : Nat) : Int) ≤ (s1.size : Int) := by omega
          obtain ⟨p, hp⟩ : ∃ p, s1.extract j (j + 1) = p := ⟨_, rfl⟩
          have hpl : p.data.toList = (s1.data.toList.take (j + 1)).drop j := by rw [← hp, extract_list]
          have hps : p.size ≤ 3000 := by rw [← size_l, hpl, List.length_drop, List.length_take, size_l]; omega
          obtain ⟨⟨gs, d, S'⟩, hadd⟩ : ∃ z, add S p.data.toList = z := ⟨_, rfl⟩
          have hca := (came_add hC.out hadd).1
          have hcat : s1.data.toList.take j ++ p.data.toList = s1.data.toList.take (j + 1) := by
            have h := List.take_append_drop j (s1.data.toList.take (j + 1))
            rw [List.take_take, Nat.min_eq_left (by omega)] at h
            rw [hpl]
            exact h
          rw [hcat] at hca
          have hsz2 : Hid (S.held.length + p.size ≤ 200000) := Lib.hid (by
            have h1 := hC.out.held
            have h2 := (all_held q0 (s1.data.toList.take j)).1
            rw [List.length_take, size_l] at h2
            omega)
          obtain ⟨mx, hmx⟩ : ∃ mx, max c d = mx := ⟨_, rfl⟩
          have hmxi : (if c < d then (d : Int) else (c : Int)) = (mx : Int) := by split <;> omega
          have HMXM : Hid (max (c : Int) (d : Int) = (mx : Int)) := Lib.hid (by omega)
          rw [hmx] at hca
          have hfew := all_few q0 (s1.data.toList.take (j + 1))
          rw [hca.frames, List.length_append, List.length_take, size_l] at hfew
          have HCA2 := Lib.hid hca
          have HADD := Lib.hid hadd
          have hfz : Z.length + gs.length ≤ 3000 := by omega
          clear hca hadd hcat hpl hmx hfew
          go_wp2_with fail
          refine (fadd_is bc S S' p gs d wr hFd hsz2 HADD).mono ?_
          rintro e w9 ⟨v9, n9, rfl, hE⟩
          have HO9 := Lib.hid (own_fdk hO.out hFd.out hE.out.kept)
          have HREST9 := Lib.hid (hRest.out.fdk hE.out.fd hE.out.kept (by omega) (by omega))
          have HB9 := Lib.hid (hBw.out.trans (hE.out.kept.below (g := g) (by omega) (Nat.le_trans hggz hgw.out)))
          have hgz9 : Hid (gz ≤ w9.heap.size) := Lib.hid (Nat.le_trans hgw.out hE.out.kept.size)
          obtain ⟨A9, c9, rfl, hrd9, _, hnil9⟩ := own_rdf hE.out.own hE.out.len.symm
          have HRD9 := Lib.hid hrd9
          have HNIL9 := Lib.hid hnil9
          have HN9 := Lib.hid hE.out.len
          have HF9 := Lib.hid hE.out.fd
          have hmn : m + n9 ≤ 3000 := by rw [← hZ.out, ← HN9.out]; exact hfz
          clear hE hrd9 hnil9 hO hRest hBw hgw
          go_wp2_with (at_builtin; refine wpList_append_frs rfl _ _ rfl gz _ m Z rfl HO9.out n9 c9 A9 gs rfl HN9.out HNIL9.out w9.heap.size HRD9.out ?c1 ?c2 ?_)
          case c1 => omega
          case c2 => exact hgz9.out
          intro vz w10 hown hgrow
          have HO10 := Lib.hid hown
          have HREST10 := Lib.hid (HREST9.out.grown HO9.out hgrow HBX.out HBY.out)
          have HF10 := Lib.hid (HF9.out.grown HO9.out hgrow)
          have hbg := (Below.refl g w9).grown hgrow (Nat.le_trans hggz hgz9.out) (fun j hj => Nat.le_trans hggz (HO9.out.lt j hj).1)
          have HB10 := Lib.hid (HB9.out.trans hbg)
          have hgz10 : Hid (gz ≤ w10.heap.size) := Lib.hid (Nat.le_trans hgz9.out hbg.size)
          have hZ2 : Hid ((Z ++ gs).length = m + n9) := Lib.hid (by rw [List.length_append, hZ.out, HN9.out])
          clear hown hgrow hbg HO9 HREST9 HF9 HB9
          go_wp2_with fail
          go_roundw
          case rel => exact ⟨j + 1, m + n9, mx, Z ++ gs, S', by omega, by go_num, by first | rfl | exact congrArg (Value.int .u32) HMXM.out, HCA2, hZ2, HO10, HF10, HREST10, HB10, hgz10⟩
          case measure => simp [intOf]; omega
        · have hjn : ¬ ((j : Int) < (s1.size : Int)) := by omega
          have hjs : j = s1.size := by omega
          have hcz := hC.out
          rw [hjs, ← size_l, List.take_length] at hcz
          have hZX : Z = X := hcz.frames.symm.trans HCA.out.frames
          obtain rfl : c = cx := hcz.code.symm.trans HCA.out.code
          have hhz : S.held.length = Sa.held.length := hcz.held.trans HCA.out.held.symm
          subst hZX
          obtain rfl : m = nx := by rw [← hZ.out]; exact HNX.out
          obtain ⟨Az, cz, rfl, _⟩ := own_rdf hO.out hZ.out.symm
          obtain ⟨hl, hhl⟩ : ∃ hl, Sa.held.length = hl := ⟨_, rfl⟩
          have hxb : Z.length ≤ 1000000 := by
            have := all_few q0 s1.data.toList
            rw [HCA.out.frames, size_l] at this
            omega
          have hmb : m ≤ 1000000 := by rw [← HNX.out]; exact hxb
          have HHA : Hid (∀ W : World, FdAt W ba Sa → Calls Try.prog 11 #[.pointer (some ⟨ba, 0, none⟩)] W fun e w' => e = .returned (.int .i64 (hl : Int)) ∧ W = w') := Lib.hid (fun W h => by
            rw [← hhl]; exact fheld_is ba Sa W (Lib.hid h))
          have HHB : Hid (∀ W : World, FdAt W bb Sb2 → Calls Try.prog 11 #[.pointer (some ⟨bb, 0, none⟩)] W fun e w' => e = .returned (.int .i64 (hl : Int)) ∧ W = w') := Lib.hid (fun W h => by
            rw [← hhl, ← HSB.out]; exact fheld_is bb Sb2 W (Lib.hid h))
          have HHC : Hid (∀ W : World, FdAt W bc S → Calls Try.prog 11 #[.pointer (some ⟨bc, 0, none⟩)] W fun e w' => e = .returned (.int .i64 (hl : Int)) ∧ W = w') := Lib.hid (fun W h => by
            rw [← hhl, ← hhz]; exact fheld_is bc S W (Lib.hid h))
          have RX := Lib.hid (own_reads hRest.out.rx HNX.out)
          have RY := Lib.hid (own_reads hRest.out.ry HNX.out)
          have RZ := Lib.hid (own_reads hO.out HNX.out)
          have hgr := Nat.le_trans hggz hgw.out
          have hll : ((hl : Int) == (hl : Int)) = true := by simp
          have hcc : ((c : Int) == (c : Int)) = true := by simp
          clear hcz hhz hhl hjs hlt
          go_wp2_with fail
          refine (fsame_is Ax Ay m cpx cpy Z wr HNX hmb RX RY).mono ?_
          rintro e w11 ⟨rfl, hB11⟩
          have RX2 := Lib.hid (RX.out.on hB11 hB11.size)
          have RZ2 := Lib.hid (RZ.out.on hB11 hB11.size)
          have HR2 := Lib.hid (hRest.out.below hB11)
          have HF2 := Lib.hid (hFd.out.below hB11)
          have HB11 := Lib.hid (hBw.out.trans (hB11.mono hgr))
          have hgr2 := Nat.le_trans hgr hB11.size
          clear hB11 RX RY RZ hRest hFd hBw hO
          go_wp2_with fail
          refine (fsame_is Ax Az m cpx cz Z w11 HNX hmb RX2 RZ2).mono ?_
          rintro e w12 ⟨rfl, hB12⟩
          have HR3 := Lib.hid (HR2.out.below hB12)
          have HF3 := Lib.hid (HF2.out.below hB12)
          have HB12 := Lib.hid (HB11.out.trans (hB12.mono hgr2))
          clear hB12 RX2 RZ2 HR2 HF2
          go_wp2_with fail
          refine (HHA.out _ HR3.out.fa).mono ?_
          rintro e w13 ⟨rfl, rfl⟩
          go_wp2_with fail
          refine (HHB.out _ HR3.out.fb).mono ?_
          rintro e w13 ⟨rfl, rfl⟩
          go_wp2_with fail
          refine (HHA.out _ HR3.out.fa).mono ?_
          rintro e w13 ⟨rfl, rfl⟩
          go_wp2_with fail
          refine (HHC.out _ HF3.out).mono ?_
          rintro e w13 ⟨rfl, rfl⟩
          go_wp2_with fail
          go_ret
          exact ⟨rfl, by rw [G.out]; exact HB12.out⟩

set_option maxRecDepth 100000 in
theorem lifted (os : Os) (started : os.Started) (H : Type) (enc : TypeId × Value → H) :
    ReturnsInHanded {} Try.checked os 4 .any (Rows.feedPiecesSpec.pre6 enc Try.prog Try.f4 Rows.feedPiecesRow.domain false) (Rows.feedPiecesSpec.post enc Try.prog Try.f4 false true false false) := by
  refine returnsInHanded_of_change (C := Try.checked) own started (by kernel_rfl) Try.func4
    (ChangeSpec.witness6 (enc := enc) (C := Try.checked) false ⟨#[], #[.bool false, .string ByteArray.empty, .int .i64 0], []⟩ 8 (by kernel_rfl) (by kernel_rfl) (by kernel_rfl) (by kernel_rfl)) ?_
  intro W base args ds gs before hval0 hW hcnd _
  have hval : ∀ (j : Nat) t v, Try.f4.params[j]? = some t → args[j]? = some v → Value.okWide Try.prog W .any base t v := hval0
  have hW' := hW
  obtain ⟨p, q, hA0, hV, rfl, hfz, hnd⟩ := hW
  have hA : DataW.TrodAll enc Try.prog W 0 (fun _ => true) true Try.f4.params.toList args.toList ds p := hA0
  rw [Try.params4] at hA hval
  obtain ⟨v0, vs0, d0, ds0, p0, q0, hargs, rfl, rfl, h0, r0⟩ := trodAll_cons hA
  obtain ⟨v1, vs1, d1, ds1, p1, q1, rfl, rfl, rfl, h1, r1⟩ := trodAll_cons r0
  obtain ⟨v2, vs2, d2, ds2, p2, q2, rfl, rfl, rfl, h2, r2⟩ := trodAll_cons r1
  obtain ⟨rfl, rfl, rfl⟩ := trodAll_nil r2
  obtain rfl : args = #[v0, v1, v2] := by cases args; simp_all
  obtain ⟨rfl, rfl⟩ := trodVars_none hV
  have k0 := h0
  have lt0 : ∀ x ∈ p0, x.block < W.heap.size := by obtain ⟨m, hm⟩ := k0; exact DataW.trod_lt m _ _ _ hm
  obtain ⟨q0, rfl⟩ := okWide_bool Try.underlying4 (hval 0 4 v0 rfl rfl)
  obtain ⟨s1, rfl, rfl, rfl, ws1⟩ := open_string Try.underlying9 (hval 1 9 v1 rfl rfl) h1
  obtain ⟨z2, rfl, rfl, rfl, wf2⟩ := open_int Try.underlying3 (hval 2 3 v2 rfl rfl) h2
  have bd2 := bounds_i64 wf2
  clear hA0 hval0
  refine (walk q0 s1 z2 W ws1 bd2.1 bd2.2).mono fun e W' ⟨he, bel⟩ => ?_
  subst he
  exact ⟨_, rfl, _, _, _, [], _, [], hW', trodAll_mk1 (shut_bool Try.underlying4 _), (trodAll_cons_mk (Below.trod laidOut (by kernel_rfl) (of_decide_eq_true (by kernel_rfl)) k0 bel lt0) (trodAll_cons_mk (shut_string Try.underlying9 ws1) (trodAll_cons_mk (shut_int Try.underlying3 wf2) trodAll_mk0))), rfl, bel.frame _, fun h => by cases h⟩

theorem over : Rows.feedPiecesRow.holds Try.pinned (OpenSpec.ofChange Rows.feedPiecesSpec) :=
  OpenClaim.holds_of_wide 4 Try.f4 rfl rfl rfl rfl rfl rfl rfl ⟨rfl, rfl, rfl, rfl, rfl⟩ rfl rfl rfl rfl rfl (by kernel_rfl) Try.func4 (by kernel_rfl)
    (of_decide_eq_true (by kernel_rfl)) (by unfold Func.isWrapper; first | (rw [if_pos (by decide +kernel)]; kernel_rfl) | (rw [if_neg (by decide +kernel)]; exact ⟨rfl, rfl⟩))
    (fun os started H enc _ => lifted os started H enc)

theorem proved : Rows.FeedPiecesSaid := over
#print axioms proved
end Go.Proofs.Ytekcipmhljhelaa.feedPieces
