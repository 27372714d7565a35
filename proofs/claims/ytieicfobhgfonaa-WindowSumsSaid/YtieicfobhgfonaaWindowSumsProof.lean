import Derived.Test.YtieicfobhgfonaaRows
import Derived.Test.YtieicfobhgfonaaProg
import Derived.Test.YtieicfobhgfonaaWiMath
import Derived.Test.YtieicfobhgfonaaWiCame
import Derived.Test.YtieicfobhgfonaaWiSums
import Derived.Test.YtieicfobhgfonaaWiBox
import Derived.Test.YtieicfobhgfonaaWiCode
import Derived.Test.YtieicfobhgfonaaWiAwake
import Derived.LoopTactic
import Derived.Deep.CutRange
import Derived.Deep.CutBlock
import Derived.Lib.Hide
import Derived.Outline
import Derived.IntWalk
import Derived.WalkSpells
import Derived.WalkLawsBesides
import Derived.Laws.Rows
import Derived.WalkKit
import Derived.ProofKit
import Derived.OpenShut
import Derived.ShutString
import Derived.ChangeOld
import Derived.Below
namespace Go.Proofs.Ytieicfobhgfonaa.windowSums
open Go Go.ChangeShapes Go.WideShapes Go.ChangeAt Go.RowKit Wi
open Go.ChangeMaps (open_string shut_string)
set_option linter.unusedVariables false

theorem own : ownKnob Try.prog.godebug = none := by kernel_rfl
theorem laidOut : laidOutB Try.prog = true := by kernel_rfl

set_option maxHeartbeats 8000000 in
set_option maxRecDepth 100000 in
theorem walk (m0 : Nat) (a1 : Option Addr) (len1 cap1 : Nat) (L1 : List Ac) (w : World) (hm0 : m0 ≤ 4294967295) (hl1 : len1 ≤ maxLen) (hL1 : L1.length = len1) (hR1 : RdA w w.heap.size a1 L1) :
    Calls Try.prog 4 #[.int .u32 (m0 : Int), .slice a1 len1 cap1] w fun e w' => e = .returned (.bool true) ∧ Below w.heap.size w w' := by
  have HL := Lib.hid hL1
  have HR := Lib.hid hR1
  clear hL1 hR1
  go_enter Try.func4, Try.ntmps4
  go_wp2_with fail
  refine (wawake_is w).mono ?_
  rintro e w1 ⟨rfl, hB1⟩
  have HB1 := Lib.hid hB1
  clear hB1
  by_cases h1 : (200 : Int) < (len1 : Int)
  · go_wp2_with fail
    go_ret
    exact ⟨rfl, HB1.out⟩
  have h1d : decide ((200 : Int) < (len1 : Int)) = false := decide_eq_false h1
  by_cases h2 : m0 = 0
  · have h2i : ((m0 : Int) == 0) = true := by rw [h2]; rfl
    clear h2
    go_wp2_with fail
    go_ret
    exact ⟨rfl, HB1.out⟩
  have h2i : ((m0 : Int) == 0) = false := beq_eq_false_iff_ne.2 (by omega)
  have HM := Lib.hid h2
  clear h2
  obtain ⟨g, hg⟩ : ∃ g, w.heap.size = g := ⟨_, rfl⟩
  have G := Lib.hid hg
  have HB1g : Hid (Below g w w1) := Lib.hid (by rw [← hg]; exact HB1.out)
  have HRg : Hid (RdA w g a1 L1) := Lib.hid (by rw [← hg]; exact HR.out)
  have hg1 : Hid (g ≤ w1.heap.size) := Lib.hid (by rw [← hg]; exact HB1.out.size)
  clear hg HB1 HR
  go_wp2_with fail
  refine (wnew_is _).mono ?_
  rintro e w2 ⟨b, rfl, hb, hN, hB2, _⟩
  have HN2 : Hid (BkAt w2 g b newB) := Lib.hid (hN.out.lower hg1.out)
  have HB2 := Lib.hid (HB1g.out.trans (hB2.mono hg1.out))
  clear hN hB2 HB1g
  go_wp2_with fail
  refine (wopen_is g b 0 newB m0 w2 HN2 (Lib.hid inv_new) ⟨by decide, by decide⟩ (by omega)).mono ?_
  rintro e w3 ⟨rfl, hF, hK⟩
  have HB3 := Lib.hid (HB2.out.trans (hK.out.below HN2.out))
  clear hK HB2 HN2 hg1
  go_wp2_with fail
  go_loopw [6, 7, 8, 9, 10, 11, 12, 13, 14, 15] (fun l a f t o i _ _ _ _ wr => ∃ (k : Nat) (B : Bk) (L A F T O : Int), k ≤ len1 ∧ i = .int .i64 (k : Int) ∧ l = .int .i64 L ∧ a = .int .i64 A ∧ f = .int .i64 F ∧ t = .int .i64 T ∧ o = .int .i64 O ∧ Hid (Sm (65535 + k * 4294967296) m0 B L A F T O) ∧ Hid (Inv (k * 2147483647) B) ∧ Hid (BkAt wr g b B) ∧ Hid (Below g w wr)) (fun _ _ _ _ _ i _ _ _ _ _ => len1 - (intOf i).toNat)
  case atStart => exact ⟨0, openB newB m0, 65535, 65535, 65535, 0, 0, Nat.zero_le _, rfl, rfl, rfl, rfl, rfl, rfl, Lib.hid ((sm_new m0).more (by omega)), Lib.hid ((inv_new.openB (by decide) m0).more (by omega)), hF, HB3⟩
  case round =>
    obtain ⟨k, B, L, A, F, T, O, hk, rfl, rfl, rfl, rfl, rfl, rfl, hS, hI, hBk, hBw⟩ := hrel
    by_cases hlt : k < len1
    · have hki : (k : Int) < (len1 : Int) := by omega
      have hk0 : (0 : Int) ≤ (k : Int) := by omega
      obtain ⟨b0, off, rfl, hb0, hc4, hoka⟩ := HRg.out k (by rw [HL.out]; exact hlt)
      obtain ⟨x, hx⟩ : ∃ x, acAt L1 k = x := ⟨_, rfl⟩
      rw [hx] at hc4 hoka
      have hcw := (show w.cell? ⟨b0, off + k * 4, none⟩ = some (.int .i64 x.kind) ∧ w.cell? ⟨b0, off + k * 4 + 1, none⟩ = some (.int .u32 (x.id : Int)) ∧ w.cell? ⟨b0, off + k * 4 + 2, none⟩ = some (.int .u32 (x.n : Int)) ∧ w.cell? ⟨b0, off + k * 4 + 3, none⟩ = some (.int .i64 x.want) from hc4)
      have d0 := (hBw.out.cell (p := ⟨b0, off + k * 4, none⟩) hb0).trans hcw.1
      have d1 := (hBw.out.cell (p := ⟨b0, off + k * 4 + 1, none⟩) hb0).trans hcw.2.1
      have d2 := (hBw.out.cell (p := ⟨b0, off + k * 4 + 2, none⟩) hb0).trans hcw.2.2.1
      have d3 := (hBw.out.cell (p := ⟨b0, off + k * 4 + 3, none⟩) hb0).trans hcw.2.2.2
      have HOK := Lib.hid hoka
      have HB0 := Lib.hid hb0
      clear hx hc4 hoka hcw hb0
      go_upto_region 14 with fail
      obtain ⟨hX, hBX, hsz⟩ := boxA_new wr x
      obtain ⟨w4, hw4⟩ : ∃ w4, wr.alloc (.cells #[.int .i64 x.kind, .int .u32 (x.id : Int), .int .u32 (x.n : Int), .int .i64 x.want] 34) = w4 := ⟨_, rfl⟩
      rw [hw4] at hX hBX hsz ⊢
      obtain ⟨X, hXX⟩ : ∃ X, wr.heap.size = X := ⟨_, rfl⟩
      have HK4 := Lib.hid (hBk.out.below hBX)
      have hbl := hBk.out.lt
      have HB4 := Lib.hid (hBw.out.trans (hBX.mono (by have := hBk.out.gb; omega)))
      rw [hXX] at hX hsz hbl ⊢
      have hXb : X ≠ b := by omega
      have HX4 := Lib.hid hX
      clear hw4 hXX hX hBX hsz hbl hBk hBw d0 d1 d2 d3
      obtain ⟨x0, x1, x2, x3⟩ := HX4.out.cells
      obtain ⟨kd, j, n, wa⟩ := x
      have x0 : w4.cell? ⟨X, 0, none⟩ = some (.int .i64 kd) := x0
      have x1 : w4.cell? ⟨X, 1, none⟩ = some (.int .u32 (j : Int)) := x1
      have x2 : w4.cell? ⟨X, 2, none⟩ = some (.int .u32 (n : Int)) := x2
      have x3 : w4.cell? ⟨X, 3, none⟩ = some (.int .i64 wa) := x3
      have hj : j < 4294967296 := HOK.out.i
      have hn : n < 4294967296 := HOK.out.n
      have hwa : -9223372036854775808 ≤ wa ∧ wa ≤ 9223372036854775807 := ⟨HOK.out.w0, HOK.out.w1⟩
      have hbd := hS.out.bound
      have hK0 : (0 : Int) ≤ (k : Int) * 2147483647 ∧ (k : Int) * 2147483647 ≤ 1000000000000 := by omega
      by_cases ej : j = m0
      · subst j
        go_upto_block 2 with fail
        go_cut [6, 7, 8, 9, 10, 13] from 41 to 147 (fun l a f t o _ wx => ∃ (B' : Bk) (L' A' F' T' O' : Int), l = .int .i64 L' ∧ a = .int .i64 A' ∧ f = .int .i64 F' ∧ t = .int .i64 T' ∧ o = .int .i64 O' ∧ Hid (Sm (65535 + (k + 1) * 4294967296) m0 B' L' A' F' T' O') ∧ Hid (Inv ((k + 1) * 2147483647) B') ∧ Hid (BkAt wx g b B') ∧ Hid (Below g w wx))
        case first =>
          by_cases e0 : kd = 0
          · subst e0
            have HSX : Hid (Sm (65535 + (k + 1) * 4294967296) m0 (B) (L) (A) (F) (T) (O)) := Lib.hid (hS.out.more (by omega))
            have HIX : Hid (Inv ((k + 1) * 2147483647) (B)) := Lib.hid (hI.out.more (by omega))
            go_wp2_with fail
            go_meet
            exact ⟨(B), L, A, F, T, O, rfl, rfl, rfl, rfl, rfl, Lib.hid (HSX.out.more (by omega)), Lib.hid (HIX.out.more (by omega)), HK4, HB4⟩
          have f0 : (kd == 0) = false := beq_eq_false_iff_ne.2 e0
          by_cases e1 : kd = 1
          · subst e1
            have HSX : Hid (Sm (65535 + (k + 1) * 4294967296) m0 (B) (L) (A) (F) (T) (O)) := Lib.hid (hS.out.more (by omega))
            have HIX : Hid (Inv ((k + 1) * 2147483647) (B)) := Lib.hid (hI.out.more (by omega))
            go_wp2_with fail
            go_meet
            exact ⟨(B), L, A, F, T, O, rfl, rfl, rfl, rfl, rfl, Lib.hid (HSX.out.more (by omega)), Lib.hid (HIX.out.more (by omega)), HK4, HB4⟩
          have f1 : (kd == 1) = false := beq_eq_false_iff_ne.2 e1
          by_cases e2 : kd = 2
          · subst e2
            obtain ⟨⟨B', c⟩, hr⟩ : ∃ z, growB B m0 n = z := ⟨_, rfl⟩
            have hI' := hI.out.grow m0 n
            rw [hr] at hI'
            have hI' : Inv (k * 2147483647) B' := hI'
            have HI' := Lib.hid hI'
            have HR2 := Lib.hid hr
            clear hI' hr
            have hgr := hS.out.grown HR2.out hn HM.out
            go_wp2_with fail
            refine (wgrow_is g b _ B B' m0 n c w4 HK4 hI hK0 hj hn HR2).mono ?_
            rintro e w5 ⟨rfl, hF, hK⟩
            have HB5 := Lib.hid (HB4.out.trans (hK.out.below HK4.out))
            have HX5 := Lib.hid (hK.out.box HK4.out HX4.out hXb)
            have HXX : Hid (BoxA w5 X ⟨2, m0, n, wa⟩) := Lib.hid (HX5.out.trans HX4.out)
            clear hK HX5 x0 x1 x2 x3
            obtain ⟨x0, x1, x2, x3⟩ := HXX.out.cells
            have x1 : w5.cell? ⟨X, 1, none⟩ = some (.int .u32 (m0 : Int)) := x1
            have x2 : w5.cell? ⟨X, 2, none⟩ = some (.int .u32 (n : Int)) := x2
            rcases hgr with ⟨hc, hs⟩ | ⟨hc, _, ez, hs⟩ | ⟨hc, ej, ez, hs⟩ | ⟨hc, ej, ez, hs⟩
            · have hcb : ((c : Int) == 0) = false := beq_eq_false_iff_ne.2 (by omega)
              have HS := Lib.hid (hs.more (N := 65535 + (k + 1) * 4294967296) (by omega))
              clear hs
              have HIX : Hid (Inv ((k + 1) * 2147483647) (B')) := Lib.hid (HI'.out.more (by omega))
              go_wp2_with fail
              go_meet
              exact ⟨(B'), L, A, F, T, O, rfl, rfl, rfl, rfl, rfl, Lib.hid (HS.out.more (by omega)), Lib.hid (HIX.out.more (by omega)), hF, HB5⟩
            · subst hc
              have q2 : ((m0 : Int) == 0) = false := beq_eq_false_iff_ne.2 (by omega)
              have hwn : IntKind.i64.wrap (L + (n : Int)) = L + n := by rw [IntKind.wrap_i64]; omega
              have HS := Lib.hid (hs.more (N := 65535 + (k + 1) * 4294967296) (by omega))
              clear hs
              have HIX : Hid (Inv ((k + 1) * 2147483647) (B')) := Lib.hid (HI'.out.more (by omega))
              go_wp2_with fail
              go_meet
              exact ⟨(B'), L + n, A, F, T, O, rfl, rfl, rfl, rfl, rfl, Lib.hid (HS.out.more (by omega)), Lib.hid (HIX.out.more (by omega)), hF, HB5⟩
            · exact absurd rfl ej
            · exact absurd rfl ej
          have f2 : (kd == 2) = false := beq_eq_false_iff_ne.2 e2
          by_cases e3 : kd = 3
          · subst e3
            obtain ⟨⟨B', c⟩, hr⟩ : ∃ z, initB B n = z := ⟨_, rfl⟩
            have hI' := hI.out.init n
            rw [hr] at hI'
            have hI' : Inv (k * 2147483647 + 2147483647) B' := hI'
            have HI' := Lib.hid (hI'.more (L := (k + 1) * 2147483647) (by omega))
            have HR2 := Lib.hid hr
            clear hI' hr
            have hgr := hS.out.inited hI.out HR2.out
            have hF0 := hI.out.f0
            have hF1 := hI.out.f1
            have hFF := hS.out.first
            unfold mostW at hF1
            rw [hFF] at hF0 hF1
            clear hFF
            go_wp2_with fail
            refine (winit_is g b _ B B' n c w4 HK4 hI hK0 hn HR2).mono ?_
            rintro e w5 ⟨rfl, hF, hK⟩
            have HB5 := Lib.hid (HB4.out.trans (hK.out.below HK4.out))
            have HX5 := Lib.hid (hK.out.box HK4.out HX4.out hXb)
            have HXX : Hid (BoxA w5 X ⟨3, m0, n, wa⟩) := Lib.hid (HX5.out.trans HX4.out)
            clear hK HX5 x0 x1 x2 x3
            obtain ⟨x0, x1, x2, x3⟩ := HXX.out.cells
            have x2 : w5.cell? ⟨X, 2, none⟩ = some (.int .u32 (n : Int)) := x2
            rcases hgr with ⟨hc, hs⟩ | ⟨hc, hs⟩
            · have hcb : ((c : Int) == 0) = false := beq_eq_false_iff_ne.2 (by omega)
              have HS := Lib.hid (hs.more (N := 65535 + (k + 1) * 4294967296) (by omega))
              clear hs
              go_wp2_with fail
              go_meet
              exact ⟨(B'), L, A, F, T, O, rfl, rfl, rfl, rfl, rfl, Lib.hid (HS.out.more (by omega)), Lib.hid (HI'.out.more (by omega)), hF, HB5⟩
            · subst hc
              have hwn : IntKind.i64.wrap (L + (n : Int)) = L + n := by rw [IntKind.wrap_i64]; omega
              have hwm : IntKind.i64.wrap (L + (n : Int) - F) = L + n - F := by rw [IntKind.wrap_i64]; omega
              have HS := Lib.hid (hs.more (N := 65535 + (k + 1) * 4294967296) (by omega))
              clear hs
              go_wp2_with fail
              go_meet
              exact ⟨(B'), L + n - F, A, n, T, O, rfl, rfl, rfl, rfl, rfl, Lib.hid (HS.out.more (by omega)), Lib.hid (HI'.out.more (by omega)), hF, HB5⟩
          have f3 : (kd == 3) = false := beq_eq_false_iff_ne.2 e3
          by_cases e4 : kd = 4
          · subst e4
            obtain ⟨⟨B', tk⟩, hr⟩ : ∃ z, takeB B m0 wa = z := ⟨_, rfl⟩
            have hI' := hI.out.take hK0.1 m0 wa
            rw [hr] at hI'
            have hI' : Inv (k * 2147483647) B' := hI'
            have HI' := Lib.hid (hI'.more (L := (k + 1) * 2147483647) (by omega))
            have HR2 := Lib.hid hr
            clear hI' hr
            have hnn := take_nn HR2.out
            have hgr := hS.out.took hI.out HR2.out
            have t0 : ¬ tk < 0 := by omega
            have t0d : decide (tk < 0) = false := decide_eq_false t0
            go_wp2_with fail
            refine (wtake_is g b _ B B' m0 wa tk w4 HK4 hI hK0 hj hwa HR2).mono ?_
            rintro e w5 ⟨rfl, hF, hK⟩
            have HB5 := Lib.hid (HB4.out.trans (hK.out.below HK4.out))
            have HX5 := Lib.hid (hK.out.box HK4.out HX4.out hXb)
            have HXX : Hid (BoxA w5 X ⟨4, m0, n, wa⟩) := Lib.hid (HX5.out.trans HX4.out)
            clear hK HX5 x0 x1 x2 x3
            obtain ⟨x0, x1, x2, x3⟩ := HXX.out.cells
            have x1 : w5.cell? ⟨X, 1, none⟩ = some (.int .u32 (m0 : Int)) := x1
            have x3 : w5.cell? ⟨X, 3, none⟩ = some (.int .i64 wa) := x3
            have HS : Hid (∃ T2, (m0 = m0 → T2 = T + tk) ∧ (m0 ≠ m0 → T2 = T) ∧ Sm (65535 + (k + 1) * 4294967296) m0 B' L A F T2 (O + tk) ∧ (m0 = m0 → 0 < tk → T2 ≤ L)) := Lib.hid (by
              rcases hgr with ⟨e1, h1, h2⟩ | ⟨e1, h1⟩
              · exact ⟨T + tk, fun _ => rfl, fun e => absurd rfl e, h1.more (by omega), fun _ => h2⟩
              · exact ⟨T, fun e => absurd e e1, fun _ => rfl, h1.more (by omega), fun e => absurd e e1⟩)
            obtain ⟨T2, g1, g2, hs2, g3⟩ := HS.out
            have hmo := hs2.most HI'.out
            have hb2 := hs2.bound
            have HS2 := Lib.hid hs2
            have hwO : IntKind.i64.wrap (O + tk) = O + tk := by rw [IntKind.wrap_i64]; omega
            have hout : ¬ A < O + tk := by omega
            have houtd : decide (A < O + tk) = false := decide_eq_false hout
            clear HS hs2 hb2 hgr
            have hT2 := g1 rfl
            have hwT : IntKind.i64.wrap (T + tk) = T2 := by have hb2 := HS2.out.bound; rw [IntKind.wrap_i64]; omega
            clear g1 g2
            by_cases ht : 0 < tk
            · have p1 : (0 : Int) < tk := ht
              have p2 : ¬ wa < tk := by have := hnn.2 ht; omega
              have p2d : decide (wa < tk) = false := decide_eq_false p2
              have p3 : ¬ L < T2 := by have := g3 rfl ht; omega
              have p3d : decide (L < T2) = false := decide_eq_false p3
              clear hT2 g3 hnn hmo
              go_wp2_with fail
              go_meet
              exact ⟨B', L, A, F, T2, O + tk, rfl, rfl, rfl, rfl, rfl, Lib.hid (HS2.out.more (by omega)), Lib.hid (HI'.out.more (by omega)), hF, HB5⟩
            · have p1 : ¬ (0 : Int) < tk := ht
              have p1d : decide ((0 : Int) < tk) = false := decide_eq_false p1
              clear hT2 g3 hnn hmo
              go_wp2_with fail
              go_meet
              exact ⟨B', L, A, F, T2, O + tk, rfl, rfl, rfl, rfl, rfl, Lib.hid (HS2.out.more (by omega)), Lib.hid (HI'.out.more (by omega)), hF, HB5⟩
          have f4 : (kd == 4) = false := beq_eq_false_iff_ne.2 e4
          have HSX : Hid (Sm (65535 + (k + 1) * 4294967296) m0 (B) (L) (A) (F) (T) (O)) := Lib.hid (hS.out.more (by omega))
          have HIX : Hid (Inv ((k + 1) * 2147483647) (B)) := Lib.hid (hI.out.more (by omega))
          go_wp2_with fail
          go_meet
          exact ⟨(B), L, A, F, T, O, rfl, rfl, rfl, rfl, rfl, Lib.hid (HSX.out.more (by omega)), Lib.hid (HIX.out.more (by omega)), HK4, HB4⟩
        case rest =>
          obtain ⟨B', L', A', F', T', O', rfl, rfl, rfl, rfl, rfl, HS', HI', HK', HB'⟩ := hcut
          generalize wc = w5 at *
          clear hS hI HK4 HB4 HX4 x0 x1 x2 x3 hbd
          have hOF := (HS'.out).of
          have hCN := (HS'.out).conn
          have hFS := (HS'.out).first
          obtain ⟨q1, q2, q3⟩ := (HS'.out).most HI'.out
          have hbb := (HS'.out).bound
          obtain ⟨D, hD⟩ : ∃ D, (L') - (T') = D := ⟨_, rfl⟩
          obtain ⟨E, hE⟩ : ∃ E, (A') - (O') = E := ⟨_, rfl⟩
          rw [hD] at hOF q1
          rw [hE] at hCN q2 q3
          have hwD : IntKind.i64.wrap ((L') - (T')) = D := by rw [IntKind.wrap_i64]; omega
          have hwE : IntKind.i64.wrap ((A') - (O')) = E := by rw [IntKind.wrap_i64]; omega
          have HCO : Hid (∀ W : World, BkAt W g b B' → Calls Try.prog 17 #[.pointer (some ⟨b, 0, none⟩)] W fun e w' => e = .returned (.int .i64 E) ∧ W = w') := Lib.hid (fun W h => by rw [← hCN]; exact wconn_is g b _ W (Lib.hid h))
          have HOF := Lib.hid hOF
          have nDD : (D != D) = false := by simp
          have nEE : (E != E) = false := by simp
          have n1 : ¬ (2147483647 : Int) < D := by omega
          have n1d : decide ((2147483647 : Int) < D) = false := decide_eq_false n1
          have n2 : ¬ (2147483647 : Int) < E := by omega
          have n2d : decide ((2147483647 : Int) < E) = false := decide_eq_false n2
          have n3 : ¬ E < 0 := by omega
          have n3d : decide (E < 0) = false := decide_eq_false n3
          clear hOF hCN hFS hbb hD hE q1 q2 q3
          go_wp2_with fail
          refine (wof_is g b _ m0 w5 (some D) HK' (by omega) HOF).mono ?_
          rintro e w6 ⟨rfl, hB6⟩
          have HK6 := Lib.hid (HK'.out.below hB6)
          have HB6 := Lib.hid (HB'.out.trans (hB6.mono (by have := HK'.out.gb; have := HK'.out.lt; omega)))
          clear hB6
          go_wp2_with fail
          refine (HCO.out _ HK6.out).mono ?_
          rintro e w7 ⟨rfl, rfl⟩
          go_wp2_with fail
          refine (HCO.out _ HK6.out).mono ?_
          rintro e w7 ⟨rfl, rfl⟩
          go_wp2_with fail
          refine (HCO.out _ HK6.out).mono ?_
          rintro e w7 ⟨rfl, rfl⟩
          go_wp2_with fail
          go_roundw
          case rel => exact ⟨k + 1, _, _, _, _, _, _, by omega, by go_num, rfl, rfl, rfl, rfl, rfl, Lib.hid ((HS'.out).more (by omega)), Lib.hid ((HI'.out).more (by omega)), HK6, HB6⟩
          case measure => simp [intOf]; omega
      · go_upto_block 2 with fail
        go_cut [6, 7, 8, 9, 10, 13] from 41 to 147 (fun l a f t o _ wx => ∃ (B' : Bk) (L' A' F' T' O' : Int), l = .int .i64 L' ∧ a = .int .i64 A' ∧ f = .int .i64 F' ∧ t = .int .i64 T' ∧ o = .int .i64 O' ∧ Hid (Sm (65535 + (k + 1) * 4294967296) m0 B' L' A' F' T' O') ∧ Hid (Inv ((k + 1) * 2147483647) B') ∧ Hid (BkAt wx g b B') ∧ Hid (Below g w wx))
        case first =>
          by_cases e0 : kd = 0
          · subst e0
            have hne : ((j : Int) != (m0 : Int)) = true := bne_iff_ne.2 (by omega)
            go_wp2_with fail
            refine (wopen_is g b _ B j w4 HK4 hI hK0 hj).mono ?_
            rintro e w5 ⟨rfl, hF, hK⟩
            have HB5 := Lib.hid (HB4.out.trans (hK.out.below HK4.out))
            have HSX : Hid (Sm (65535 + (k + 1) * 4294967296) m0 (openB B j) (L) (A) (F) (T) (O)) := Lib.hid ((hS.out.opened ej).more (by omega))
            have HIX : Hid (Inv ((k + 1) * 2147483647) (openB B j)) := Lib.hid ((hI.out.openB hK0.1 j).more (by omega))
            go_wp2_with fail
            go_meet
            exact ⟨(openB B j), L, A, F, T, O, rfl, rfl, rfl, rfl, rfl, Lib.hid (HSX.out.more (by omega)), Lib.hid (HIX.out.more (by omega)), hF, HB5⟩
          have f0 : (kd == 0) = false := beq_eq_false_iff_ne.2 e0
          by_cases e1 : kd = 1
          · subst e1
            have hne : ((j : Int) != (m0 : Int)) = true := bne_iff_ne.2 (by omega)
            go_wp2_with fail
            refine (wdrop_is g b _ B j w4 HK4 hI hj).mono ?_
            rintro e w5 ⟨rfl, hF, hK⟩
            have HB5 := Lib.hid (HB4.out.trans (hK.out.below HK4.out))
            have HSX : Hid (Sm (65535 + (k + 1) * 4294967296) m0 (dropB B j) (L) (A) (F) (T) (O)) := Lib.hid ((hS.out.dropped ej).more (by omega))
            have HIX : Hid (Inv ((k + 1) * 2147483647) (dropB B j)) := Lib.hid ((hI.out.drop j).more (by omega))
            go_wp2_with fail
            go_meet
            exact ⟨(dropB B j), L, A, F, T, O, rfl, rfl, rfl, rfl, rfl, Lib.hid (HSX.out.more (by omega)), Lib.hid (HIX.out.more (by omega)), hF, HB5⟩
          have f1 : (kd == 1) = false := beq_eq_false_iff_ne.2 e1
          by_cases e2 : kd = 2
          · subst e2
            obtain ⟨⟨B', c⟩, hr⟩ : ∃ z, growB B j n = z := ⟨_, rfl⟩
            have hI' := hI.out.grow j n
            rw [hr] at hI'
            have hI' : Inv (k * 2147483647) B' := hI'
            have HI' := Lib.hid hI'
            have HR2 := Lib.hid hr
            clear hI' hr
            have hgr := hS.out.grown HR2.out hn HM.out
            go_wp2_with fail
            refine (wgrow_is g b _ B B' j n c w4 HK4 hI hK0 hj hn HR2).mono ?_
            rintro e w5 ⟨rfl, hF, hK⟩
            have HB5 := Lib.hid (HB4.out.trans (hK.out.below HK4.out))
            have HX5 := Lib.hid (hK.out.box HK4.out HX4.out hXb)
            have HXX : Hid (BoxA w5 X ⟨2, j, n, wa⟩) := Lib.hid (HX5.out.trans HX4.out)
            clear hK HX5 x0 x1 x2 x3
            obtain ⟨x0, x1, x2, x3⟩ := HXX.out.cells
            have x1 : w5.cell? ⟨X, 1, none⟩ = some (.int .u32 (j : Int)) := x1
            have x2 : w5.cell? ⟨X, 2, none⟩ = some (.int .u32 (n : Int)) := x2
            rcases hgr with ⟨hc, hs⟩ | ⟨hc, e9, ez, hs⟩ | ⟨hc, _, ez, hs⟩ | ⟨hc, _, ez, hs⟩
            · have hcb : ((c : Int) == 0) = false := beq_eq_false_iff_ne.2 (by omega)
              have HS := Lib.hid (hs.more (N := 65535 + (k + 1) * 4294967296) (by omega))
              clear hs
              have HIX : Hid (Inv ((k + 1) * 2147483647) (B')) := Lib.hid (HI'.out.more (by omega))
              go_wp2_with fail
              go_meet
              exact ⟨(B'), L, A, F, T, O, rfl, rfl, rfl, rfl, rfl, Lib.hid (HS.out.more (by omega)), Lib.hid (HIX.out.more (by omega)), hF, HB5⟩
            · exact absurd e9 ej
            · subst hc
              have q1 : ((j : Int) == (m0 : Int)) = false := beq_eq_false_iff_ne.2 (by omega)
              obtain ⟨qz, hqz⟩ : ∃ q, ((j : Int) == 0) = q := ⟨_, rfl⟩
              have HQ : Hid (qz = true) := Lib.hid (by rw [← hqz]; exact beq_iff_eq.2 (by omega))
              clear ez
              have hwn : IntKind.i64.wrap (A + (n : Int)) = A + n := by rw [IntKind.wrap_i64]; omega
              have HS := Lib.hid (hs.more (N := 65535 + (k + 1) * 4294967296) (by omega))
              clear hs
              have HIX : Hid (Inv ((k + 1) * 2147483647) (B')) := Lib.hid (HI'.out.more (by omega))
              go_wp2_with fail
              all_goals first
                | exact absurd HQ.out (by decide)
                | exact absurd HQ.out ‹¬ qz = true›
                | exact absurd (HQ.out.symm.trans ‹qz = false›) (by decide)
                | (go_meet; exact ⟨(B'), L, A + n, F, T, O, rfl, rfl, rfl, rfl, rfl, Lib.hid (HS.out.more (by omega)), Lib.hid (HIX.out.more (by omega)), hF, HB5⟩)
            · subst hc
              have q1 : ((j : Int) == (m0 : Int)) = false := beq_eq_false_iff_ne.2 (by omega)
              have q2 : ((j : Int) == 0) = false := beq_eq_false_iff_ne.2 (by omega)
              have HS := Lib.hid (hs.more (N := 65535 + (k + 1) * 4294967296) (by omega))
              clear hs
              have HIX : Hid (Inv ((k + 1) * 2147483647) (B')) := Lib.hid (HI'.out.more (by omega))
              go_wp2_with fail
              go_meet
              exact ⟨(B'), L, A, F, T, O, rfl, rfl, rfl, rfl, rfl, Lib.hid (HS.out.more (by omega)), Lib.hid (HIX.out.more (by omega)), hF, HB5⟩
          have f2 : (kd == 2) = false := beq_eq_false_iff_ne.2 e2
          by_cases e3 : kd = 3
          · subst e3
            obtain ⟨⟨B', c⟩, hr⟩ : ∃ z, initB B n = z := ⟨_, rfl⟩
            have hI' := hI.out.init n
            rw [hr] at hI'
            have hI' : Inv (k * 2147483647 + 2147483647) B' := hI'
            have HI' := Lib.hid (hI'.more (L := (k + 1) * 2147483647) (by omega))
            have HR2 := Lib.hid hr
            clear hI' hr
            have hgr := hS.out.inited hI.out HR2.out
            have hF0 := hI.out.f0
            have hF1 := hI.out.f1
            have hFF := hS.out.first
            unfold mostW at hF1
            rw [hFF] at hF0 hF1
            clear hFF
            go_wp2_with fail
            refine (winit_is g b _ B B' n c w4 HK4 hI hK0 hn HR2).mono ?_
            rintro e w5 ⟨rfl, hF, hK⟩
            have HB5 := Lib.hid (HB4.out.trans (hK.out.below HK4.out))
            have HX5 := Lib.hid (hK.out.box HK4.out HX4.out hXb)
            have HXX : Hid (BoxA w5 X ⟨3, j, n, wa⟩) := Lib.hid (HX5.out.trans HX4.out)
            clear hK HX5 x0 x1 x2 x3
            obtain ⟨x0, x1, x2, x3⟩ := HXX.out.cells
            have x2 : w5.cell? ⟨X, 2, none⟩ = some (.int .u32 (n : Int)) := x2
            rcases hgr with ⟨hc, hs⟩ | ⟨hc, hs⟩
            · have hcb : ((c : Int) == 0) = false := beq_eq_false_iff_ne.2 (by omega)
              have HS := Lib.hid (hs.more (N := 65535 + (k + 1) * 4294967296) (by omega))
              clear hs
              go_wp2_with fail
              go_meet
              exact ⟨(B'), L, A, F, T, O, rfl, rfl, rfl, rfl, rfl, Lib.hid (HS.out.more (by omega)), Lib.hid (HI'.out.more (by omega)), hF, HB5⟩
            · subst hc
              have hwn : IntKind.i64.wrap (L + (n : Int)) = L + n := by rw [IntKind.wrap_i64]; omega
              have hwm : IntKind.i64.wrap (L + (n : Int) - F) = L + n - F := by rw [IntKind.wrap_i64]; omega
              have HS := Lib.hid (hs.more (N := 65535 + (k + 1) * 4294967296) (by omega))
              clear hs
              go_wp2_with fail
              go_meet
              exact ⟨(B'), L + n - F, A, n, T, O, rfl, rfl, rfl, rfl, rfl, Lib.hid (HS.out.more (by omega)), Lib.hid (HI'.out.more (by omega)), hF, HB5⟩
          have f3 : (kd == 3) = false := beq_eq_false_iff_ne.2 e3
          by_cases e4 : kd = 4
          · subst e4
            obtain ⟨⟨B', tk⟩, hr⟩ : ∃ z, takeB B j wa = z := ⟨_, rfl⟩
            have hI' := hI.out.take hK0.1 j wa
            rw [hr] at hI'
            have hI' : Inv (k * 2147483647) B' := hI'
            have HI' := Lib.hid (hI'.more (L := (k + 1) * 2147483647) (by omega))
            have HR2 := Lib.hid hr
            clear hI' hr
            have hnn := take_nn HR2.out
            have hgr := hS.out.took hI.out HR2.out
            have t0 : ¬ tk < 0 := by omega
            have t0d : decide (tk < 0) = false := decide_eq_false t0
            go_wp2_with fail
            refine (wtake_is g b _ B B' j wa tk w4 HK4 hI hK0 hj hwa HR2).mono ?_
            rintro e w5 ⟨rfl, hF, hK⟩
            have HB5 := Lib.hid (HB4.out.trans (hK.out.below HK4.out))
            have HX5 := Lib.hid (hK.out.box HK4.out HX4.out hXb)
            have HXX : Hid (BoxA w5 X ⟨4, j, n, wa⟩) := Lib.hid (HX5.out.trans HX4.out)
            clear hK HX5 x0 x1 x2 x3
            obtain ⟨x0, x1, x2, x3⟩ := HXX.out.cells
            have x1 : w5.cell? ⟨X, 1, none⟩ = some (.int .u32 (j : Int)) := x1
            have x3 : w5.cell? ⟨X, 3, none⟩ = some (.int .i64 wa) := x3
            have HS : Hid (∃ T2, (j = m0 → T2 = T + tk) ∧ (j ≠ m0 → T2 = T) ∧ Sm (65535 + (k + 1) * 4294967296) m0 B' L A F T2 (O + tk) ∧ (j = m0 → 0 < tk → T2 ≤ L)) := Lib.hid (by
              rcases hgr with ⟨e1, h1, h2⟩ | ⟨e1, h1⟩
              · exact ⟨T + tk, fun _ => rfl, fun e => absurd e1 e, h1.more (by omega), fun _ => h2⟩
              · exact ⟨T, fun e => absurd e e1, fun _ => rfl, h1.more (by omega), fun e => absurd e e1⟩)
            obtain ⟨T2, g1, g2, hs2, g3⟩ := HS.out
            have hmo := hs2.most HI'.out
            have hb2 := hs2.bound
            have HS2 := Lib.hid hs2
            have hwO : IntKind.i64.wrap (O + tk) = O + tk := by rw [IntKind.wrap_i64]; omega
            have hout : ¬ A < O + tk := by omega
            have houtd : decide (A < O + tk) = false := decide_eq_false hout
            clear HS hs2 hb2 hgr
            have q1 : ((j : Int) == (m0 : Int)) = false := beq_eq_false_iff_ne.2 (by omega)
            obtain rfl : T2 = T := g2 ej
            clear g1 g2 g3
            by_cases ht : 0 < tk
            · have p1 : (0 : Int) < tk := ht
              have p2 : ¬ wa < tk := by have := hnn.2 ht; omega
              have p2d : decide (wa < tk) = false := decide_eq_false p2
              clear hnn hmo
              go_wp2_with fail
              go_meet
              exact ⟨B', L, A, F, T2, O + tk, rfl, rfl, rfl, rfl, rfl, Lib.hid (HS2.out.more (by omega)), Lib.hid (HI'.out.more (by omega)), hF, HB5⟩
            · have p1 : ¬ (0 : Int) < tk := ht
              have p1d : decide ((0 : Int) < tk) = false := decide_eq_false p1
              clear hnn hmo
              go_wp2_with fail
              go_meet
              exact ⟨B', L, A, F, T2, O + tk, rfl, rfl, rfl, rfl, rfl, Lib.hid (HS2.out.more (by omega)), Lib.hid (HI'.out.more (by omega)), hF, HB5⟩
          have f4 : (kd == 4) = false := beq_eq_false_iff_ne.2 e4
          have HSX : Hid (Sm (65535 + (k + 1) * 4294967296) m0 (B) (L) (A) (F) (T) (O)) := Lib.hid (hS.out.more (by omega))
          have HIX : Hid (Inv ((k + 1) * 2147483647) (B)) := Lib.hid (hI.out.more (by omega))
          go_wp2_with fail
          go_meet
          exact ⟨(B), L, A, F, T, O, rfl, rfl, rfl, rfl, rfl, Lib.hid (HSX.out.more (by omega)), Lib.hid (HIX.out.more (by omega)), HK4, HB4⟩
        case rest =>
          obtain ⟨B', L', A', F', T', O', rfl, rfl, rfl, rfl, rfl, HS', HI', HK', HB'⟩ := hcut
          generalize wc = w5 at *
          clear hS hI HK4 HB4 HX4 x0 x1 x2 x3 hbd
          have hOF := (HS'.out).of
          have hCN := (HS'.out).conn
          have hFS := (HS'.out).first
          obtain ⟨q1, q2, q3⟩ := (HS'.out).most HI'.out
          have hbb := (HS'.out).bound
          obtain ⟨D, hD⟩ : ∃ D, (L') - (T') = D := ⟨_, rfl⟩
          obtain ⟨E, hE⟩ : ∃ E, (A') - (O') = E := ⟨_, rfl⟩
          rw [hD] at hOF q1
          rw [hE] at hCN q2 q3
          have hwD : IntKind.i64.wrap ((L') - (T')) = D := by rw [IntKind.wrap_i64]; omega
          have hwE : IntKind.i64.wrap ((A') - (O')) = E := by rw [IntKind.wrap_i64]; omega
          have HCO : Hid (∀ W : World, BkAt W g b B' → Calls Try.prog 17 #[.pointer (some ⟨b, 0, none⟩)] W fun e w' => e = .returned (.int .i64 E) ∧ W = w') := Lib.hid (fun W h => by rw [← hCN]; exact wconn_is g b _ W (Lib.hid h))
          have HOF := Lib.hid hOF
          have nDD : (D != D) = false := by simp
          have nEE : (E != E) = false := by simp
          have n1 : ¬ (2147483647 : Int) < D := by omega
          have n1d : decide ((2147483647 : Int) < D) = false := decide_eq_false n1
          have n2 : ¬ (2147483647 : Int) < E := by omega
          have n2d : decide ((2147483647 : Int) < E) = false := decide_eq_false n2
          have n3 : ¬ E < 0 := by omega
          have n3d : decide (E < 0) = false := decide_eq_false n3
          clear hOF hCN hFS hbb hD hE q1 q2 q3
          go_wp2_with fail
          refine (wof_is g b _ m0 w5 (some D) HK' (by omega) HOF).mono ?_
          rintro e w6 ⟨rfl, hB6⟩
          have HK6 := Lib.hid (HK'.out.below hB6)
          have HB6 := Lib.hid (HB'.out.trans (hB6.mono (by have := HK'.out.gb; have := HK'.out.lt; omega)))
          clear hB6
          go_wp2_with fail
          refine (HCO.out _ HK6.out).mono ?_
          rintro e w7 ⟨rfl, rfl⟩
          go_wp2_with fail
          refine (HCO.out _ HK6.out).mono ?_
          rintro e w7 ⟨rfl, rfl⟩
          go_wp2_with fail
          refine (HCO.out _ HK6.out).mono ?_
          rintro e w7 ⟨rfl, rfl⟩
          go_wp2_with fail
          go_roundw
          case rel => exact ⟨k + 1, _, _, _, _, _, _, by omega, by go_num, rfl, rfl, rfl, rfl, rfl, Lib.hid ((HS'.out).more (by omega)), Lib.hid ((HI'.out).more (by omega)), HK6, HB6⟩
          case measure => simp [intOf]; omega
    · have hnk : ¬ ((k : Int) < (len1 : Int)) := by omega
      go_wp2_with fail
      go_ret
      exact ⟨rfl, by rw [G.out]; exact hBw.out⟩

set_option maxRecDepth 100000 in
theorem lifted (os : Os) (started : os.Started) (H : Type) (enc : TypeId × Value → H) :
    ReturnsInHanded {} Try.checked os 4 .any (Rows.windowSumsSpec.pre6 enc Try.prog Try.f4 Rows.windowSumsRow.domain false) (Rows.windowSumsSpec.post enc Try.prog Try.f4 false true false false) := by
  refine returnsInHanded_of_change (C := Try.checked) own started (by kernel_rfl) Try.func4
    (ChangeSpec.witness6 (enc := enc) (C := Try.checked) false ⟨#[], #[.int .u32 0, .slice none 0 0], []⟩ 8 (by kernel_rfl) (by kernel_rfl) (by kernel_rfl) (by kernel_rfl)) ?_
  intro W base args ds gs before hval0 hW hcnd _
  have hval : ∀ (j : Nat) t v, Try.f4.params[j]? = some t → args[j]? = some v → Value.okWide Try.prog W .any base t v := hval0
  have hW' := hW
  obtain ⟨p, q, hA0, hV, rfl, hfz, hnd⟩ := hW
  have hA : DataW.TrodAll enc Try.prog W 0 (fun _ => true) true Try.f4.params.toList args.toList ds p := hA0
  rw [Try.params4] at hA hval
  obtain ⟨v0, vs0, d0, ds0, p0, q0, hargs, rfl, rfl, h0, r0⟩ := trodAll_cons hA
  obtain ⟨v1, vs1, d1, ds1, p1, q1, rfl, rfl, rfl, h1, r1⟩ := trodAll_cons r0
  obtain ⟨rfl, rfl, rfl⟩ := trodAll_nil r1
  obtain rfl : args = #[v0, v1] := by cases args; simp_all
  obtain ⟨rfl, rfl⟩ := trodVars_none hV
  obtain ⟨z0, rfl, rfl, rfl, wf0⟩ := open_int Try.underlying32 (hval 0 32 v0 rfl rfl) h0
  have bd0 := bounds_u32 wf0
  obtain ⟨m0, rfl⟩ := Int.eq_ofNat_of_zero_le bd0.1
  obtain ⟨a1, len1, cap1, rfl⟩ := okWide_slice Try.underlying22 (hval 1 22 v1 rfl rfl)
  have k1 := h1
  have lt1 : ∀ x ∈ p1, x.block < W.heap.size := by obtain ⟨m, hm⟩ := k1; exact DataW.trod_lt m _ _ _ hm
  obtain ⟨hl1, L1, hN1, hR1⟩ : len1 ≤ maxLen ∧ ∃ L : List Ac, L.length = len1 ∧ RdA W W.heap.size a1 L := by
    obtain ⟨fuel, hf⟩ := h1
    exact rda_of_trod hf
  clear hA0 hval0
  refine (walk m0 a1 len1 cap1 L1 W (by omega) hl1 hN1 hR1).mono fun e W' ⟨he, bel⟩ => ?_
  subst he
  exact ⟨_, rfl, _, _, _, [], _, [], hW', trodAll_mk1 (shut_bool Try.underlying4 _), (trodAll_cons_mk (shut_int Try.underlying32 wf0) (trodAll_cons_mk (Below.trod laidOut (by kernel_rfl) (of_decide_eq_true (by kernel_rfl)) k1 bel lt1) trodAll_mk0)), rfl, bel.frame _, fun h => by cases h⟩

theorem over : Rows.windowSumsRow.holds Try.pinned (OpenSpec.ofChange Rows.windowSumsSpec) :=
  OpenClaim.holds_of_wide 4 Try.f4 rfl rfl rfl rfl rfl rfl rfl ⟨rfl, rfl, rfl, rfl, rfl⟩ rfl rfl rfl rfl rfl (by kernel_rfl) Try.func4 (by kernel_rfl)
    (of_decide_eq_true (by kernel_rfl)) (by unfold Func.isWrapper; first | (rw [if_pos (by decide +kernel)]; kernel_rfl) | (rw [if_neg (by decide +kernel)]; exact ⟨rfl, rfl⟩))
    (fun os started H enc _ => lifted os started H enc)

theorem proved : Rows.WindowSumsSaid := over
#print axioms proved
end Go.Proofs.Ytieicfobhgfonaa.windowSums
