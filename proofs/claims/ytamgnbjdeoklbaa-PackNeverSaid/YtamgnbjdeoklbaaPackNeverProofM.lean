import Derived.Test.YtamgnbjdeoklbaaRows
import Derived.Test.YtamgnbjdeoklbaaUpMath
import Derived.Test.YtamgnbjdeoklbaaPackNeverProofG1
import Derived.Test.YtamgnbjdeoklbaaPfMath
import Derived.Test.YtamgnbjdeoklbaaTbMath
import Derived.Test.YtamgnbjdeoklbaaTbFix
import Derived.Test.YtamgnbjdeoklbaaTbAt
import Derived.Test.YtamgnbjdeoklbaaPackNeverProofG2
import Derived.Test.YtamgnbjdeoklbaaTcMem
import Derived.Test.YtamgnbjdeoklbaaTcAdd
import Derived.Test.YtamgnbjdeoklbaaUpFit
import Derived.Test.YtamgnbjdeoklbaaUpOwn
import Derived.Test.YtamgnbjdeoklbaaPackNeverProofG3
import Derived.Test.YtamgnbjdeoklbaaPackNeverProofG4
import Derived.Lib.Hide
import Derived.Outline
import Derived.IntWalk
import Derived.WalkSpells
import Derived.WalkLawsBesides
import Derived.Laws.Rows
import Derived.StillTailTactics
import Derived.Deep.CutRange
import Derived.WalkKit
import Derived.ProofKit
import Derived.OpenShut
import Derived.ShutString
import Derived.ChangeOld
import Derived.Below
namespace Go.Proofs.Ytamgnbjdeoklbaa.packNever
open Go Go.ChangeShapes Go.WideShapes Go.ChangeAt Go.RowKit Tb Up Bytes
open Go.ChangeMaps (open_string shut_string)
open Pk
set_option linter.unusedVariables false

theorem own : ownKnob Try.prog.godebug = none := by kernel_rfl
theorem laidOut : laidOutB Try.prog = true := by kernel_rfl

set_option maxHeartbeats 8000000 in
set_option maxRecDepth 100000 in
theorem walk (a0 : Option Addr) (len0 cap0 : Nat) (x : Fld) (L : List Pk.ActP) (w : World) (hl : len0 ≤ maxLen) (hL : L.length = len0) (hR : Pk.RdA w w.heap.size a0 L) (hx : x.name.size ≤ maxLen ∧ x.val.size ≤ maxLen) :
    Calls Try.prog 4 #[.slice a0 len0 cap0, .agg #[.string x.name, .string x.val, .bool x.never]] w fun e w' => e = .returned (.bool true) ∧ Below w.heap.size w w' := by
  have HL := Lib.hid hL
  have HR := Lib.hid hR
  obtain ⟨xn, xv, nv⟩ := x
  simp only at hx ⊢
  obtain ⟨X, hX⟩ : ∃ X, w.heap.size = X := ⟨_, rfl⟩
  have hB0 := (Below.refl _ w).alloc (Nat.le_refl _) (.cells #[.string xn, .string xv, .bool nv] 45)
  have HX0 := Lib.hid (show FBox (w.alloc (.cells #[.string xn, .string xv, .bool nv] 45)) X ⟨xn, xv, nv⟩ by rw [← hX]; exact heap_alloc_new w _)
  have HB0 := Lib.hid hB0
  clear hB0 hR hL
  go_enter Try.func4, Try.ntmps4
  go_upto_region 1 with fail
  generalize w.alloc (.cells #[.string xn, .string xv, .bool nv] 45) = w0 at *
  go_wp2_with fail
  refine (awake_is w0).mono ?_
  rintro e w1 ⟨rfl, hB1⟩
  have HB1 := Lib.hid (HB0.out.trans (hB1.mono HB0.out.size))
  have HX1 := Lib.hid ((hB1.block X (world_lt HX0.out)).trans HX0.out)
  have HR1 := Lib.hid (HR.out.on HB1.out HB1.out.size)
  clear hB1 HX0 HB0
  go_wp2_with fail
  refine (fewA_is a0 cap0 len0 L w1 HR1 HL hl).mono ?_
  rintro e w2 (⟨rfl, hB2, HFEW⟩ | ⟨rfl, hB2⟩)
  rotate_left
  · have HB2 := Lib.hid (HB1.out.trans (hB2.mono HB1.out.size))
    clear hB2
    go_wp2_with fail
    go_ret
    exact ⟨rfl, HB2.out⟩
  have HB2 := Lib.hid (HB1.out.trans (hB2.mono HB1.out.size))
  have HX2 := Lib.hid ((hB2.block X (world_lt HX1.out)).trans HX1.out)
  have hn30 : len0 ≤ 30 := by have := HFEW.out.1; have := HL.out; omega
  obtain ⟨a0', a1', a2'⟩ := FBox.c (w := w2) (X := X) (x := ⟨xn, xv, nv⟩) HX2.out
  simp only at a0' a1' a2'
  have hBf := (Below.refl _ w2).alloc (Nat.le_refl _) (.cells #[.string xn, .string xv, .bool nv] 45)
  have HF0 := Lib.hid (show RdF (w2.alloc (.cells #[.string xn, .string xv, .bool nv] 45)) (w2.alloc (.cells #[.string xn, .string xv, .bool nv] 45)).heap.size (some ⟨w2.heap.size, 0, none⟩) [⟨xn, xv, nv⟩] from fun k hk => by
    obtain rfl : k = 0 := by simpa using hk
    have hh := heap_alloc_new w2 (.cells #[.string xn, .string xv, .bool nv] 45)
    exact ⟨w2.heap.size, 0, rfl, world_lt hh, cell_row hh 0, cell_row hh 1, cell_row hh 2, hx.1, hx.2⟩)
  have HBF := Lib.hid (HB2.out.trans (hBf.mono HB2.out.size))
  have HXF := Lib.hid ((hBf.block X (world_lt HX2.out)).trans HX2.out)
  clear hB2 HR1 HB1 hl HX1 hBf
  go_wp2_with fail
  generalize w2.alloc (.cells #[.string xn, .string xv, .bool nv] 45) = wf at *
  refine (fewF_is (some ⟨w2.heap.size, 0, none⟩) 1 1 [⟨xn, xv, nv⟩] wf HF0 (Lib.hid rfl) (by decide)).mono ?_
  rintro e w3 (⟨rfl, hB3, HFX⟩ | ⟨rfl, hB3⟩)
  rotate_left
  · have HB3 := Lib.hid (HBF.out.trans (hB3.mono HBF.out.size))
    clear hB3
    go_wp2_with fail
    go_ret
    exact ⟨rfl, HB3.out⟩
  have HB3 := Lib.hid (HBF.out.trans (hB3.mono HBF.out.size))
  have HX3 := Lib.hid ((hB3.block X (world_lt HXF.out)).trans HXF.out)
  clear hB3 HF0 HBF HXF a0' a1' a2' HX2 HB2
  go_wp2_with fail
  refine (penew_is w3).mono ?_
  rintro e w4 ⟨c, g, b, rfl, hE, hB4, l1, l2, l3⟩
  have HE := Lib.hid hE
  have HB4 := Lib.hid (HB3.out.trans (hB4.mono HB3.out.size))
  have HX4 := Lib.hid ((hB4.block X (world_lt HX3.out)).trans HX3.out)
  have hX3 := world_lt HX3.out
  have hz3 := HB3.out.size
  have hel := hE.lt
  clear hE hB4
  go_wp2_with fail
  refine (pnew_is w4).mono ?_
  rintro e w5 ⟨rfl, hB5⟩
  have HE5 := Lib.hid (HE.out.below hB5)
  have HB5 := Lib.hid (HB4.out.trans (hB5.mono HB4.out.size))
  have HX5 := Lib.hid ((hB5.block X (world_lt HX4.out)).trans HX4.out)
  have hz5 := hB5.size
  clear hB5 HE HB4 HB3 HX3 HX4
  have hBm := (Below.refl _ w5).alloc (Nat.le_refl _) (.cells #[.int .i64 ((newT 4096).1 : Int), .slice none (newT 4096).2.length 0, .slice none 0 0] 52)
  have hmn := heap_alloc_new w5 (.cells #[.int .i64 ((newT 4096).1 : Int), .slice none (newT 4096).2.length 0, .slice none 0 0] 52)
  have HNV := Lib.hid (show NV w c g b w5.heap.size X (newT 4096, []) none 0 none 0 ⟨xn, xv, nv⟩ (w5.alloc (.cells #[.int .i64 ((newT 4096).1 : Int), .slice none (newT 4096).2.length 0, .slice none 0 0] 52)) from
    ⟨HE5.out.below hBm, hmn, ⟨.inl ⟨rfl, rfl, rfl, rfl⟩, Ints.RdN.void _ _ _, fun _ => rfl⟩, (hBm.block X (world_lt HX5.out)).trans HX5.out, by omega, by omega, by omega, fun i o e => (by cases e), fun hp => absurd hp (by decide), HB5.out.trans (hBm.mono HB5.out.size)⟩)
  clear hBm hmn
  unfold encV
  simp only
  go_upto_region 7 with fail
  generalize w5.alloc (.cells #[.int .i64 ((newT 4096).1 : Int), .slice none (newT 4096).2.length 0, .slice none 0 0] 52) = w6 at *
  obtain ⟨m, hm⟩ : ∃ m, w5.heap.size = m := ⟨_, rfl⟩
  rw [hm] at HNV ⊢
  clear HE5 HB5 HX5 hm
  go_wp2_with fail
  go_loopw [7] (fun i wr => ∃ (j bj k k' : Nat) (E : Enc) (A A' : Option Addr), j ≤ len0 ∧ i = .int .i64 (j : Int) ∧ Hid (NV w c g bj m X E A k A' k' ⟨xn, xv, nv⟩ wr) ∧ Hid (E.2.length ≤ j ∧ ∀ n ∈ E.2, n ≤ 4096)) (fun i _ => len0 + 1 - (intOf i).toNat)
  case atStart => exact ⟨0, b, 0, 0, (newT 4096, []), none, none, Nat.zero_le _, rfl, HNV, Lib.hid ⟨Nat.le_refl _, fun n h => by cases h⟩⟩
  case round =>
    obtain ⟨j, bj, k, k', E, A, A', hj, rfl, HS, HN⟩ := hrel
    clear HNV
    have hj0 : (0 : Int) ≤ (j : Int) := by omega
    by_cases hlt : j < len0
    · have hltL : j < L.length := by rw [HL.out]; exact hlt
      have hji : (j : Int) < (len0 : Int) := by omega
      have hfew := HFEW.out.2 _ (actP_mem hltL)
      have hrd0 : RdF w w.heap.size (actP L j).A (actP L j).fs := by
        obtain ⟨_, _, _, _, _, _, _, _, _, h⟩ := HR.out j hltL
        exact h
      obtain ⟨bb, off, rfl, hbb, x0, x1, x2, hn, hfl, hrd⟩ := (HR.out.on HS.out.bel (Nat.le_refl _)) j hltL
      obtain ⟨⟨lm, nn, fs, Af, cc⟩, hxx⟩ : ∃ x, actP L j = x := ⟨_, rfl⟩
      rw [hxx] at x0 x1 x2 hn hfl hrd hfew hrd0
      simp only at x0 x1 x2 hn hfl hrd hfew hrd0
      have HFF := Lib.hid hfew
      obtain ⟨mf, hmf⟩ : ∃ m, fs.length = m := ⟨_, rfl⟩
      rw [hmf] at x2 hfl
      have HM := Lib.hid hmf
      have HRD0 := Lib.hid hrd0
      have hm3 : mf < 3000 := by omega
      have ew : IntKind.i64.wrap ((j : Int) + 1) = ((j + 1 : Nat) : Int) := by rw [IntKind.wrap_i64]; omega
      have hec := HS.out.ec
      have HACT := Lib.hid (fun (W : World) (hB : Below w.heap.size w W) => (HR.out.on hB (Nat.le_refl _)) j hltL)
      rw [hxx] at HACT
      clear hrd hmf hxx hfew hltL hrd0 hfl
      cases lm with
      | true =>
        go_wp2_with fail
        refine (limit_any c g bj nn E wr HS.out.enc (by omega)).mono ?_
        rintro e w7 ⟨rfl, b7, hE7, hK7, hb7⟩
        have hnw := HS.out.step hE7 hK7 (by omega)
        have HNW := Lib.hid (hnw.below (Below.refl _ w7).drew)
        obtain ⟨c0, c1, c2, _, _, _⟩ := cells3 HNW.out.row
        obtain ⟨_, _, he, _, _, y1, _⟩ := HACT.out w7.drew HNW.out.bel
        injection he with he
        injection he with he1 he2
        subst he1 he2
        have HLN := Lib.hid (show (lim E nn).2.length ≤ j + 1 ∧ ∀ n ∈ (lim E nn).2, n ≤ 4096 from by
          obtain ⟨n1, n2⟩ := HN.out
          unfold lim
          split
          · exact ⟨by omega, n2⟩
          · refine ⟨by rw [List.length_append, List.length_singleton]; omega, fun n hn => ?_⟩
            rcases List.mem_append.1 hn with h | h
            · exact n2 n h
            · rw [List.mem_singleton] at h
              omega)
        have hE4 := HS.out.enc.ok4
        clear hE7 hK7 hb7 x0 x1 x2 hnw
        go_wp2_with fail
        go_still_tail 6, (by kernel_rfl)
        change wpList _ _ _ _ _ w7.drew
        generalize w7.drew = wd at *
        go_wp2_with fail
        refine (plimit_is E nn A k A' k' (lim E nn) wd HNW.out.doc hE4 hn (by have := HN.out.1; omega) (Lib.hid rfl)).mono ?_
        rintro e w8 ⟨A2, k2, A3, k3, rfl, hE8, hB8, h81, h82⟩
        have HT := Lib.hid (HNW.out.turn hE8 hB8 h81 h82)
        have hr8 := (hB8.block m (world_lt HNW.out.row)).trans HNW.out.row
        clear c0 c1 c2 y1
        obtain ⟨d1, d2, d3, d4, d5, d6⟩ := cells3 hr8
        obtain ⟨e1, e2, e3, e4, e5, e6⟩ := cells3 (put3_0 (y := .int .i64 ((lim E nn).1.1 : Int)) hr8)
        obtain ⟨f1, f2, f3, f4, f5, f6⟩ := cells3 (put3_1 (y := .slice A2 (lim E nn).1.2.length k2) (put3_0 (y := .int .i64 ((lim E nn).1.1 : Int)) hr8))
        clear hE8 hB8 h81 h82 hr8
        unfold encV
        go_wp2_with fail
        go_roundw
        case rel => first | exact ⟨j + 1, b7, k2, k3, lim E nn, A2, A3, by omega, rfl, HT, HLN⟩ | ((repeat apply Exists.intro); exact ⟨⟨j + 1, b7, k2, k3, lim E nn, A2, A3, by omega, rfl, HT, HLN⟩, rfl⟩)
        case measure => simp [intOf]; omega
      | false =>
        obtain ⟨s, hs⟩ : ∃ s, mk (wrote E fs) = s := ⟨_, rfl⟩
        have HSS := Lib.hid hs
        have hE4 := HS.out.enc.ok4
        clear hs
        go_wp2_with fail
        refine (ewrite_any c g bj E fs Af mf cc s wr HS.out.enc (Lib.hid (RdF.k3 (HRD0.out.on HS.out.bel (Nat.le_refl _)) HS.out.bel.size hec.1 hec.2.1 hec.2.2)) HM HFF HSS).mono ?_
        rintro e w7 ⟨rfl, b7, hE7, hK7, hb7⟩
        have hnw := HS.out.step hE7 hK7 hb7
        have HNW := Lib.hid (hnw.below (Below.refl _ w7).drew)
        have HRD := Lib.hid (HRD0.out.on HNW.out.bel HNW.out.bel.size)
        obtain ⟨c0, c1, c2, _, _, _⟩ := cells3 HNW.out.row
        obtain ⟨_, _, he, _, _, _, y2, _⟩ := HACT.out w7.drew HNW.out.bel
        injection he with he
        injection he with he1 he2
        subst he1 he2
        have hml : fs.length = mf := HM.out
        have y2' : w7.drew.cell? ⟨bb, off + j * 3 + 2, none⟩ = some (.slice Af mf cc) := by rw [← hml]; exact y2
        have HLN := Lib.hid (show (behind E fs).2.length ≤ j + 1 ∧ ∀ n ∈ (behind E fs).2, n ≤ 4096 from ⟨Nat.zero_le _, fun n hn => by cases hn⟩)
        have HPW := Lib.hid (pwrite_few E fs A k A' k' Af cc s w7.drew HNW.out.doc hE4 (by have := HN.out.1; omega) HN.out.2 HRD HFF.out HSS)
        rw [hml] at HPW
        clear hE7 hK7 hb7 x0 x1 x2 hnw y2 hml
        go_upto_region 14 with fail
        go_region_with (first | (go_at_call 23; refine HPW.out.mono ?_; rintro e w8 ⟨A2, k2, rfl, hE8, hB8, h81⟩; have HT := Lib.hid (HNW.out.turn hE8 hB8 h81 (fun a e => by cases e)); have hr8 := (hB8.block m (world_lt HNW.out.row)).trans HNW.out.row; (obtain ⟨d1, d2, d3, d4, d5, d6⟩ := cells3 hr8); (obtain ⟨e1, e2, e3, e4, e5, e6⟩ := cells3 (put3_0 (y := .int .i64 ((behind E fs).1.1 : Int)) hr8)); (obtain ⟨f1, f2, f3, f4, f5, f6⟩ := cells3 (put3_1 (y := .slice A2 (behind E fs).1.2.length k2) (put3_0 (y := .int .i64 ((behind E fs).1.1 : Int)) hr8))); clear hE8 hB8 h81 hr8; unfold encV))
        all_goals
          clear HPW HRD HNW
          go_wp2_with fail
          go_roundw
          case rel => first | exact ⟨j + 1, b7, k2, 0, behind E fs, A2, none, by omega, rfl, HT, HLN⟩ | ((repeat apply Exists.intro); exact ⟨⟨j + 1, b7, k2, 0, behind E fs, A2, none, by omega, rfl, HT, HLN⟩, rfl⟩)
          case measure => simp [intOf]; omega
    · have hjn : j = len0 := by omega
      subst hjn
      have hnj : ¬ ((j : Int) < (j : Int)) := by omega
      have hsm := small_few HFX.out _ (List.mem_singleton.2 rfl)
      simp only at hsm
      obtain ⟨b0', b1', b2'⟩ := FBox.c (w := wr) (X := X) (x := ⟨xn, xv, nv⟩) HS.out.box
      have fz : wr.frozen? ⟨X, 2, none⟩ = false := by
        have := HS.out.box
        unfold FBox at this
        simp [World.frozen?, this]
      have hbx7 : (wr.setCell ⟨X, 2, none⟩ (.bool true)).heap[X]? = some (.cells #[.string xn, .string xv, .bool true] 45 (0, 0)) := put3_2 HS.out.box
      have hnv7 := HS.out.boxed (f' := ⟨xn, xv, true⟩) hbx7 (Only.set X 2 wr (.bool true)) ((Below.refl _ wr).setCell (p := ⟨X, 2, none⟩) HS.out.xc.1 _)
      have HNV7 := Lib.hid hnv7
      obtain ⟨u0, u1, u2, _, _, _⟩ := cells3 hbx7
      clear hbx7 hnv7
      go_upto_region 16 with fail
      generalize wr.setCell ⟨X, 2, none⟩ (.bool true) = w7 at *
      clear b0' b1' b2' fz
      have hB8 := (Below.refl _ w7).alloc (Nat.le_refl _) (.cells #[.string xn, .string xv, .bool true] 45)
      have hh8 := heap_alloc_new w7 (.cells #[.string xn, .string xv, .bool true] 45)
      have hnv8 := HNV7.out.below hB8
      have hl7 := HNV7.out.enc.lt
      have hF8 : RdF (w7.alloc (.cells #[.string xn, .string xv, .bool true] 45)) (w7.alloc (.cells #[.string xn, .string xv, .bool true] 45)).heap.size (some ⟨w7.heap.size, 0, none⟩) [⟨xn, xv, true⟩] := fun i hi => by
        obtain rfl : i = 0 := by simpa using hi
        exact ⟨w7.heap.size, 0, rfl, world_lt hh8, cell_row hh8 0, cell_row hh8 1, cell_row hh8 2, hx.1, hx.2⟩
      have HEW := Lib.hid (ewrite_any c g bj E [⟨xn, xv, true⟩] (some ⟨w7.heap.size, 0, none⟩) 1 1 _ _ hnv8.enc (Lib.hid (hF8.apart (by omega) (by omega) (by omega))) (Lib.hid rfl) (Lib.hid (by simp only [List.length_singleton, sumZ]; have := HFX.out; simp only [List.length_singleton, sumZ] at this; exact this)) (Lib.hid rfl))
      have HNV8 := Lib.hid hnv8
      clear hB8 hh8 hnv8 hF8
      go_wp2_with fail
      generalize w7.alloc (.cells #[.string xn, .string xv, .bool true] 45) = w8 at *
      refine HEW.out.mono ?_
      rintro e w9 ⟨rfl, b9, hE9, hK9, hb9⟩
      rw [never_stays E ⟨xn, xv, true⟩ rfl] at hE9
      have hnw := HNV8.out.step hE9 hK9 hb9
      have hnw2 := hnw.below (Below.refl _ w9).drew
      have HNW := Lib.hid hnw2
      obtain ⟨c0, c1, c2, _, _, _⟩ := cells3 hnw2.row
      have hfit := Lib.hid (Ok4.fit hnw2.enc.ok4)
      have HTB := Lib.hid (petable_any c g b9 (E.1, []) w9.drew hnw2.enc)
      clear hE9 hK9 hb9 hnw hnw2 u0 u1 u2
      go_wp2_with fail
      go_region_with (first | (go_at_call 13; refine HTB.out.mono ?_; rintro e w10 ⟨gx, rfl, hgx, hB10, bx, hTx, hbx⟩; have HNX := Lib.hid (HNW.out.below hB10); have HTX := Lib.hid hTx; have HTE := Lib.hid (HNX.out.doc.tab); (obtain ⟨k0, k1, k2, _, _, _⟩ := cells3 HNX.out.row); clear hgx hB10 hTx hbx) | (go_at_call 24; refine (tells_is gx bx E.1 A k w10 HTX hfit HTE).mono ?_; rintro e w11 ⟨rfl, hB11⟩; have HBE := Lib.hid (HNX.out.bel.trans (hB11.mono HNX.out.bel.size)); clear hB11))
      all_goals
        go_wp2_with fail
        go_ret
        exact ⟨rfl, HBE.out⟩

set_option maxRecDepth 100000 in
theorem lifted (os : Os) (started : os.Started) (H : Type) (enc : TypeId × Value → H) :
    ReturnsInHanded {} Try.checked os 4 .any (Rows.packNeverSpec.pre6 enc Try.prog Try.f4 Rows.packNeverRow.domain false) (Rows.packNeverSpec.post enc Try.prog Try.f4 false true false false) := by
  refine returnsInHanded_of_change (C := Try.checked) own started (by kernel_rfl) Try.func4
    (ChangeSpec.witness6 (enc := enc) (C := Try.checked) false ⟨#[], #[.slice none 0 0, .agg #[.string ByteArray.empty, .string ByteArray.empty, .bool false]], []⟩ 8 (by kernel_rfl) (by kernel_rfl) (by kernel_rfl) (by kernel_rfl)) ?_
  intro W base args ds gs before hval0 hW hcnd _
  have hval : ∀ (j : Nat) t v, Try.f4.params[j]? = some t → args[j]? = some v → Value.okWide Try.prog W .any base t v := hval0
  have hW' := hW
  obtain ⟨p, q, hA0, hV, rfl, hfz, hnd⟩ := hW
  have hA : DataW.TrodAll enc Try.prog W 0 (fun _ => true) true Try.f4.params.toList args.toList ds p := hA0
  rw [Try.params4] at hA hval
  obtain ⟨v0, vs0, d0, ds0, p0, q0, hargs, rfl, rfl, h0, r0⟩ := trodAll_cons hA
  obtain ⟨v1, vs1, d1, ds1, p1, q1, rfl, rfl, rfl, h1, r1⟩ := trodAll_cons r0
  obtain ⟨rfl, rfl, rfl⟩ := trodAll_nil r1
  obtain rfl : args = #[v0, v1] := by cases args; simp_all
  obtain ⟨rfl, rfl⟩ := trodVars_none hV
  obtain ⟨a0, len0, cap0, rfl⟩ := okWide_slice Try.underlying22 (hval 0 22 v0 rfl rfl)
  have k0 := h0
  have lt0 : ∀ x ∈ p0, x.block < W.heap.size := by obtain ⟨m, hm⟩ := k0; exact DataW.trod_lt m _ _ _ hm
  obtain ⟨hl0, L0, hN0, hR0⟩ : len0 ≤ maxLen ∧ ∃ L : List Pk.ActP, L.length = len0 ∧ Pk.RdA W W.heap.size a0 L := by
    obtain ⟨fuel, hf⟩ := h0
    exact Pk.rda_of_trod hf
  have k1 := h1
  have lt1 : ∀ x ∈ p1, x.block < W.heap.size := by obtain ⟨m, hm⟩ := k1; exact DataW.trod_lt m _ _ _ hm
  obtain ⟨x1, rfl, hx1⟩ := Pk.came_fld (hval 1 45 v1 rfl rfl) h1
  clear hA0 hval0
  refine (walk a0 len0 cap0 x1 L0 W hl0 hN0 hR0 hx1).mono fun e W' ⟨he, bel⟩ => ?_
  subst he
  exact ⟨_, rfl, _, _, _, [], _, [], hW', trodAll_mk1 (shut_bool Try.underlying4 _), (trodAll_cons_mk (Below.trod laidOut (by kernel_rfl) (of_decide_eq_true (by kernel_rfl)) k0 bel lt0) (trodAll_cons_mk (Below.trod laidOut (by kernel_rfl) (of_decide_eq_true (by kernel_rfl)) k1 bel lt1) trodAll_mk0)), rfl, bel.frame _, fun h => by cases h⟩

theorem over : Rows.packNeverRow.holds Try.pinned (OpenSpec.ofChange Rows.packNeverSpec) :=
  OpenClaim.holds_of_wide 4 Try.f4 rfl rfl rfl rfl rfl rfl rfl ⟨rfl, rfl, rfl, rfl, rfl⟩ rfl rfl rfl rfl rfl (by kernel_rfl) Try.func4 (by kernel_rfl)
    (of_decide_eq_true (by kernel_rfl)) (by unfold Func.isWrapper; first | (rw [if_pos (by decide +kernel)]; kernel_rfl) | (rw [if_neg (by decide +kernel)]; exact ⟨rfl, rfl⟩))
    (fun os started H enc _ => lifted os started H enc)

theorem proved : Rows.PackNeverSaid := over
#print axioms proved
end Go.Proofs.Ytamgnbjdeoklbaa.packNever
