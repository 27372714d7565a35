import Derived.Test.YtamgnbjdeoklbaaRows
import Derived.Test.YtamgnbjdeoklbaaUpMath
import Derived.Test.YtamgnbjdeoklbaaPackBackProofG1
import Derived.Test.YtamgnbjdeoklbaaPfMath
import Derived.Test.YtamgnbjdeoklbaaTbMath
import Derived.Test.YtamgnbjdeoklbaaTbFix
import Derived.Test.YtamgnbjdeoklbaaTbAt
import Derived.Test.YtamgnbjdeoklbaaTcMem
import Derived.Test.YtamgnbjdeoklbaaTcAdd
import Derived.Test.YtamgnbjdeoklbaaTcAt
import Derived.Test.YtamgnbjdeoklbaaUpFit
import Derived.Test.YtamgnbjdeoklbaaUpFld
import Derived.Test.YtamgnbjdeoklbaaUpOwn
import Derived.Test.YtamgnbjdeoklbaaUpRead
import Derived.Test.YtamgnbjdeoklbaaPackBackProofG2
import Derived.Test.YtamgnbjdeoklbaaPackBackProofG3
import Derived.Lib.Hide
import Derived.Outline
import Derived.IntWalk
import Derived.WalkSpells
import Derived.WalkLawsBesides
import Derived.Laws.Rows
import Derived.WalkKit
import Derived.ProofKit
import Derived.OpenShut
import Derived.ShutString
import Derived.ChangeOld
import Derived.Below
namespace Go.Proofs.Ytamgnbjdeoklbaa.packBack
open Go Go.ChangeShapes Go.WideShapes Go.ChangeAt Go.RowKit Tb Up Bytes
open Go.ChangeMaps (open_string shut_string)
open Pk
set_option linter.unusedVariables false

theorem own : ownKnob Try.prog.godebug = none := by kernel_rfl
theorem laidOut : laidOutB Try.prog = true := by kernel_rfl

set_option maxHeartbeats 8000000 in
set_option maxRecDepth 100000 in
theorem walk (a0 : Option Addr) (len0 cap0 : Nat) (L : List Pk.ActP) (w : World) (hl : len0 ≤ maxLen) (hL : L.length = len0) (hR : Pk.RdA w w.heap.size a0 L) :
    Calls Try.prog 3 #[.slice a0 len0 cap0] w fun e w' => e = .returned (.bool true) ∧ Below w.heap.size w w' := by
  have HL := Lib.hid hL
  have HR := Lib.hid hR
  have hl' := hl
  unfold maxLen at hl'
  go_enter Try.func3, Try.ntmps3
  go_wp2_with fail
  refine (awake_is w).mono ?_
  rintro e w1 ⟨rfl, hB1⟩
  have HB1 := Lib.hid hB1
  have HR1 := Lib.hid (hR.on hB1 hB1.size)
  clear hB1 hR hL
  go_wp2_with fail
  refine (fewA_is a0 cap0 len0 L w1 HR1 HL hl).mono ?_
  rintro e w2 (⟨rfl, hB2, HFEW⟩ | ⟨rfl, hB2⟩)
  rotate_left
  · have HB2 := Lib.hid (HB1.out.trans (hB2.mono HB1.out.size))
    clear hB2
    go_wp2_with fail
    go_ret
    exact ⟨rfl, HB2.out⟩
  have HB2 := Lib.hid (HB1.out.trans (hB2.mono HB1.out.size))
  have hn30 : len0 ≤ 30 := by have := HFEW.out.1; have := HL.out; omega
  clear hB2 HR1 HB1 hl hl'
  go_wp2_with fail
  refine (penew_is w2).mono ?_
  rintro e w3 ⟨c, g, b, rfl, hE, hB3, l1, l2, l3⟩
  have HE := Lib.hid hE
  have HB3 := Lib.hid (HB2.out.trans (hB3.mono HB2.out.size))
  have hz2 := HB2.out.size
  have hel := hE.lt
  clear hE hB3
  go_wp2_with fail
  refine (unew_is w3).mono ?_
  rintro e w4 ⟨d, g2, b2, rfl, hD, hB4, m1, m2, m3⟩
  have HBD := Lib.hid (show BD w c g b d g2 b2 (newT 4096, []) (newT 4096) w4 from
    ⟨HE.out.below hB4, hD, by omega, by have := HB3.out.size; omega, by omega, by omega, by omega, HB3.out.trans (hB4.mono HB3.out.size)⟩)
  clear hD hB4 HE HB2 HB3
  go_wp2_with fail
  go_loopw [5] (fun i wr => ∃ (j bj b2j : Nat) (E : Enc) (td : Tab), j ≤ len0 ∧ i = .int .i64 (j : Int) ∧ Hid (BD w c g bj d g2 b2j E td wr) ∧ Hid (Rel td E)) (fun i _ => len0 + 1 - (intOf i).toNat)
  case atStart => exact ⟨0, b, b2, _, _, Nat.zero_le _, rfl, HBD, Lib.hid Rel.new⟩
  case round =>
    obtain ⟨j, bj, b2j, E, td, hj, rfl, HS, HREL⟩ := hrel
    clear HBD
    have hj0 : (0 : Int) ≤ (j : Int) := by omega
    by_cases hlt : j < len0
    · have hltL : j < L.length := by rw [HL.out]; exact hlt
      have hji : (j : Int) < (len0 : Int) := by omega
      have hfew := HFEW.out.2 _ (actP_mem hltL)
      obtain ⟨bb, off, rfl, hbb, x0, x1, x2, hn, hfl, hrd⟩ := (HR.out.on HS.out.bel (Nat.le_refl _)) j hltL
      have hrd0 : RdF w w.heap.size (actP L j).A (actP L j).fs := by
        obtain ⟨_, _, _, _, _, _, _, _, _, h⟩ := HR.out j hltL
        exact h
      obtain ⟨⟨lm, nn, fs, A, cc⟩, hx⟩ : ∃ x, actP L j = x := ⟨_, rfl⟩
      rw [hx] at x0 x1 x2 hn hfl hrd hfew hrd0
      simp only at x0 x1 x2 hn hfl hrd hfew hrd0
      have HFF := Lib.hid hfew
      obtain ⟨m, hm⟩ : ∃ m, fs.length = m := ⟨_, rfl⟩
      rw [hm] at x2 hfl
      have HM := Lib.hid hm
      have hm3 : m < 3000 := by omega
      obtain ⟨wa, hwa⟩ : ∃ wa, wr.alloc (.cells #[.bool lm, .int .u32 (nn : Int), .slice A m cc] 32) = wa := ⟨_, rfl⟩
      have hBa : Below wr.heap.size wr wa := by rw [← hwa]; exact (Below.refl _ wr).alloc (Nat.le_refl _) _
      have HRD := Lib.hid (hrd.on (hBa.mono HS.out.bel.size) (Nat.le_refl _))
      have hbx : wa.heap[wr.heap.size]? = some (.cells #[.bool lm, .int .u32 (nn : Int), .slice A m cc] 32 (0, 0)) := by rw [← hwa]; exact heap_alloc_new wr _
      have HSA := Lib.hid (HS.out.below hBa)
      have ew : IntKind.i64.wrap ((j : Int) + 1) = ((j + 1 : Nat) : Int) := by rw [IntKind.wrap_i64]; omega
      have k0 : wa.cell? ⟨wr.heap.size, 0, none⟩ = some (.bool lm) := cell_row hbx 0
      have k1 : wa.cell? ⟨wr.heap.size, 1, none⟩ = some (.int .u32 (nn : Int)) := cell_row hbx 1
      have k2 : wa.cell? ⟨wr.heap.size, 2, none⟩ = some (.slice A m cc) := cell_row hbx 2
      have HBX := Lib.hid hbx
      have hR0 := Lib.hid hrd0
      clear hrd0 hBa hrd hm hx hfew hltL hbx hfl
      go_upto_region 10 with fail
      obtain ⟨X, hX⟩ : ∃ X, wr.heap.size = X := ⟨_, rfl⟩
      rw [hX] at k0 k1 k2 HBX ⊢
      have hXge : w.heap.size ≤ X := by rw [← hX]; exact HS.out.bel.size
      have hXe := HS.out.enc.lt
      have hXd := HS.out.dec.lt
      rw [hX] at hXe hXd
      have HX := Lib.hid hX
      clear hwa x0 x1 x2 HS hX
      cases lm with
      | true =>
        go_wp2_with fail
        refine (limit_any c g bj nn E wa HSA.out.enc (by omega)).mono ?_
        rintro e w5 ⟨rfl, b5, hE5, hK5, hb5⟩
        have HS5 := Lib.hid (HSA.out.step hE5 hK5 (by omega))
        clear hE5 hK5 hb5 k0 k1 k2
        go_wp2_with fail
        go_roundw
        case rel => exact ⟨j + 1, b5, b2j, _, _, by omega, rfl, HS5, Lib.hid (HREL.out.lim nn)⟩
        case measure => simp [intOf]; omega
      | false =>
        by_cases h64 : 64 < m
        · have h64i : (64 : Int) < (m : Int) := by omega
          have HBE := Lib.hid HSA.out.bel
          go_wp2_with fail
          go_ret
          exact ⟨rfl, HBE.out⟩
        · have h64i : ¬ ((64 : Int) < (m : Int)) := by omega
          have hrd2 := wrote_read HREL.out fs (fun x hx => by have := small_few HFF.out x hx; unfold SmallF; omega) (by rw [HM.out]; omega)
          have hlen := wrote_len64 HSA.out.enc.ok4 HFF.out (by rw [HM.out]; omega)
          obtain ⟨t, ht⟩ : ∃ t, (all E.1 fs).2 = t := ⟨_, rfl⟩
          have hbe : behind E fs = (t, []) := by unfold behind; rw [ht]
          rw [hbe] at hrd2
          obtain ⟨s, hs⟩ : ∃ s, mk (wrote E fs) = s := ⟨_, rfl⟩
          rw [hs] at hrd2
          have hsz : s.size ≤ 10000 := by rw [← hs, size_mk]; exact hlen
          have HRD2 := Lib.hid hrd2
          have HBE := Lib.hid hbe
          have HSS := Lib.hid hs
          have hxa := HSA.out.ec
          clear hrd2 hlen ht hbe hs
          go_wp2_with fail
          refine (ewrite_any c g bj E fs A m cc s wa HSA.out.enc (Lib.hid (RdF.k3 HRD.out HSA.out.bel.size hxa.1 hxa.2.1 hxa.2.2)) HM HFF HSS).mono ?_
          rintro e w5 ⟨rfl, b5, hE5, hK5, hb5⟩
          rw [HBE.out] at hE5
          have HS5 := Lib.hid (HSA.out.step hE5 hK5 hb5)
          have HBX5 := Lib.hid ((hK5.block X (world_lt HBX.out) (by omega) (by omega) (by omega)).trans HBX.out)
          clear hE5 hK5 hb5 k0 k1 k2
          go_wp2_with fail
          refine (read_any d g2 b2j (td, false) s _ w5 HS5.out.dec hsz HRD2).mono ?_
          rintro e w6 ⟨v, rfl, hO6, b6, hD6, hK6, hb6, hs6⟩
          have HS6 := Lib.hid (HS5.out.read hD6 hK6 hb6)
          have HBX6 := Lib.hid ((hK6.block X (world_lt HBX5.out) (by omega) (by omega) (by omega)).trans HBX5.out)
          have HO6 := Lib.hid hO6
          clear hD6 hK6 hb6 hs6 hO6 HRD2
          go_wp2_with fail
          refine (petable_any c g b5 (t, []) w6 HS6.out.enc).mono ?_
          rintro e w7 ⟨gx, rfl, hgx, hB7, bx, hTx, hbx⟩
          have HS7 := Lib.hid (HS6.out.below hB7)
          have HBX7 := Lib.hid ((hB7.block X (world_lt HBX6.out)).trans HBX6.out)
          have HTX := Lib.hid hTx
          have HO7 := Lib.hid (own_same HO6.out (fun k hk => hB7.block k (HO6.out.lt k hk).2))
          clear hB7 hTx hgx hbx
          go_wp2_with fail
          refine (table_any d g2 b6 (t, false) w7 HS7.out.dec).mono ?_
          rintro e w8 ⟨gy, rfl, hgy, hB8, by8, hTy, hby⟩
          have HS8 := Lib.hid (HS7.out.below hB8)
          have HBX8 := Lib.hid ((hB8.block X (world_lt HBX7.out)).trans HBX7.out)
          have HTX8 := Lib.hid (HTX.out.below hB8)
          have HTY := Lib.hid hTy
          have hO8 := own_same HO7.out (fun k hk => hB8.block k (HO7.out.lt k hk).2)
          clear hB8 hTy hgy hby
          obtain ⟨A6, c6, rfl, hF6, _, _⟩ := rdf_own hO8 rfl (fun x hx => by have := small_few HFF.out x hx; unfold maxLen; omega)
          have HF6 := Lib.hid hF6
          have HRD8 := Lib.hid (show RdF w8 w8.heap.size A fs from (hR0.out.on HS8.out.bel HS8.out.bel.size))
          have x2 : w8.cell? ⟨X, 2, none⟩ = some (.slice A m cc) := cell_row HBX8.out 2
          have hfit := Lib.hid (Ok4.fit HS8.out.enc.ok4)
          obtain ⟨nl, hnl⟩ : ∃ n, t.2.length = n := ⟨_, rfl⟩
          obtain ⟨sl, hsl⟩ : ∃ n, sumL t.2 = n := ⟨_, rfl⟩
          have hfw := table_few HS8.out.enc.ok4
          have hnl2 : nl ≤ 200 := by simp only at hfw; rw [List.length_append, hnl] at hfw; omega
          have HNL := Lib.hid hnl
          have HSL := Lib.hid hsl
          have HO4 := Lib.hid HS8.out.enc.ok4
          have hz1 : ((0 : Int) != 0) = false := rfl
          have hml : fs.length = m := HM.out
          rw [hml]
          clear hO8 hF6 hnl hsl hfw HO6 HO7 HBX5 HBX6 HBX7 HS5 HS6 HS7 HSA
          go_wp2_with fail
          refine (fsameR_is A6 A m c6 cc fs w8 HF6 HRD8 HM (by omega)).mono ?_
          rintro e w9 ⟨rfl, hB9⟩
          have HS9 := Lib.hid (HS8.out.below hB9)
          have HTX9 := Lib.hid (HTX8.out.below hB9)
          have HTY9 := Lib.hid (HTY.out.below hB9)
          clear hB9 x2
          go_wp2_with fail
          refine (len_t gx bx t nl w9 HTX9 HNL).mono ?_
          rintro e w10 ⟨rfl, rfl⟩
          go_wp2_with fail
          refine (len_t gy by8 t nl w10 HTY9 HNL).mono ?_
          rintro e w11 ⟨rfl, rfl⟩
          go_wp2_with fail
          refine (size_t gx bx t sl w11 HTX9 HSL).mono ?_
          rintro e w12 ⟨rfl, rfl⟩
          go_wp2_with fail
          refine (size_t gy by8 t sl w12 HTY9 HSL).mono ?_
          rintro e w13 ⟨rfl, rfl⟩
          go_wp2_with fail
          refine (most_t gx bx t (t.1 : Int) w13 HTX9 (Lib.hid rfl)).mono ?_
          rintro e w14 ⟨rfl, rfl⟩
          go_wp2_with fail
          refine (most_t gy by8 t (t.1 : Int) w14 HTY9 (Lib.hid rfl)).mono ?_
          rintro e w15 ⟨rfl, rfl⟩
          clear HTX8 HTY HS8 HF6 HRD8 HBX8
          go_wp2_with fail
          obtain ⟨wo, rfl⟩ : ∃ wo : World, wo = w15 := ⟨_, rfl⟩
          have HBO := Lib.hid (Below.refl wo.heap.size wo)
          go_loopw [11] (fun i wr => ∃ k : Nat, k ≤ nl ∧ i = .int .i64 (k : Int) ∧ Hid (Below wo.heap.size wo wr)) (fun i _ => nl + 1 - (intOf i).toNat)
          case atStart => exact ⟨0, Nat.zero_le _, rfl, HBO⟩
          case round =>
            obtain ⟨k, hk, rfl, HBK⟩ := hrel
            clear HBO
            have HTXk := Lib.hid (HTX9.out.below HBK.out)
            have HTYk := Lib.hid (HTY9.out.below HBK.out)
            have hk0 : (0 : Int) ≤ (k : Int) := by omega
            have ew2 : IntKind.i64.wrap (62 + (k : Int)) = 62 + (k : Int) := by rw [IntKind.wrap_i64]; omega
            have ew3 : IntKind.i64.wrap ((k : Int) + 1) = ((k + 1 : Nat) : Int) := by rw [IntKind.wrap_i64]; omega
            go_wp2_with fail
            refine (len_t gx bx t nl wr HTXk HNL).mono ?_
            rintro e w16 ⟨rfl, rfl⟩
            by_cases hkl : k < nl
            · have hki : (k : Int) < (nl : Int) := by omega
              obtain ⟨⟨xn, xv⟩, hen⟩ : ∃ z, entAt t.2 k = z := ⟨_, rfl⟩
              have HAT := Lib.hid (show atR (fixedT ++ t.2) (62 + (k : Int)) = ((xn, xv), true) by rw [at_mine (by rw [HNL.out]; exact hkl), hen])
              have fx : (xn.toList == xn.toList) = true := beq_self_eq_true _
              have fy : (xv.toList == xv.toList) = true := beq_self_eq_true _
              clear hen
              go_wp2_with fail
              refine (at_is gx bx t (62 + (k : Int)) xn xv true w16 HTXk hfit (by omega) (by omega) HAT).mono ?_
              rintro e w17 ⟨rfl, hB17⟩
              have HTY17 := Lib.hid (HTYk.out.below hB17)
              have HB17 := Lib.hid (HBK.out.trans (hB17.mono HBK.out.size))
              clear hB17
              go_wp2_with fail
              refine (at_is gy by8 t (62 + (k : Int)) xn xv true w17 HTY17 hfit (by omega) (by omega) HAT).mono ?_
              rintro e w18 ⟨rfl, hB18⟩
              have HB18 := Lib.hid (HB17.out.trans (hB18.mono HB17.out.size))
              clear hB18
              go_wp2_with fail
              go_roundw
              case rel => exact ⟨k + 1, by omega, rfl, HB18⟩
              case measure => simp [intOf]; omega
            · have hki : ¬ ((k : Int) < (nl : Int)) := by omega
              have HSZ := Lib.hid (HS9.out.below HBK.out)
              go_wp2_with fail
              go_roundw
              case rel => exact ⟨j + 1, b5, b6, _, _, by omega, rfl, HSZ, Lib.hid (rel_same HO4.out)⟩
              case measure => simp [intOf]; omega
    · have hjn : j = len0 := by omega
      subst hjn
      have hnj : ¬ ((j : Int) < (j : Int)) := by omega
      have HBE := Lib.hid HS.out.bel
      go_wp2_with fail
      go_ret
      exact ⟨rfl, HBE.out⟩

set_option maxRecDepth 100000 in
theorem lifted (os : Os) (started : os.Started) (H : Type) (enc : TypeId × Value → H) :
    ReturnsInHanded {} Try.checked os 3 .any (Rows.packBackSpec.pre6 enc Try.prog Try.f3 Rows.packBackRow.domain false) (Rows.packBackSpec.post enc Try.prog Try.f3 false true false false) := by
  refine returnsInHanded_of_change (C := Try.checked) own started (by kernel_rfl) Try.func3
    (ChangeSpec.witness6 (enc := enc) (C := Try.checked) false ⟨#[], #[.slice none 0 0], []⟩ 8 (by kernel_rfl) (by kernel_rfl) (by kernel_rfl) (by kernel_rfl)) ?_
  intro W base args ds gs before hval0 hW hcnd _
  have hval : ∀ (j : Nat) t v, Try.f3.params[j]? = some t → args[j]? = some v → Value.okWide Try.prog W .any base t v := hval0
  have hW' := hW
  obtain ⟨p, q, hA0, hV, rfl, hfz, hnd⟩ := hW
  have hA : DataW.TrodAll enc Try.prog W 0 (fun _ => true) true Try.f3.params.toList args.toList ds p := hA0
  rw [Try.params3] at hA hval
  obtain ⟨v0, vs0, d0, ds0, p0, q0, hargs, rfl, rfl, h0, r0⟩ := trodAll_cons hA
  obtain ⟨rfl, rfl, rfl⟩ := trodAll_nil r0
  obtain rfl : args = #[v0] := by cases args; simp_all
  obtain ⟨rfl, rfl⟩ := trodVars_none hV
  obtain ⟨a0, len0, cap0, rfl⟩ := okWide_slice Try.underlying22 (hval 0 22 v0 rfl rfl)
  have k0 := h0
  have lt0 : ∀ x ∈ p0, x.block < W.heap.size := by obtain ⟨m, hm⟩ := k0; exact DataW.trod_lt m _ _ _ hm
  obtain ⟨hl0, L0, hN0, hR0⟩ : len0 ≤ maxLen ∧ ∃ L : List Pk.ActP, L.length = len0 ∧ Pk.RdA W W.heap.size a0 L := by
    obtain ⟨fuel, hf⟩ := h0
    exact Pk.rda_of_trod hf
  clear hA0 hval0
  refine (walk a0 len0 cap0 L0 W hl0 hN0 hR0).mono fun e W' ⟨he, bel⟩ => ?_
  subst he
  exact ⟨_, rfl, _, _, _, [], _, [], hW', trodAll_mk1 (shut_bool Try.underlying4 _), (trodAll_cons_mk (Below.trod laidOut (by kernel_rfl) (of_decide_eq_true (by kernel_rfl)) k0 bel lt0) trodAll_mk0), rfl, bel.frame _, fun h => by cases h⟩

theorem over : Rows.packBackRow.holds Try.pinned (OpenSpec.ofChange Rows.packBackSpec) :=
  OpenClaim.holds_of_wide 3 Try.f3 rfl rfl rfl rfl rfl rfl rfl ⟨rfl, rfl, rfl, rfl, rfl⟩ rfl rfl rfl rfl rfl (by kernel_rfl) Try.func3 (by kernel_rfl)
    (of_decide_eq_true (by kernel_rfl)) (by unfold Func.isWrapper; first | (rw [if_pos (by decide +kernel)]; kernel_rfl) | (rw [if_neg (by decide +kernel)]; exact ⟨rfl, rfl⟩))
    (fun os started H enc _ => lifted os started H enc)

theorem proved : Rows.PackBackSaid := over
#print axioms proved
end Go.Proofs.Ytamgnbjdeoklbaa.packBack
