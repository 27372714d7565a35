/- The document's Wrong of layer 14. For payloads of at most 10^6 bytes. -/
import Derived.Test.YtfgeapoojogdbaaProg
import Derived.Test.YtfgeapoojogdbaaBytes
import Derived.Test.YtfgeapoojogdbaaNumBe
import Derived.Test.YtfgeapoojogdbaaFrMath
import Derived.Test.YtfgeapoojogdbaaFrRef
import Derived.WalkKit
import Derived.Lib.Hide
import Derived.Laws.Rows
import Derived.Outline
import Derived.IntWalk
import Derived.WalkSpells
import Derived.WalkLawsBesides
import Derived.Deep.CutRange
import Derived.Deep.RegionWith
namespace Go.Proofs.Ytfgeapoojogdbaa
open Go Go.RowKit Bytes Fr

set_option maxHeartbeats 8000000 in
set_option maxRecDepth 100000 in
theorem fheads_is (f : Frm) (R1 R2 : Nat) (w : World) (hf : Okf f) (hs : f.data.size ≤ 1000000) (hty1 : Hid (f.ty = 1)) (hR : Hid (headsF f = (R1, R2))) :
    Calls Try.prog 29 #[.agg #[.int .u8 (f.ty : Int), .int .u8 (f.fl : Int), .int .u32 (f.st : Int), .string f.data]] w fun e w' => e = .returned (.tuple #[.int .i64 (R1 : Int), .int .i64 (R2 : Int)]) ∧ Below w.heap.size w w' := by
  obtain ⟨hX, hB⟩ := boxF_new w f
  have HX := Lib.hid hX
  have HB := Lib.hid hB
  have hty := hf.ty
  have hst := hf.st
  clear hX hB
  obtain ⟨a0, a1, a2, a3⟩ := HX.out.c
  go_enter Try.func29, Try.ntmps29
  go_upto_region 1 with fail
  generalize w.alloc (.cells #[.int .u8 (f.ty : Int), .int .u8 (f.fl : Int), .int .u32 (f.st : Int), .string f.data] 24) = W at *
  by_cases hst0 : f.st = 0
  · skip
    have s1 : ((f.st : Int) == 0) = true := beq_iff_eq.2 (by omega)
    have s2 : ((f.st : Int) != 0) = false := by rw [bne, s1]; rfl
    have s3 : decide ((f.st : Int) = 0) = true := decide_eq_true (by omega)
    have hw : headsF f = (2, 1) := by
      unfold headsF
      simp [hst0]
    obtain ⟨rfl, rfl⟩ : R1 = 2 ∧ R2 = 1 := by
      have h := hR.out
      rw [hw] at h
      injection h with h1 h2
      exact ⟨h1.symm, h2.symm⟩
    clear hw hR
    clear hst0
    go_wp2_with fail
    go_ret2
    exact ⟨rfl, HB.out⟩
  obtain ⟨k, hk⟩ : ∃ k, aheadF f = k := ⟨_, rfl⟩
  have hk6 : k ≤ 6 := by rw [← hk]; exact ahead_le f
  have HK := Lib.hid hk
  have s1 : ((f.st : Int) == 0) = false := beq_eq_false_iff_ne.2 (by omega)
  have s2 : ((f.st : Int) != 0) = true := by rw [bne, s1]; rfl
  have s3 : decide ((f.st : Int) = 0) = false := decide_eq_false (by omega)
  obtain ⟨q8, h8⟩ : ∃ q, flagF f 8 = q := ⟨_, rfl⟩
  have H8 := Lib.hid h8
  obtain ⟨q32, h32⟩ : ∃ q, flagF f 32 = q := ⟨_, rfl⟩
  have H32 := Lib.hid h32
  have hk8 : q8 = true → 1 ≤ k := fun e => by rw [← hk]; unfold aheadF; rw [h8, e]; simp only [if_true]; omega
  go_wp2_with fail
  refine (fahead_is f k W hf HK).mono ?_
  rintro e w1 ⟨rfl, hB1⟩
  have HX1 := Lib.hid (HX.out.below hB1)
  have HB1 := Lib.hid (HB.out.trans (hB1.mono HB.out.size))
  clear hB1 a0 a1 a2 a3
  obtain ⟨a0, a1, a2, a3⟩ := HX1.out.c
  by_cases hlt : f.data.size < k
  · skip
    have l1 : (f.data.size : Int) < (k : Int) := by omega
    have hw : headsF f = (2, 6) := by
      unfold headsF
      simp [hst0, hk, hlt]
    obtain ⟨rfl, rfl⟩ : R1 = 2 ∧ R2 = 6 := by
      have h := hR.out
      rw [hw] at h
      injection h with h1 h2
      exact ⟨h1.symm, h2.symm⟩
    clear hw hR
    clear hst0 hk hlt
    go_wp2_with fail
    go_ret2
    exact ⟨rfl, HB1.out⟩
  have l1 : ¬ ((f.data.size : Int) < (k : Int)) := by omega
  have l2 : decide ((f.data.size : Int) < (k : Int)) = false := decide_eq_false l1
  obtain ⟨v0, hv0⟩ : ∃ v, bN f.data 0 = v := ⟨_, rfl⟩
  have hv : v0 < 256 := by rw [← hv0]; exact bN_lt _ _
  have ewk : IntKind.i64.wrap ((f.data.size : Int) - (k : Int)) = ((f.data.size - k : Nat) : Int) := by rw [IntKind.wrap_i64]; omega
  obtain ⟨m, hm⟩ : ∃ m, f.data.size - k = m := ⟨_, rfl⟩
  rw [hm] at ewk
  have hmb : m ≤ 1000000 := by omega
  obtain ⟨q6, hq6⟩ : ∃ q, (q8 && decide (m < v0)) = q := ⟨_, rfl⟩
  have HFI := Lib.hid (fun W2 : World => fflag_is f 8 q8 W2 hf (by decide) (by decide) H8)
  have HX1d := Lib.hid (HX1.out.below (Below.refl _ w1).drew)
  have HB1d := Lib.hid (HB1.out.drew)
  go_upto_region 6 with fail
  clear a0 a1 a2 a3
  obtain ⟨a0, a1, a2, a3⟩ := HX1d.out.c
  have HRES : Hid (q6 = true → R1 = 2 ∧ R2 = 1) := Lib.hid fun e => by
    subst e
    rw [Bool.and_eq_true, decide_eq_true_iff] at hq6
    have hw : headsF f = (2, 1) := by
      unfold headsF
      rw [if_neg hst0, hk, if_neg hlt, hm, hv0, if_pos ⟨h8.trans hq6.1, hq6.2⟩]
    have h := hR.out
    rw [hw] at h
    injection h with h1 h2
    exact ⟨h1.symm, h2.symm⟩
  have HRES2 : Hid (q6 = false → (if q32 = true ∧ selfF f (k - 5) = true then ((1, 1) : Nat × Nat) else (0, 0)) = (R1, R2)) := Lib.hid fun e => by
    subst e
    have hn : ¬ (flagF f 8 = true ∧ m < v0) := fun hh => by
      rw [← h8, hh.1, decide_eq_true hh.2] at hq6
      exact absurd hq6 (by decide)
    have h := hR.out
    unfold headsF at h
    rw [if_neg hst0, hk, if_neg hlt, hm, hv0, if_neg hn, h32] at h
    exact h
  have hk32 : q32 = true → 5 ≤ k := fun e => by rw [← hk]; unfold aheadF; rw [h32, e, if_pos (c := f.ty = 1 ∧ true = true) ⟨hty1.out, rfl⟩]; omega
  have HK32 := Lib.hid hk32
  go_cut [28] from 15 to 28 (fun s wx => s = .bool q6 ∧ Hid (BoxF wx w.heap.size f) ∧ Hid (Below w.heap.size w wx))
  case first =>
    cases q8 with
    | true =>
      have hk1 := hk8 rfl
      have hp : 0 < f.data.size := by omega
      have hpi : (0 : Int) < (f.data.size : Int) := by omega
      have hb0 := bN_at hp
      obtain ⟨y, hy⟩ : ∃ y, f.data[0] = y := ⟨_, rfl⟩
      rw [hy, hv0] at hb0
      have ewy : IntKind.i64.wrap (y.toNat : Int) = (v0 : Int) := by rw [IntKind.wrap_i64]; omega
      have g1 : decide ((m : Int) < (v0 : Int)) = q6 := by
        rw [← hq6, Bool.true_and, Bool.eq_iff_iff, decide_eq_true_iff, decide_eq_true_iff]
        omega
      have g3 : decide (m < v0) = q6 := by rw [← hq6, Bool.true_and]
      clear hst0 hk hlt hm hv0 h8 h32 hk8 hq6 hk32 hb0
      first | go_region_with (go_at_call 28; refine (HFI.out _).mono ?_; rintro e w2 ⟨rfl, hB2⟩; have HX2 := Lib.hid (HX1d.out.below hB2); have HB2 := Lib.hid (HB1d.out.trans (hB2.mono HB1d.out.size)); clear hB2; (obtain ⟨b0, b1, b2, b3⟩ := HX2.out.c))
      all_goals
        go_wp2_with fail
        go_meet
        exact ⟨by first | rfl | rw [g3], HX2, HB2⟩
    | false =>
      rw [Bool.false_and] at hq6
      subst hq6
      clear hst0 hk hlt hm hv0 h8 h32 hk8 hk32
      refine wp_region_any (by kernel_rfl) ?_
      change wpAny _ _ _ _ _ _ _ (World.drew _)
      refine wpAny_ready (rs := [0]) (by kernel_rfl) (by simp) ?_
      refine AllReady.cons rfl (fun K hK => ?_) AllReady.nil
      go_simp
      refine hK _ _ ?_
      clear hK K
      refine wpAny_ready (rs := [1]) (by kernel_rfl) (by simp) ?_
      refine AllReady.cons rfl (fun K hK => ?_) AllReady.nil
      go_simp
      refine (HFI.out _).mono ?_
      rintro e w2 ⟨rfl, hB2⟩
      have HX2 := Lib.hid (HX1d.out.below hB2)
      have HB2 := Lib.hid (HB1d.out.trans (hB2.mono HB1d.out.size))
      clear hB2
      refine hK _ _ ?_
      clear hK K
      refine wpAny_ready (rs := [2]) (by kernel_rfl) (by simp) ?_
      refine AllReady.cons rfl (fun K hK => ?_) AllReady.nil
      go_simp
      refine hK _ _ ?_
      clear hK K
      refine wpAny_take (i := 3) (v := undef) rfl (by kernel_rfl) (by kernel_rfl) (by kernel_rfl) (fun _ _ _ h => h) (Or.inr ⟨by kernel_rfl, rfl⟩) ?_
      refine wpAny_take (i := 4) (v := undef) rfl (by kernel_rfl) (by kernel_rfl) (by kernel_rfl) (fun _ _ _ h => h) (Or.inr ⟨by kernel_rfl, rfl⟩) ?_
      refine wpAny_take (i := 5) (v := undef) rfl (by kernel_rfl) (by kernel_rfl) (by kernel_rfl) (fun _ _ _ h => h) (Or.inr ⟨by kernel_rfl, rfl⟩) ?_
      refine wpAny_take (i := 6) (v := undef) rfl (by kernel_rfl) (by kernel_rfl) (by kernel_rfl) (fun _ _ _ h => h) (Or.inr ⟨by kernel_rfl, rfl⟩) ?_
      refine wpAny_take (i := 7) (v := undef) rfl (by kernel_rfl) (by kernel_rfl) (by kernel_rfl) (fun _ _ _ h => h) (Or.inr ⟨by kernel_rfl, rfl⟩) ?_
      refine wpAny_take (i := 8) (v := undef) rfl (by kernel_rfl) (by kernel_rfl) (by kernel_rfl) (fun _ _ _ h => h) (Or.inr ⟨by kernel_rfl, rfl⟩) ?_
      refine wpAny_take (i := 9) (v := undef) rfl (by kernel_rfl) (by kernel_rfl) (by kernel_rfl) (fun _ _ _ h => h) (Or.inr ⟨by kernel_rfl, rfl⟩) ?_
      refine wpAny_take (i := 10) (v := undef) rfl (by kernel_rfl) (by kernel_rfl) (by kernel_rfl) (fun _ _ _ h => h) (Or.inr ⟨by kernel_rfl, rfl⟩) ?_
      refine wpAny_take (i := 11) (v := undef) rfl (by kernel_rfl) (by kernel_rfl) (by kernel_rfl) (fun _ _ _ h => h) (Or.inr ⟨by kernel_rfl, rfl⟩) ?_
      refine wpAny_take (i := 12) (v := undef) rfl (by kernel_rfl) (by kernel_rfl) (by kernel_rfl) (fun _ _ _ h => h) (Or.inr ⟨by kernel_rfl, rfl⟩) ?_
      refine wpAny_ready (rs := [13]) (by kernel_rfl) (by simp) ?_
      refine AllReady.cons rfl (fun K hK => ?_) AllReady.nil
      go_simp
      refine hK _ _ ?_
      clear hK K
      refine wpAny_done (by kernel_rfl) ?_ _
      go_wp2_with fail
      go_meet
      exact ⟨rfl, HX2, HB2⟩
  case rest =>
    obtain ⟨rfl, HX2, HB2⟩ := hcut
    generalize wc = w2 at *
    clear a0 a1 a2 a3 HX1d HB1d hq6 hst0 hk hlt hm hv0 h8 h32 hk8 hk32
    cases q6 with
    | true =>
      obtain ⟨rfl, rfl⟩ := HRES.out rfl
      go_wp2_with fail
      go_ret2
      exact ⟨rfl, HB2.out⟩
    | false =>
      have hr := HRES2.out rfl
      clear HRES HRES2
      obtain ⟨a0, a1, a2, a3⟩ := HX2.out.c
      cases q32 with
      | false =>
        rw [if_neg (by intro h; exact absurd h.1 (by decide))] at hr
        injection hr with hr1 hr2
        subst hr1 hr2
        go_wp2_with fail
        refine (fflag_is f 32 false w2 hf (by decide) (by decide) H32).mono ?_
        rintro e w3 ⟨rfl, hB3⟩
        have HB3 := Lib.hid (HB2.out.trans (hB3.mono HB2.out.size))
        clear hB3 a0 a1 a2 a3
        go_wp2_with fail
        go_ret2
        exact ⟨rfl, HB3.out⟩
      | true =>
        have hk5 := HK32.out rfl
        have ewk5 : IntKind.i64.wrap ((k : Int) - 5) = ((k - 5 : Nat) : Int) := by rw [IntKind.wrap_i64]; omega
        obtain ⟨k5, hk5e⟩ : ∃ z, k - 5 = z := ⟨_, rfl⟩
        rw [hk5e] at ewk5 hr
        have hi4 : k5 + 4 ≤ f.data.size := by omega
        have hk0 : (0 : Int) ≤ (k : Int) - 5 := by omega
        obtain ⟨qs, hqs⟩ : ∃ q, selfF f k5 = q := ⟨_, rfl⟩
        have HQS := Lib.hid hqs
        rw [hqs] at hr
        clear hk5e hqs HK32
        cases qs with
        | true =>
          rw [if_pos ⟨rfl, rfl⟩] at hr
          injection hr with hr1 hr2
          subst hr1 hr2
          go_wp2_with fail
          refine (fflag_is f 32 true w2 hf (by decide) (by decide) H32).mono ?_
          rintro e w3 ⟨rfl, hB3⟩
          have HX3 := Lib.hid (HX2.out.below hB3)
          have HB3 := Lib.hid (HB2.out.trans (hB3.mono HB2.out.size))
          clear hB3 a0 a1 a2 a3
          obtain ⟨a0, a1, a2, a3⟩ := HX3.out.c
          go_wp2_with fail
          refine (fself_is f k5 true w3 hf hs hi4 HQS).mono ?_
          rintro e w4 ⟨rfl, hB4⟩
          have HB4 := Lib.hid (HB3.out.trans (hB4.mono HB3.out.size))
          clear hB4
          go_wp2_with fail
          go_ret2
          exact ⟨rfl, HB4.out⟩
        | false =>
          rw [if_neg (by intro h; exact absurd h.2 (by decide))] at hr
          injection hr with hr1 hr2
          subst hr1 hr2
          go_wp2_with fail
          refine (fflag_is f 32 true w2 hf (by decide) (by decide) H32).mono ?_
          rintro e w3 ⟨rfl, hB3⟩
          have HX3 := Lib.hid (HX2.out.below hB3)
          have HB3 := Lib.hid (HB2.out.trans (hB3.mono HB2.out.size))
          clear hB3 a0 a1 a2 a3
          obtain ⟨a0, a1, a2, a3⟩ := HX3.out.c
          go_wp2_with fail
          refine (fself_is f k5 false w3 hf hs hi4 HQS).mono ?_
          rintro e w4 ⟨rfl, hB4⟩
          have HB4 := Lib.hid (HB3.out.trans (hB4.mono HB3.out.size))
          clear hB4
          go_wp2_with fail
          go_ret2
          exact ⟨rfl, HB4.out⟩

set_option maxHeartbeats 8000000 in
set_option maxRecDepth 100000 in
theorem fwrong_is (f : Frm) (R1 R2 : Nat) (w : World) (hf : Okf f) (hs : f.data.size ≤ 1000000) (hR : Hid (wrongF f = (R1, R2))) :
    Calls Try.prog 14 #[.agg #[.int .u8 (f.ty : Int), .int .u8 (f.fl : Int), .int .u32 (f.st : Int), .string f.data]] w fun e w' => e = .returned (.tuple #[.int .i64 (R1 : Int), .int .i64 (R2 : Int)]) ∧ Below w.heap.size w w' := by
  obtain ⟨hX, hB⟩ := boxF_new w f
  have HX := Lib.hid hX
  have HB := Lib.hid hB
  have hty := hf.ty
  have hst := hf.st
  clear hX hB
  obtain ⟨a0, a1, a2, a3⟩ := HX.out.c
  go_enter Try.func14, Try.ntmps14
  go_upto_region 1 with fail
  generalize w.alloc (.cells #[.int .u8 (f.ty : Int), .int .u8 (f.fl : Int), .int .u32 (f.st : Int), .string f.data] 24) = W at *
  obtain ⟨q1, h1⟩ : ∃ q, flagF f 1 = q := ⟨_, rfl⟩
  have H1 := Lib.hid h1
  obtain ⟨q8, h8⟩ : ∃ q, flagF f 8 = q := ⟨_, rfl⟩
  have H8 := Lib.hid h8
  rcases (show f.ty = 0 ∨ f.ty = 1 ∨ f.ty = 2 ∨ f.ty = 3 ∨ f.ty = 4 ∨ f.ty = 5 ∨ f.ty = 6 ∨ f.ty = 7 ∨ f.ty = 8 ∨ f.ty = 9 ∨ 9 < f.ty by omega) with ht | ht | ht | ht | ht | ht | ht | ht | ht | ht | ht
  · skip
    have t0 : ((f.ty : Int) == 0) = true := beq_iff_eq.2 (by omega)
    by_cases hst0 : f.st = 0
    · skip
      have s1 : ((f.st : Int) == 0) = true := beq_iff_eq.2 (by omega)
      have s2 : ((f.st : Int) != 0) = false := by rw [bne, s1]; rfl
      have s3 : decide ((f.st : Int) = 0) = true := decide_eq_true (by omega)
      have hw : wrongF f = (2, 1) := by
        unfold wrongF
        simp [ht, hst0]
      obtain ⟨rfl, rfl⟩ : R1 = 2 ∧ R2 = 1 := by
        have h := hR.out
        rw [hw] at h
        injection h with h1 h2
        exact ⟨h1.symm, h2.symm⟩
      clear hw hR
      clear hst0 ht hty
      go_wp2_with fail
      go_ret2
      exact ⟨rfl, HB.out⟩
    have s1 : ((f.st : Int) == 0) = false := beq_eq_false_iff_ne.2 (by omega)
    have s2 : ((f.st : Int) != 0) = true := by rw [bne, s1]; rfl
    have s3 : decide ((f.st : Int) = 0) = false := decide_eq_false (by omega)
    cases q8 with
    | false =>
      have hw : wrongF f = (0, 0) := by
        unfold wrongF
        simp [ht, hst0, h8]
      obtain ⟨rfl, rfl⟩ : R1 = 0 ∧ R2 = 0 := by
        have h := hR.out
        rw [hw] at h
        injection h with h1 h2
        exact ⟨h1.symm, h2.symm⟩
      clear hw hR
      clear hst0 ht hty h8
      go_wp2_with fail
      refine (fflag_is f 8 false W hf (by decide) (by decide) H8).mono ?_
      rintro e w1 ⟨rfl, hB1⟩
      have HX1 := Lib.hid (HX.out.below hB1)
      have HB1 := Lib.hid (HB.out.trans (hB1.mono HB.out.size))
      clear hB1 a0 a1 a2 a3
      obtain ⟨a0, a1, a2, a3⟩ := HX1.out.c
      go_wp2_with fail
      refine (fflag_is f 8 false w1 hf (by decide) (by decide) H8).mono ?_
      rintro e w2 ⟨rfl, hB2⟩
      have HX2 := Lib.hid (HX1.out.below hB2)
      have HB2 := Lib.hid (HB1.out.trans (hB2.mono HB1.out.size))
      clear hB2 a0 a1 a2 a3
      obtain ⟨a0, a1, a2, a3⟩ := HX2.out.c
      go_wp2_with fail
      go_ret2
      exact ⟨rfl, HB2.out⟩
    | true =>
      by_cases hz : f.data.size = 0
      · skip
        have z1 : ((f.data.size : Int) == 0) = true := beq_iff_eq.2 (by omega)
        have z2 : ((f.data.size : Int) != 0) = false := by rw [bne, z1]; rfl
        have hw : wrongF f = (2, 6) := by
          unfold wrongF
          simp [ht, hst0, h8, hz]
        obtain ⟨rfl, rfl⟩ : R1 = 2 ∧ R2 = 6 := by
          have h := hR.out
          rw [hw] at h
          injection h with h1 h2
          exact ⟨h1.symm, h2.symm⟩
        clear hw hR
        clear hst0 ht hty h8 hz
        go_wp2_with fail
        refine (fflag_is f 8 true W hf (by decide) (by decide) H8).mono ?_
        rintro e w1 ⟨rfl, hB1⟩
        have HX1 := Lib.hid (HX.out.below hB1)
        have HB1 := Lib.hid (HB.out.trans (hB1.mono HB.out.size))
        clear hB1 a0 a1 a2 a3
        obtain ⟨a0, a1, a2, a3⟩ := HX1.out.c
        go_wp2_with fail
        go_ret2
        exact ⟨rfl, HB1.out⟩
      have z1 : ((f.data.size : Int) == 0) = false := beq_eq_false_iff_ne.2 (by omega)
      have z2 : ((f.data.size : Int) != 0) = true := by rw [bne, z1]; rfl
      have hp : 0 < f.data.size := by omega
      have hpi : (0 : Int) < (f.data.size : Int) := by omega
      have hb0 := bN_at hp
      obtain ⟨y, hy⟩ : ∃ y, f.data[0] = y := ⟨_, rfl⟩
      rw [hy] at hb0
      have hyb := y.toNat_lt
      have ewy : IntKind.i64.wrap (y.toNat : Int) = (y.toNat : Int) := by rw [IntKind.wrap_i64]; omega
      by_cases hge : f.data.size ≤ y.toNat
      · skip
        have g1 : (f.data.size : Int) ≤ (y.toNat : Int) := by omega
        have hw : wrongF f = (2, 1) := by
          unfold wrongF
          simp [ht, hst0, h8, hz, hb0, hge]
        obtain ⟨rfl, rfl⟩ : R1 = 2 ∧ R2 = 1 := by
          have h := hR.out
          rw [hw] at h
          injection h with h1 h2
          exact ⟨h1.symm, h2.symm⟩
        clear hw hR
        clear hst0 ht hty h8 hz hge hb0
        go_wp2_with fail
        refine (fflag_is f 8 true W hf (by decide) (by decide) H8).mono ?_
        rintro e w1 ⟨rfl, hB1⟩
        have HX1 := Lib.hid (HX.out.below hB1)
        have HB1 := Lib.hid (HB.out.trans (hB1.mono HB.out.size))
        clear hB1 a0 a1 a2 a3
        obtain ⟨a0, a1, a2, a3⟩ := HX1.out.c
        go_wp2_with fail
        refine (fflag_is f 8 true w1 hf (by decide) (by decide) H8).mono ?_
        rintro e w2 ⟨rfl, hB2⟩
        have HX2 := Lib.hid (HX1.out.below hB2)
        have HB2 := Lib.hid (HB1.out.trans (hB2.mono HB1.out.size))
        clear hB2 a0 a1 a2 a3
        obtain ⟨a0, a1, a2, a3⟩ := HX2.out.c
        go_wp2_with fail
        go_ret2
        exact ⟨rfl, HB2.out⟩
      have g1 : ¬ ((f.data.size : Int) ≤ (y.toNat : Int)) := by omega
      have g2 : decide ((f.data.size : Int) ≤ (y.toNat : Int)) = false := decide_eq_false g1
      have hw : wrongF f = (0, 0) := by
        unfold wrongF
        simp [ht, hst0, h8, hz, hb0, hge]
      obtain ⟨rfl, rfl⟩ : R1 = 0 ∧ R2 = 0 := by
        have h := hR.out
        rw [hw] at h
        injection h with h1 h2
        exact ⟨h1.symm, h2.symm⟩
      clear hw hR
      clear hst0 ht hty h8 hz hge hb0
      go_wp2_with fail
      refine (fflag_is f 8 true W hf (by decide) (by decide) H8).mono ?_
      rintro e w1 ⟨rfl, hB1⟩
      have HX1 := Lib.hid (HX.out.below hB1)
      have HB1 := Lib.hid (HB.out.trans (hB1.mono HB.out.size))
      clear hB1 a0 a1 a2 a3
      obtain ⟨a0, a1, a2, a3⟩ := HX1.out.c
      go_wp2_with fail
      refine (fflag_is f 8 true w1 hf (by decide) (by decide) H8).mono ?_
      rintro e w2 ⟨rfl, hB2⟩
      have HX2 := Lib.hid (HX1.out.below hB2)
      have HB2 := Lib.hid (HB1.out.trans (hB2.mono HB1.out.size))
      clear hB2 a0 a1 a2 a3
      obtain ⟨a0, a1, a2, a3⟩ := HX2.out.c
      go_wp2_with fail
      go_ret2
      exact ⟨rfl, HB2.out⟩
  · skip
    have t0 : ((f.ty : Int) == 0) = false := beq_eq_false_iff_ne.2 (by omega)
    have t1 : ((f.ty : Int) == 1) = true := beq_iff_eq.2 (by omega)
    have hRh := Lib.hid (show headsF f = (R1, R2) by have h := hR.out; unfold wrongF at h; rw [ht] at h; exact h)
    have hty1 := Lib.hid ht
    clear ht hty hR
    go_wp2_with fail
    refine (fheads_is f R1 R2 W hf hs hty1 hRh).mono ?_
    rintro e w1 ⟨rfl, hB1⟩
    have HX1 := Lib.hid (HX.out.below hB1)
    have HB1 := Lib.hid (HB.out.trans (hB1.mono HB.out.size))
    clear hB1 a0 a1 a2 a3
    obtain ⟨a0, a1, a2, a3⟩ := HX1.out.c
    go_wp2_with fail
    go_ret2
    exact ⟨rfl, HB1.out⟩
  · skip
    have t0 : ((f.ty : Int) == 0) = false := beq_eq_false_iff_ne.2 (by omega)
    have t1 : ((f.ty : Int) == 1) = false := beq_eq_false_iff_ne.2 (by omega)
    have t2 : ((f.ty : Int) == 2) = true := beq_iff_eq.2 (by omega)
    by_cases hst0 : f.st = 0
    · skip
      have s1 : ((f.st : Int) == 0) = true := beq_iff_eq.2 (by omega)
      have s2 : ((f.st : Int) != 0) = false := by rw [bne, s1]; rfl
      have s3 : decide ((f.st : Int) = 0) = true := decide_eq_true (by omega)
      have hw : wrongF f = (2, 1) := by
        unfold wrongF
        simp [ht, hst0]
      obtain ⟨rfl, rfl⟩ : R1 = 2 ∧ R2 = 1 := by
        have h := hR.out
        rw [hw] at h
        injection h with h1 h2
        exact ⟨h1.symm, h2.symm⟩
      clear hw hR
      clear hst0 ht hty
      go_wp2_with fail
      go_ret2
      exact ⟨rfl, HB.out⟩
    have s1 : ((f.st : Int) == 0) = false := beq_eq_false_iff_ne.2 (by omega)
    have s2 : ((f.st : Int) != 0) = true := by rw [bne, s1]; rfl
    have s3 : decide ((f.st : Int) = 0) = false := decide_eq_false (by omega)
    by_cases hz : f.data.size = 5
    · skip
      have z1 : ((f.data.size : Int) == 5) = true := beq_iff_eq.2 (by omega)
      have z2 : ((f.data.size : Int) != 5) = false := by rw [bne, z1]; rfl
      obtain ⟨q, hq⟩ : ∃ q, selfF f 0 = q := ⟨_, rfl⟩
      have HS := Lib.hid hq
      have hi4 : 0 + 4 ≤ f.data.size := by omega
      cases q with
      | true =>
        have hw : wrongF f = (1, 1) := by
          unfold wrongF
          simp [ht, hst0, hz, hq]
        obtain ⟨rfl, rfl⟩ : R1 = 1 ∧ R2 = 1 := by
          have h := hR.out
          rw [hw] at h
          injection h with h1 h2
          exact ⟨h1.symm, h2.symm⟩
        clear hw hR
        clear hst0 ht hty hz hq
        go_wp2_with fail
        refine (fself_is f 0 true W hf hs hi4 HS).mono ?_
        rintro e w1 ⟨rfl, hB1⟩
        have HX1 := Lib.hid (HX.out.below hB1)
        have HB1 := Lib.hid (HB.out.trans (hB1.mono HB.out.size))
        clear hB1 a0 a1 a2 a3
        obtain ⟨a0, a1, a2, a3⟩ := HX1.out.c
        go_wp2_with fail
        go_ret2
        exact ⟨rfl, HB1.out⟩
      | false =>
        have hw : wrongF f = (0, 0) := by
          unfold wrongF
          simp [ht, hst0, hz, hq]
        obtain ⟨rfl, rfl⟩ : R1 = 0 ∧ R2 = 0 := by
          have h := hR.out
          rw [hw] at h
          injection h with h1 h2
          exact ⟨h1.symm, h2.symm⟩
        clear hw hR
        clear hst0 ht hty hz hq
        go_wp2_with fail
        refine (fself_is f 0 false W hf hs hi4 HS).mono ?_
        rintro e w1 ⟨rfl, hB1⟩
        have HX1 := Lib.hid (HX.out.below hB1)
        have HB1 := Lib.hid (HB.out.trans (hB1.mono HB.out.size))
        clear hB1 a0 a1 a2 a3
        obtain ⟨a0, a1, a2, a3⟩ := HX1.out.c
        go_wp2_with fail
        go_ret2
        exact ⟨rfl, HB1.out⟩
    have z1 : ((f.data.size : Int) == 5) = false := beq_eq_false_iff_ne.2 (by omega)
    have z2 : ((f.data.size : Int) != 5) = true := by rw [bne, z1]; rfl
    have hw : wrongF f = (1, 6) := by
      unfold wrongF
      simp [ht, hst0, hz]
    obtain ⟨rfl, rfl⟩ : R1 = 1 ∧ R2 = 6 := by
      have h := hR.out
      rw [hw] at h
      injection h with h1 h2
      exact ⟨h1.symm, h2.symm⟩
    clear hw hR
    clear hst0 ht hty hz
    go_wp2_with fail
    go_ret2
    exact ⟨rfl, HB.out⟩
  · skip
    have t0 : ((f.ty : Int) == 0) = false := beq_eq_false_iff_ne.2 (by omega)
    have t1 : ((f.ty : Int) == 1) = false := beq_eq_false_iff_ne.2 (by omega)
    have t2 : ((f.ty : Int) == 2) = false := beq_eq_false_iff_ne.2 (by omega)
    have t3 : ((f.ty : Int) == 3) = true := beq_iff_eq.2 (by omega)
    by_cases hst0 : f.st = 0
    · skip
      have s1 : ((f.st : Int) == 0) = true := beq_iff_eq.2 (by omega)
      have s2 : ((f.st : Int) != 0) = false := by rw [bne, s1]; rfl
      have s3 : decide ((f.st : Int) = 0) = true := decide_eq_true (by omega)
      have hw : wrongF f = (2, 1) := by
        unfold wrongF
        simp [ht, hst0]
      obtain ⟨rfl, rfl⟩ : R1 = 2 ∧ R2 = 1 := by
        have h := hR.out
        rw [hw] at h
        injection h with h1 h2
        exact ⟨h1.symm, h2.symm⟩
      clear hw hR
      clear hst0 ht hty
      go_wp2_with fail
      go_ret2
      exact ⟨rfl, HB.out⟩
    have s1 : ((f.st : Int) == 0) = false := beq_eq_false_iff_ne.2 (by omega)
    have s2 : ((f.st : Int) != 0) = true := by rw [bne, s1]; rfl
    have s3 : decide ((f.st : Int) = 0) = false := decide_eq_false (by omega)
    by_cases hz : f.data.size = 4
    · skip
      have z1 : ((f.data.size : Int) == 4) = true := beq_iff_eq.2 (by omega)
      have z2 : ((f.data.size : Int) != 4) = false := by rw [bne, z1]; rfl
      have hw : wrongF f = (0, 0) := by
        unfold wrongF
        simp [ht, hst0, hz]
      obtain ⟨rfl, rfl⟩ : R1 = 0 ∧ R2 = 0 := by
        have h := hR.out
        rw [hw] at h
        injection h with h1 h2
        exact ⟨h1.symm, h2.symm⟩
      clear hw hR
      clear hst0 ht hty hz
      go_wp2_with fail
      go_ret2
      exact ⟨rfl, HB.out⟩
    have z1 : ((f.data.size : Int) == 4) = false := beq_eq_false_iff_ne.2 (by omega)
    have z2 : ((f.data.size : Int) != 4) = true := by rw [bne, z1]; rfl
    have hw : wrongF f = (2, 6) := by
      unfold wrongF
      simp [ht, hst0, hz]
    obtain ⟨rfl, rfl⟩ : R1 = 2 ∧ R2 = 6 := by
      have h := hR.out
      rw [hw] at h
      injection h with h1 h2
      exact ⟨h1.symm, h2.symm⟩
    clear hw hR
    clear hst0 ht hty hz
    go_wp2_with fail
    go_ret2
    exact ⟨rfl, HB.out⟩
  · skip
    have t0 : ((f.ty : Int) == 0) = false := beq_eq_false_iff_ne.2 (by omega)
    have t1 : ((f.ty : Int) == 1) = false := beq_eq_false_iff_ne.2 (by omega)
    have t2 : ((f.ty : Int) == 2) = false := beq_eq_false_iff_ne.2 (by omega)
    have t3 : ((f.ty : Int) == 3) = false := beq_eq_false_iff_ne.2 (by omega)
    have t4 : ((f.ty : Int) == 4) = true := beq_iff_eq.2 (by omega)
    by_cases hst0 : f.st = 0
    · skip
      have s1 : ((f.st : Int) == 0) = true := beq_iff_eq.2 (by omega)
      have s2 : ((f.st : Int) != 0) = false := by rw [bne, s1]; rfl
      have s3 : decide ((f.st : Int) = 0) = true := decide_eq_true (by omega)
      obtain ⟨d, hd⟩ : ∃ d, f.data.size % 6 = d := ⟨_, rfl⟩
      have hdi : (f.data.size : Int) % 6 = (d : Int) := by omega
      have hdb : d < 6 := by omega
      by_cases hd0 : d = 0
      · skip
        have d1 : ((d : Int) != 0) = false := by rw [bne, beq_iff_eq.2 (by omega)]; rfl
        by_cases hz : f.data.size = 0
        · skip
          have z1 : ((f.data.size : Int) == 0) = true := beq_iff_eq.2 (by omega)
          have z2 : ((f.data.size : Int) != 0) = false := by rw [bne, z1]; rfl
          cases q1 with
          | false =>
            have hw : wrongF f = (0, 0) := by
              unfold wrongF
              simp [ht, hst0, h1, hz]
            obtain ⟨rfl, rfl⟩ : R1 = 0 ∧ R2 = 0 := by
              have h := hR.out
              rw [hw] at h
              injection h with h1 h2
              exact ⟨h1.symm, h2.symm⟩
            clear hw hR
            clear hst0 ht hty h1 hz hd0 hd
            go_wp2_with fail
            refine (fflag_is f 1 false W hf (by decide) (by decide) H1).mono ?_
            rintro e w1 ⟨rfl, hB1⟩
            have HX1 := Lib.hid (HX.out.below hB1)
            have HB1 := Lib.hid (HB.out.trans (hB1.mono HB.out.size))
            clear hB1 a0 a1 a2 a3
            obtain ⟨a0, a1, a2, a3⟩ := HX1.out.c
            go_wp2_with fail
            go_ret2
            exact ⟨rfl, HB1.out⟩
          | true =>
            have hw : wrongF f = (0, 0) := by
              unfold wrongF
              simp [ht, hst0, h1, hz]
            obtain ⟨rfl, rfl⟩ : R1 = 0 ∧ R2 = 0 := by
              have h := hR.out
              rw [hw] at h
              injection h with h1 h2
              exact ⟨h1.symm, h2.symm⟩
            clear hw hR
            clear hst0 ht hty h1 hz hd0 hd
            go_wp2_with fail
            refine (fflag_is f 1 true W hf (by decide) (by decide) H1).mono ?_
            rintro e w1 ⟨rfl, hB1⟩
            have HX1 := Lib.hid (HX.out.below hB1)
            have HB1 := Lib.hid (HB.out.trans (hB1.mono HB.out.size))
            clear hB1 a0 a1 a2 a3
            obtain ⟨a0, a1, a2, a3⟩ := HX1.out.c
            go_wp2_with fail
            go_ret2
            exact ⟨rfl, HB1.out⟩
        have z1 : ((f.data.size : Int) == 0) = false := beq_eq_false_iff_ne.2 (by omega)
        have z2 : ((f.data.size : Int) != 0) = true := by rw [bne, z1]; rfl
        cases q1 with
        | false =>
          have hw : wrongF f = (0, 0) := by
            unfold wrongF
            simp [ht, hst0, h1, hz, hd, hd0]
          obtain ⟨rfl, rfl⟩ : R1 = 0 ∧ R2 = 0 := by
            have h := hR.out
            rw [hw] at h
            injection h with h1 h2
            exact ⟨h1.symm, h2.symm⟩
          clear hw hR
          clear hst0 ht hty h1 hz hd0 hd
          go_wp2_with fail
          refine (fflag_is f 1 false W hf (by decide) (by decide) H1).mono ?_
          rintro e w1 ⟨rfl, hB1⟩
          have HX1 := Lib.hid (HX.out.below hB1)
          have HB1 := Lib.hid (HB.out.trans (hB1.mono HB.out.size))
          clear hB1 a0 a1 a2 a3
          obtain ⟨a0, a1, a2, a3⟩ := HX1.out.c
          go_wp2_with fail
          go_ret2
          exact ⟨rfl, HB1.out⟩
        | true =>
          have hw : wrongF f = (2, 6) := by
            unfold wrongF
            simp [ht, hst0, h1, hz]
          obtain ⟨rfl, rfl⟩ : R1 = 2 ∧ R2 = 6 := by
            have h := hR.out
            rw [hw] at h
            injection h with h1 h2
            exact ⟨h1.symm, h2.symm⟩
          clear hw hR
          clear hst0 ht hty h1 hz hd0 hd
          go_wp2_with fail
          refine (fflag_is f 1 true W hf (by decide) (by decide) H1).mono ?_
          rintro e w1 ⟨rfl, hB1⟩
          have HX1 := Lib.hid (HX.out.below hB1)
          have HB1 := Lib.hid (HB.out.trans (hB1.mono HB.out.size))
          clear hB1 a0 a1 a2 a3
          obtain ⟨a0, a1, a2, a3⟩ := HX1.out.c
          go_wp2_with fail
          go_ret2
          exact ⟨rfl, HB1.out⟩
      have d1 : ((d : Int) != 0) = true := by rw [bne, beq_eq_false_iff_ne.2 (by omega)]; rfl
      by_cases hz : f.data.size = 0
      · skip
        have z1 : ((f.data.size : Int) == 0) = true := beq_iff_eq.2 (by omega)
        have z2 : ((f.data.size : Int) != 0) = false := by rw [bne, z1]; rfl
        cases q1 with
        | false =>
          exact absurd (by omega) hd0
        | true =>
          exact absurd (by omega) hd0
      have z1 : ((f.data.size : Int) == 0) = false := beq_eq_false_iff_ne.2 (by omega)
      have z2 : ((f.data.size : Int) != 0) = true := by rw [bne, z1]; rfl
      cases q1 with
      | false =>
        have hw : wrongF f = (2, 6) := by
          unfold wrongF
          simp [ht, hst0, h1, hz, hd, hd0]
        obtain ⟨rfl, rfl⟩ : R1 = 2 ∧ R2 = 6 := by
          have h := hR.out
          rw [hw] at h
          injection h with h1 h2
          exact ⟨h1.symm, h2.symm⟩
        clear hw hR
        clear hst0 ht hty h1 hz hd0 hd
        go_wp2_with fail
        refine (fflag_is f 1 false W hf (by decide) (by decide) H1).mono ?_
        rintro e w1 ⟨rfl, hB1⟩
        have HX1 := Lib.hid (HX.out.below hB1)
        have HB1 := Lib.hid (HB.out.trans (hB1.mono HB.out.size))
        clear hB1 a0 a1 a2 a3
        obtain ⟨a0, a1, a2, a3⟩ := HX1.out.c
        go_wp2_with fail
        go_ret2
        exact ⟨rfl, HB1.out⟩
      | true =>
        have hw : wrongF f = (2, 6) := by
          unfold wrongF
          simp [ht, hst0, h1, hz]
        obtain ⟨rfl, rfl⟩ : R1 = 2 ∧ R2 = 6 := by
          have h := hR.out
          rw [hw] at h
          injection h with h1 h2
          exact ⟨h1.symm, h2.symm⟩
        clear hw hR
        clear hst0 ht hty h1 hz hd0 hd
        go_wp2_with fail
        refine (fflag_is f 1 true W hf (by decide) (by decide) H1).mono ?_
        rintro e w1 ⟨rfl, hB1⟩
        have HX1 := Lib.hid (HX.out.below hB1)
        have HB1 := Lib.hid (HB.out.trans (hB1.mono HB.out.size))
        clear hB1 a0 a1 a2 a3
        obtain ⟨a0, a1, a2, a3⟩ := HX1.out.c
        go_wp2_with fail
        go_ret2
        exact ⟨rfl, HB1.out⟩
    have s1 : ((f.st : Int) == 0) = false := beq_eq_false_iff_ne.2 (by omega)
    have s2 : ((f.st : Int) != 0) = true := by rw [bne, s1]; rfl
    have s3 : decide ((f.st : Int) = 0) = false := decide_eq_false (by omega)
    have hw : wrongF f = (2, 1) := by
      unfold wrongF
      simp [ht, hst0]
    obtain ⟨rfl, rfl⟩ : R1 = 2 ∧ R2 = 1 := by
      have h := hR.out
      rw [hw] at h
      injection h with h1 h2
      exact ⟨h1.symm, h2.symm⟩
    clear hw hR
    clear hst0 ht hty
    go_wp2_with fail
    go_ret2
    exact ⟨rfl, HB.out⟩
  · skip
    have t0 : ((f.ty : Int) == 0) = false := beq_eq_false_iff_ne.2 (by omega)
    have t1 : ((f.ty : Int) == 1) = false := beq_eq_false_iff_ne.2 (by omega)
    have t2 : ((f.ty : Int) == 2) = false := beq_eq_false_iff_ne.2 (by omega)
    have t3 : ((f.ty : Int) == 3) = false := beq_eq_false_iff_ne.2 (by omega)
    have t4 : ((f.ty : Int) == 4) = false := beq_eq_false_iff_ne.2 (by omega)
    have t5 : ((f.ty : Int) == 5) = true := beq_iff_eq.2 (by omega)
    have hw : wrongF f = (2, 1) := by
      unfold wrongF
      simp [ht]
    obtain ⟨rfl, rfl⟩ : R1 = 2 ∧ R2 = 1 := by
      have h := hR.out
      rw [hw] at h
      injection h with h1 h2
      exact ⟨h1.symm, h2.symm⟩
    clear hw hR
    clear ht hty
    go_wp2_with fail
    go_ret2
    exact ⟨rfl, HB.out⟩
  · skip
    have t0 : ((f.ty : Int) == 0) = false := beq_eq_false_iff_ne.2 (by omega)
    have t1 : ((f.ty : Int) == 1) = false := beq_eq_false_iff_ne.2 (by omega)
    have t2 : ((f.ty : Int) == 2) = false := beq_eq_false_iff_ne.2 (by omega)
    have t3 : ((f.ty : Int) == 3) = false := beq_eq_false_iff_ne.2 (by omega)
    have t4 : ((f.ty : Int) == 4) = false := beq_eq_false_iff_ne.2 (by omega)
    have t5 : ((f.ty : Int) == 5) = false := beq_eq_false_iff_ne.2 (by omega)
    have t6 : ((f.ty : Int) == 6) = true := beq_iff_eq.2 (by omega)
    by_cases hst0 : f.st = 0
    · skip
      have s1 : ((f.st : Int) == 0) = true := beq_iff_eq.2 (by omega)
      have s2 : ((f.st : Int) != 0) = false := by rw [bne, s1]; rfl
      have s3 : decide ((f.st : Int) = 0) = true := decide_eq_true (by omega)
      by_cases hz : f.data.size = 8
      · skip
        have z1 : ((f.data.size : Int) == 8) = true := beq_iff_eq.2 (by omega)
        have z2 : ((f.data.size : Int) != 8) = false := by rw [bne, z1]; rfl
        have hw : wrongF f = (0, 0) := by
          unfold wrongF
          simp [ht, hst0, hz]
        obtain ⟨rfl, rfl⟩ : R1 = 0 ∧ R2 = 0 := by
          have h := hR.out
          rw [hw] at h
          injection h with h1 h2
          exact ⟨h1.symm, h2.symm⟩
        clear hw hR
        clear hst0 ht hty hz
        go_wp2_with fail
        go_ret2
        exact ⟨rfl, HB.out⟩
      have z1 : ((f.data.size : Int) == 8) = false := beq_eq_false_iff_ne.2 (by omega)
      have z2 : ((f.data.size : Int) != 8) = true := by rw [bne, z1]; rfl
      have hw : wrongF f = (2, 6) := by
        unfold wrongF
        simp [ht, hst0, hz]
      obtain ⟨rfl, rfl⟩ : R1 = 2 ∧ R2 = 6 := by
        have h := hR.out
        rw [hw] at h
        injection h with h1 h2
        exact ⟨h1.symm, h2.symm⟩
      clear hw hR
      clear hst0 ht hty hz
      go_wp2_with fail
      go_ret2
      exact ⟨rfl, HB.out⟩
    have s1 : ((f.st : Int) == 0) = false := beq_eq_false_iff_ne.2 (by omega)
    have s2 : ((f.st : Int) != 0) = true := by rw [bne, s1]; rfl
    have s3 : decide ((f.st : Int) = 0) = false := decide_eq_false (by omega)
    have hw : wrongF f = (2, 1) := by
      unfold wrongF
      simp [ht, hst0]
    obtain ⟨rfl, rfl⟩ : R1 = 2 ∧ R2 = 1 := by
      have h := hR.out
      rw [hw] at h
      injection h with h1 h2
      exact ⟨h1.symm, h2.symm⟩
    clear hw hR
    clear hst0 ht hty
    go_wp2_with fail
    go_ret2
    exact ⟨rfl, HB.out⟩
  · skip
    have t0 : ((f.ty : Int) == 0) = false := beq_eq_false_iff_ne.2 (by omega)
    have t1 : ((f.ty : Int) == 1) = false := beq_eq_false_iff_ne.2 (by omega)
    have t2 : ((f.ty : Int) == 2) = false := beq_eq_false_iff_ne.2 (by omega)
    have t3 : ((f.ty : Int) == 3) = false := beq_eq_false_iff_ne.2 (by omega)
    have t4 : ((f.ty : Int) == 4) = false := beq_eq_false_iff_ne.2 (by omega)
    have t5 : ((f.ty : Int) == 5) = false := beq_eq_false_iff_ne.2 (by omega)
    have t6 : ((f.ty : Int) == 6) = false := beq_eq_false_iff_ne.2 (by omega)
    have t7 : ((f.ty : Int) == 7) = true := beq_iff_eq.2 (by omega)
    by_cases hst0 : f.st = 0
    · skip
      have s1 : ((f.st : Int) == 0) = true := beq_iff_eq.2 (by omega)
      have s2 : ((f.st : Int) != 0) = false := by rw [bne, s1]; rfl
      have s3 : decide ((f.st : Int) = 0) = true := decide_eq_true (by omega)
      by_cases hz : f.data.size < 8
      · skip
        have z1 : (f.data.size : Int) < 8 := by omega
        have hw : wrongF f = (2, 6) := by
          unfold wrongF
          simp [ht, hst0, hz]
        obtain ⟨rfl, rfl⟩ : R1 = 2 ∧ R2 = 6 := by
          have h := hR.out
          rw [hw] at h
          injection h with h1 h2
          exact ⟨h1.symm, h2.symm⟩
        clear hw hR
        clear hst0 ht hty hz
        go_wp2_with fail
        go_ret2
        exact ⟨rfl, HB.out⟩
      have z1 : ¬ ((f.data.size : Int) < 8) := by omega
      have z2 : decide ((f.data.size : Int) < 8) = false := decide_eq_false z1
      have hw : wrongF f = (0, 0) := by
        unfold wrongF
        simp [ht, hst0, hz]
      obtain ⟨rfl, rfl⟩ : R1 = 0 ∧ R2 = 0 := by
        have h := hR.out
        rw [hw] at h
        injection h with h1 h2
        exact ⟨h1.symm, h2.symm⟩
      clear hw hR
      clear hst0 ht hty hz
      go_wp2_with fail
      go_ret2
      exact ⟨rfl, HB.out⟩
    have s1 : ((f.st : Int) == 0) = false := beq_eq_false_iff_ne.2 (by omega)
    have s2 : ((f.st : Int) != 0) = true := by rw [bne, s1]; rfl
    have s3 : decide ((f.st : Int) = 0) = false := decide_eq_false (by omega)
    have hw : wrongF f = (2, 1) := by
      unfold wrongF
      simp [ht, hst0]
    obtain ⟨rfl, rfl⟩ : R1 = 2 ∧ R2 = 1 := by
      have h := hR.out
      rw [hw] at h
      injection h with h1 h2
      exact ⟨h1.symm, h2.symm⟩
    clear hw hR
    clear hst0 ht hty
    go_wp2_with fail
    go_ret2
    exact ⟨rfl, HB.out⟩
  · skip
    have t0 : ((f.ty : Int) == 0) = false := beq_eq_false_iff_ne.2 (by omega)
    have t1 : ((f.ty : Int) == 1) = false := beq_eq_false_iff_ne.2 (by omega)
    have t2 : ((f.ty : Int) == 2) = false := beq_eq_false_iff_ne.2 (by omega)
    have t3 : ((f.ty : Int) == 3) = false := beq_eq_false_iff_ne.2 (by omega)
    have t4 : ((f.ty : Int) == 4) = false := beq_eq_false_iff_ne.2 (by omega)
    have t5 : ((f.ty : Int) == 5) = false := beq_eq_false_iff_ne.2 (by omega)
    have t6 : ((f.ty : Int) == 6) = false := beq_eq_false_iff_ne.2 (by omega)
    have t7 : ((f.ty : Int) == 7) = false := beq_eq_false_iff_ne.2 (by omega)
    have t8 : ((f.ty : Int) == 8) = true := beq_iff_eq.2 (by omega)
    by_cases hz : f.data.size = 4
    · skip
      have z1 : ((f.data.size : Int) == 4) = true := beq_iff_eq.2 (by omega)
      have z2 : ((f.data.size : Int) != 4) = false := by rw [bne, z1]; rfl
      obtain ⟨g, hg⟩ : ∃ g, gN f.data 0 4 = g := ⟨_, rfl⟩
      have HGG := Lib.hid hg
      obtain ⟨d, hd⟩ : ∃ d, g % 2147483648 = d := ⟨_, rfl⟩
      have hdi : (g : Int) % 2147483648 = (d : Int) := by omega
      have hdb : d < 2147483648 := by omega
      have hi4 : 0 + 4 ≤ f.data.size := by omega
      have HGC := Lib.hid (fget_is f.data 0 4 g W hs (by decide) (by decide) hi4 HGG)
      by_cases hd0 : d = 0
      · skip
        have d1 : ((d : Int) == 0) = true := beq_iff_eq.2 (by omega)
        by_cases hst0 : f.st = 0
        · skip
          have s1 : ((f.st : Int) == 0) = true := beq_iff_eq.2 (by omega)
          have s2 : ((f.st : Int) != 0) = false := by rw [bne, s1]; rfl
          have s3 : decide ((f.st : Int) = 0) = true := decide_eq_true (by omega)
          have hw : wrongF f = (2, 1) := by
            unfold wrongF
            simp [ht, hst0, hz, hg, hd, hd0]
          obtain ⟨rfl, rfl⟩ : R1 = 2 ∧ R2 = 1 := by
            have h := hR.out
            rw [hw] at h
            injection h with h1 h2
            exact ⟨h1.symm, h2.symm⟩
          clear hw hR
          clear hst0 ht hty hz hd0 hd hg
          go_wp2_with fail
          refine HGC.out.mono ?_
          rintro e w1 ⟨rfl, rfl⟩
          go_wp2_with fail
          go_ret2
          exact ⟨rfl, HB.out⟩
        have s1 : ((f.st : Int) == 0) = false := beq_eq_false_iff_ne.2 (by omega)
        have s2 : ((f.st : Int) != 0) = true := by rw [bne, s1]; rfl
        have s3 : decide ((f.st : Int) = 0) = false := decide_eq_false (by omega)
        have hw : wrongF f = (1, 1) := by
          unfold wrongF
          simp [ht, hst0, hz, hg, hd, hd0]
        obtain ⟨rfl, rfl⟩ : R1 = 1 ∧ R2 = 1 := by
          have h := hR.out
          rw [hw] at h
          injection h with h1 h2
          exact ⟨h1.symm, h2.symm⟩
        clear hw hR
        clear hst0 ht hty hz hd0 hd hg
        go_wp2_with fail
        refine HGC.out.mono ?_
        rintro e w1 ⟨rfl, rfl⟩
        go_wp2_with fail
        refine HGC.out.mono ?_
        rintro e w2 ⟨rfl, rfl⟩
        go_wp2_with fail
        go_ret2
        exact ⟨rfl, HB.out⟩
      have d1 : ((d : Int) == 0) = false := beq_eq_false_iff_ne.2 (by omega)
      have hw : wrongF f = (0, 0) := by
        unfold wrongF
        simp [ht, hz, hg, hd, hd0]
      obtain ⟨rfl, rfl⟩ : R1 = 0 ∧ R2 = 0 := by
        have h := hR.out
        rw [hw] at h
        injection h with h1 h2
        exact ⟨h1.symm, h2.symm⟩
      clear hw hR
      clear ht hty hz hd0 hd hg
      go_wp2_with fail
      refine HGC.out.mono ?_
      rintro e w1 ⟨rfl, rfl⟩
      go_wp2_with fail
      refine HGC.out.mono ?_
      rintro e w2 ⟨rfl, rfl⟩
      go_wp2_with fail
      go_ret2
      exact ⟨rfl, HB.out⟩
    have z1 : ((f.data.size : Int) == 4) = false := beq_eq_false_iff_ne.2 (by omega)
    have z2 : ((f.data.size : Int) != 4) = true := by rw [bne, z1]; rfl
    have hw : wrongF f = (2, 6) := by
      unfold wrongF
      simp [ht, hz]
    obtain ⟨rfl, rfl⟩ : R1 = 2 ∧ R2 = 6 := by
      have h := hR.out
      rw [hw] at h
      injection h with h1 h2
      exact ⟨h1.symm, h2.symm⟩
    clear hw hR
    clear ht hty hz
    go_wp2_with fail
    go_ret2
    exact ⟨rfl, HB.out⟩
  · skip
    have t0 : ((f.ty : Int) == 0) = false := beq_eq_false_iff_ne.2 (by omega)
    have t1 : ((f.ty : Int) == 1) = false := beq_eq_false_iff_ne.2 (by omega)
    have t2 : ((f.ty : Int) == 2) = false := beq_eq_false_iff_ne.2 (by omega)
    have t3 : ((f.ty : Int) == 3) = false := beq_eq_false_iff_ne.2 (by omega)
    have t4 : ((f.ty : Int) == 4) = false := beq_eq_false_iff_ne.2 (by omega)
    have t5 : ((f.ty : Int) == 5) = false := beq_eq_false_iff_ne.2 (by omega)
    have t6 : ((f.ty : Int) == 6) = false := beq_eq_false_iff_ne.2 (by omega)
    have t7 : ((f.ty : Int) == 7) = false := beq_eq_false_iff_ne.2 (by omega)
    have t8 : ((f.ty : Int) == 8) = false := beq_eq_false_iff_ne.2 (by omega)
    have t9 : ((f.ty : Int) == 9) = true := beq_iff_eq.2 (by omega)
    by_cases hst0 : f.st = 0
    · skip
      have s1 : ((f.st : Int) == 0) = true := beq_iff_eq.2 (by omega)
      have s2 : ((f.st : Int) != 0) = false := by rw [bne, s1]; rfl
      have s3 : decide ((f.st : Int) = 0) = true := decide_eq_true (by omega)
      have hw : wrongF f = (2, 1) := by
        unfold wrongF
        simp [ht, hst0]
      obtain ⟨rfl, rfl⟩ : R1 = 2 ∧ R2 = 1 := by
        have h := hR.out
        rw [hw] at h
        injection h with h1 h2
        exact ⟨h1.symm, h2.symm⟩
      clear hw hR
      clear hst0 ht hty
      go_wp2_with fail
      go_ret2
      exact ⟨rfl, HB.out⟩
    have s1 : ((f.st : Int) == 0) = false := beq_eq_false_iff_ne.2 (by omega)
    have s2 : ((f.st : Int) != 0) = true := by rw [bne, s1]; rfl
    have s3 : decide ((f.st : Int) = 0) = false := decide_eq_false (by omega)
    have hw : wrongF f = (0, 0) := by
      unfold wrongF
      simp [ht, hst0]
    obtain ⟨rfl, rfl⟩ : R1 = 0 ∧ R2 = 0 := by
      have h := hR.out
      rw [hw] at h
      injection h with h1 h2
      exact ⟨h1.symm, h2.symm⟩
    clear hw hR
    clear hst0 ht hty
    go_wp2_with fail
    go_ret2
    exact ⟨rfl, HB.out⟩
  · skip
    have t0 : ((f.ty : Int) == 0) = false := beq_eq_false_iff_ne.2 (by omega)
    have t1 : ((f.ty : Int) == 1) = false := beq_eq_false_iff_ne.2 (by omega)
    have t2 : ((f.ty : Int) == 2) = false := beq_eq_false_iff_ne.2 (by omega)
    have t3 : ((f.ty : Int) == 3) = false := beq_eq_false_iff_ne.2 (by omega)
    have t4 : ((f.ty : Int) == 4) = false := beq_eq_false_iff_ne.2 (by omega)
    have t5 : ((f.ty : Int) == 5) = false := beq_eq_false_iff_ne.2 (by omega)
    have t6 : ((f.ty : Int) == 6) = false := beq_eq_false_iff_ne.2 (by omega)
    have t7 : ((f.ty : Int) == 7) = false := beq_eq_false_iff_ne.2 (by omega)
    have t8 : ((f.ty : Int) == 8) = false := beq_eq_false_iff_ne.2 (by omega)
    have t9 : ((f.ty : Int) == 9) = false := beq_eq_false_iff_ne.2 (by omega)
    have hw : wrongF f = (0, 0) := by
      obtain ⟨m, hm⟩ : ∃ m, f.ty = m + 10 := ⟨f.ty - 10, by omega⟩
      unfold wrongF
      rw [hm]
      rfl
    obtain ⟨rfl, rfl⟩ : R1 = 0 ∧ R2 = 0 := by
      have h := hR.out
      rw [hw] at h
      injection h with h1 h2
      exact ⟨h1.symm, h2.symm⟩
    clear hw hR ht hty
    go_wp2_with fail
    go_ret2
    exact ⟨rfl, HB.out⟩
end Go.Proofs.Ytfgeapoojogdbaa
