/- The document's Content of layer 14. For payloads of at most 10^6 bytes. -/
import Derived.Test.YtfgeapoojogdbaaProg
import Derived.Test.YtfgeapoojogdbaaBytes
import Derived.Test.YtfgeapoojogdbaaNumBe
import Derived.Test.YtfgeapoojogdbaaFrMath
import Derived.Test.YtfgeapoojogdbaaFrRef
import Derived.Test.YtfgeapoojogdbaaFrRefW
import Derived.WalkKit
import Derived.Lib.Hide
import Derived.Laws.Rows
import Derived.Outline
import Derived.IntWalk
import Derived.WalkSpells
import Derived.WalkLawsBesides
import Derived.Deep.CutRange
import Derived.Deep.RegionWith
namespace Go.Proofs.Ytfgeapoojogdbaa
open Go Go.RowKit Bytes Fr

set_option maxHeartbeats 8000000 in
set_option maxRecDepth 100000 in
theorem fcont_is (f : Frm) (r : ByteArray) (w : World) (hf : Okf f) (hs : f.data.size ≤ 1000000) (hr : Hid (contentF f = r)) :
    Calls Try.prog 16 #[.agg #[.int .u8 (f.ty : Int), .int .u8 (f.fl : Int), .int .u32 (f.st : Int), .string f.data]] w fun e w' => e = .returned (.string r) ∧ Below w.heap.size w w' := by
  obtain ⟨hX, hB⟩ := boxF_new w f
  have HX := Lib.hid hX
  have HB := Lib.hid hB
  have hty := hf.ty
  obtain ⟨⟨R1, R2⟩, hR⟩ : ∃ R, wrongF f = R := ⟨_, rfl⟩
  have HR := Lib.hid hR
  have hrr := hr.out
  unfold contentF at hrr
  rw [hR] at hrr
  simp only at hrr
  clear hX hB hr
  obtain ⟨a0, a1, a2, a3⟩ := HX.out.c
  go_enter Try.func16, Try.ntmps16
  go_upto_region 1 with fail
  generalize w.alloc (.cells #[.int .u8 (f.ty : Int), .int .u8 (f.fl : Int), .int .u32 (f.st : Int), .string f.data] 24) = W at *
  go_wp2_with fail
  refine (fwrong_is f R1 R2 W hf hs HR).mono ?_
  rintro e w1 ⟨rfl, hB1⟩
  have HX1 := Lib.hid (HX.out.below hB1)
  have HB1 := Lib.hid (HB.out.trans (hB1.mono HB.out.size))
  clear hB1 a0 a1 a2 a3
  obtain ⟨a0, a1, a2, a3⟩ := HX1.out.c
  by_cases ht : 1 < f.ty
  · have t1 : (1 : Int) < (f.ty : Int) := by omega
    rw [if_pos (.inl ht)] at hrr
    subst hrr
    clear ht hty hR
    go_wp2_with fail
    go_ret
    exact ⟨rfl, HB1.out⟩
  have t1 : ¬ ((1 : Int) < (f.ty : Int)) := by omega
  have t2 : decide ((1 : Int) < (f.ty : Int)) = false := decide_eq_false t1
  by_cases hR2 : R1 = 2
  · have s1 : ((R1 : Int) == 2) = true := beq_iff_eq.2 (by omega)
    rw [if_pos (.inr hR2)] at hrr
    subst hrr
    clear ht hty hR hR2
    go_wp2_with fail
    go_ret
    exact ⟨rfl, HB1.out⟩
  have s1 : ((R1 : Int) == 2) = false := beq_eq_false_iff_ne.2 (by omega)
  rw [if_neg (by omega)] at hrr
  have hpad := pad_le (f := f) (by omega) (by rw [hR]; exact hR2)
  obtain ⟨k, hk⟩ : ∃ k, aheadF f = k := ⟨_, rfl⟩
  have HK := Lib.hid hk
  have hk6 : k ≤ 6 := by rw [← hk]; exact ahead_le f
  obtain ⟨q8, h8⟩ : ∃ q, flagF f 8 = q := ⟨_, rfl⟩
  have H8 := Lib.hid h8
  have hk8 : q8 = true → 1 ≤ k := fun e => by rw [← hk]; unfold aheadF; rw [h8, e]; simp only [if_true]; omega
  unfold padF at hpad hrr
  rw [hk, h8] at hpad hrr
  clear ht hty hR hR2
  cases q8 with
  | true =>
    rw [if_pos rfl] at hpad hrr
    have hk1 := hk8 rfl
    have hp : 0 < f.data.size := by omega
    have hpi : (0 : Int) < (f.data.size : Int) := by omega
    have hb0 := bN_at hp
    obtain ⟨y, hy⟩ : ∃ y, f.data[0] = y := ⟨_, rfl⟩
    rw [hy] at hb0
    rw [hb0] at hpad hrr
    have ewy : IntKind.i64.wrap (y.toNat : Int) = (y.toNat : Int) := by rw [IntKind.wrap_i64]; omega
    obtain ⟨e, he⟩ : ∃ e, f.data.size - y.toNat = e := ⟨_, rfl⟩
    rw [he] at hrr
    have ewe : IntKind.i64.wrap ((f.data.size : Int) - (y.toNat : Int)) = (e : Int) := by rw [IntKind.wrap_i64]; omega
    subst hrr
    clear hb0 h8 hk hk8
    go_wp2_with fail
    refine (fflag_is f 8 true w1 hf (by decide) (by decide) H8).mono ?_
    rintro e2 w2 ⟨rfl, hB2⟩
    have HX2 := Lib.hid (HX1.out.below (hB2.trans (Below.refl _ w2).drew))
    have HB2 := Lib.hid (HB1.out.trans ((hB2.trans (Below.refl _ w2).drew).mono HB1.out.size))
    have HX2b := Lib.hid (HX1.out.below hB2)
    clear hB2 a0 a1 a2 a3
    obtain ⟨a0, a1, a2, a3⟩ := HX2b.out.c
    have q1 : (0 : Int) ≤ (k : Int) := by omega
    have q2 : (k : Int) ≤ (e : Int) := by omega
    have q3 : (e : Int) ≤ (f.data.size : Int) := by omega
    go_upto_region 7 with fail
    obtain ⟨b0, b1, b2, b3⟩ := HX2.out.c
    clear a0 a1 a2 a3
    have HKC := Lib.hid (fun W : World => fahead_is f k W hf HK)
    first | go_region_with (go_at_call 34; refine (HKC.out _).mono ?_; rintro e3 w3 ⟨rfl, hB3⟩; have HX3 := Lib.hid (HX2.out.below hB3); have HB3 := Lib.hid (HB2.out.trans (hB3.mono HB2.out.size)); clear hB3; (obtain ⟨c0, c1, c2, c3⟩ := HX3.out.c))
    all_goals
      go_wp2_with fail
      go_ret
      exact ⟨rfl, HB3.out⟩
  | false =>
    rw [if_neg (by decide)] at hpad hrr
    rw [Nat.sub_zero] at hrr
    obtain ⟨e, he⟩ : ∃ e, f.data.size = e := ⟨_, rfl⟩
    rw [he] at hrr
    subst hrr
    clear h8 hk hk8
    go_wp2_with fail
    refine (fflag_is f 8 false w1 hf (by decide) (by decide) H8).mono ?_
    rintro e2 w2 ⟨rfl, hB2⟩
    have HX2 := Lib.hid (HX1.out.below (hB2.trans (Below.refl _ w2).drew))
    have HB2 := Lib.hid (HB1.out.trans ((hB2.trans (Below.refl _ w2).drew).mono HB1.out.size))
    have HX2b := Lib.hid (HX1.out.below hB2)
    clear hB2 a0 a1 a2 a3
    obtain ⟨a0, a1, a2, a3⟩ := HX2b.out.c
    have q1 : (0 : Int) ≤ (k : Int) := by omega
    have q2 : (k : Int) ≤ (e : Int) := by omega
    have q3 : (e : Int) ≤ (f.data.size : Int) := by omega
    go_upto_region 7 with fail
    obtain ⟨b0, b1, b2, b3⟩ := HX2.out.c
    clear a0 a1 a2 a3
    have HKC := Lib.hid (fun W : World => fahead_is f k W hf HK)
    first | go_region_with (go_at_call 34; refine (HKC.out _).mono ?_; rintro e3 w3 ⟨rfl, hB3⟩; have HX3 := Lib.hid (HX2.out.below hB3); have HB3 := Lib.hid (HB2.out.trans (hB3.mono HB2.out.size)); clear hB3; (obtain ⟨c0, c1, c2, c3⟩ := HX3.out.c))
    all_goals
      go_wp2_with fail
      go_ret
      exact ⟨rfl, HB3.out⟩
end Go.Proofs.Ytfgeapoojogdbaa
