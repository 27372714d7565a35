/- Proves UnpackHolds: whatever blocks come, the table is never greater than 4096, a block has at most 64 fields; who is down stays down, with the table as it was. No condition. -/
import Derived.Test.YtaoomjbkfcbfpaaRows
import Derived.Test.YtaoomjbkfcbfpaaStrs
import Derived.Test.YtaoomjbkfcbfpaaUpMath
import Derived.Test.YtaoomjbkfcbfpaaUnpackHoldsProofG1
import Derived.Test.YtaoomjbkfcbfpaaUpFew
import Derived.WalkKit
import Derived.ProofKit
import Derived.OpenShut
import Derived.ShutString
import Derived.ChangeOld
import Derived.Below
namespace Go.Proofs.Ytaoomjbkfcbfpaa.unpackHolds
open Go.ChangeShapes Go.WideShapes Go.ChangeAt Go.RowKit Tb Up Bytes
open Go.ChangeMaps (open_string shut_string)
set_option linter.unusedVariables false

theorem own : ownKnob Try.prog.godebug = none := by kernel_rfl
theorem laidOut : laidOutB Try.prog = true := by kernel_rfl

set_option maxRecDepth 100000 in
set_option maxHeartbeats 8000000 in
theorem walk (a0 : Option Addr) (len0 cap0 : Nat) (L : List (List UInt8)) (w : World) (hl : len0 ≤ maxLen) (hL : L.length = len0) (hR : Strs.RdS w w.heap.size a0 L) :
    Calls Try.prog 4 #[.slice a0 len0 cap0] w fun e w' => e = .returned (.bool true) ∧ Below w.heap.size w w' := by
  have hI := Lib.hid hR
  have HL := Lib.hid hL
  clear hR
  have hnb : len0 ≤ 9223372036854775807 := by unfold maxLen at hl; omega
  by_cases h2 : (40 : Int) < len0
  · go_enter Try.func4, Try.ntmps4
    go_wp2_with fail
    refine (awake_is _).mono ?_
    rintro e w1 ⟨rfl, hB⟩
    go_wp2_with fail
    refine (few_is a0 len0 cap0 L w1 (Lib.hid (hI.out.on hB hB.size)) HL hl).mono ?_
    rintro e w2 (⟨rfl, rfl, _⟩ | ⟨rfl, rfl⟩)
    · go_wp2_with fail
      go_ret
      exact ⟨rfl, hB⟩
    · go_wp2_with fail
      go_ret
      exact ⟨rfl, hB⟩
  have hle : len0 ≤ 40 := by omega
  go_enter Try.func4, Try.ntmps4
  go_wp2_with fail
  refine (awake_is _).mono ?_
  rintro e w1 ⟨rfl, hB⟩
  go_wp2_with fail
  refine (few_is a0 len0 cap0 L w1 (Lib.hid (hI.out.on hB hB.size)) HL hl).mono ?_
  rintro e w2 (⟨rfl, rfl, HF⟩ | ⟨rfl, rfl⟩)
  rotate_left
  · go_wp2_with fail
    go_ret
    exact ⟨rfl, hB⟩
  have H2 := Lib.hid hB
  clear hB
  go_wp2_with fail
  refine (unew_is w2).mono ?_
  rintro e w3 ⟨d, g, b, rfl, hD, hB3, l1, l2, l3⟩
  have hs2 := H2.out.size
  have HS := Lib.hid (show DL w w3 d g b (newT 4096, false) from ⟨hD, H2.out.trans (hB3.mono hs2), by omega⟩)
  clear hD hB3 l1 l2 l3 hs2
  go_wp2_with fail
  go_loopw [4, 5, 6, 7, 8, 9] (fun i _ _ _ _ _ wr => ∃ (k b : Nat) (D : Dec), k ≤ len0 ∧ i = .int .i64 (k : Int) ∧ Hid (DL w wr d g b D)) (fun i _ _ _ _ _ _ => len0 - (intOf i).toNat)
  case atStart => exact ⟨0, b, _, Nat.zero_le _, rfl, HS⟩
  case round =>
    obtain ⟨k, b, D, hk, rfl, hS⟩ := hrel
    by_cases hlt : k < len0
    · have hli : (k : Int) < (len0 : Int) := by omega
      have hk0 : (0 : Int) ≤ (k : Int) := by omega
      obtain ⟨ad, rfl, hab, hcell⟩ := hI.out.get (k := k) (by rw [HL.out]; exact hlt)
      have hsz := HF.out k hlt
      obtain ⟨s, hs⟩ : ∃ s, blkAt L k = s := ⟨_, rfl⟩
      have hcell2 : w.cell? (ad.add k) = some (.string s) := by rw [hcell, ← hs]; rfl
      rw [hs] at hsz
      have e1 : IntKind.i64.wrap ((k : Int) + 1) = ((k + 1 : Nat) : Int) := by rw [IntKind.wrap_i64]; omega
      have HC := Lib.hid (show ∀ W, Below w.heap.size w W → W.cell? (ad.add k) = some (.string s) from fun W hB => (hB.cell (by rw [Strs.add_block]; exact hab)).trans hcell2)
      have HWAY := Lib.hid (read_ways D s)
      clear hcell hcell2 hs
      go_wp2_with fail
      refine (down_any d g b D wr hS.out.dec).mono ?_
      rintro e w4 ⟨rfl, rfl⟩
      go_wp2_with fail
      refine (table_any d g b D w4 hS.out.dec).mono ?_
      rintro e w5 ⟨g2, rfl, m1, hB5, b2, hT5, m2⟩
      have HS5 := Lib.hid (hS.out.below hB5)
      have hl4 := hS.out.dec.lt
      have HT5 := Lib.hid hT5
      have c5 := HC.out w5 HS5.out.fr
      clear hB5 hT5
      obtain ⟨R, hRR⟩ : ∃ R, Up.read D s = R := ⟨_, rfl⟩
      have HRR := Lib.hid hRR
      have HWAY2 := HWAY.out
      rw [hRR] at HWAY2
      clear hRR
      go_wp2_with fail
      refine (read_any d g b D s R w5 HS5.out.dec (by omega) HRR).mono ?_
      rcases HWAY2 with ⟨hdn, hway⟩ | ⟨hdn, t', out, hol, hway⟩ | ⟨hdn, t', x, hx, hway⟩
      · subst hway
        rintro e w6 ⟨v, rfl, hO, b3, hD6, hK6, hb3, _⟩
        have HS6 := Lib.hid (HS5.out.step hD6 hK6 hb3)
        have HT6 := Lib.hid (HT5.out.kept hK6.size (hK6.block g2 HT5.out.lt.1 (by omega) (by omega) (by omega)) (fun hb => hK6.block b2 hb (by omega) (by omega) (by omega)))
        obtain ⟨vA, vc, hv⟩ := own_sl hO
        subst hv
        clear hO hD6 hK6 hb3
        go_wp2_with fail
        refine (table_any d g b3 _ w6 HS6.out.dec).mono ?_
        rintro e w7 ⟨g3, rfl, m3, hB7, b4, hT7, m4⟩
        have HS7 := Lib.hid (HS6.out.below hB7)
        have HT67 := Lib.hid (HT6.out.below hB7)
        have HT7 := Lib.hid hT7
        clear hB7 hT7
        obtain ⟨h41, h42⟩ := HS7.out.dec.ok4
        unfold OkT at h42
        obtain ⟨S, hSS⟩ : ∃ S, sumL (D.1).2 = S := ⟨_, rfl⟩
        obtain ⟨M, hMM⟩ : ∃ M, (D.1).1 = M := ⟨_, rfl⟩
        obtain ⟨N, hNN⟩ : ∃ N, (D.1).2.length = N := ⟨_, rfl⟩
        try simp only at h41 h42
        rw [hMM] at h41
        rw [hSS, hMM] at h42
        have HSZ := Lib.hid (size_t g3 b4 (D.1) S w7 HT7 (Lib.hid hSS))
        have HMO := Lib.hid (most_t g3 b4 (D.1) (M : Int) w7 HT7 (Lib.hid (by rw [hMM])))
        have HLE := Lib.hid (len_t g3 b4 (D.1) N w7 HT7 (Lib.hid hNN))
        have i1 : ¬ ((M : Int) < (S : Int)) := by omega
        have i2 : ¬ ((4096 : Int) < (M : Int)) := by omega
        have HSW := Lib.hid (size_t g2 b2 D.1 S w7 HT67 (Lib.hid hSS))
        have HLW := Lib.hid (len_t g2 b2 D.1 N w7 HT67 (Lib.hid hNN))
        have HDN := Lib.hid (down_any d g b3 _ w7 HS7.out.dec)
        go_wp2_with (first | (go_at_call 16; refine HSZ.out.mono ?_; rintro e w8 ⟨rfl, rfl⟩) | (go_at_call 17; refine HMO.out.mono ?_; rintro e w8 ⟨rfl, rfl⟩) | (go_at_call 18; refine HLE.out.mono ?_; rintro e w8 ⟨rfl, rfl⟩) | (go_at_call 16; refine HSW.out.mono ?_; rintro e w8 ⟨rfl, rfl⟩) | (go_at_call 18; refine HLW.out.mono ?_; rintro e w8 ⟨rfl, rfl⟩) | (go_at_call 13; refine HDN.out.mono ?_; rintro e w8 ⟨rfl, rfl⟩) | fail)
        go_roundw
        case rel => exact ⟨k + 1, b3, _, by omega, rfl, HS7⟩
        case measure => simp [intOf] <;> omega
      · subst hway
        rintro e w6 ⟨v, rfl, hO, b3, hD6, hK6, hb3, _⟩
        have HS6 := Lib.hid (HS5.out.step hD6 hK6 hb3)
        have HT6 := Lib.hid (HT5.out.kept hK6.size (hK6.block g2 HT5.out.lt.1 (by omega) (by omega) (by omega)) (fun hb => hK6.block b2 hb (by omega) (by omega) (by omega)))
        obtain ⟨vA, vc, hv⟩ := own_sl hO
        subst hv
        clear hO hD6 hK6 hb3
        go_wp2_with fail
        refine (table_any d g b3 _ w6 HS6.out.dec).mono ?_
        rintro e w7 ⟨g3, rfl, m3, hB7, b4, hT7, m4⟩
        have HS7 := Lib.hid (HS6.out.below hB7)
        have HT67 := Lib.hid (HT6.out.below hB7)
        have HT7 := Lib.hid hT7
        clear hB7 hT7
        obtain ⟨h41, h42⟩ := HS7.out.dec.ok4
        unfold OkT at h42
        obtain ⟨S, hSS⟩ : ∃ S, sumL (t').2 = S := ⟨_, rfl⟩
        obtain ⟨M, hMM⟩ : ∃ M, (t').1 = M := ⟨_, rfl⟩
        obtain ⟨N, hNN⟩ : ∃ N, (t').2.length = N := ⟨_, rfl⟩
        try simp only at h41 h42
        rw [hMM] at h41
        rw [hSS, hMM] at h42
        have HSZ := Lib.hid (size_t g3 b4 (t') S w7 HT7 (Lib.hid hSS))
        have HMO := Lib.hid (most_t g3 b4 (t') (M : Int) w7 HT7 (Lib.hid (by rw [hMM])))
        have HLE := Lib.hid (len_t g3 b4 (t') N w7 HT7 (Lib.hid hNN))
        have i1 : ¬ ((M : Int) < (S : Int)) := by omega
        have i2 : ¬ ((4096 : Int) < (M : Int)) := by omega
        obtain ⟨n, hn⟩ : ∃ n, out.length = n := ⟨_, rfl⟩
        rw [hn] at hol
        have i3 : ¬ ((64 : Int) < (n : Int)) := by omega
        have HDN := Lib.hid (down_any d g b3 _ w7 HS7.out.dec)
        go_wp2_with (first | (go_at_call 16; refine HSZ.out.mono ?_; rintro e w8 ⟨rfl, rfl⟩) | (go_at_call 17; refine HMO.out.mono ?_; rintro e w8 ⟨rfl, rfl⟩) | (go_at_call 18; refine HLE.out.mono ?_; rintro e w8 ⟨rfl, rfl⟩) | (go_at_call 13; refine HDN.out.mono ?_; rintro e w8 ⟨rfl, rfl⟩) | fail)
        go_roundw
        case rel => exact ⟨k + 1, b3, _, by omega, rfl, HS7⟩
        case measure => simp [intOf] <;> omega
      · subst hway
        rintro e w6 ⟨v, rfl, hO, b3, hD6, hK6, hb3, _⟩
        have HS6 := Lib.hid (HS5.out.step hD6 hK6 hb3)
        have HT6 := Lib.hid (HT5.out.kept hK6.size (hK6.block g2 HT5.out.lt.1 (by omega) (by omega) (by omega)) (fun hb => hK6.block b2 hb (by omega) (by omega) (by omega)))
        obtain ⟨vA, vc, hv⟩ := own_sl hO
        subst hv
        clear hO hD6 hK6 hb3
        go_wp2_with fail
        refine (table_any d g b3 _ w6 HS6.out.dec).mono ?_
        rintro e w7 ⟨g3, rfl, m3, hB7, b4, hT7, m4⟩
        have HS7 := Lib.hid (HS6.out.below hB7)
        have HT67 := Lib.hid (HT6.out.below hB7)
        have HT7 := Lib.hid hT7
        clear hB7 hT7
        obtain ⟨h41, h42⟩ := HS7.out.dec.ok4
        unfold OkT at h42
        obtain ⟨S, hSS⟩ : ∃ S, sumL (t').2 = S := ⟨_, rfl⟩
        obtain ⟨M, hMM⟩ : ∃ M, (t').1 = M := ⟨_, rfl⟩
        obtain ⟨N, hNN⟩ : ∃ N, (t').2.length = N := ⟨_, rfl⟩
        try simp only at h41 h42
        rw [hMM] at h41
        rw [hSS, hMM] at h42
        have HSZ := Lib.hid (size_t g3 b4 (t') S w7 HT7 (Lib.hid hSS))
        have HMO := Lib.hid (most_t g3 b4 (t') (M : Int) w7 HT7 (Lib.hid (by rw [hMM])))
        have HLE := Lib.hid (len_t g3 b4 (t') N w7 HT7 (Lib.hid hNN))
        have i1 : ¬ ((M : Int) < (S : Int)) := by omega
        have i2 : ¬ ((4096 : Int) < (M : Int)) := by omega
        have hx0 : ((x : Int) == 0) = false := beq_eq_false_iff_ne.2 (by omega)
        have hx1 : ((x : Int) != 0) = true := bne_iff_ne.2 (by omega)
        have HDN := Lib.hid (down_any d g b3 _ w7 HS7.out.dec)
        go_wp2_with (first | (go_at_call 16; refine HSZ.out.mono ?_; rintro e w8 ⟨rfl, rfl⟩) | (go_at_call 17; refine HMO.out.mono ?_; rintro e w8 ⟨rfl, rfl⟩) | (go_at_call 18; refine HLE.out.mono ?_; rintro e w8 ⟨rfl, rfl⟩) | (go_at_call 13; refine HDN.out.mono ?_; rintro e w8 ⟨rfl, rfl⟩) | fail)
        go_roundw
        case rel => exact ⟨k + 1, b3, _, by omega, rfl, HS7⟩
        case measure => simp [intOf] <;> omega
    · have hli : ¬ ((k : Int) < (len0 : Int)) := by omega
      go_wp2_with fail
      go_ret
      exact ⟨rfl, hS.out.fr⟩
set_option maxRecDepth 100000 in
theorem lifted (os : Os) (started : os.Started) (H : Type) (enc : TypeId × Value → H) :
    ReturnsInHanded {} Try.checked os 4 .any (Rows.unpackHoldsSpec.pre6 enc Try.prog Try.f4 Rows.unpackHoldsRow.domain false) (Rows.unpackHoldsSpec.post enc Try.prog Try.f4 false true false false) := by
  refine returnsInHanded_of_change (C := Try.checked) own started (by kernel_rfl) Try.func4
    (ChangeSpec.witness6 (enc := enc) (C := Try.checked) false ⟨#[], #[.slice none 0 0], []⟩ 8 (by kernel_rfl) (by kernel_rfl) (by kernel_rfl) (by kernel_rfl)) ?_
  intro W base args ds gs before hval0 hW hcnd _
  have hval : ∀ (j : Nat) t v, Try.f4.params[j]? = some t → args[j]? = some v → Value.okWide Try.prog W .any base t v := hval0
  have hW' := hW
  obtain ⟨p, q, hA0, hV, rfl, hfz, hnd⟩ := hW
  have hA : DataW.TrodAll enc Try.prog W 0 (fun _ => true) true Try.f4.params.toList args.toList ds p := hA0
  rw [Try.params4] at hA hval
  obtain ⟨v0, vs0, d0, ds0, p0, q0, hargs, rfl, rfl, h0, r0⟩ := trodAll_cons hA
  obtain ⟨rfl, rfl, rfl⟩ := trodAll_nil r0
  obtain rfl : args = #[v0] := by cases args; simp_all
  obtain ⟨rfl, rfl⟩ := trodVars_none hV
  obtain ⟨a0, len0, cap0, rfl⟩ := okWide_slice Try.underlying22 (hval 0 22 v0 rfl rfl)
  have k0 := h0
  have lt0 : ∀ x ∈ p0, x.block < W.heap.size := by obtain ⟨m, hm⟩ := k0; exact DataW.trod_lt m _ _ _ hm
  obtain ⟨hl0, L0, hN0, hR0⟩ : len0 ≤ maxLen ∧ ∃ L : List (List UInt8), L.length = len0 ∧ Strs.RdS W W.heap.size a0 L := by
    obtain ⟨fuel, hf⟩ := h0
    exact rds_of_trod hf
  clear hA0 hval0
  refine (walk a0 len0 cap0 L0 W   hl0 hN0 hR0).mono fun e W' ⟨he, bel⟩ => ?_
  subst he
  exact ⟨_, rfl, _, _, _, [], _, [], hW', trodAll_mk1 (shut_bool Try.underlying4 _), (trodAll_cons_mk (Below.trod laidOut (by kernel_rfl) (of_decide_eq_true (by kernel_rfl)) k0 bel lt0) trodAll_mk0), rfl, bel.frame _, fun h => by cases h⟩

theorem over : Rows.unpackHoldsRow.holds Try.pinned (OpenSpec.ofChange Rows.unpackHoldsSpec) :=
  OpenClaim.holds_of_wide 4 Try.f4 rfl rfl rfl rfl rfl rfl rfl ⟨rfl, rfl, rfl, rfl, rfl⟩ rfl rfl rfl rfl rfl (by kernel_rfl) Try.func4 (by kernel_rfl)
    (of_decide_eq_true (by kernel_rfl)) (by unfold Func.isWrapper; first | (rw [if_pos (by decide +kernel)]; kernel_rfl) | (rw [if_neg (by decide +kernel)]; exact ⟨rfl, rfl⟩))
    (fun os started H enc _ => lifted os started H enc)

theorem proved : Rows.UnpackHoldsSaid := over
#print axioms proved
end Go.Proofs.Ytaoomjbkfcbfpaa.unpackHolds
