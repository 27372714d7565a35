import Derived.Test.YtamgnbjdeoklbaaRows
import Derived.Test.YtamgnbjdeoklbaaUpMath
import Derived.Test.YtamgnbjdeoklbaaPackShortProofG1
import Derived.Test.YtamgnbjdeoklbaaPfMath
import Derived.Test.YtamgnbjdeoklbaaTbMath
import Derived.Test.YtamgnbjdeoklbaaTbFix
import Derived.Test.YtamgnbjdeoklbaaTbAt
import Derived.Test.YtamgnbjdeoklbaaTcMem
import Derived.Test.YtamgnbjdeoklbaaTcAdd
import Derived.Test.YtamgnbjdeoklbaaUpOwn
import Derived.Test.YtamgnbjdeoklbaaPackShortProofG2
import Derived.Test.YtamgnbjdeoklbaaPackShortProofG3
import Derived.Lib.Hide
import Derived.Outline
import Derived.IntWalk
import Derived.WalkSpells
import Derived.WalkLawsBesides
import Derived.Laws.Rows
import Derived.Deep.QuietTactic
import Derived.BigQuiet
import Derived.WalkKit
import Derived.ProofKit
import Derived.OpenShut
import Derived.ShutString
import Derived.ChangeOld
import Derived.Below
namespace Go.Proofs.Ytamgnbjdeoklbaa.packShort
open Go Go.ChangeShapes Go.WideShapes Go.ChangeAt Go.RowKit Tb Up Bytes
open Go.ChangeMaps (open_string shut_string)
open Pk
set_option linter.unusedVariables false

theorem own : ownKnob Try.prog.godebug = none := by kernel_rfl
theorem laidOut : laidOutB Try.prog = true := by kernel_rfl

/-- The fields that may be put into a table. -/
def pl (L : List Fld) : List Fld := L.filter (fun x => !x.never)
theorem sumZ_pl : ∀ L : List Fld, sumZ (pl L) ≤ sumZ L
  | [] => Nat.le_refl _
  | x :: L => by
    have ih := sumZ_pl L
    unfold pl at ih ⊢
    rw [List.filter_cons]
    split
    · rw [sumZ, sumZ]; omega
    · rw [sumZ]; omega
theorem sumF_is : ∀ L : List Fld, sumF L = sumZ L + 32 * L.length
  | [] => rfl
  | x :: L => by
    have ih := sumF_is L
    unfold sumF at ih ⊢
    rw [List.map_cons, sumL, ih, sumZ, List.length_cons]
    show (x.name.size + x.val.size + 32) + _ = _
    omega
theorem pl_take {L : List Fld} {k : Nat} (h : k < L.length) : pl (L.take (k + 1)) = if (fldAt L k).never = true then pl (L.take k) else pl (L.take k) ++ [fldAt L k] := by
  unfold pl
  rw [take_fld h, List.filter_append]
  cases hb : (fldAt L k).never with
  | true => rw [if_pos rfl, List.filter_cons_of_neg (by rw [hb]; decide)]; simp
  | false => rw [if_neg (by decide), List.filter_cons_of_pos (by rw [hb]; decide)]; simp
theorem pl_few {L : List Fld} (h : L.length + sumZ L < 3000) : (pl L).length + sumZ (pl L) < 3000 := by
  have h1 := sumZ_pl L
  have h2 : (pl L).length ≤ L.length := List.length_filter_le ..
  omega
theorem pl_not (L : List Fld) : ∀ x ∈ pl L, x.never = false := fun x hx => by
  have := (List.mem_filter.1 hx).2
  cases hb : x.never with
  | true => rw [hb] at this; exact absurd this (by decide)
  | false => rfl
theorem sumZ_take (L : List Fld) (k : Nat) : sumZ (L.take k) ≤ sumZ L := by
  have := sumZ_cat (L.take k) (L.drop k)
  rw [List.take_append_drop] at this
  omega
theorem sumF_bound {L : List Fld} (h : L.length + sumZ L < 3000) (hl : L.length ≤ 40) (k : Nat) : sumF (pl (L.take k)) ≤ 4300 ∧ (pl (L.take k)).length ≤ 40 := by
  have h1 := sumZ_pl (L.take k)
  have h2 : (pl (L.take k)).length ≤ (L.take k).length := List.length_filter_le ..
  have h3 := sumZ_take L k
  have h4 : (L.take k).length ≤ L.length := by rw [List.length_take]; omega
  rw [sumF_is]
  omega
set_option maxHeartbeats 8000000 in
set_option maxRecDepth 100000 in
theorem walk (a0 : Option Addr) (len0 cap0 : Nat) (L : List Fld) (w : World) (hl : len0 ≤ maxLen) (hL : L.length = len0) (hR : Pk.RdF w w.heap.size a0 L) :
    Calls Try.prog 5 #[.slice a0 len0 cap0] w fun e w' => e = .returned (.bool true) ∧ Below w.heap.size w w' := by
  have HL := Lib.hid hL
  have HR := Lib.hid hR
  go_enter Try.func5, Try.ntmps5
  go_wp2_with fail
  refine (awake_is w).mono ?_
  rintro e w1 ⟨rfl, hB1⟩
  have HB1 := Lib.hid hB1
  have HR1 := Lib.hid (hR.on hB1 hB1.size)
  clear hB1 hR hL
  go_wp2_with fail
  refine (fewF_is a0 cap0 len0 L w1 HR1 HL hl).mono ?_
  rintro e w2 (⟨rfl, hB2, HFEW⟩ | ⟨rfl, hB2⟩)
  rotate_left
  · have HB2 := Lib.hid (HB1.out.trans (hB2.mono HB1.out.size))
    clear hB2
    go_wp2_with fail
    go_ret
    exact ⟨rfl, HB2.out⟩
  have HB2 := Lib.hid (HB1.out.trans (hB2.mono HB1.out.size))
  clear hB2 HR1 HB1
  by_cases h40 : 40 < len0
  · have h40i : (40 : Int) < (len0 : Int) := by omega
    go_wp2_with fail
    go_ret
    exact ⟨rfl, HB2.out⟩
  have h40i : ¬ ((40 : Int) < (len0 : Int)) := by omega
  have hn40 : len0 ≤ 40 := by omega
  have HO0 : Hid (w2.ownsRow w.heap.size 45 3 (.slice none 0 0) 0 (fldCs [])) := Lib.hid ⟨rfl, .inl ⟨rfl, rfl⟩⟩
  have HP0 : Hid (pl (L.take 0) = []) := Lib.hid rfl
  have HN0 : Hid (([] : List Fld).length = 0) := Lib.hid rfl
  have HS0 : Hid (sumF [] = 0) := Lib.hid rfl
  have hL40 : Hid (L.length ≤ 40) := Lib.hid (by rw [HL.out]; exact hn40)
  clear hl
  go_wp2_with fail
  go_loopw [3, 4, 5] (fun v s i wr => ∃ (k S m : Nat) (P : List Fld), k ≤ len0 ∧ i = .int .i64 (k : Int) ∧ s = .int .i64 (S : Int) ∧ Hid (wr.ownsRow w.heap.size 45 3 v m (fldCs P)) ∧ Hid (P.length = m) ∧ Hid (pl (L.take k) = P) ∧ Hid (sumF P = S) ∧ Hid (Below w.heap.size w wr)) (fun _ _ i _ => len0 + 1 - (intOf i).toNat)
  case atStart => exact ⟨0, 0, 0, [], Nat.zero_le _, rfl, rfl, HO0, HN0, HP0, HS0, HB2⟩
  case round =>
    obtain ⟨k, S, m, P, hk, rfl, rfl, HO, HN, HP, HS, HB⟩ := hrel
    clear HO0 HP0 HN0 HS0 HB2
    have hk0 : (0 : Int) ≤ (k : Int) := by omega
    have hbd := sumF_bound HFEW.out hL40.out k
    rw [HP.out, HS.out, HN.out] at hbd
    obtain ⟨hS, hm⟩ := hbd
    obtain ⟨A, cp, rfl⟩ := own_sl HO.out
    by_cases hlt : k < len0
    · have hltL : k < L.length := by rw [HL.out]; exact hlt
      have hki : (k : Int) < (len0 : Int) := by omega
      have hsm := small_few HFEW.out _ (fldAt_mem hltL)
      have hpt := pl_take hltL
      rw [HP.out] at hpt
      obtain ⟨bb, off, rfl, hbb, x0, x1, x2, _⟩ := (HR.out.on HB.out (Nat.le_refl _)) k hltL
      obtain ⟨⟨xn, xv, nv⟩, hx⟩ : ∃ x, fldAt L k = x := ⟨_, rfl⟩
      rw [hx] at x0 x1 x2 hsm hpt
      simp only at x0 x1 x2 hsm hpt
      have ew : IntKind.i64.wrap ((k : Int) + 1) = ((k + 1 : Nat) : Int) := by rw [IntKind.wrap_i64]; omega
      cases nv with
      | true =>
        rw [if_pos rfl] at hpt
        have HPT := Lib.hid hpt
        clear hpt hx hltL x0 x1
        go_wp2_with fail
        go_roundw
        case rel => exact ⟨k + 1, S, m, P, by omega, rfl, rfl, HO, HN, HPT, HS, HB⟩
        case measure => simp [intOf]; omega
      | false =>
        rw [if_neg (by decide)] at hpt
        have HPT := Lib.hid hpt
        obtain ⟨w3, hw3⟩ : ∃ w3, wr.alloc (.cells #[.string xn, .string xv, .bool false] 45) = w3 := ⟨_, rfl⟩
        have hB3 : Below wr.heap.size wr w3 := by rw [← hw3]; exact (Below.refl _ wr).alloc (Nat.le_refl _) _
        have hO3 := own_same HO.out (w' := w3) (fun i hi => hB3.block i (HO.out.lt i hi).2)
        obtain ⟨kk, cap, w4, hrun, hO4, hG4, hloc⟩ := run_append_fld hO3 (E := wr.heap.size) (x := ⟨xn, xv, false⟩) (by rw [← hw3]; exact heap_alloc_new wr _) (by omega) (by have := HB.out.size; have := hB3.size; omega) 30
        have hB4 : Below w.heap.size w w4 := (HB.out.trans (hB3.mono HB.out.size)).grown hG4 (by have := HB.out.size; have := hB3.size; omega) (fun i hi => (hO3.lt i hi).1)
        obtain ⟨_, _, he, _, y0, y1, _⟩ := (HR.out.on hB4 (Nat.le_refl _)) k hltL
        injection he with he
        injection he with he1 he2
        subst he1 he2
        rw [hx] at y0 y1
        simp only at y0 y1
        have z0 : w4.drew.cell? ⟨bb, off + k * 3, none⟩ = some (.string xn) := y0
        have z1 : w4.drew.cell? ⟨bb, off + k * 3 + 1, none⟩ = some (.string xv) := y1
        obtain ⟨S1, hS1⟩ : ∃ z, S + xn.size = z := ⟨_, rfl⟩
        obtain ⟨S2, hS2⟩ : ∃ z, S1 + xv.size = z := ⟨_, rfl⟩
        obtain ⟨S3, hS3⟩ : ∃ z, S2 + 32 = z := ⟨_, rfl⟩
        have hS3b : S3 ≤ 12000 := by omega
        have e1 : IntKind.i64.wrap ((S : Int) + (xn.size : Int)) = (S1 : Int) := by rw [IntKind.wrap_i64]; omega
        have e2 : IntKind.i64.wrap ((S1 : Int) + (xv.size : Int)) = (S2 : Int) := by rw [IntKind.wrap_i64]; omega
        have e3 : IntKind.i64.wrap ((S2 : Int) + 32) = (S3 : Int) := by rw [IntKind.wrap_i64]; omega
        have HSX := Lib.hid (show sumF (P ++ [(⟨xn, xv, false⟩ : Fld)]) = S3 by
          have h1 := HS.out
          rw [sumF_is] at h1 ⊢
          rw [sumZ_cat, List.length_append]
          show sumZ P + (xn.size + xv.size + 0) + 32 * (P.length + 1) = _
          omega)
        have HN4 := Lib.hid (show (P ++ [(⟨xn, xv, false⟩ : Fld)]).length = m + 1 by rw [List.length_append, HN.out]; rfl)
        have HO4 := Lib.hid hO4
        have HB4 := Lib.hid hB4
        have HB4d := Lib.hid (show Below w.heap.size w w4.drew from hB4.drew)
        have HRUN := Lib.hid hrun
        clear hpt hx hltL hB3 hO3 hO4 hG4 hloc hB4 hS1 hS2 hS3 hrun z0 z1
        go_wp2_with (at_builtin; refine wpList_append_run rfl _ _ _ rfl _ _ _ rfl rfl HRUN.out ?_)
        go_quiet (fail)
        go_wp2_with fail
        go_roundw
        case rel => exact ⟨k + 1, S3, m + 1, _, by omega, rfl, rfl, Lib.hid HO4.out, HN4, HPT, HSX, Lib.hid (below_drewN HB4.out _)⟩
        case measure => simp [intOf]; omega
    · have hkn : k = len0 := by omega
      subst hkn
      have hnk : ¬ ((k : Int) < (k : Int)) := by omega
      have hPL : pl L = P := by
        have h := HP.out
        rw [List.take_of_length_le (by rw [HL.out]; exact Nat.le_refl _)] at h
        exact h
      have HPL := Lib.hid hPL
      clear hPL
      by_cases hbig : 4096 < S
      · have hbi : (4096 : Int) < (S : Int) := by omega
        go_wp2_with fail
        go_ret
        exact ⟨rfl, HB.out⟩
      have hbi : ¬ ((4096 : Int) < (S : Int)) := by omega
      have hfewP : P.length + sumZ P < 3000 := by rw [← HPL.out]; exact pl_few HFEW.out
      have hszP : ∀ x ∈ P, x.name.size ≤ maxLen ∧ x.val.size ≤ maxLen := fun x hx => by have := small_few hfewP x hx; unfold maxLen; omega
      obtain ⟨hsh1, hsh2⟩ := short P (by rw [← HPL.out]; exact pl_not L) (by rw [HS.out]; omega) (by rw [HN.out]; omega)
      have HFP := Lib.hid hfewP
      have HZP := Lib.hid hszP
      obtain ⟨E1, hE1⟩ : ∃ E, behind (newT 4096, []) P = E := ⟨_, rfl⟩
      rw [hE1] at hsh1 hsh2
      have HE1 := Lib.hid hE1
      obtain ⟨r1, hr1⟩ : ∃ r, mk (wrote (newT 4096, []) P) = r := ⟨_, rfl⟩
      obtain ⟨r2, hr2⟩ : ∃ r, mk (wrote E1 P) = r := ⟨_, rfl⟩
      have hr2s : r2.size = m := by rw [← hr2, size_mk, hsh1, HN.out]
      have HR1' := Lib.hid hr1
      have HR2' := Lib.hid hr2
      have HSH := Lib.hid hsh2
      clear hfewP hszP hsh1 hsh2 hE1 hr1 hr2 hnk
      have hnk : ¬ ((k : Int) < (k : Int)) := by omega
      go_wp2_with fail
      refine (penew_is wr).mono ?_
      rintro e w3 ⟨c, g, b, rfl, hE3, hB3, l1, l2, l3⟩
      have hO3 := own_same HO.out (w' := w3) (fun i hi => hB3.block i (HO.out.lt i hi).2)
      have hl3 := hE3.lt
      have hws := HB.out.size
      have ha3 : ∀ i, (Value.slice A m cp).ownBlock = some i → i < wr.heap.size := fun i hi => (HO.out.lt i hi).2
      have H3 : ∀ W, K3 c g b w3 W → RdF W W.heap.size A P := by
        obtain ⟨A', c', he, hF, hA, hN0⟩ := rdf_own hO3 HN.out HZP.out
        injection he with he1 he2 he3
        subst he1 he3
        intro W hK
        cases hob : (Value.slice A m cp).ownBlock with
        | none => rw [hN0 hob]; exact fun i hi => absurd hi (Nat.not_lt_zero i)
        | some kk =>
          have hlt := ha3 kk hob
          have hAk := hA kk hob
          rw [hAk] at hF ⊢
          exact hF.apart (by omega) (by omega) (by omega) W hK
      have HEW := Lib.hid (ewrite_any c g b (newT 4096, []) P A m cp r1 w3 hE3 (Lib.hid H3) HN HFP HR1')
      have HB3 := Lib.hid (HB.out.trans (hB3.mono HB.out.size))
      have HO3 := Lib.hid hO3
      have hw3 := hB3.size
      clear hE3 hB3 hO3 H3
      go_wp2_with fail
      refine HEW.out.mono ?_
      rintro e w4 ⟨rfl, b4, hE4, hK4, hb4⟩
      rw [HE1.out] at hE4
      have HE4 := Lib.hid hE4
      have hl4 := hE4.lt
      have HO4 := Lib.hid (own_same HO3.out (w' := w4) (fun i hi => by
        have h1 := HO3.out.lt i hi
        have h2 := ha3 i hi
        exact hK4.block i h1.2 (by omega) (by omega) (by omega)))
      have hw4 := hK4.size
      have HB4 := Lib.hid (K3.below HB3.out hK4 (by omega) (by omega) (by omega) (by omega))
      clear hE4 hK4 HEW
      go_wp2_with fail
      refine (petable_any c g b4 E1 w4 HE4.out).mono ?_
      rintro e w5 ⟨gx, rfl, hgx, hB5, bx, hTx, hbx⟩
      have hE5 := HE4.out.below hB5
      have hO5 := own_same HO4.out (w' := w5) (fun i hi => hB5.block i (HO4.out.lt i hi).2)
      have H5 : ∀ W, K3 c g b4 w5 W → RdF W W.heap.size A P := by
        obtain ⟨A', c', he, hF, hA, hN0⟩ := rdf_own hO5 HN.out HZP.out
        injection he with he1 he2 he3
        subst he1 he3
        intro W hK
        cases hob : (Value.slice A m cp).ownBlock with
        | none => rw [hN0 hob]; exact fun i hi => absurd hi (Nat.not_lt_zero i)
        | some kk =>
          have hlt := ha3 kk hob
          have hAk := hA kk hob
          rw [hAk] at hF ⊢
          exact hF.apart (by omega) (by omega) (by omega) W hK
      have HEW := Lib.hid (ewrite_any c g b4 E1 P A m cp r2 w5 hE5 (Lib.hid H5) HN HFP HR2')
      have HTX := Lib.hid hTx
      have htl := hTx.lt
      have HB5 := Lib.hid (HB4.out.trans (hB5.mono HB4.out.size))
      have hw5 := hB5.size
      clear hE5 hB5 hO5 H5 hTx
      go_wp2_with fail
      refine HEW.out.mono ?_
      rintro e w6 ⟨rfl, b6, hE6, hK6, hb6⟩
      rw [HSH.out] at hE6
      have HE6 := Lib.hid hE6
      have HTX6 := Lib.hid (HTX.out.kept hK6.size (hK6.block gx htl.1 (by omega) (by omega) (by omega)) (fun _ => hK6.block bx htl.2 (by omega) (by omega) (by omega)))
      have HB6 := Lib.hid (K3.below HB5.out hK6 (by omega) (by omega) (by omega) (by have := HB5.out.size; omega))
      clear hE6 hK6 HEW
      go_wp2_with fail
      refine (petable_any c g b6 E1 w6 HE6.out).mono ?_
      rintro e w7 ⟨gy, rfl, hgy, hB7, b7, hTy, hby⟩
      have HTX7 := Lib.hid (HTX6.out.below hB7)
      have HTY := Lib.hid hTy
      have HB7 := Lib.hid (HB6.out.trans (hB7.mono HB6.out.size))
      have rs1 : ((r2.size : Int) == (m : Int)) = true := beq_iff_eq.2 (by omega)
      have rs2 : decide ((r2.size : Int) = (m : Int)) = true := decide_eq_true (by omega)
      obtain ⟨sl, hsl⟩ : ∃ n, sumL E1.1.2 = n := ⟨_, rfl⟩
      have HSL := Lib.hid hsl
      clear hB7 hTy hgy hby hsl
      go_wp2_with fail
      refine (size_t gx bx E1.1 sl w7 HTX7 HSL).mono ?_
      rintro e w8 ⟨rfl, rfl⟩
      go_wp2_with fail
      refine (size_t gy b7 E1.1 sl w8 HTY HSL).mono ?_
      rintro e w9 ⟨rfl, rfl⟩
      go_wp2_with fail
      go_ret
      exact ⟨rfl, HB7.out⟩

set_option maxRecDepth 100000 in
theorem lifted (os : Os) (started : os.Started) (H : Type) (enc : TypeId × Value → H) :
    ReturnsInHanded {} Try.checked os 5 .any (Rows.packShortSpec.pre6 enc Try.prog Try.f5 Rows.packShortRow.domain false) (Rows.packShortSpec.post enc Try.prog Try.f5 false true false false) := by
  refine returnsInHanded_of_change (C := Try.checked) own started (by kernel_rfl) Try.func5
    (ChangeSpec.witness6 (enc := enc) (C := Try.checked) false ⟨#[], #[.slice none 0 0], []⟩ 8 (by kernel_rfl) (by kernel_rfl) (by kernel_rfl) (by kernel_rfl)) ?_
  intro W base args ds gs before hval0 hW hcnd _
  have hval : ∀ (j : Nat) t v, Try.f5.params[j]? = some t → args[j]? = some v → Value.okWide Try.prog W .any base t v := hval0
  have hW' := hW
  obtain ⟨p, q, hA0, hV, rfl, hfz, hnd⟩ := hW
  have hA : DataW.TrodAll enc Try.prog W 0 (fun _ => true) true Try.f5.params.toList args.toList ds p := hA0
  rw [Try.params5] at hA hval
  obtain ⟨v0, vs0, d0, ds0, p0, q0, hargs, rfl, rfl, h0, r0⟩ := trodAll_cons hA
  obtain ⟨rfl, rfl, rfl⟩ := trodAll_nil r0
  obtain rfl : args = #[v0] := by cases args; simp_all
  obtain ⟨rfl, rfl⟩ := trodVars_none hV
  obtain ⟨a0, len0, cap0, rfl⟩ := okWide_slice Try.underlying30 (hval 0 30 v0 rfl rfl)
  have k0 := h0
  have lt0 : ∀ x ∈ p0, x.block < W.heap.size := by obtain ⟨m, hm⟩ := k0; exact DataW.trod_lt m _ _ _ hm
  obtain ⟨hl0, L0, hN0, hR0⟩ : len0 ≤ maxLen ∧ ∃ L : List Up.Fld, L.length = len0 ∧ Pk.RdF W W.heap.size a0 L := by
    obtain ⟨fuel, hf⟩ := h0
    exact Pk.rdf_of_trod hf
  clear hA0 hval0
  refine (walk a0 len0 cap0 L0 W hl0 hN0 hR0).mono fun e W' ⟨he, bel⟩ => ?_
  subst he
  exact ⟨_, rfl, _, _, _, [], _, [], hW', trodAll_mk1 (shut_bool Try.underlying4 _), (trodAll_cons_mk (Below.trod laidOut (by kernel_rfl) (of_decide_eq_true (by kernel_rfl)) k0 bel lt0) trodAll_mk0), rfl, bel.frame _, fun h => by cases h⟩

theorem over : Rows.packShortRow.holds Try.pinned (OpenSpec.ofChange Rows.packShortSpec) :=
  OpenClaim.holds_of_wide 5 Try.f5 rfl rfl rfl rfl rfl rfl rfl ⟨rfl, rfl, rfl, rfl, rfl⟩ rfl rfl rfl rfl rfl (by kernel_rfl) Try.func5 (by kernel_rfl)
    (of_decide_eq_true (by kernel_rfl)) (by unfold Func.isWrapper; first | (rw [if_pos (by decide +kernel)]; kernel_rfl) | (rw [if_neg (by decide +kernel)]; exact ⟨rfl, rfl⟩))
    (fun os started H enc _ => lifted os started H enc)

theorem proved : Rows.PackShortSaid := over
#print axioms proved
end Go.Proofs.Ytamgnbjdeoklbaa.packShort
