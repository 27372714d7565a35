/- Proves TextNumbers: any digits are read, and any number is written, just as the document says; a number of nine digits at most that was written is read. No condition. -/
import Derived.Test.YtpbbeeggblmneaaDoorRows
import Derived.WalkKit
import Derived.ProofKit
import Derived.OpenShut
import Derived.ShutString
import Derived.Test.YtpbbeeggblmneaaDoorCards
import Derived.Test.YtpbbeeggblmneaaDoorTie
import Derived.Lay
import Derived.SevenTiedAt
import Derived.Below
import Derived.Test.YtpbbeeggblmneaaDoorTextFrame
import Derived.Test.YtpbbeeggblmneaaDoorTextAwake
namespace Go.Proofs.YtpbbeeggblmneaaDoor.textNumbers
open Go.ChangeShapes Go.WideShapes Go.ChangeAt Go.RowKit
open Go.ChangeMaps (open_string shut_string)
set_option linter.unusedVariables false      -- a walk need not use every 'w<i>' (that an integer argument fits its kind)


open TextMath

theorem walk (a0 : ByteArray) (a1 : Int) (a2 : Int) (w0 : a0.size ≤ maxLen) (w1 : (Lit.int .i64 a1).wf = true) (w2 : (Lit.int .i64 a2).wf = true) (w : World) (hS : Std w.heap.size w) :
    Calls Tryd.prog 6 #[.string a0, .int .i64 a1, .int .i64 a2] w fun e w' => e = .returned (.bool true) ∧ Below w.heap.size w w' := by
  have HS := Lib.hid hS; clear hS
  have n0 : Below w.heap.size w w := Below.refl _ _
  generalize hg : w.heap.size = g at *
  have hgw : g ≤ w.heap.size := by omega
  have G := Lib.hid hg; clear hg
  have b1 := bounds_i64 w1
  have b2 := bounds_i64 w2
  by_cases h1 : (20000 : Int) < a0.size
  · go_enter Tryd.func6, Tryd.ntmps6
    go_wp2_with fail
    refine (awake_any g _ HS.out hgw).mono ?_
    rintro e w1 ⟨rfl, hB⟩
    go_wp2_with fail
    go_ret
    exact ⟨rfl, hB⟩
  have hs : a0.size ≤ 20000 := by omega
  clear w0 w1 w2
  obtain ⟨x, hx⟩ : ∃ x, decN a0.data.toList a2 = x := ⟨_, rfl⟩
  obtain ⟨ok, hok⟩ : ∃ x, decOk a0.data.toList a2 = x := ⟨_, rfl⟩
  obtain ⟨t, ht⟩ : ∃ x, numS a1 = x := ⟨_, rfl⟩
  have hb := dec_of_num a1
  rw [ht] at hb
  have hts : t.size ≤ 140737488351232 := by
    rw [← ht]
    unfold numS
    split
    · decide
    · rw [mk_size, Lib.decDigits_length]
      have := Lib.nDigits_le20 a1.toNat (by omega)
      omega
  obtain ⟨z, hz⟩ : ∃ x, decN t.data.toList 999999999 = x := ⟨_, rfl⟩
  obtain ⟨has, hhas⟩ : ∃ x, decOk t.data.toList 999999999 = x := ⟨_, rfl⟩
  rw [hz, hhas] at hb
  have c1 : ∀ w, Calls Tryd.prog 18 #[.string a0, .int .i64 a2] w fun e w' => e = .returned (.tuple #[.int .i64 x, .bool ok]) ∧ w = w' := fun w => by have := decimal_any a0 a2 w (by omega); rwa [hx, hok] at this
  have c2 : ∀ w, Calls Tryd.prog 19 #[.string a0, .int .i64 a2] w fun e w' => e = .returned (.tuple #[.int .i64 x, .bool ok]) ∧ Below w.heap.size w w' := fun w => by have := refDecimal_any a0 a2 w; rwa [hx, hok] at this
  have c3 : ∀ w, Std g w → Calls Tryd.prog 20 #[.int .i64 a1] w fun e w' => e = .returned (.string t) ∧ Below w.heap.size w w' := fun w h => by have := number_any g a1 w h b1.1 b1.2; rwa [ht] at this
  have c4 : ∀ w, Calls Tryd.prog 21 #[.int .i64 a1] w fun e w' => e = .returned (.string t) ∧ Below w.heap.size w w' := fun w => by have := refNumber_any a1 w b1.1 b1.2; rwa [ht] at this
  have c5 : ∀ w, Calls Tryd.prog 18 #[.string t, .int .i64 999999999] w fun e w' => e = .returned (.tuple #[.int .i64 z, .bool has]) ∧ w = w' := fun w => by have := decimal_any t 999999999 w hts; rwa [hz, hhas] at this
  clear hx hok ht hz hhas hts
  have C1 := Lib.hid c1; clear c1
  have C2 := Lib.hid c2; clear c2
  have C3 := Lib.hid c3; clear c3
  have C4 := Lib.hid c4; clear c4
  have C5 := Lib.hid c5; clear c5
  have HB := Lib.hid hb; clear hb
  go_enter Tryd.func6, Tryd.ntmps6
  go_wp2_with fail
  refine (awake_any g _ HS.out hgw).mono ?_
  rintro e w1 ⟨rfl, n1⟩
  have s1 := n1.size
  clear n0
  go_wp2_with fail
  refine (C1.out _).mono ?_
  rintro e w' ⟨rfl, rfl⟩
  go_wp2_with fail
  refine (C2.out _).mono ?_
  rintro e w2 ⟨rfl, hB⟩
  have n2 := n1.trans (hB.mono (by omega))
  have s2 := n2.size
  clear hB n1 s1
  go_wp2_with fail
  refine (C3.out _ (HS.out.on n2)).mono ?_
  rintro e w3 ⟨rfl, hB⟩
  have n3 := n2.trans (hB.mono (by omega))
  have s3 := n3.size
  clear hB n2 s2
  go_wp2_with fail
  refine (C4.out _).mono ?_
  rintro e w4 ⟨rfl, hB⟩
  have n4 := n3.trans (hB.mono (by omega))
  have s4 := n4.size
  clear hB n3 s3
  go_wp2_with fail
  refine (C3.out _ (HS.out.on n4)).mono ?_
  rintro e w5 ⟨rfl, hB⟩
  have n5 := n4.trans (hB.mono (by omega))
  clear hB n4 s4
  go_wp2_with fail
  refine (C5.out _).mono ?_
  rintro e w' ⟨rfl, rfl⟩
  by_cases h3 : 0 ≤ a1
  · have f3 : decide (0 ≤ a1) = true := decide_eq_true h3
    by_cases h4 : a1 ≤ 999999999
    · have f4 : decide (a1 ≤ 999999999) = true := decide_eq_true h4
      obtain rfl : has = true := by rw [HB.out.1, decide_eq_true ⟨h3, h4⟩]
      obtain rfl : z = a1 := HB.out.2 rfl
      go_wp2_with fail
      go_ret
      exact ⟨rfl, n5⟩
    · have f4 : decide (a1 ≤ 999999999) = false := decide_eq_false h4
      obtain rfl : has = false := by rw [HB.out.1]; exact decide_eq_false (fun h => h4 h.2)
      go_wp2_with fail
      go_ret
      exact ⟨rfl, n5⟩
  · have f3 : decide (0 ≤ a1) = false := decide_eq_false h3
    obtain rfl : has = false := by rw [HB.out.1]; exact decide_eq_false (fun h => h3 h.1)
    go_wp2_with fail
    go_ret
    exact ⟨rfl, n5⟩

set_option maxRecDepth 100000 in
theorem lifted (os : Os) (started : os.Started) (H : Type) (enc : TypeId × Value → H) :
    ReturnsInHanded {} Tryd.checked os 6 .any (fun w args => (Rows.textNumbersSpec.pre enc Tryd.prog Tryd.f6 [] false w args ∧ laidMetH Tryd.prog Rows.textNumbersRow.laid w) ∧ sizedMet enc Tryd.prog Tryd.f6 (OpenSpec.ofChange Rows.textNumbersSpec) false w args) (Rows.textNumbersSpec.post enc Tryd.prog Tryd.f6 false true false false) := by
  refine wrap_laid (C := Tryd.checked) (X := fun w => laidMetH Tryd.prog Rows.textNumbersRow.laid w) (fun _ _ hh h => h.of_heap hh) own started (by kernel_rfl) Tryd.func6
    (ChangeSpec.witness_shaped (enc := enc) (C := Tryd.checked) (os := os) (X := fun w _ => laidMetH Tryd.prog Rows.textNumbersRow.laid w) false (World.laidAll Tryd.prog os Rows.textNumbersRow.laid) #[.string ByteArray.empty, .int .i64 0, .int .i64 0] 8 (World.laidAll_os _ _ _)
      (World.shaped_of_ZipB (by kernel_rfl) (by kernel_rfl)) (by kernel_rfl) (by kernel_rfl) (by kernel_rfl)
      (by rw [MakeChecks.laidMetH_plain _ _ _ (by kernel_rfl)]; exact laidMet_laidAll _ (by kernel_rfl) (by kernel_rfl))) ?_
  intro W base args ds gs before hval0 hW hsh hL
  have hstd := std_of hsh hL
  have hval : ∀ (j : Nat) t v, Tryd.f6.params[j]? = some t → args[j]? = some v → Value.okWide Tryd.prog W .any base t v := hval0
  have hW' := hW
  obtain ⟨p, q, hA0, hV, rfl, hfz, hnd⟩ := hW
  have hA : DataW.TrodAll enc Tryd.prog W 0 (fun _ => true) true Tryd.f6.params.toList args.toList ds p := hA0
  rw [Tryd.params6] at hA hval
  obtain ⟨v0, vs0, d0, ds0, p0, q0, hargs, rfl, rfl, h0, r0⟩ := trodAll_cons hA
  obtain ⟨v1, vs1, d1, ds1, p1, q1, rfl, rfl, rfl, h1, r1⟩ := trodAll_cons r0
  obtain ⟨v2, vs2, d2, ds2, p2, q2, rfl, rfl, rfl, h2, r2⟩ := trodAll_cons r1
  obtain ⟨rfl, rfl, rfl⟩ := trodAll_nil r2
  obtain rfl : args = #[v0, v1, v2] := by cases args; simp_all
  obtain ⟨rfl, rfl⟩ := trodVars_none hV
  obtain ⟨a0, rfl, rfl, rfl, w0⟩ := open_string Tryd.underlying9 (hval 0 9 v0 rfl rfl) h0
  obtain ⟨a1, rfl, rfl, rfl, w1⟩ := open_int Tryd.underlying3 (hval 1 3 v1 rfl rfl) h1
  obtain ⟨a2, rfl, rfl, rfl, w2⟩ := open_int Tryd.underlying3 (hval 2 3 v2 rfl rfl) h2
  clear hA0 hval0
  simp only [List.append_nil] at hW'
  refine (walk a0 a1 a2 w0 w1 w2 W hstd).mono fun e W' ⟨he, hg⟩ => ?_
  subst he
  exact ⟨_, rfl, _, _, _, [], [], [], hW', (trodAll_cons_mk (shut_bool Tryd.underlying4 _) trodAll_mk0), (trodAll_cons_mk (shut_string Tryd.underlying9 w0) (trodAll_cons_mk (shut_int Tryd.underlying3 w1) (trodAll_cons_mk (shut_int Tryd.underlying3 w2) trodAll_mk0))), rfl, hg.frame _, fun h => by cases h⟩

theorem over : Rows.textNumbersRow.holds Tryd.pinned (OpenSpec.ofChange Rows.textNumbersSpec) :=
  OpenClaim.holds_of_wide 6 Tryd.f6 rfl rfl rfl rfl rfl rfl rfl ⟨rfl, rfl, rfl, rfl, rfl⟩ rfl rfl rfl rfl rfl (by kernel_rfl) Tryd.func6 (by kernel_rfl)
    (of_decide_eq_true (by kernel_rfl)) (by unfold Func.isWrapper; first | (rw [if_pos (by decide +kernel)]; kernel_rfl) | (rw [if_neg (by decide +kernel)]; exact ⟨rfl, rfl⟩))
    (fun os started H enc _ => lifted os started H enc)

theorem proved : Rows.TextNumbersCardSaid :=
  Claim7.holds_tied_plain_at .later [] [.data, .data, .data, .data, .pinned] true (true, "9807dafe3f6d15e133c68866b88ae7e123aecc51ae5408fe4f2340aba51fdb13") false
    over (fun _ h => by cases h) (by kernel_rfl) (fun _ h => by cases h) textNumbers_row_tie rfl ⟨rfl, rfl⟩ (by kernel_rfl) rfl
    (fun f fn hf hfn => by
      obtain rfl : f = 6 := Option.some.inj ((show Tryd.prog.funcNamed "nuncio/nunciolaw02.TextNumbers" = some 6 by kernel_rfl).symm.trans hf) |>.symm
      obtain rfl : fn = Tryd.f6 := (Option.some.inj (Tryd.func6.symm.trans hfn)).symm
      exact ⟨by kernel_rfl, fun j t ht => by
        rw [Tryd.params6] at ht
        have hm : t ∈ [9, 3, 3] := by simpa using Array.mem_of_getElem? ht
        have hall : ([9, 3, 3].all fun u => !Tryd.prog.wantsStandIn u) = true := by kernel_rfl
        exact (show Tryd.prog.wantsStandIn t = false by simpa using List.all_eq_true.1 hall t hm)⟩)
    (by kernel_rfl)
#print axioms proved
end Go.Proofs.YtpbbeeggblmneaaDoor.textNumbers
