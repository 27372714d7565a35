import Derived.Test.YteddepmiejlemaaRows
import Derived.Test.YteddepmiejlemaaProg
import Derived.Test.YteddepmiejlemaaBytes
import Derived.Test.YteddepmiejlemaaNumBe
import Derived.Test.YteddepmiejlemaaFrMath
import Derived.Test.YteddepmiejlemaaFrFrame
import Derived.Test.YteddepmiejlemaaFrSets
import Derived.Test.YteddepmiejlemaaFrSet
import Derived.Test.YteddepmiejlemaaSeMath
import Derived.Test.YteddepmiejlemaaSePar
import Derived.Test.YteddepmiejlemaaSeList
import Derived.Test.YteddepmiejlemaaSeCode
import Derived.Test.YteddepmiejlemaaSeAwake
import Derived.LoopTactic
import Derived.Lib.Hide
import Derived.Outline
import Derived.IntWalk
import Derived.WalkSpells
import Derived.WalkLawsBesides
import Derived.Laws.Rows
import Derived.WalkKit
import Derived.ProofKit
import Derived.OpenShut
import Derived.ShutString
import Derived.ChangeOld
import Derived.Below
namespace Go.Proofs.Yteddepmiejlemaa.settingsParse
open Go Go.ChangeShapes Go.WideShapes Go.ChangeAt Go.RowKit Bytes Fr Se
open Go.ChangeMaps (open_string shut_string)
set_option linter.unusedVariables false

theorem own : ownKnob Try.prog.godebug = none := by kernel_rfl
theorem laidOut : laidOutB Try.prog = true := by kernel_rfl

set_option maxHeartbeats 8000000 in
set_option maxRecDepth 100000 in
theorem walk (s0 : ByteArray) (a1 : Option Addr) (len1 cap1 : Nat) (L1 : List (Nat × Nat)) (w : World) (hs0 : s0.size ≤ maxLen) (hl1 : len1 ≤ maxLen) (hL1 : L1.length = len1) (hR1 : RdSt w w.heap.size a1 L1) (hz1 : a1 = none → cap1 = 0 ∧ len1 = 0) :
    Calls Try.prog 4 #[.string s0, .slice a1 len1 cap1] w fun e w' => e = .returned (.bool true) ∧ Below w.heap.size w w' := by
  have hbnd : ∀ x ∈ L1, x.1 < 65536 ∧ x.2 < 4294967296 := set_mem (fun j hj => by
    obtain ⟨_, _, _, _, _, _, h⟩ := hR1 j hj
    exact h)
  have hback : sets (mk (setB L1)).data.toList = L1 := by rw [mk_list]; exact sets_back L1 hbnd
  have hsz : (mk (setB L1)).size = 6 * len1 := by rw [mk_size, setB_len, hL1]
  obtain ⟨K, hK⟩ : ∃ K, sets s0.data.toList = K := ⟨_, rfl⟩
  have hKl := sets_len _ s0.data.toList (Nat.le_refl _)
  rw [hK, size_l] at hKl
  have HK := Lib.hid hK
  have HL1 := Lib.hid hL1
  obtain ⟨t, ht⟩ : ∃ t, mk (setB L1) = t := ⟨_, rfl⟩
  rw [ht] at hback hsz
  have HBK := Lib.hid hback
  have HT := Lib.hid ht
  clear hK hback ht hbnd hL1
  go_enter Try.func4, Try.ntmps4
  go_wp2_with fail
  refine (sawake_is w).mono ?_
  rintro e w1 ⟨rfl, hB1⟩
  have HB1 := Lib.hid hB1
  have HR := Lib.hid (hR1.on hB1 hB1.size)
  clear hB1 hR1
  by_cases h1 : (20000 : Int) < (s0.size : Int)
  · go_wp2_with fail
    go_ret
    exact ⟨rfl, HB1.out⟩
  · by_cases h2 : (2000 : Int) < (len1 : Int)
    · go_wp2_with fail
      go_ret
      exact ⟨rfl, HB1.out⟩
    · have hs : s0.size ≤ 20000 := by omega
      have hn : len1 ≤ 2000 := by omega
      go_wp2_with fail
      refine (cpar_is s0 K w1 (by omega) HK).mono ?_
      rintro e w2 ⟨A, n, c, rfl, hR2, hn2, hB2⟩
      have hB12 := Lib.hid (HB1.out.trans (hB2.mono HB1.out.size))
      have HR2 := Lib.hid (HR.out.on hB2 hB2.size)
      clear hB2 HB1 HR
      go_wp2_with fail
      refine (sparse_is s0 K w2 (by omega) HK).mono ?_
      rintro e w3 ⟨B, m, d, rfl, hR3, hn3, hB3⟩
      have hm : m = n := by have := hn2.out; have := hn3.out; omega
      subst hm
      have hB13 := Lib.hid (hB12.out.trans (hB3.mono hB12.out.size))
      have HR3 := Lib.hid (HR2.out.on hB3 hB3.size)
      have HRA := Lib.hid (hR2.out.on hB3 hB3.size)
      clear hB3 hB12 HR2 hR2
      go_wp2_with fail
      refine (slist_is A B m c d K w3 hn2 (by have := hn2.out; omega) HRA hR3).mono ?_
      rintro e w4 ⟨rfl, hB4⟩
      have hB14 := Lib.hid (hB13.out.trans (hB4.mono hB13.out.size))
      have HR4 := Lib.hid (HR3.out.on hB4 hB4.size)
      clear hB4 hB13 HR3 HRA hR3
      go_wp2_with fail
      refine (cset_is a1 len1 cap1 L1 w4 HR4 HL1 hn).mono ?_
      rintro e w5 ⟨rfl, hB5⟩
      have e9 : frV (setF L1) = .agg #[.int .u8 4, .int .u8 0, .int .u32 0, .string t] := by rw [← HT.out]; rfl
      rw [e9]
      have hB15 := Lib.hid (hB14.out.trans (hB5.mono hB14.out.size))
      have HR5 := Lib.hid (HR4.out.on hB5 hB5.size)
      clear hB5 hB14 HR4
      have HF : Hid ((Instr.field 41 (.agg #[.int .u8 4, .int .u8 0, .int .u32 0, .string t]) 3).run Try.prog w5 = .ok (.string t) w5) := Lib.hid (by
        simp [Instr.field, run_underlying Try.underlying41, part, asAgg])
      go_wp2_with (rw [HF.out])
      go_wp2_with fail
      refine (cpar_is t L1 w5 (by omega) HBK).mono ?_
      rintro e w6 ⟨E, n, f, rfl, hR6, hn6, hB6⟩
      have hm : n = len1 := by have := hn6.out; have := HL1.out; omega
      subst hm
      have hB16 := Lib.hid (hB15.out.trans (hB6.mono hB15.out.size))
      have HR6 := Lib.hid (HR5.out.on hB6 hB6.size)
      clear hB6 hB15 HR5 HF
      go_wp2_with fail
      refine (slist_is E a1 n f cap1 L1 w6 hn6 (by omega) hR6 HR6).mono ?_
      rintro e w7 ⟨rfl, hB7⟩
      have hB17 := Lib.hid (hB16.out.trans (hB7.mono hB16.out.size))
      clear hB7 hB16 HR6 hR6
      go_wp2_with fail
      go_ret
      exact ⟨rfl, hB17.out⟩

set_option maxRecDepth 100000 in
theorem lifted (os : Os) (started : os.Started) (H : Type) (enc : TypeId × Value → H) :
    ReturnsInHanded {} Try.checked os 4 .any (Rows.settingsParseSpec.pre6 enc Try.prog Try.f4 Rows.settingsParseRow.domain false) (Rows.settingsParseSpec.post enc Try.prog Try.f4 false true false false) := by
  refine returnsInHanded_of_change (C := Try.checked) own started (by kernel_rfl) Try.func4
    (ChangeSpec.witness6 (enc := enc) (C := Try.checked) false ⟨#[], #[.string ByteArray.empty, .slice none 0 0], []⟩ 8 (by kernel_rfl) (by kernel_rfl) (by kernel_rfl) (by kernel_rfl)) ?_
  intro W base args ds gs before hval0 hW hcnd _
  have hval : ∀ (j : Nat) t v, Try.f4.params[j]? = some t → args[j]? = some v → Value.okWide Try.prog W .any base t v := hval0
  have hW' := hW
  obtain ⟨p, q, hA0, hV, rfl, hfz, hnd⟩ := hW
  have hA : DataW.TrodAll enc Try.prog W 0 (fun _ => true) true Try.f4.params.toList args.toList ds p := hA0
  rw [Try.params4] at hA hval
  obtain ⟨v0, vs0, d0, ds0, p0, q0, hargs, rfl, rfl, h0, r0⟩ := trodAll_cons hA
  obtain ⟨v1, vs1, d1, ds1, p1, q1, rfl, rfl, rfl, h1, r1⟩ := trodAll_cons r0
  obtain ⟨rfl, rfl, rfl⟩ := trodAll_nil r1
  obtain rfl : args = #[v0, v1] := by cases args; simp_all
  obtain ⟨rfl, rfl⟩ := trodVars_none hV
  obtain ⟨s0, rfl, rfl, rfl, ws0⟩ := open_string Try.underlying9 (hval 0 9 v0 rfl rfl) h0
  obtain ⟨a1, len1, cap1, rfl⟩ := okWide_slice Try.underlying22 (hval 1 22 v1 rfl rfl)
  have k1 := h1
  have lt1 : ∀ x ∈ p1, x.block < W.heap.size := by obtain ⟨m, hm⟩ := k1; exact DataW.trod_lt m _ _ _ hm
  obtain ⟨hl1, L1, hN1, hR1⟩ : len1 ≤ maxLen ∧ ∃ L : List (Nat × Nat), L.length = len1 ∧ RdSt W W.heap.size a1 L := by
    obtain ⟨fuel, hf⟩ := h1
    exact rdst_of_trod hf
  have hz1 : a1 = none → cap1 = 0 ∧ len1 = 0 := by
    obtain ⟨fuel, hf⟩ := h1
    exact nil_of_trod hf
  clear hA0 hval0
  refine (walk s0 a1 len1 cap1 L1 W ws0 hl1 hN1 hR1 hz1).mono fun e W' ⟨he, bel⟩ => ?_
  subst he
  exact ⟨_, rfl, _, _, _, [], _, [], hW', trodAll_mk1 (shut_bool Try.underlying4 _), (trodAll_cons_mk (shut_string Try.underlying9 ws0) (trodAll_cons_mk (Below.trod laidOut (by kernel_rfl) (of_decide_eq_true (by kernel_rfl)) k1 bel lt1) trodAll_mk0)), rfl, bel.frame _, fun h => by cases h⟩

theorem over : Rows.settingsParseRow.holds Try.pinned (OpenSpec.ofChange Rows.settingsParseSpec) :=
  OpenClaim.holds_of_wide 4 Try.f4 rfl rfl rfl rfl rfl rfl rfl ⟨rfl, rfl, rfl, rfl, rfl⟩ rfl rfl rfl rfl rfl (by kernel_rfl) Try.func4 (by kernel_rfl)
    (of_decide_eq_true (by kernel_rfl)) (by unfold Func.isWrapper; first | (rw [if_pos (by decide +kernel)]; kernel_rfl) | (rw [if_neg (by decide +kernel)]; exact ⟨rfl, rfl⟩))
    (fun os started H enc _ => lifted os started H enc)

theorem proved : Rows.SettingsParseSaid := over
#print axioms proved
end Go.Proofs.Yteddepmiejlemaa.settingsParse
