/- Proves ReadCuts: a message that is cut off anywhere is none, nor is one with bytes behind it. No condition. -/
import Derived.Test.YtngbifdenbfepaaRows
import Derived.WalkKit
import Derived.ProofKit
import Derived.OpenShut
import Derived.ShutString
import Derived.Test.YtngbifdenbfepaaReadAwake
import Derived.Test.YtngbifdenbfepaaRdrRecord
import Derived.Test.YtngbifdenbfepaaDatCuts
import Derived.Test.YtngbifdenbfepaaRefSameNone
import Derived.Below
namespace Go.Proofs.Ytngbifdenbfepaa.readCuts
open Go.ChangeShapes Go.WideShapes Go.ChangeAt Go.RowKit
open Go.ChangeMaps (open_string shut_string)
set_option linter.unusedVariables false      -- a walk need not use every 'w<i>' (that an integer argument fits its kind)

theorem own : ownKnob Try.prog.godebug = none := by kernel_rfl

open Bytes NmMath MsgMath RecMath DatMath
theorem read_is (s : ByteArray) (R : Except Nat Msg) (w : World) (hs : s.size ≤ 1000000) (hR : Hid (rd (recE s.data.toList) s.data.toList = R)) : Calls Try.prog 11 #[.string s] w (ReadRet w R) :=
  read_any s _ R w hs (fun _ _ r => recReads s r hs) hR
theorem rd_small {rec : Nat → Except Nat (Rec × Nat)} {l : List UInt8} (h : l.length ≤ 65535) : rd rec l = msg rec l := if_neg (by omega)

set_option maxRecDepth 100000 in

theorem walk (a0 : ByteArray) (a1 : Int) (a2 : ByteArray) (w0 : a0.size ≤ maxLen) (w1 : (Lit.int .i64 a1).wf = true) (w2 : a2.size ≤ maxLen) (w : World) :
    Calls Try.prog 7 #[.string a0, .int .i64 a1, .string a2] w fun e w' => e = .returned (.bool true) ∧ Below w.heap.size w w' := by
  have n0 : Below w.heap.size w w := Below.refl _ _
  by_cases h1 : (65535 : Int) < a0.size
  · go_enter Try.func7, Try.ntmps7
    go_wp2_with fail
    refine (awake_any _).mono ?_
    rintro e w1 ⟨rfl, hB⟩
    go_wp2_with fail
    go_ret
    exact ⟨rfl, hB⟩
  by_cases h2 : (70000 : Int) < a2.size
  · go_enter Try.func7, Try.ntmps7
    go_wp2_with fail
    refine (awake_any _).mono ?_
    rintro e w1 ⟨rfl, hB⟩
    go_wp2_with fail
    go_ret
    exact ⟨rfl, hB⟩
  have hi1 : (a0.size : Int) ≤ 65535 := by omega
  have hi2 : (a2.size : Int) ≤ 70000 := by omega
  obtain ⟨R, hR⟩ : ∃ R, rd (recE a0.data.toList) a0.data.toList = R := ⟨_, rfl⟩
  have HR := Lib.hid (fun w => read_is a0 R w (by omega) hR)
  cases R with
  | error x =>
    have hx0 := rd_ne hR
    have hx : ((x : Int) != 0) = true := bne_iff_ne.2 (by omega)
    clear hR hx0 n0
    go_enter Try.func7, Try.ntmps7
    go_wp2_with fail
    refine (awake_any _).mono ?_
    rintro e w1 ⟨rfl, n1⟩
    have N1 := Lib.hid n1; clear n1
    go_wp2_with fail
    refine (HR.out _).mono ?_
    rintro e w2 ⟨rfl, n2⟩
    have N2 := Lib.hid (N1.out.trans (n2.mono N1.out.size)); clear n2 N1
    have N3 : Hid (Below w.heap.size w (w2.alloc (.cells #[.int .u16 0, .int .u16 0, .slice none 0 0, .slice none 0 0, .slice none 0 0, .slice none 0 0] 33))) := N2.out.alloc N2.out.size _
    go_wp2_with fail
    go_ret
    exact ⟨rfl, N3.out⟩
  | ok M =>
    have hM : msg (recE a0.data.toList) a0.data.toList = .ok M := by rw [← hR]; exact (rd_small (by rw [← Lib.size_eq]; omega)).symm
    have hRMv : ∃ R2, rd (recE (a0 ++ a2).data.toList) (a0 ++ a2).data.toList = R2 ∧ ((a2.size = 0 ∧ R2 = .ok M) ∨ (0 < a2.size ∧ a0.size + a2.size ≤ 65535 ∧ R2 = .error 7) ∨ (0 < a2.size ∧ 65535 < a0.size + a2.size ∧ R2 = .error 3)) := by
      refine ⟨_, rfl, ?_⟩
      rw [cat_list]
      by_cases hz : a2.size = 0
      · have : a2.data.toList = [] := List.length_eq_zero_iff.1 (by rw [← Lib.size_eq]; exact hz)
        rw [this, List.append_nil]
        exact .inl ⟨hz, hR⟩
      · have hne : a2.data.toList ≠ [] := fun e => hz (by rw [Lib.size_eq, e]; rfl)
        by_cases hl : a0.size + a2.size ≤ 65535
        · exact .inr (.inl ⟨by omega, hl, by rw [rd_small (by rw [List.length_append, ← Lib.size_eq, ← Lib.size_eq]; exact hl)]; exact msg_ext hM hne⟩)
        · exact .inr (.inr ⟨by omega, by omega, if_pos (by rw [List.length_append, ← Lib.size_eq, ← Lib.size_eq]; omega)⟩)
    obtain ⟨R2, hR2, hRV⟩ := hRMv
    have HR2 := Lib.hid (fun w => read_is (a0 ++ a2) R2 w (by rw [ByteArray.size_append]; omega) hR2)
    have HSN := Lib.hid same_none
    by_cases hc : 0 ≤ a1 ∧ a1 < a0.size
    · obtain ⟨k, rfl⟩ : ∃ k : Nat, a1 = k := ⟨a1.toNat, by omega⟩
      obtain ⟨hc1, hc2⟩ := hc
      obtain ⟨x, hx⟩ := msg_cut hM (k := k) (by rw [← Lib.size_eq]; omega)
      obtain ⟨y, hy⟩ : ∃ y, a0.extract 0 k = y := ⟨_, rfl⟩
      have hyl : y.data.toList = a0.data.toList.take k := by rw [← hy, extract_list]; rfl
      have hys : y.size ≤ 65535 := by rw [← hy, ByteArray.size_extract]; omega
      rw [← hyl] at hx
      have hxr : rd (recE y.data.toList) y.data.toList = .error x := by rw [rd_small (by rw [← Lib.size_eq]; exact hys)]; exact hx
      have hx0 := rd_ne hxr
      have hxi : ((x : Int) == 0) = false := beq_eq_false_iff_ne.2 (by omega)
      have HC := Lib.hid (fun w => read_is y (.error x) w (by omega) hxr)
      clear hR hM hR2 hx hyl hys hxr hx0 n0
      go_enter Try.func7, Try.ntmps7
      go_wp2_with fail
      refine (awake_any _).mono ?_
      rintro e w1 ⟨rfl, n1⟩
      have N1 := Lib.hid n1; clear n1
      go_wp2_with fail
      refine (HR.out _).mono ?_
      rintro e w2 ⟨vq, va, vn, vx, rfl, hMR, n2⟩
      have N2 := Lib.hid (N1.out.trans (n2.mono N1.out.size)); clear n2 N1
      obtain ⟨⟨q1, q2, q3, rfl⟩, ⟨d1, d2, d3, rfl⟩, ⟨m1, m2, m3, rfl⟩, ⟨x1, x2, x3, rfl⟩⟩ := hMR.slices
      clear hMR
      have N3 : Hid (Below w.heap.size w (w2.alloc (.cells #[.int .u16 M.id, .int .u16 M.flags, .slice q1 q2 q3, .slice d1 d2 d3, .slice m1 m2 m3, .slice x1 x2 x3] 33))) := N2.out.alloc N2.out.size _
      clear N2
      go_wp2_with fail
      generalize w2.alloc (.cells #[.int .u16 M.id, .int .u16 M.flags, .slice q1 q2 q3, .slice d1 d2 d3, .slice m1 m2 m3, .slice x1 x2 x3] 33) = w3 at N3 ⊢
      refine (HC.out _).mono ?_
      rintro e w4 ⟨rfl, n4⟩
      have N4 := Lib.hid (N3.out.trans (n4.mono N3.out.size)); clear n4 N3
      have N5 : Hid (Below w.heap.size w (w4.alloc (.cells #[.int .u16 0, .int .u16 0, .slice none 0 0, .slice none 0 0, .slice none 0 0, .slice none 0 0] 33))) := N4.out.alloc N4.out.size _
      have hb5 : (w4.alloc (.cells #[.int .u16 0, .int .u16 0, .slice none 0 0, .slice none 0 0, .slice none 0 0, .slice none 0 0] 33)).heap[w4.heap.size]? = some (.cells #[.int .u16 0, .int .u16 0, .slice none 0 0, .slice none 0 0, .slice none 0 0, .slice none 0 0] 33 (0, 0)) := heap_alloc_new w4 _
      clear N4 hb5
      go_wp2_with fail
      generalize w4.alloc (.cells #[.int .u16 0, .int .u16 0, .slice none 0 0, .slice none 0 0, .slice none 0 0, .slice none 0 0] 33) = w5 at N5 ⊢
      refine (HSN.out _).mono ?_
      rintro e w6 ⟨rfl, n6⟩
      have N3 := Lib.hid (N5.out.trans (n6.mono N5.out.size)); clear n6 N5
      go_wp2_with fail
      rcases hRV with ⟨hz, rfl⟩ | ⟨hz, hl, rfl⟩ | ⟨hz, hl, rfl⟩
      · have hzi : ((a2.size : Int) == 0) = true := beq_iff_eq.2 (by omega)
        clear hz
        refine (HR2.out _).mono ?_
        rintro e w7 ⟨vq, va, vn, vx, rfl, hMR, n7⟩
        have N7 := Lib.hid (N3.out.trans (n7.mono N3.out.size)); clear n7
        obtain ⟨⟨q1, q2, q3, rfl⟩, ⟨d1, d2, d3, rfl⟩, ⟨m1, m2, m3, rfl⟩, ⟨x1, x2, x3, rfl⟩⟩ := hMR.slices
        clear hMR
        have N8 : Hid (Below w.heap.size w (w7.alloc (.cells #[.int .u16 M.id, .int .u16 M.flags, .slice q1 q2 q3, .slice d1 d2 d3, .slice m1 m2 m3, .slice x1 x2 x3] 33))) := N7.out.alloc N7.out.size _
        clear N7
        go_wp2_with fail
        go_ret
        exact ⟨rfl, N8.out⟩
      · have hzi : ((a2.size : Int) == 0) = false := beq_eq_false_iff_ne.2 (by omega)

        clear hz
        refine (HR2.out _).mono ?_
        rintro e w7 ⟨rfl, n7⟩
        have N7 := Lib.hid (N3.out.trans (n7.mono N3.out.size)); clear n7
        have N8 : Hid (Below w.heap.size w (w7.alloc (.cells #[.int .u16 0, .int .u16 0, .slice none 0 0, .slice none 0 0, .slice none 0 0, .slice none 0 0] 33))) := N7.out.alloc N7.out.size _
        clear N7
        go_wp2_with fail
        go_ret
        exact ⟨rfl, N8.out⟩
      · have hzi : ((a2.size : Int) == 0) = false := beq_eq_false_iff_ne.2 (by omega)
        have hli : (65535 : Int) < (a0.size : Int) + (a2.size : Int) := by omega
        clear hz
        refine (HR2.out _).mono ?_
        rintro e w7 ⟨rfl, n7⟩
        have N7 := Lib.hid (N3.out.trans (n7.mono N3.out.size)); clear n7
        have N8 : Hid (Below w.heap.size w (w7.alloc (.cells #[.int .u16 0, .int .u16 0, .slice none 0 0, .slice none 0 0, .slice none 0 0, .slice none 0 0] 33))) := N7.out.alloc N7.out.size _
        clear N7
        go_wp2_with fail
        go_ret
        exact ⟨rfl, N8.out⟩
    · have hcb : (¬ (0 ≤ a1) ∧ True) ∨ (0 ≤ a1 ∧ ¬ (a1 < (a0.size : Int))) := by
        by_cases h0 : 0 ≤ a1
        · exact .inr ⟨h0, fun h => hc ⟨h0, h⟩⟩
        · exact .inl ⟨h0, trivial⟩
      clear hR hM hR2 n0 hc
      rcases hcb with ⟨h0, _⟩ | ⟨h0, hz0⟩
      · go_enter Try.func7, Try.ntmps7
        go_wp2_with fail
        refine (awake_any _).mono ?_
        rintro e w1 ⟨rfl, n1⟩
        have N1 := Lib.hid n1; clear n1
        go_wp2_with fail
        refine (HR.out _).mono ?_
        rintro e w2 ⟨vq, va, vn, vx, rfl, hMR, n2⟩
        have N2 := Lib.hid (N1.out.trans (n2.mono N1.out.size)); clear n2 N1
        obtain ⟨⟨q1, q2, q3, rfl⟩, ⟨d1, d2, d3, rfl⟩, ⟨m1, m2, m3, rfl⟩, ⟨x1, x2, x3, rfl⟩⟩ := hMR.slices
        clear hMR
        have N3 : Hid (Below w.heap.size w (w2.alloc (.cells #[.int .u16 M.id, .int .u16 M.flags, .slice q1 q2 q3, .slice d1 d2 d3, .slice m1 m2 m3, .slice x1 x2 x3] 33))) := N2.out.alloc N2.out.size _
        clear N2
        go_wp2_with fail
        generalize w2.alloc (.cells #[.int .u16 M.id, .int .u16 M.flags, .slice q1 q2 q3, .slice d1 d2 d3, .slice m1 m2 m3, .slice x1 x2 x3] 33) = w3 at N3 ⊢
        rcases hRV with ⟨hz, rfl⟩ | ⟨hz, hl, rfl⟩ | ⟨hz, hl, rfl⟩
        · have hzi : ((a2.size : Int) == 0) = true := beq_iff_eq.2 (by omega)
          clear hz
          refine (HR2.out _).mono ?_
          rintro e w7 ⟨vq, va, vn, vx, rfl, hMR, n7⟩
          have N7 := Lib.hid (N3.out.trans (n7.mono N3.out.size)); clear n7
          obtain ⟨⟨q1, q2, q3, rfl⟩, ⟨d1, d2, d3, rfl⟩, ⟨m1, m2, m3, rfl⟩, ⟨x1, x2, x3, rfl⟩⟩ := hMR.slices
          clear hMR
          have N8 : Hid (Below w.heap.size w (w7.alloc (.cells #[.int .u16 M.id, .int .u16 M.flags, .slice q1 q2 q3, .slice d1 d2 d3, .slice m1 m2 m3, .slice x1 x2 x3] 33))) := N7.out.alloc N7.out.size _
          clear N7
          go_wp2_with fail
          go_ret
          exact ⟨rfl, N8.out⟩
        · have hzi : ((a2.size : Int) == 0) = false := beq_eq_false_iff_ne.2 (by omega)

          clear hz
          refine (HR2.out _).mono ?_
          rintro e w7 ⟨rfl, n7⟩
          have N7 := Lib.hid (N3.out.trans (n7.mono N3.out.size)); clear n7
          have N8 : Hid (Below w.heap.size w (w7.alloc (.cells #[.int .u16 0, .int .u16 0, .slice none 0 0, .slice none 0 0, .slice none 0 0, .slice none 0 0] 33))) := N7.out.alloc N7.out.size _
          clear N7
          go_wp2_with fail
          go_ret
          exact ⟨rfl, N8.out⟩
        · have hzi : ((a2.size : Int) == 0) = false := beq_eq_false_iff_ne.2 (by omega)
          have hli : (65535 : Int) < (a0.size : Int) + (a2.size : Int) := by omega
          clear hz
          refine (HR2.out _).mono ?_
          rintro e w7 ⟨rfl, n7⟩
          have N7 := Lib.hid (N3.out.trans (n7.mono N3.out.size)); clear n7
          have N8 : Hid (Below w.heap.size w (w7.alloc (.cells #[.int .u16 0, .int .u16 0, .slice none 0 0, .slice none 0 0, .slice none 0 0, .slice none 0 0] 33))) := N7.out.alloc N7.out.size _
          clear N7
          go_wp2_with fail
          go_ret
          exact ⟨rfl, N8.out⟩
      · go_enter Try.func7, Try.ntmps7
        go_wp2_with fail
        refine (awake_any _).mono ?_
        rintro e w1 ⟨rfl, n1⟩
        have N1 := Lib.hid n1; clear n1
        go_wp2_with fail
        refine (HR.out _).mono ?_
        rintro e w2 ⟨vq, va, vn, vx, rfl, hMR, n2⟩
        have N2 := Lib.hid (N1.out.trans (n2.mono N1.out.size)); clear n2 N1
        obtain ⟨⟨q1, q2, q3, rfl⟩, ⟨d1, d2, d3, rfl⟩, ⟨m1, m2, m3, rfl⟩, ⟨x1, x2, x3, rfl⟩⟩ := hMR.slices
        clear hMR
        have N3 : Hid (Below w.heap.size w (w2.alloc (.cells #[.int .u16 M.id, .int .u16 M.flags, .slice q1 q2 q3, .slice d1 d2 d3, .slice m1 m2 m3, .slice x1 x2 x3] 33))) := N2.out.alloc N2.out.size _
        clear N2
        go_wp2_with fail
        generalize w2.alloc (.cells #[.int .u16 M.id, .int .u16 M.flags, .slice q1 q2 q3, .slice d1 d2 d3, .slice m1 m2 m3, .slice x1 x2 x3] 33) = w3 at N3 ⊢
        rcases hRV with ⟨hz, rfl⟩ | ⟨hz, hl, rfl⟩ | ⟨hz, hl, rfl⟩
        · have hzi : ((a2.size : Int) == 0) = true := beq_iff_eq.2 (by omega)
          clear hz
          refine (HR2.out _).mono ?_
          rintro e w7 ⟨vq, va, vn, vx, rfl, hMR, n7⟩
          have N7 := Lib.hid (N3.out.trans (n7.mono N3.out.size)); clear n7
          obtain ⟨⟨q1, q2, q3, rfl⟩, ⟨d1, d2, d3, rfl⟩, ⟨m1, m2, m3, rfl⟩, ⟨x1, x2, x3, rfl⟩⟩ := hMR.slices
          clear hMR
          have N8 : Hid (Below w.heap.size w (w7.alloc (.cells #[.int .u16 M.id, .int .u16 M.flags, .slice q1 q2 q3, .slice d1 d2 d3, .slice m1 m2 m3, .slice x1 x2 x3] 33))) := N7.out.alloc N7.out.size _
          clear N7
          go_wp2_with fail
          go_ret
          exact ⟨rfl, N8.out⟩
        · have hzi : ((a2.size : Int) == 0) = false := beq_eq_false_iff_ne.2 (by omega)

          clear hz
          refine (HR2.out _).mono ?_
          rintro e w7 ⟨rfl, n7⟩
          have N7 := Lib.hid (N3.out.trans (n7.mono N3.out.size)); clear n7
          have N8 : Hid (Below w.heap.size w (w7.alloc (.cells #[.int .u16 0, .int .u16 0, .slice none 0 0, .slice none 0 0, .slice none 0 0, .slice none 0 0] 33))) := N7.out.alloc N7.out.size _
          clear N7
          go_wp2_with fail
          go_ret
          exact ⟨rfl, N8.out⟩
        · have hzi : ((a2.size : Int) == 0) = false := beq_eq_false_iff_ne.2 (by omega)
          have hli : (65535 : Int) < (a0.size : Int) + (a2.size : Int) := by omega
          clear hz
          refine (HR2.out _).mono ?_
          rintro e w7 ⟨rfl, n7⟩
          have N7 := Lib.hid (N3.out.trans (n7.mono N3.out.size)); clear n7
          have N8 : Hid (Below w.heap.size w (w7.alloc (.cells #[.int .u16 0, .int .u16 0, .slice none 0 0, .slice none 0 0, .slice none 0 0, .slice none 0 0] 33))) := N7.out.alloc N7.out.size _
          clear N7
          go_wp2_with fail
          go_ret
          exact ⟨rfl, N8.out⟩

set_option maxRecDepth 100000 in
theorem lifted (os : Os) (started : os.Started) (H : Type) (enc : TypeId × Value → H) :
    ReturnsInHanded {} Try.checked os 7 .any (Rows.readCutsSpec.pre6 enc Try.prog Try.f7 Rows.readCutsRow.domain false) (Rows.readCutsSpec.post enc Try.prog Try.f7 false true false false) := by
  refine returnsInHanded_of_change (C := Try.checked) own started (by kernel_rfl) Try.func7
    (ChangeSpec.witness6 (enc := enc) (C := Try.checked) false ⟨#[], #[.string ByteArray.empty, .int .i64 0, .string ByteArray.empty], []⟩ 8 (by kernel_rfl) (by kernel_rfl) (by kernel_rfl) (by kernel_rfl)) ?_
  intro W base args ds gs before hval0 hW hcnd _
  have hval : ∀ (j : Nat) t v, Try.f7.params[j]? = some t → args[j]? = some v → Value.okWide Try.prog W .any base t v := hval0
  have hW' := hW
  obtain ⟨p, q, hA0, hV, rfl, hfz, hnd⟩ := hW
  have hA : DataW.TrodAll enc Try.prog W 0 (fun _ => true) true Try.f7.params.toList args.toList ds p := hA0
  rw [Try.params7] at hA hval
  obtain ⟨v0, vs0, d0, ds0, p0, q0, hargs, rfl, rfl, h0, r0⟩ := trodAll_cons hA
  obtain ⟨v1, vs1, d1, ds1, p1, q1, rfl, rfl, rfl, h1, r1⟩ := trodAll_cons r0
  obtain ⟨v2, vs2, d2, ds2, p2, q2, rfl, rfl, rfl, h2, r2⟩ := trodAll_cons r1
  obtain ⟨rfl, rfl, rfl⟩ := trodAll_nil r2
  obtain rfl : args = #[v0, v1, v2] := by cases args; simp_all
  obtain ⟨rfl, rfl⟩ := trodVars_none hV
  obtain ⟨a0, rfl, rfl, rfl, w0⟩ := open_string Try.underlying9 (hval 0 9 v0 rfl rfl) h0
  obtain ⟨a1, rfl, rfl, rfl, w1⟩ := open_int Try.underlying3 (hval 1 3 v1 rfl rfl) h1
  obtain ⟨a2, rfl, rfl, rfl, w2⟩ := open_string Try.underlying9 (hval 2 9 v2 rfl rfl) h2
  clear hA0 hval0
  simp only [List.append_nil] at hW'
  refine (walk a0 a1 a2 w0 w1 w2 W).mono fun e W' ⟨he, hg⟩ => ?_
  subst he
  exact ⟨_, rfl, _, _, _, [], [], [], hW', (trodAll_cons_mk (shut_bool Try.underlying4 _) trodAll_mk0), (trodAll_cons_mk (shut_string Try.underlying9 w0) (trodAll_cons_mk (shut_int Try.underlying3 w1) (trodAll_cons_mk (shut_string Try.underlying9 w2) trodAll_mk0))), rfl, hg.frame _, fun h => by cases h⟩

theorem over : Rows.readCutsRow.holds Try.pinned (OpenSpec.ofChange Rows.readCutsSpec) :=
  OpenClaim.holds_of_wide 7 Try.f7 rfl rfl rfl rfl rfl rfl rfl ⟨rfl, rfl, rfl, rfl, rfl⟩ rfl rfl rfl rfl rfl (by kernel_rfl) Try.func7 (by kernel_rfl)
    (of_decide_eq_true (by kernel_rfl)) (by unfold Func.isWrapper; first | (rw [if_pos (by decide +kernel)]; kernel_rfl) | (rw [if_neg (by decide +kernel)]; exact ⟨rfl, rfl⟩))
    (fun os started H enc _ => lifted os started H enc)

theorem proved : Rows.ReadCutsSaid :=
  over
#print axioms proved
end Go.Proofs.Ytngbifdenbfepaa.readCuts
