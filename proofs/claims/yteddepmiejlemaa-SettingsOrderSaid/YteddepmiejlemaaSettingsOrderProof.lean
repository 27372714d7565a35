import Derived.Test.YteddepmiejlemaaRows
import Derived.Test.YteddepmiejlemaaProg
import Derived.Test.YteddepmiejlemaaBytes
import Derived.Test.YteddepmiejlemaaNumBe
import Derived.Test.YteddepmiejlemaaFrMath
import Derived.Test.YteddepmiejlemaaFrFrame
import Derived.Test.YteddepmiejlemaaFrSets
import Derived.Test.YteddepmiejlemaaSeMath
import Derived.Test.YteddepmiejlemaaSeRef
import Derived.Test.YteddepmiejlemaaSePar
import Derived.Test.YteddepmiejlemaaSeSame
import Derived.Test.YteddepmiejlemaaSeEq
import Derived.Test.YteddepmiejlemaaSeVal
import Derived.Test.YteddepmiejlemaaSeCode
import Derived.Test.YteddepmiejlemaaSeAwake
import Derived.LoopTactic
import Derived.Deep.CutRange
import Derived.Deep.RegionLaw
import Derived.Lib.Hide
import Derived.Outline
import Derived.IntWalk
import Derived.WalkSpells
import Derived.WalkLawsBesides
import Derived.Laws.Rows
import Derived.WalkKit
import Derived.ProofKit
import Derived.OpenShut
import Derived.ShutString
import Derived.ChangeOld
import Derived.Below
namespace Go.Proofs.Yteddepmiejlemaa.settingsOrder
open Go Go.ChangeShapes Go.WideShapes Go.ChangeAt Go.RowKit Bytes Fr Se
open Go.ChangeMaps (open_string shut_string)
set_option linter.unusedVariables false

theorem own : ownKnob Try.prog.godebug = none := by kernel_rfl
theorem laidOut : laidOutB Try.prog = true := by kernel_rfl

set_option maxHeartbeats 8000000 in
set_option maxRecDepth 100000 in
theorem walk (q0 : Bool) (a1 : Option Addr) (len1 cap1 : Nat) (L1 : List (Nat × Nat)) (a2 : Option Addr) (len2 cap2 : Nat) (L2 : List (Nat × Nat)) (w : World) (hl1 : len1 ≤ maxLen) (hL1 : L1.length = len1) (hR1 : RdSt w w.heap.size a1 L1) (hz1 : a1 = none → cap1 = 0 ∧ len1 = 0) (hl2 : len2 ≤ maxLen) (hL2 : L2.length = len2) (hR2 : RdSt w w.heap.size a2 L2) (hz2 : a2 = none → cap2 = 0 ∧ len2 = 0) :
    Calls Try.prog 5 #[.bool q0, .slice a1 len1 cap1, .slice a2 len2 cap2] w fun e w' => e = .returned (.bool true) ∧ Below w.heap.size w w' := by
  have hset : ∀ {L : List (Nat × Nat)} {a : Option Addr} {W : World} {B : Nat}, RdSt W B a L → ∀ x ∈ L, x.1 < 65536 ∧ x.2 < 4294967296 := fun h => set_mem (fun j hj => by
    obtain ⟨_, _, _, _, _, _, r⟩ := h j hj
    exact r)
  have hM1 := hset hR1
  have hM2 := hset hR2
  have HM12 : Hid (∀ x ∈ L1 ++ L2, x.1 < 65536 ∧ x.2 < 4294967296) := Lib.hid (fun x hx => by
    rcases List.mem_append.1 hx with h | h
    · exact hM1 x h
    · exact hM2 x h)
  have HL12 : Hid ((L1 ++ L2).length = len1 + len2) := Lib.hid (by rw [List.length_append, hL1, hL2])
  have HL1 := Lib.hid hL1
  have HL2 := Lib.hid hL2
  have HZ1 := Lib.hid hz1
  have HZ2 := Lib.hid hz2
  have HR1 := Lib.hid hR1
  have HR2 := Lib.hid hR2
  obtain ⟨d, hd⟩ : ∃ d, defV = d := ⟨_, rfl⟩
  obtain ⟨⟨v, x⟩, hv⟩ : ∃ z, applyS d q0 L1 = z := ⟨_, rfl⟩
  obtain ⟨⟨u, y⟩, hu⟩ : ∃ z, applyS v q0 L2 = z := ⟨_, rfl⟩
  obtain ⟨⟨t, z⟩, ht⟩ : ∃ z, applyS d q0 (L1 ++ L2) = z := ⟨_, rfl⟩
  have HV := Lib.hid hv
  have HU := Lib.hid hu
  have HT := Lib.hid ht
  have HD : Hid (∀ W : World, Calls Try.prog 10 #[] W fun e w' => e = .returned (valV d) ∧ Below W.heap.size W w') := Lib.hid (fun W => by rw [← hd]; exact cdef_is W)
  clear hset hL1 hL2 hz1 hz2 hv hu ht hd hM1 hM2 hR1 hR2
  go_enter Try.func5, Try.ntmps5
  go_wp2_with fail
  refine (sawake_is w).mono ?_
  rintro e w1 ⟨rfl, hB1⟩
  have HB1 := Lib.hid hB1
  clear hB1
  by_cases h1 : (2000 : Int) < (len1 : Int)
  · go_wp2_with fail
    go_ret
    exact ⟨rfl, HB1.out⟩
  have h1d : decide ((2000 : Int) < (len1 : Int)) = false := decide_eq_false h1
  by_cases h2 : (2000 : Int) < (len2 : Int)
  · go_wp2_with fail
    go_ret
    exact ⟨rfl, HB1.out⟩
  have h2d : decide ((2000 : Int) < (len2 : Int)) = false := decide_eq_false h2
  have hn1 : len1 ≤ 2000 := by omega
  have hn2 : len2 ≤ 2000 := by omega
  have hn12 : len1 + len2 ≤ 100000 := by omega
  go_wp2_with fail
  refine (HD.out _).mono ?_
  rintro e w2 ⟨rfl, hB2⟩
  have HB2 := Lib.hid (HB1.out.trans (hB2.mono HB1.out.size))
  clear hB2 HB1
  unfold valV
  go_upto_region 6 with fail
  obtain ⟨hX, hBX, hsz⟩ := boxV_new w2 d
  obtain ⟨w3, hw3⟩ : ∃ w3, w2.alloc (.cells #[.int .u32 (d.table : Int), .int .u32 (d.streams : Int), .int .u32 (d.window : Int), .int .u32 (d.frame : Int), .int .u32 (d.list : Int), .bool d.push] 26) = w3 := ⟨_, rfl⟩
  rw [hw3] at hX hBX hsz ⊢
  obtain ⟨D, hDD⟩ : ∃ D, w2.heap.size = D := ⟨_, rfl⟩
  have HB3 := Lib.hid (HB2.out.trans (hBX.mono HB2.out.size))
  rw [hDD] at hX hsz ⊢
  have HD3 := Lib.hid hX
  clear hw3 hDD hX hBX hsz HB2
  obtain ⟨x0, x1, x2, x3, x4, x5⟩ := HD3.out.cells
  go_wp2_with fail
  refine (capply_is d v q0 a1 len1 cap1 x L1 w3 (Lib.hid (HR1.out.on HB3.out HB3.out.size)) HL1 (by omega) HV).mono ?_
  rintro e w4 ⟨rfl, hB4⟩
  have HD4 := Lib.hid (HD3.out.below hB4)
  have HB4 := Lib.hid (HB3.out.trans (hB4.mono HB3.out.size))
  clear hB4 HB3 HD3 x0 x1 x2 x3 x4 x5
  unfold valV
  go_upto_region 7 with fail
  obtain ⟨hX, hBX, hsz⟩ := boxV_new w4 v
  obtain ⟨w5, hw5⟩ : ∃ w5, w4.alloc (.cells #[.int .u32 (v.table : Int), .int .u32 (v.streams : Int), .int .u32 (v.window : Int), .int .u32 (v.frame : Int), .int .u32 (v.list : Int), .bool v.push] 26) = w5 := ⟨_, rfl⟩
  rw [hw5] at hX hBX hsz ⊢
  obtain ⟨V, hVV⟩ : ∃ V, w4.heap.size = V := ⟨_, rfl⟩
  have HB5 := Lib.hid (HB4.out.trans (hBX.mono HB4.out.size))
  have HD5 := Lib.hid (HD4.out.below hBX)
  rw [hVV] at hX hsz ⊢
  have HV5 := Lib.hid hX
  clear hw5 hVV hX hBX hsz HB4 HD4
  obtain ⟨x0, x1, x2, x3, x4, x5⟩ := HV5.out.cells
  go_wp2_with fail
  refine (capply_is v u q0 a2 len2 cap2 y L2 w5 (Lib.hid (HR2.out.on HB5.out HB5.out.size)) HL2 (by omega) HU).mono ?_
  rintro e w6 ⟨rfl, hB6⟩
  have HD6 := Lib.hid (HD5.out.below hB6)
  have HV6 := Lib.hid (HV5.out.below hB6)
  have HB6 := Lib.hid (HB5.out.trans (hB6.mono HB5.out.size))
  clear hB6 HB5 HD5 HV5 x0 x1 x2 x3 x4 x5
  unfold valV
  go_upto_region 8 with fail
  obtain ⟨hX, hBX, hsz⟩ := boxV_new w6 u
  obtain ⟨w7, hw7⟩ : ∃ w7, w6.alloc (.cells #[.int .u32 (u.table : Int), .int .u32 (u.streams : Int), .int .u32 (u.window : Int), .int .u32 (u.frame : Int), .int .u32 (u.list : Int), .bool u.push] 26) = w7 := ⟨_, rfl⟩
  rw [hw7] at hX hBX hsz ⊢
  obtain ⟨U, hUU⟩ : ∃ U, w6.heap.size = U := ⟨_, rfl⟩
  have HB7 := Lib.hid (HB6.out.trans (hBX.mono HB6.out.size))
  have HD7 := Lib.hid (HD6.out.below hBX)
  have HV7 := Lib.hid (HV6.out.below hBX)
  rw [hUU] at hX hsz ⊢
  have HU7 := Lib.hid hX
  clear hw7 hUU hX hBX hsz HB6 HD6 HV6
  go_cut [12, 13] from 41 to 51 (fun p k wx => ∃ Z : Nat, p = .pointer (some ⟨Z, 0, none⟩) ∧ k = .int .u32 (z : Int) ∧ Hid (BoxV wx Z t) ∧ Hid (Below w7.heap.size w7 wx))
  case first =>
    have HCA : Hid (∀ (W : World) (A : Option Addr) (c : Nat), RdSt W W.heap.size A (L1 ++ L2) → Calls Try.prog 9 #[.agg #[.int .u32 (d.table : Int), .int .u32 (d.streams : Int), .int .u32 (d.window : Int), .int .u32 (d.frame : Int), .int .u32 (d.list : Int), .bool d.push], .bool q0, .slice A (len1 + len2) c] W fun e w' => e = .returned (.tuple #[.agg #[.int .u32 (t.table : Int), .int .u32 (t.streams : Int), .int .u32 (t.window : Int), .int .u32 (t.frame : Int), .int .u32 (t.list : Int), .bool t.push], .int .u32 (z : Int)]) ∧ Below W.heap.size W w') := Lib.hid (fun W A c h => capply_is d t q0 A _ c z _ W (Lib.hid h) HL12 (by omega) HT)
    have HRG1 : Hid (∀ X : World, Below w7.heap.size w7 X → RdSt X X.heap.size a1 L1) := Lib.hid (fun X h => by
      have hb := HB7.out.trans (h.mono HB7.out.size)
      exact HR1.out.on hb hb.size)
    have HRG2 : Hid (∀ X : World, Below w7.heap.size w7 X → RdSt X X.heap.size a2 L2) := Lib.hid (fun X h => by
      have hb := HB7.out.trans (h.mono HB7.out.size)
      exact HR2.out.on hb hb.size)
    refine wp_region_any (by kernel_rfl) ?_
    change wpAny _ _ _ _ _ _ _ (World.drew _)
    have HDD : Hid (∀ X : World, Below w7.drew.heap.size w7.drew X → Below w7.heap.size w7 X) := Lib.hid (fun X h => (Below.refl _ w7).drew.trans h)
    replace HRG1 : Hid (∀ X : World, Below w7.drew.heap.size w7.drew X → RdSt X X.heap.size a1 L1) := Lib.hid (fun X h => HRG1.out X (HDD.out X h))
    replace HRG2 : Hid (∀ X : World, Below w7.drew.heap.size w7.drew X → RdSt X X.heap.size a2 L2) := Lib.hid (fun X h => HRG2.out X (HDD.out X h))
    have QD0 : Hid (BoxV w7.drew D d) := HD7
    obtain ⟨V0, hV0⟩ : ∃ V0, w7.drew = V0 := ⟨_, rfl⟩
    rw [hV0] at HRG1 HRG2 HDD QD0 ⊢
    clear hV0
    have QB0 : Hid (Below V0.heap.size V0 V0) := Lib.hid (Below.refl _ _)
    refine take_at (i := 1) (d := 43) (v := ?_) rfl rfl (by kernel_rfl) (by kernel_rfl) (by kernel_rfl) (fun _ _ _ h => h) (by kernel_rfl) ?_ ?_
    rotate_left
    · intro w; go_simp; try with_reducible rfl
    simp only [List.setIfInBounds_toArray, List.set_cons_succ, List.set_cons_zero]
    refine take_at (i := 3) (d := 45) (v := ?_) rfl rfl (by kernel_rfl) (by kernel_rfl) (by kernel_rfl) (fun _ _ _ h => h) (by kernel_rfl) ?_ ?_
    rotate_left
    · intro w; go_simp; try with_reducible rfl
    simp only [List.setIfInBounds_toArray, List.set_cons_succ, List.set_cons_zero]
    refine take_at (i := 5) (d := 47) (v := ?_) rfl rfl (by kernel_rfl) (by kernel_rfl) (by kernel_rfl) (fun _ _ _ h => h) (by kernel_rfl) ?_ ?_
    rotate_left
    · intro w; go_simp; try with_reducible rfl
    simp only [List.setIfInBounds_toArray, List.set_cons_succ, List.set_cons_zero]
    refine wpAny_ready (rs := [0, 2, 11]) (by kernel_rfl) (by simp) ?_
    refine AllReady.cons rfl (fun K hK => ?_) (AllReady.cons rfl (fun K hK => ?_) (AllReady.cons rfl (fun K hK => ?_) (AllReady.nil)))
    · obtain ⟨x0, x1, x2, x3, x4, x5⟩ := (QD0.out).cells
      go_simp
      clear x0 x1 x2 x3 x4 x5
      refine hK _ _ ?_
      clear hK K
      refine wpAny_ready (rs := [2, 11]) (by kernel_rfl) (by simp) ?_
      refine AllReady.cons rfl (fun K hK => ?_) (AllReady.cons rfl (fun K hK => ?_) (AllReady.nil))
      · go_simp
        refine hK _ _ ?_
        clear hK K
        have QD1 := Lib.hid (QD0.out.more (.cells #[] 48))
        have QB1 := Lib.hid (QB0.out.alloc QB0.out.size (.cells #[] 48))
        have QE1 := Lib.hid (heap_alloc_new V0 (.cells #[] 48))
        obtain ⟨g, hg⟩ : ∃ g, V0.heap.size = g := ⟨_, rfl⟩
        have QH1 : Hid (V0.heap.size ≤ g) := Lib.hid (by rw [← hg]; exact QB0.out.size)
        rw [hg] at QE1 ⊢
        clear hg
        obtain ⟨V1, hV⟩ : ∃ V, V0.alloc (.cells #[] 48) = V := ⟨_, rfl⟩
        rw [hV] at QD1 QB1 QE1 ⊢
        clear hV
        refine wpAny_ready (rs := [4, 11]) (by kernel_rfl) (by simp) ?_
        refine AllReady.cons rfl (fun K hK => ?_) (AllReady.cons rfl (fun K hK => ?_) (AllReady.nil))
        · refine step_append_sets3 (w0 := V0) (by rfl) (.tmp 44) (.tmp 45) (by rfl) V0.heap.size _ 0 [] (by rfl) (own_void QE1.out QH1.out) len1 cap1 a1 L1 (by rfl) HL1.out HZ1.out QB1.out (Nat.le_refl _) HRG1.out len1 (Nat.zero_add _) (by omega) L1 rfl ?_
          intro v8 V2 hO8 b8 z8
          have QO2 := Lib.hid hO8
          have QB2 := Lib.hid b8
          have QD2 := Lib.hid (QD0.out.below b8)
          clear hO8 b8 z8
          refine hK _ _ ?_
          clear hK K
          refine wpAny_ready (rs := [6, 11]) (by kernel_rfl) (by simp) ?_
          refine AllReady.cons rfl (fun K hK => ?_) (AllReady.cons rfl (fun K hK => ?_) (AllReady.nil))
          · refine step_append_sets3 (w0 := V0) (by rfl) (.tmp 46) (.tmp 47) (by rfl) V0.heap.size _ len1 L1 (by rfl) QO2.out len2 cap2 a2 L2 (by rfl) HL2.out HZ2.out QB2.out (Nat.le_refl _) HRG2.out (len1 + len2) rfl (by omega) (L1 ++ L2) rfl ?_
            intro v9 V3 hO8 b8 z8
            obtain ⟨A9, c9, rfl, hR9⟩ := rd_own hO8 HL12.out HM12.out
            have QR3 := Lib.hid hR9
            clear hR9
            have QO3 := Lib.hid hO8
            have QB3 := Lib.hid b8
            have QD3 := Lib.hid (QD0.out.below b8)
            clear hO8 b8 z8
            refine hK _ _ ?_
            clear hK K
            refine wpAny_ready (rs := [7, 11]) (by kernel_rfl) (by simp) ?_
            refine AllReady.cons rfl (fun K hK => ?_) (AllReady.cons rfl (fun K hK => ?_) (AllReady.nil))
            · go_simp
              refine (HCA.out _ A9 c9 QR3.out).mono ?_
              rintro e V4 ⟨rfl, hB⟩
              obtain ⟨b8, z8⟩ := after_call QB3.out (Nat.le_refl _) hB
              have QB4 := Lib.hid b8
              have QD4 := Lib.hid (QD0.out.below b8)
              clear hB b8 z8
              refine hK _ _ ?_
              clear hK K
              refine take_at (i := 8) (d := 41) (v := ?_) rfl rfl (by kernel_rfl) (by kernel_rfl) (by kernel_rfl) (fun _ _ _ h => h) (by kernel_rfl) ?_ ?_
              rotate_left
              · intro w; go_simp; try with_reducible rfl
              simp only [List.setIfInBounds_toArray, List.set_cons_succ, List.set_cons_zero]
              refine take_at (i := 9) (d := 50) (v := ?_) rfl rfl (by kernel_rfl) (by kernel_rfl) (by kernel_rfl) (fun _ _ _ h => h) (by kernel_rfl) ?_ ?_
              rotate_left
              · intro w; go_simp; try with_reducible rfl
              simp only [List.setIfInBounds_toArray, List.set_cons_succ, List.set_cons_zero]
              refine take_at (i := 10) (d := 51) (v := ?_) rfl rfl (by kernel_rfl) (by kernel_rfl) (by kernel_rfl) (fun _ _ _ h => h) (by kernel_rfl) ?_ ?_
              rotate_left
              · intro w; go_simp; try with_reducible rfl
              simp only [List.setIfInBounds_toArray, List.set_cons_succ, List.set_cons_zero]
              refine wpAny_ready (rs := [11]) (by kernel_rfl) (by simp) ?_
              refine AllReady.cons rfl (fun K hK => ?_) (AllReady.nil)
              · go_simp
                refine hK _ _ ?_
                clear hK K
                have QD5 := Lib.hid (QD4.out.more (.cells #[.int .u32 0, .int .u32 0, .int .u32 0, .int .u32 0, .int .u32 0, .bool false] 26))
                have QB5 := Lib.hid (QB4.out.alloc QB4.out.size (.cells #[.int .u32 0, .int .u32 0, .int .u32 0, .int .u32 0, .int .u32 0, .bool false] 26))
                have QZ5 := Lib.hid (zero_new V4)
                obtain ⟨Z, hg⟩ : ∃ Z, V4.heap.size = Z := ⟨_, rfl⟩
                have QG5 : Hid (V0.heap.size ≤ Z) := Lib.hid (by rw [← hg]; exact QB4.out.size)
                rw [hg] at QZ5 ⊢
                clear hg
                obtain ⟨V5, hV⟩ : ∃ V, V4.alloc (.cells #[.int .u32 0, .int .u32 0, .int .u32 0, .int .u32 0, .int .u32 0, .bool false] 26) = V := ⟨_, rfl⟩
                rw [hV] at QD5 QB5 QZ5 ⊢
                clear hV
                obtain ⟨e0, e1, e2, e3, e4, e5⟩ := (QZ5.out).box.cells
                have g0 := QZ5.out.box.frz 0
                have g1 := QZ5.out.box.frz 1
                have g2 := QZ5.out.box.frz 2
                have g3 := QZ5.out.box.frz 3
                have g4 := QZ5.out.box.frz 4
                have g5 := QZ5.out.box.frz 5
                refine wpAny_ready (rs := [12]) (by kernel_rfl) (by simp) ?_
                refine AllReady.cons rfl (fun K hK => ?_) AllReady.nil
                go_simp
                refine hK _ _ ?_
                clear hK K
                refine take_at (i := 13) (d := 13) (v := ?_) rfl rfl (by kernel_rfl) (by kernel_rfl) (by kernel_rfl) (fun _ _ _ h => h) (by kernel_rfl) ?_ ?_
                rotate_left
                · intro w; go_simp; try with_reducible rfl
                simp only [List.setIfInBounds_toArray, List.set_cons_succ, List.set_cons_zero]
                refine wpAny_done (by kernel_rfl) ?_ _
                go_wp2_with fail
                go_meet
                exact ⟨_, rfl, rfl, Lib.hid (QZ5.out.box.put t), Lib.hid (HDD.out _ (putV_below QB5.out QG5.out))⟩
            · go_simp
              refine hK _ _ ?_
              clear hK K
              have QD4 := Lib.hid (QD3.out.more (.cells #[.int .u32 0, .int .u32 0, .int .u32 0, .int .u32 0, .int .u32 0, .bool false] 26))
              have QB4 := Lib.hid (QB3.out.alloc QB3.out.size (.cells #[.int .u32 0, .int .u32 0, .int .u32 0, .int .u32 0, .int .u32 0, .bool false] 26))
              have QZ4 := Lib.hid (zero_new V3)
              have QO4 := Lib.hid (QO3.out.alloc (.cells #[.int .u32 0, .int .u32 0, .int .u32 0, .int .u32 0, .int .u32 0, .bool false] 26))
              have QR4 := Lib.hid (RdSt.all QR3.out _ ((Below.refl _ _).alloc (Nat.le_refl _) (.cells #[.int .u32 0, .int .u32 0, .int .u32 0, .int .u32 0, .int .u32 0, .bool false] 26)))
              obtain ⟨Z, hg⟩ : ∃ Z, V3.heap.size = Z := ⟨_, rfl⟩
              have QG4 : Hid (V0.heap.size ≤ Z) := Lib.hid (by rw [← hg]; exact QB3.out.size)
              rw [hg] at QZ4 ⊢
              clear hg
              obtain ⟨V4, hV⟩ : ∃ V, V3.alloc (.cells #[.int .u32 0, .int .u32 0, .int .u32 0, .int .u32 0, .int .u32 0, .bool false] 26) = V := ⟨_, rfl⟩
              rw [hV] at QD4 QB4 QZ4 QO4 QR4 ⊢
              clear hV
              refine wpAny_ready (rs := [7]) (by kernel_rfl) (by simp) ?_
              refine AllReady.cons rfl (fun K hK => ?_) (AllReady.nil)
              · go_simp
                refine (HCA.out _ A9 c9 QR4.out).mono ?_
                rintro e V5 ⟨rfl, hB⟩
                obtain ⟨b8, z8⟩ := after_call QB4.out (Nat.le_refl _) hB
                have QB5 := Lib.hid b8
                have QD5 := Lib.hid (QD0.out.below b8)
                have QZ5 := Lib.hid (z8 _ QZ4.out)
                have QG5 := QG4
                clear hB b8 z8
                refine hK _ _ ?_
                clear hK K
                refine take_at (i := 8) (d := 41) (v := ?_) rfl rfl (by kernel_rfl) (by kernel_rfl) (by kernel_rfl) (fun _ _ _ h => h) (by kernel_rfl) ?_ ?_
                rotate_left
                · intro w; go_simp; try with_reducible rfl
                simp only [List.setIfInBounds_toArray, List.set_cons_succ, List.set_cons_zero]
                refine take_at (i := 9) (d := 50) (v := ?_) rfl rfl (by kernel_rfl) (by kernel_rfl) (by kernel_rfl) (fun _ _ _ h => h) (by kernel_rfl) ?_ ?_
                rotate_left
                · intro w; go_simp; try with_reducible rfl
                simp only [List.setIfInBounds_toArray, List.set_cons_succ, List.set_cons_zero]
                refine take_at (i := 10) (d := 51) (v := ?_) rfl rfl (by kernel_rfl) (by kernel_rfl) (by kernel_rfl) (fun _ _ _ h => h) (by kernel_rfl) ?_ ?_
                rotate_left
                · intro w; go_simp; try with_reducible rfl
                simp only [List.setIfInBounds_toArray, List.set_cons_succ, List.set_cons_zero]
                obtain ⟨e0, e1, e2, e3, e4, e5⟩ := (QZ5.out).box.cells
                have g0 := QZ5.out.box.frz 0
                have g1 := QZ5.out.box.frz 1
                have g2 := QZ5.out.box.frz 2
                have g3 := QZ5.out.box.frz 3
                have g4 := QZ5.out.box.frz 4
                have g5 := QZ5.out.box.frz 5
                refine wpAny_ready (rs := [12]) (by kernel_rfl) (by simp) ?_
                refine AllReady.cons rfl (fun K hK => ?_) AllReady.nil
                go_simp
                refine hK _ _ ?_
                clear hK K
                refine take_at (i := 13) (d := 13) (v := ?_) rfl rfl (by kernel_rfl) (by kernel_rfl) (by kernel_rfl) (fun _ _ _ h => h) (by kernel_rfl) ?_ ?_
                rotate_left
                · intro w; go_simp; try with_reducible rfl
                simp only [List.setIfInBounds_toArray, List.set_cons_succ, List.set_cons_zero]
                refine wpAny_done (by kernel_rfl) ?_ _
                go_wp2_with fail
                go_meet
                exact ⟨_, rfl, rfl, Lib.hid (QZ5.out.box.put t), Lib.hid (HDD.out _ (putV_below QB5.out QG5.out))⟩
          · go_simp
            refine hK _ _ ?_
            clear hK K
            have QD3 := Lib.hid (QD2.out.more (.cells #[.int .u32 0, .int .u32 0, .int .u32 0, .int .u32 0, .int .u32 0, .bool false] 26))
            have QB3 := Lib.hid (QB2.out.alloc QB2.out.size (.cells #[.int .u32 0, .int .u32 0, .int .u32 0, .int .u32 0, .int .u32 0, .bool false] 26))
            have QZ3 := Lib.hid (zero_new V2)
            have QO3 := Lib.hid (QO2.out.alloc (.cells #[.int .u32 0, .int .u32 0, .int .u32 0, .int .u32 0, .int .u32 0, .bool false] 26))
            obtain ⟨Z, hg⟩ : ∃ Z, V2.heap.size = Z := ⟨_, rfl⟩
            have QG3 : Hid (V0.heap.size ≤ Z) := Lib.hid (by rw [← hg]; exact QB2.out.size)
            rw [hg] at QZ3 ⊢
            clear hg
            obtain ⟨V3, hV⟩ : ∃ V, V2.alloc (.cells #[.int .u32 0, .int .u32 0, .int .u32 0, .int .u32 0, .int .u32 0, .bool false] 26) = V := ⟨_, rfl⟩
            rw [hV] at QD3 QB3 QZ3 QO3 ⊢
            clear hV
            refine wpAny_ready (rs := [6]) (by kernel_rfl) (by simp) ?_
            refine AllReady.cons rfl (fun K hK => ?_) (AllReady.nil)
            · refine step_append_sets3 (w0 := V0) (by rfl) (.tmp 46) (.tmp 47) (by rfl) V0.heap.size _ len1 L1 (by rfl) QO3.out len2 cap2 a2 L2 (by rfl) HL2.out HZ2.out QB3.out (Nat.le_refl _) HRG2.out (len1 + len2) rfl (by omega) (L1 ++ L2) rfl ?_
              intro v9 V4 hO8 b8 z8
              obtain ⟨A9, c9, rfl, hR9⟩ := rd_own hO8 HL12.out HM12.out
              have QR4 := Lib.hid hR9
              clear hR9
              have QO4 := Lib.hid hO8
              have QB4 := Lib.hid b8
              have QD4 := Lib.hid (QD0.out.below b8)
              have QZ4 := Lib.hid (z8 _ QZ3.out)
              have QG4 := QG3
              clear hO8 b8 z8
              refine hK _ _ ?_
              clear hK K
              refine wpAny_ready (rs := [7]) (by kernel_rfl) (by simp) ?_
              refine AllReady.cons rfl (fun K hK => ?_) (AllReady.nil)
              · go_simp
                refine (HCA.out _ A9 c9 QR4.out).mono ?_
                rintro e V5 ⟨rfl, hB⟩
                obtain ⟨b8, z8⟩ := after_call QB4.out (Nat.le_refl _) hB
                have QB5 := Lib.hid b8
                have QD5 := Lib.hid (QD0.out.below b8)
                have QZ5 := Lib.hid (z8 _ QZ4.out)
                have QG5 := QG4
                clear hB b8 z8
                refine hK _ _ ?_
                clear hK K
                refine take_at (i := 8) (d := 41) (v := ?_) rfl rfl (by kernel_rfl) (by kernel_rfl) (by kernel_rfl) (fun _ _ _ h => h) (by kernel_rfl) ?_ ?_
                rotate_left
                · intro w; go_simp; try with_reducible rfl
                simp only [List.setIfInBounds_toArray, List.set_cons_succ, List.set_cons_zero]
                refine take_at (i := 9) (d := 50) (v := ?_) rfl rfl (by kernel_rfl) (by kernel_rfl) (by kernel_rfl) (fun _ _ _ h => h) (by kernel_rfl) ?_ ?_
                rotate_left
                · intro w; go_simp; try with_reducible rfl
                simp only [List.setIfInBounds_toArray, List.set_cons_succ, List.set_cons_zero]
                refine take_at (i := 10) (d := 51) (v := ?_) rfl rfl (by kernel_rfl) (by kernel_rfl) (by kernel_rfl) (fun _ _ _ h => h) (by kernel_rfl) ?_ ?_
                rotate_left
                · intro w; go_simp; try with_reducible rfl
                simp only [List.setIfInBounds_toArray, List.set_cons_succ, List.set_cons_zero]
                obtain ⟨e0, e1, e2, e3, e4, e5⟩ := (QZ5.out).box.cells
                have g0 := QZ5.out.box.frz 0
                have g1 := QZ5.out.box.frz 1
                have g2 := QZ5.out.box.frz 2
                have g3 := QZ5.out.box.frz 3
                have g4 := QZ5.out.box.frz 4
                have g5 := QZ5.out.box.frz 5
                refine wpAny_ready (rs := [12]) (by kernel_rfl) (by simp) ?_
                refine AllReady.cons rfl (fun K hK => ?_) AllReady.nil
                go_simp
                refine hK _ _ ?_
                clear hK K
                refine take_at (i := 13) (d := 13) (v := ?_) rfl rfl (by kernel_rfl) (by kernel_rfl) (by kernel_rfl) (fun _ _ _ h => h) (by kernel_rfl) ?_ ?_
                rotate_left
                · intro w; go_simp; try with_reducible rfl
                simp only [List.setIfInBounds_toArray, List.set_cons_succ, List.set_cons_zero]
                refine wpAny_done (by kernel_rfl) ?_ _
                go_wp2_with fail
                go_meet
                exact ⟨_, rfl, rfl, Lib.hid (QZ5.out.box.put t), Lib.hid (HDD.out _ (putV_below QB5.out QG5.out))⟩
        · go_simp
          refine hK _ _ ?_
          clear hK K
          have QD2 := Lib.hid (QD1.out.more (.cells #[.int .u32 0, .int .u32 0, .int .u32 0, .int .u32 0, .int .u32 0, .bool false] 26))
          have QB2 := Lib.hid (QB1.out.alloc QB1.out.size (.cells #[.int .u32 0, .int .u32 0, .int .u32 0, .int .u32 0, .int .u32 0, .bool false] 26))
          have QZ2 := Lib.hid (zero_new V1)
          have QE2 := Lib.hid ((heap_alloc_old V1 (.cells #[.int .u32 0, .int .u32 0, .int .u32 0, .int .u32 0, .int .u32 0, .bool false] 26) (world_lt3 QE1.out)).trans QE1.out)
          have QH2 := QH1
          obtain ⟨Z, hg⟩ : ∃ Z, V1.heap.size = Z := ⟨_, rfl⟩
          have QG2 : Hid (V0.heap.size ≤ Z) := Lib.hid (by rw [← hg]; exact QB1.out.size)
          rw [hg] at QZ2 ⊢
          clear hg
          obtain ⟨V2, hV⟩ : ∃ V, V1.alloc (.cells #[.int .u32 0, .int .u32 0, .int .u32 0, .int .u32 0, .int .u32 0, .bool false] 26) = V := ⟨_, rfl⟩
          rw [hV] at QD2 QB2 QE2 QZ2 ⊢
          clear hV
          refine wpAny_ready (rs := [4]) (by kernel_rfl) (by simp) ?_
          refine AllReady.cons rfl (fun K hK => ?_) (AllReady.nil)
          · refine step_append_sets3 (w0 := V0) (by rfl) (.tmp 44) (.tmp 45) (by rfl) V0.heap.size _ 0 [] (by rfl) (own_void QE2.out QH2.out) len1 cap1 a1 L1 (by rfl) HL1.out HZ1.out QB2.out (Nat.le_refl _) HRG1.out len1 (Nat.zero_add _) (by omega) L1 rfl ?_
            intro v8 V3 hO8 b8 z8
            have QO3 := Lib.hid hO8
            have QB3 := Lib.hid b8
            have QD3 := Lib.hid (QD0.out.below b8)
            have QZ3 := Lib.hid (z8 _ QZ2.out)
            have QG3 := QG2
            clear hO8 b8 z8
            refine hK _ _ ?_
            clear hK K
            refine wpAny_ready (rs := [6]) (by kernel_rfl) (by simp) ?_
            refine AllReady.cons rfl (fun K hK => ?_) (AllReady.nil)
            · refine step_append_sets3 (w0 := V0) (by rfl) (.tmp 46) (.tmp 47) (by rfl) V0.heap.size _ len1 L1 (by rfl) QO3.out len2 cap2 a2 L2 (by rfl) HL2.out HZ2.out QB3.out (Nat.le_refl _) HRG2.out (len1 + len2) rfl (by omega) (L1 ++ L2) rfl ?_
              intro v9 V4 hO8 b8 z8
              obtain ⟨A9, c9, rfl, hR9⟩ := rd_own hO8 HL12.out HM12.out
              have QR4 := Lib.hid hR9
              clear hR9
              have QO4 := Lib.hid hO8
              have QB4 := Lib.hid b8
              have QD4 := Lib.hid (QD0.out.below b8)
              have QZ4 := Lib.hid (z8 _ QZ3.out)
              have QG4 := QG3
              clear hO8 b8 z8
              refine hK _ _ ?_
              clear hK K
              refine wpAny_ready (rs := [7]) (by kernel_rfl) (by simp) ?_
              refine AllReady.cons rfl (fun K hK => ?_) (AllReady.nil)
              · go_simp
                refine (HCA.out _ A9 c9 QR4.out).mono ?_
                rintro e V5 ⟨rfl, hB⟩
                obtain ⟨b8, z8⟩ := after_call QB4.out (Nat.le_refl _) hB
                have QB5 := Lib.hid b8
                have QD5 := Lib.hid (QD0.out.below b8)
                have QZ5 := Lib.hid (z8 _ QZ4.out)
                have QG5 := QG4
                clear hB b8 z8
                refine hK _ _ ?_
                clear hK K
                refine take_at (i := 8) (d := 41) (v := ?_) rfl rfl (by kernel_rfl) (by kernel_rfl) (by kernel_rfl) (fun _ _ _ h => h) (by kernel_rfl) ?_ ?_
                rotate_left
                · intro w; go_simp; try with_reducible rfl
                simp only [List.setIfInBounds_toArray, List.set_cons_succ, List.set_cons_zero]
                refine take_at (i := 9) (d := 50) (v := ?_) rfl rfl (by kernel_rfl) (by kernel_rfl) (by kernel_rfl) (fun _ _ _ h => h) (by kernel_rfl) ?_ ?_
                rotate_left
                · intro w; go_simp; try with_reducible rfl
                simp only [List.setIfInBounds_toArray, List.set_cons_succ, List.set_cons_zero]
                refine take_at (i := 10) (d := 51) (v := ?_) rfl rfl (by kernel_rfl) (by kernel_rfl) (by kernel_rfl) (fun _ _ _ h => h) (by kernel_rfl) ?_ ?_
                rotate_left
                · intro w; go_simp; try with_reducible rfl
                simp only [List.setIfInBounds_toArray, List.set_cons_succ, List.set_cons_zero]
                obtain ⟨e0, e1, e2, e3, e4, e5⟩ := (QZ5.out).box.cells
                have g0 := QZ5.out.box.frz 0
                have g1 := QZ5.out.box.frz 1
                have g2 := QZ5.out.box.frz 2
                have g3 := QZ5.out.box.frz 3
                have g4 := QZ5.out.box.frz 4
                have g5 := QZ5.out.box.frz 5
                refine wpAny_ready (rs := [12]) (by kernel_rfl) (by simp) ?_
                refine AllReady.cons rfl (fun K hK => ?_) AllReady.nil
                go_simp
                refine hK _ _ ?_
                clear hK K
                refine take_at (i := 13) (d := 13) (v := ?_) rfl rfl (by kernel_rfl) (by kernel_rfl) (by kernel_rfl) (fun _ _ _ h => h) (by kernel_rfl) ?_ ?_
                rotate_left
                · intro w; go_simp; try with_reducible rfl
                simp only [List.setIfInBounds_toArray, List.set_cons_succ, List.set_cons_zero]
                refine wpAny_done (by kernel_rfl) ?_ _
                go_wp2_with fail
                go_meet
                exact ⟨_, rfl, rfl, Lib.hid (QZ5.out.box.put t), Lib.hid (HDD.out _ (putV_below QB5.out QG5.out))⟩
      · go_simp
        refine hK _ _ ?_
        clear hK K
        have QD1 := Lib.hid (QD0.out.more (.cells #[.int .u32 0, .int .u32 0, .int .u32 0, .int .u32 0, .int .u32 0, .bool false] 26))
        have QB1 := Lib.hid (QB0.out.alloc QB0.out.size (.cells #[.int .u32 0, .int .u32 0, .int .u32 0, .int .u32 0, .int .u32 0, .bool false] 26))
        have QZ1 := Lib.hid (zero_new V0)
        obtain ⟨Z, hg⟩ : ∃ Z, V0.heap.size = Z := ⟨_, rfl⟩
        have QG1 : Hid (V0.heap.size ≤ Z) := Lib.hid (by rw [← hg]; exact QB0.out.size)
        rw [hg] at QZ1 ⊢
        clear hg
        obtain ⟨V1, hV⟩ : ∃ V, V0.alloc (.cells #[.int .u32 0, .int .u32 0, .int .u32 0, .int .u32 0, .int .u32 0, .bool false] 26) = V := ⟨_, rfl⟩
        rw [hV] at QD1 QB1 QZ1 ⊢
        clear hV
        refine wpAny_ready (rs := [2]) (by kernel_rfl) (by simp) ?_
        refine AllReady.cons rfl (fun K hK => ?_) (AllReady.nil)
        · go_simp
          refine hK _ _ ?_
          clear hK K
          have QD2 := Lib.hid (QD1.out.more (.cells #[] 48))
          have QB2 := Lib.hid (QB1.out.alloc QB1.out.size (.cells #[] 48))
          have QE2 := Lib.hid (heap_alloc_new V1 (.cells #[] 48))
          have QZ2 := Lib.hid (QZ1.out.more (.cells #[] 48))
          have QG2 := QG1
          obtain ⟨g, hg⟩ : ∃ g, V1.heap.size = g := ⟨_, rfl⟩
          have QH2 : Hid (V0.heap.size ≤ g) := Lib.hid (by rw [← hg]; exact QB1.out.size)
          rw [hg] at QE2 ⊢
          clear hg
          obtain ⟨V2, hV⟩ : ∃ V, V1.alloc (.cells #[] 48) = V := ⟨_, rfl⟩
          rw [hV] at QD2 QB2 QE2 QZ2 ⊢
          clear hV
          refine wpAny_ready (rs := [4]) (by kernel_rfl) (by simp) ?_
          refine AllReady.cons rfl (fun K hK => ?_) (AllReady.nil)
          · refine step_append_sets3 (w0 := V0) (by rfl) (.tmp 44) (.tmp 45) (by rfl) V0.heap.size _ 0 [] (by rfl) (own_void QE2.out QH2.out) len1 cap1 a1 L1 (by rfl) HL1.out HZ1.out QB2.out (Nat.le_refl _) HRG1.out len1 (Nat.zero_add _) (by omega) L1 rfl ?_
            intro v8 V3 hO8 b8 z8
            have QO3 := Lib.hid hO8
            have QB3 := Lib.hid b8
            have QD3 := Lib.hid (QD0.out.below b8)
            have QZ3 := Lib.hid (z8 _ QZ2.out)
            have QG3 := QG2
            clear hO8 b8 z8
            refine hK _ _ ?_
            clear hK K
            refine wpAny_ready (rs := [6]) (by kernel_rfl) (by simp) ?_
            refine AllReady.cons rfl (fun K hK => ?_) (AllReady.nil)
            · refine step_append_sets3 (w0 := V0) (by rfl) (.tmp 46) (.tmp 47) (by rfl) V0.heap.size _ len1 L1 (by rfl) QO3.out len2 cap2 a2 L2 (by rfl) HL2.out HZ2.out QB3.out (Nat.le_refl _) HRG2.out (len1 + len2) rfl (by omega) (L1 ++ L2) rfl ?_
              intro v9 V4 hO8 b8 z8
              obtain ⟨A9, c9, rfl, hR9⟩ := rd_own hO8 HL12.out HM12.out
              have QR4 := Lib.hid hR9
              clear hR9
              have QO4 := Lib.hid hO8
              have QB4 := Lib.hid b8
              have QD4 := Lib.hid (QD0.out.below b8)
              have QZ4 := Lib.hid (z8 _ QZ3.out)
              have QG4 := QG3
              clear hO8 b8 z8
              refine hK _ _ ?_
              clear hK K
              refine wpAny_ready (rs := [7]) (by kernel_rfl) (by simp) ?_
              refine AllReady.cons rfl (fun K hK => ?_) (AllReady.nil)
              · go_simp
                refine (HCA.out _ A9 c9 QR4.out).mono ?_
                rintro e V5 ⟨rfl, hB⟩
                obtain ⟨b8, z8⟩ := after_call QB4.out (Nat.le_refl _) hB
                have QB5 := Lib.hid b8
                have QD5 := Lib.hid (QD0.out.below b8)
                have QZ5 := Lib.hid (z8 _ QZ4.out)
                have QG5 := QG4
                clear hB b8 z8
                refine hK _ _ ?_
                clear hK K
                refine take_at (i := 8) (d := 41) (v := ?_) rfl rfl (by kernel_rfl) (by kernel_rfl) (by kernel_rfl) (fun _ _ _ h => h) (by kernel_rfl) ?_ ?_
                rotate_left
                · intro w; go_simp; try with_reducible rfl
                simp only [List.setIfInBounds_toArray, List.set_cons_succ, List.set_cons_zero]
                refine take_at (i := 9) (d := 50) (v := ?_) rfl rfl (by kernel_rfl) (by kernel_rfl) (by kernel_rfl) (fun _ _ _ h => h) (by kernel_rfl) ?_ ?_
                rotate_left
                · intro w; go_simp; try with_reducible rfl
                simp only [List.setIfInBounds_toArray, List.set_cons_succ, List.set_cons_zero]
                refine take_at (i := 10) (d := 51) (v := ?_) rfl rfl (by kernel_rfl) (by kernel_rfl) (by kernel_rfl) (fun _ _ _ h => h) (by kernel_rfl) ?_ ?_
                rotate_left
                · intro w; go_simp; try with_reducible rfl
                simp only [List.setIfInBounds_toArray, List.set_cons_succ, List.set_cons_zero]
                obtain ⟨e0, e1, e2, e3, e4, e5⟩ := (QZ5.out).box.cells
                have g0 := QZ5.out.box.frz 0
                have g1 := QZ5.out.box.frz 1
                have g2 := QZ5.out.box.frz 2
                have g3 := QZ5.out.box.frz 3
                have g4 := QZ5.out.box.frz 4
                have g5 := QZ5.out.box.frz 5
                refine wpAny_ready (rs := [12]) (by kernel_rfl) (by simp) ?_
                refine AllReady.cons rfl (fun K hK => ?_) AllReady.nil
                go_simp
                refine hK _ _ ?_
                clear hK K
                refine take_at (i := 13) (d := 13) (v := ?_) rfl rfl (by kernel_rfl) (by kernel_rfl) (by kernel_rfl) (fun _ _ _ h => h) (by kernel_rfl) ?_ ?_
                rotate_left
                · intro w; go_simp; try with_reducible rfl
                simp only [List.setIfInBounds_toArray, List.set_cons_succ, List.set_cons_zero]
                refine wpAny_done (by kernel_rfl) ?_ _
                go_wp2_with fail
                go_meet
                exact ⟨_, rfl, rfl, Lib.hid (QZ5.out.box.put t), Lib.hid (HDD.out _ (putV_below QB5.out QG5.out))⟩
    · go_simp
      refine hK _ _ ?_
      clear hK K
      have QD1 := Lib.hid (QD0.out.more (.cells #[] 48))
      have QB1 := Lib.hid (QB0.out.alloc QB0.out.size (.cells #[] 48))
      have QE1 := Lib.hid (heap_alloc_new V0 (.cells #[] 48))
      obtain ⟨g, hg⟩ : ∃ g, V0.heap.size = g := ⟨_, rfl⟩
      have QH1 : Hid (V0.heap.size ≤ g) := Lib.hid (by rw [← hg]; exact QB0.out.size)
      rw [hg] at QE1 ⊢
      clear hg
      obtain ⟨V1, hV⟩ : ∃ V, V0.alloc (.cells #[] 48) = V := ⟨_, rfl⟩
      rw [hV] at QD1 QB1 QE1 ⊢
      clear hV
      refine wpAny_ready (rs := [0, 4, 11]) (by kernel_rfl) (by simp) ?_
      refine AllReady.cons rfl (fun K hK => ?_) (AllReady.cons rfl (fun K hK => ?_) (AllReady.cons rfl (fun K hK => ?_) (AllReady.nil)))
      · obtain ⟨x0, x1, x2, x3, x4, x5⟩ := (QD1.out).cells
        go_simp
        clear x0 x1 x2 x3 x4 x5
        refine hK _ _ ?_
        clear hK K
        refine wpAny_ready (rs := [4, 11]) (by kernel_rfl) (by simp) ?_
        refine AllReady.cons rfl (fun K hK => ?_) (AllReady.cons rfl (fun K hK => ?_) (AllReady.nil))
        · refine step_append_sets3 (w0 := V0) (by rfl) (.tmp 44) (.tmp 45) (by rfl) V0.heap.size _ 0 [] (by rfl) (own_void QE1.out QH1.out) len1 cap1 a1 L1 (by rfl) HL1.out HZ1.out QB1.out (Nat.le_refl _) HRG1.out len1 (Nat.zero_add _) (by omega) L1 rfl ?_
          intro v8 V2 hO8 b8 z8
          have QO2 := Lib.hid hO8
          have QB2 := Lib.hid b8
          have QD2 := Lib.hid (QD0.out.below b8)
          clear hO8 b8 z8
          refine hK _ _ ?_
          clear hK K
          refine wpAny_ready (rs := [6, 11]) (by kernel_rfl) (by simp) ?_
          refine AllReady.cons rfl (fun K hK => ?_) (AllReady.cons rfl (fun K hK => ?_) (AllReady.nil))
          · refine step_append_sets3 (w0 := V0) (by rfl) (.tmp 46) (.tmp 47) (by rfl) V0.heap.size _ len1 L1 (by rfl) QO2.out len2 cap2 a2 L2 (by rfl) HL2.out HZ2.out QB2.out (Nat.le_refl _) HRG2.out (len1 + len2) rfl (by omega) (L1 ++ L2) rfl ?_
            intro v9 V3 hO8 b8 z8
            obtain ⟨A9, c9, rfl, hR9⟩ := rd_own hO8 HL12.out HM12.out
            have QR3 := Lib.hid hR9
            clear hR9
            have QO3 := Lib.hid hO8
            have QB3 := Lib.hid b8
            have QD3 := Lib.hid (QD0.out.below b8)
            clear hO8 b8 z8
            refine hK _ _ ?_
            clear hK K
            refine wpAny_ready (rs := [7, 11]) (by kernel_rfl) (by simp) ?_
            refine AllReady.cons rfl (fun K hK => ?_) (AllReady.cons rfl (fun K hK => ?_) (AllReady.nil))
            · go_simp
              refine (HCA.out _ A9 c9 QR3.out).mono ?_
              rintro e V4 ⟨rfl, hB⟩
              obtain ⟨b8, z8⟩ := after_call QB3.out (Nat.le_refl _) hB
              have QB4 := Lib.hid b8
              have QD4 := Lib.hid (QD0.out.below b8)
              clear hB b8 z8
              refine hK _ _ ?_
              clear hK K
              refine take_at (i := 8) (d := 41) (v := ?_) rfl rfl (by kernel_rfl) (by kernel_rfl) (by kernel_rfl) (fun _ _ _ h => h) (by kernel_rfl) ?_ ?_
              rotate_left
              · intro w; go_simp; try with_reducible rfl
              simp only [List.setIfInBounds_toArray, List.set_cons_succ, List.set_cons_zero]
              refine take_at (i := 9) (d := 50) (v := ?_) rfl rfl (by kernel_rfl) (by kernel_rfl) (by kernel_rfl) (fun _ _ _ h => h) (by kernel_rfl) ?_ ?_
              rotate_left
              · intro w; go_simp; try with_reducible rfl
              simp only [List.setIfInBounds_toArray, List.set_cons_succ, List.set_cons_zero]
              refine take_at (i := 10) (d := 51) (v := ?_) rfl rfl (by kernel_rfl) (by kernel_rfl) (by kernel_rfl) (fun _ _ _ h => h) (by kernel_rfl) ?_ ?_
              rotate_left
              · intro w; go_simp; try with_reducible rfl
              simp only [List.setIfInBounds_toArray, List.set_cons_succ, List.set_cons_zero]
              refine wpAny_ready (rs := [11]) (by kernel_rfl) (by simp) ?_
              refine AllReady.cons rfl (fun K hK => ?_) (AllReady.nil)
              · go_simp
                refine hK _ _ ?_
                clear hK K
                have QD5 := Lib.hid (QD4.out.more (.cells #[.int .u32 0, .int .u32 0, .int .u32 0, .int .u32 0, .int .u32 0, .bool false] 26))
                have QB5 := Lib.hid (QB4.out.alloc QB4.out.size (.cells #[.int .u32 0, .int .u32 0, .int .u32 0, .int .u32 0, .int .u32 0, .bool false] 26))
                have QZ5 := Lib.hid (zero_new V4)
                obtain ⟨Z, hg⟩ : ∃ Z, V4.heap.size = Z := ⟨_, rfl⟩
                have QG5 : Hid (V0.heap.size ≤ Z) := Lib.hid (by rw [← hg]; exact QB4.out.size)
                rw [hg] at QZ5 ⊢
                clear hg
                obtain ⟨V5, hV⟩ : ∃ V, V4.alloc (.cells #[.int .u32 0, .int .u32 0, .int .u32 0, .int .u32 0, .int .u32 0, .bool false] 26) = V := ⟨_, rfl⟩
                rw [hV] at QD5 QB5 QZ5 ⊢
                clear hV
                obtain ⟨e0, e1, e2, e3, e4, e5⟩ := (QZ5.out).box.cells
                have g0 := QZ5.out.box.frz 0
                have g1 := QZ5.out.box.frz 1
                have g2 := QZ5.out.box.frz 2
                have g3 := QZ5.out.box.frz 3
                have g4 := QZ5.out.box.frz 4
                have g5 := QZ5.out.box.frz 5
                refine wpAny_ready (rs := [12]) (by kernel_rfl) (by simp) ?_
                refine AllReady.cons rfl (fun K hK => ?_) AllReady.nil
                go_simp
                refine hK _ _ ?_
                clear hK K
                refine take_at (i := 13) (d := 13) (v := ?_) rfl rfl (by kernel_rfl) (by kernel_rfl) (by kernel_rfl) (fun _ _ _ h => h) (by kernel_rfl) ?_ ?_
                rotate_left
                · intro w; go_simp; try with_reducible rfl
                simp only [List.setIfInBounds_toArray, List.set_cons_succ, List.set_cons_zero]
                refine wpAny_done (by kernel_rfl) ?_ _
                go_wp2_with fail
                go_meet
                exact ⟨_, rfl, rfl, Lib.hid (QZ5.out.box.put t), Lib.hid (HDD.out _ (putV_below QB5.out QG5.out))⟩
            · go_simp
              refine hK _ _ ?_
              clear hK K
              have QD4 := Lib.hid (QD3.out.more (.cells #[.int .u32 0, .int .u32 0, .int .u32 0, .int .u32 0, .int .u32 0, .bool false] 26))
              have QB4 := Lib.hid (QB3.out.alloc QB3.out.size (.cells #[.int .u32 0, .int .u32 0, .int .u32 0, .int .u32 0, .int .u32 0, .bool false] 26))
              have QZ4 := Lib.hid (zero_new V3)
              have QO4 := Lib.hid (QO3.out.alloc (.cells #[.int .u32 0, .int .u32 0, .int .u32 0, .int .u32 0, .int .u32 0, .bool false] 26))
              have QR4 := Lib.hid (RdSt.all QR3.out _ ((Below.refl _ _).alloc (Nat.le_refl _) (.cells #[.int .u32 0, .int .u32 0, .int .u32 0, .int .u32 0, .int .u32 0, .bool false] 26)))
              obtain ⟨Z, hg⟩ : ∃ Z, V3.heap.size = Z := ⟨_, rfl⟩
              have QG4 : Hid (V0.heap.size ≤ Z) := Lib.hid (by rw [← hg]; exact QB3.out.size)
              rw [hg] at QZ4 ⊢
              clear hg
              obtain ⟨V4, hV⟩ : ∃ V, V3.alloc (.cells #[.int .u32 0, .int .u32 0, .int .u32 0, .int .u32 0, .int .u32 0, .bool false] 26) = V := ⟨_, rfl⟩
              rw [hV] at QD4 QB4 QZ4 QO4 QR4 ⊢
              clear hV
              refine wpAny_ready (rs := [7]) (by kernel_rfl) (by simp) ?_
              refine AllReady.cons rfl (fun K hK => ?_) (AllReady.nil)
              · go_simp
                refine (HCA.out _ A9 c9 QR4.out).mono ?_
                rintro e V5 ⟨rfl, hB⟩
                obtain ⟨b8, z8⟩ := after_call QB4.out (Nat.le_refl _) hB
                have QB5 := Lib.hid b8
                have QD5 := Lib.hid (QD0.out.below b8)
                have QZ5 := Lib.hid (z8 _ QZ4.out)
                have QG5 := QG4
                clear hB b8 z8
                refine hK _ _ ?_
                clear hK K
                refine take_at (i := 8) (d := 41) (v := ?_) rfl rfl (by kernel_rfl) (by kernel_rfl) (by kernel_rfl) (fun _ _ _ h => h) (by kernel_rfl) ?_ ?_
                rotate_left
                · intro w; go_simp; try with_reducible rfl
                simp only [List.setIfInBounds_toArray, List.set_cons_succ, List.set_cons_zero]
                refine take_at (i := 9) (d := 50) (v := ?_) rfl rfl (by kernel_rfl) (by kernel_rfl) (by kernel_rfl) (fun _ _ _ h => h) (by kernel_rfl) ?_ ?_
                rotate_left
                · intro w; go_simp; try with_reducible rfl
                simp only [List.setIfInBounds_toArray, List.set_cons_succ, List.set_cons_zero]
                refine take_at (i := 10) (d := 51) (v := ?_) rfl rfl (by kernel_rfl) (by kernel_rfl) (by kernel_rfl) (fun _ _ _ h => h) (by kernel_rfl) ?_ ?_
                rotate_left
                · intro w; go_simp; try with_reducible rfl
                simp only [List.setIfInBounds_toArray, List.set_cons_succ, List.set_cons_zero]
                obtain ⟨e0, e1, e2, e3, e4, e5⟩ := (QZ5.out).box.cells
                have g0 := QZ5.out.box.frz 0
                have g1 := QZ5.out.box.frz 1
                have g2 := QZ5.out.box.frz 2
                have g3 := QZ5.out.box.frz 3
                have g4 := QZ5.out.box.frz 4
                have g5 := QZ5.out.box.frz 5
                refine wpAny_ready (rs := [12]) (by kernel_rfl) (by simp) ?_
                refine AllReady.cons rfl (fun K hK => ?_) AllReady.nil
                go_simp
                refine hK _ _ ?_
                clear hK K
                refine take_at (i := 13) (d := 13) (v := ?_) rfl rfl (by kernel_rfl) (by kernel_rfl) (by kernel_rfl) (fun _ _ _ h => h) (by kernel_rfl) ?_ ?_
                rotate_left
                · intro w; go_simp; try with_reducible rfl
                simp only [List.setIfInBounds_toArray, List.set_cons_succ, List.set_cons_zero]
                refine wpAny_done (by kernel_rfl) ?_ _
                go_wp2_with fail
                go_meet
                exact ⟨_, rfl, rfl, Lib.hid (QZ5.out.box.put t), Lib.hid (HDD.out _ (putV_below QB5.out QG5.out))⟩
          · go_simp
            refine hK _ _ ?_
            clear hK K
            have QD3 := Lib.hid (QD2.out.more (.cells #[.int .u32 0, .int .u32 0, .int .u32 0, .int .u32 0, .int .u32 0, .bool false] 26))
            have QB3 := Lib.hid (QB2.out.alloc QB2.out.size (.cells #[.int .u32 0, .int .u32 0, .int .u32 0, .int .u32 0, .int .u32 0, .bool false] 26))
            have QZ3 := Lib.hid (zero_new V2)
            have QO3 := Lib.hid (QO2.out.alloc (.cells #[.int .u32 0, .int .u32 0, .int .u32 0, .int .u32 0, .int .u32 0, .bool false] 26))
            obtain ⟨Z, hg⟩ : ∃ Z, V2.heap.size = Z := ⟨_, rfl⟩
            have QG3 : Hid (V0.heap.size ≤ Z) := Lib.hid (by rw [← hg]; exact QB2.out.size)
            rw [hg] at QZ3 ⊢
            clear hg
            obtain ⟨V3, hV⟩ : ∃ V, V2.alloc (.cells #[.int .u32 0, .int .u32 0, .int .u32 0, .int .u32 0, .int .u32 0, .bool false] 26) = V := ⟨_, rfl⟩
            rw [hV] at QD3 QB3 QZ3 QO3 ⊢
            clear hV
            refine wpAny_ready (rs := [6]) (by kernel_rfl) (by simp) ?_
            refine AllReady.cons rfl (fun K hK => ?_) (AllReady.nil)
            · refine step_append_sets3 (w0 := V0) (by rfl) (.tmp 46) (.tmp 47) (by rfl) V0.heap.size _ len1 L1 (by rfl) QO3.out len2 cap2 a2 L2 (by rfl) HL2.out HZ2.out QB3.out (Nat.le_refl _) HRG2.out (len1 + len2) rfl (by omega) (L1 ++ L2) rfl ?_
              intro v9 V4 hO8 b8 z8
              obtain ⟨A9, c9, rfl, hR9⟩ := rd_own hO8 HL12.out HM12.out
              have QR4 := Lib.hid hR9
              clear hR9
              have QO4 := Lib.hid hO8
              have QB4 := Lib.hid b8
              have QD4 := Lib.hid (QD0.out.below b8)
              have QZ4 := Lib.hid (z8 _ QZ3.out)
              have QG4 := QG3
              clear hO8 b8 z8
              refine hK _ _ ?_
              clear hK K
              refine wpAny_ready (rs := [7]) (by kernel_rfl) (by simp) ?_
              refine AllReady.cons rfl (fun K hK => ?_) (AllReady.nil)
              · go_simp
                refine (HCA.out _ A9 c9 QR4.out).mono ?_
                rintro e V5 ⟨rfl, hB⟩
                obtain ⟨b8, z8⟩ := after_call QB4.out (Nat.le_refl _) hB
                have QB5 := Lib.hid b8
                have QD5 := Lib.hid (QD0.out.below b8)
                have QZ5 := Lib.hid (z8 _ QZ4.out)
                have QG5 := QG4
                clear hB b8 z8
                refine hK _ _ ?_
                clear hK K
                refine take_at (i := 8) (d := 41) (v := ?_) rfl rfl (by kernel_rfl) (by kernel_rfl) (by kernel_rfl) (fun _ _ _ h => h) (by kernel_rfl) ?_ ?_
                rotate_left
                · intro w; go_simp; try with_reducible rfl
                simp only [List.setIfInBounds_toArray, List.set_cons_succ, List.set_cons_zero]
                refine take_at (i := 9) (d := 50) (v := ?_) rfl rfl (by kernel_rfl) (by kernel_rfl) (by kernel_rfl) (fun _ _ _ h => h) (by kernel_rfl) ?_ ?_
                rotate_left
                · intro w; go_simp; try with_reducible rfl
                simp only [List.setIfInBounds_toArray, List.set_cons_succ, List.set_cons_zero]
                refine take_at (i := 10) (d := 51) (v := ?_) rfl rfl (by kernel_rfl) (by kernel_rfl) (by kernel_rfl) (fun _ _ _ h => h) (by kernel_rfl) ?_ ?_
                rotate_left
                · intro w; go_simp; try with_reducible rfl
                simp only [List.setIfInBounds_toArray, List.set_cons_succ, List.set_cons_zero]
                obtain ⟨e0, e1, e2, e3, e4, e5⟩ := (QZ5.out).box.cells
                have g0 := QZ5.out.box.frz 0
                have g1 := QZ5.out.box.frz 1
                have g2 := QZ5.out.box.frz 2
                have g3 := QZ5.out.box.frz 3
                have g4 := QZ5.out.box.frz 4
                have g5 := QZ5.out.box.frz 5
                refine wpAny_ready (rs := [12]) (by kernel_rfl) (by simp) ?_
                refine AllReady.cons rfl (fun K hK => ?_) AllReady.nil
                go_simp
                refine hK _ _ ?_
                clear hK K
                refine take_at (i := 13) (d := 13) (v := ?_) rfl rfl (by kernel_rfl) (by kernel_rfl) (by kernel_rfl) (fun _ _ _ h => h) (by kernel_rfl) ?_ ?_
                rotate_left
                · intro w; go_simp; try with_reducible rfl
                simp only [List.setIfInBounds_toArray, List.set_cons_succ, List.set_cons_zero]
                refine wpAny_done (by kernel_rfl) ?_ _
                go_wp2_with fail
                go_meet
                exact ⟨_, rfl, rfl, Lib.hid (QZ5.out.box.put t), Lib.hid (HDD.out _ (putV_below QB5.out QG5.out))⟩
        · go_simp
          refine hK _ _ ?_
          clear hK K
          have QD2 := Lib.hid (QD1.out.more (.cells #[.int .u32 0, .int .u32 0, .int .u32 0, .int .u32 0, .int .u32 0, .bool false] 26))
          have QB2 := Lib.hid (QB1.out.alloc QB1.out.size (.cells #[.int .u32 0, .int .u32 0, .int .u32 0, .int .u32 0, .int .u32 0, .bool false] 26))
          have QZ2 := Lib.hid (zero_new V1)
          have QE2 := Lib.hid ((heap_alloc_old V1 (.cells #[.int .u32 0, .int .u32 0, .int .u32 0, .int .u32 0, .int .u32 0, .bool false] 26) (world_lt3 QE1.out)).trans QE1.out)
          have QH2 := QH1
          obtain ⟨Z, hg⟩ : ∃ Z, V1.heap.size = Z := ⟨_, rfl⟩
          have QG2 : Hid (V0.heap.size ≤ Z) := Lib.hid (by rw [← hg]; exact QB1.out.size)
          rw [hg] at QZ2 ⊢
          clear hg
          obtain ⟨V2, hV⟩ : ∃ V, V1.alloc (.cells #[.int .u32 0, .int .u32 0, .int .u32 0, .int .u32 0, .int .u32 0, .bool false] 26) = V := ⟨_, rfl⟩
          rw [hV] at QD2 QB2 QE2 QZ2 ⊢
          clear hV
          refine wpAny_ready (rs := [4]) (by kernel_rfl) (by simp) ?_
          refine AllReady.cons rfl (fun K hK => ?_) (AllReady.nil)
          · refine step_append_sets3 (w0 := V0) (by rfl) (.tmp 44) (.tmp 45) (by rfl) V0.heap.size _ 0 [] (by rfl) (own_void QE2.out QH2.out) len1 cap1 a1 L1 (by rfl) HL1.out HZ1.out QB2.out (Nat.le_refl _) HRG1.out len1 (Nat.zero_add _) (by omega) L1 rfl ?_
            intro v8 V3 hO8 b8 z8
            have QO3 := Lib.hid hO8
            have QB3 := Lib.hid b8
            have QD3 := Lib.hid (QD0.out.below b8)
            have QZ3 := Lib.hid (z8 _ QZ2.out)
            have QG3 := QG2
            clear hO8 b8 z8
            refine hK _ _ ?_
            clear hK K
            refine wpAny_ready (rs := [6]) (by kernel_rfl) (by simp) ?_
            refine AllReady.cons rfl (fun K hK => ?_) (AllReady.nil)
            · refine step_append_sets3 (w0 := V0) (by rfl) (.tmp 46) (.tmp 47) (by rfl) V0.heap.size _ len1 L1 (by rfl) QO3.out len2 cap2 a2 L2 (by rfl) HL2.out HZ2.out QB3.out (Nat.le_refl _) HRG2.out (len1 + len2) rfl (by omega) (L1 ++ L2) rfl ?_
              intro v9 V4 hO8 b8 z8
              obtain ⟨A9, c9, rfl, hR9⟩ := rd_own hO8 HL12.out HM12.out
              have QR4 := Lib.hid hR9
              clear hR9
              have QO4 := Lib.hid hO8
              have QB4 := Lib.hid b8
              have QD4 := Lib.hid (QD0.out.below b8)
              have QZ4 := Lib.hid (z8 _ QZ3.out)
              have QG4 := QG3
              clear hO8 b8 z8
              refine hK _ _ ?_
              clear hK K
              refine wpAny_ready (rs := [7]) (by kernel_rfl) (by simp) ?_
              refine AllReady.cons rfl (fun K hK => ?_) (AllReady.nil)
              · go_simp
                refine (HCA.out _ A9 c9 QR4.out).mono ?_
                rintro e V5 ⟨rfl, hB⟩
                obtain ⟨b8, z8⟩ := after_call QB4.out (Nat.le_refl _) hB
                have QB5 := Lib.hid b8
                have QD5 := Lib.hid (QD0.out.below b8)
                have QZ5 := Lib.hid (z8 _ QZ4.out)
                have QG5 := QG4
                clear hB b8 z8
                refine hK _ _ ?_
                clear hK K
                refine take_at (i := 8) (d := 41) (v := ?_) rfl rfl (by kernel_rfl) (by kernel_rfl) (by kernel_rfl) (fun _ _ _ h => h) (by kernel_rfl) ?_ ?_
                rotate_left
                · intro w; go_simp; try with_reducible rfl
                simp only [List.setIfInBounds_toArray, List.set_cons_succ, List.set_cons_zero]
                refine take_at (i := 9) (d := 50) (v := ?_) rfl rfl (by kernel_rfl) (by kernel_rfl) (by kernel_rfl) (fun _ _ _ h => h) (by kernel_rfl) ?_ ?_
                rotate_left
                · intro w; go_simp; try with_reducible rfl
                simp only [List.setIfInBounds_toArray, List.set_cons_succ, List.set_cons_zero]
                refine take_at (i := 10) (d := 51) (v := ?_) rfl rfl (by kernel_rfl) (by kernel_rfl) (by kernel_rfl) (fun _ _ _ h => h) (by kernel_rfl) ?_ ?_
                rotate_left
                · intro w; go_simp; try with_reducible rfl
                simp only [List.setIfInBounds_toArray, List.set_cons_succ, List.set_cons_zero]
                obtain ⟨e0, e1, e2, e3, e4, e5⟩ := (QZ5.out).box.cells
                have g0 := QZ5.out.box.frz 0
                have g1 := QZ5.out.box.frz 1
                have g2 := QZ5.out.box.frz 2
                have g3 := QZ5.out.box.frz 3
                have g4 := QZ5.out.box.frz 4
                have g5 := QZ5.out.box.frz 5
                refine wpAny_ready (rs := [12]) (by kernel_rfl) (by simp) ?_
                refine AllReady.cons rfl (fun K hK => ?_) AllReady.nil
                go_simp
                refine hK _ _ ?_
                clear hK K
                refine take_at (i := 13) (d := 13) (v := ?_) rfl rfl (by kernel_rfl) (by kernel_rfl) (by kernel_rfl) (fun _ _ _ h => h) (by kernel_rfl) ?_ ?_
                rotate_left
                · intro w; go_simp; try with_reducible rfl
                simp only [List.setIfInBounds_toArray, List.set_cons_succ, List.set_cons_zero]
                refine wpAny_done (by kernel_rfl) ?_ _
                go_wp2_with fail
                go_meet
                exact ⟨_, rfl, rfl, Lib.hid (QZ5.out.box.put t), Lib.hid (HDD.out _ (putV_below QB5.out QG5.out))⟩
      · refine step_append_sets3 (w0 := V0) (by rfl) (.tmp 44) (.tmp 45) (by rfl) V0.heap.size _ 0 [] (by rfl) (own_void QE1.out QH1.out) len1 cap1 a1 L1 (by rfl) HL1.out HZ1.out QB1.out (Nat.le_refl _) HRG1.out len1 (Nat.zero_add _) (by omega) L1 rfl ?_
        intro v8 V2 hO8 b8 z8
        have QO2 := Lib.hid hO8
        have QB2 := Lib.hid b8
        have QD2 := Lib.hid (QD0.out.below b8)
        clear hO8 b8 z8
        refine hK _ _ ?_
        clear hK K
        refine wpAny_ready (rs := [0, 6, 11]) (by kernel_rfl) (by simp) ?_
        refine AllReady.cons rfl (fun K hK => ?_) (AllReady.cons rfl (fun K hK => ?_) (AllReady.cons rfl (fun K hK => ?_) (AllReady.nil)))
        · obtain ⟨x0, x1, x2, x3, x4, x5⟩ := (QD2.out).cells
          go_simp
          clear x0 x1 x2 x3 x4 x5
          refine hK _ _ ?_
          clear hK K
          refine wpAny_ready (rs := [6, 11]) (by kernel_rfl) (by simp) ?_
          refine AllReady.cons rfl (fun K hK => ?_) (AllReady.cons rfl (fun K hK => ?_) (AllReady.nil))
          · refine step_append_sets3 (w0 := V0) (by rfl) (.tmp 46) (.tmp 47) (by rfl) V0.heap.size _ len1 L1 (by rfl) QO2.out len2 cap2 a2 L2 (by rfl) HL2.out HZ2.out QB2.out (Nat.le_refl _) HRG2.out (len1 + len2) rfl (by omega) (L1 ++ L2) rfl ?_
            intro v9 V3 hO8 b8 z8
            obtain ⟨A9, c9, rfl, hR9⟩ := rd_own hO8 HL12.out HM12.out
            have QR3 := Lib.hid hR9
            clear hR9
            have QO3 := Lib.hid hO8
            have QB3 := Lib.hid b8
            have QD3 := Lib.hid (QD0.out.below b8)
            clear hO8 b8 z8
            refine hK _ _ ?_
            clear hK K
            refine wpAny_ready (rs := [7, 11]) (by kernel_rfl) (by simp) ?_
            refine AllReady.cons rfl (fun K hK => ?_) (AllReady.cons rfl (fun K hK => ?_) (AllReady.nil))
            · go_simp
              refine (HCA.out _ A9 c9 QR3.out).mono ?_
              rintro e V4 ⟨rfl, hB⟩
              obtain ⟨b8, z8⟩ := after_call QB3.out (Nat.le_refl _) hB
              have QB4 := Lib.hid b8
              have QD4 := Lib.hid (QD0.out.below b8)
              clear hB b8 z8
              refine hK _ _ ?_
              clear hK K
              refine take_at (i := 8) (d := 41) (v := ?_) rfl rfl (by kernel_rfl) (by kernel_rfl) (by kernel_rfl) (fun _ _ _ h => h) (by kernel_rfl) ?_ ?_
              rotate_left
              · intro w; go_simp; try with_reducible rfl
              simp only [List.setIfInBounds_toArray, List.set_cons_succ, List.set_cons_zero]
              refine take_at (i := 9) (d := 50) (v := ?_) rfl rfl (by kernel_rfl) (by kernel_rfl) (by kernel_rfl) (fun _ _ _ h => h) (by kernel_rfl) ?_ ?_
              rotate_left
              · intro w; go_simp; try with_reducible rfl
              simp only [List.setIfInBounds_toArray, List.set_cons_succ, List.set_cons_zero]
              refine take_at (i := 10) (d := 51) (v := ?_) rfl rfl (by kernel_rfl) (by kernel_rfl) (by kernel_rfl) (fun _ _ _ h => h) (by kernel_rfl) ?_ ?_
              rotate_left
              · intro w; go_simp; try with_reducible rfl
              simp only [List.setIfInBounds_toArray, List.set_cons_succ, List.set_cons_zero]
              refine wpAny_ready (rs := [11]) (by kernel_rfl) (by simp) ?_
              refine AllReady.cons rfl (fun K hK => ?_) (AllReady.nil)
              · go_simp
                refine hK _ _ ?_
                clear hK K
                have QD5 := Lib.hid (QD4.out.more (.cells #[.int .u32 0, .int .u32 0, .int .u32 0, .int .u32 0, .int .u32 0, .bool false] 26))
                have QB5 := Lib.hid (QB4.out.alloc QB4.out.size (.cells #[.int .u32 0, .int .u32 0, .int .u32 0, .int .u32 0, .int .u32 0, .bool false] 26))
                have QZ5 := Lib.hid (zero_new V4)
                obtain ⟨Z, hg⟩ : ∃ Z, V4.heap.size = Z := ⟨_, rfl⟩
                have QG5 : Hid (V0.heap.size ≤ Z) := Lib.hid (by rw [← hg]; exact QB4.out.size)
                rw [hg] at QZ5 ⊢
                clear hg
                obtain ⟨V5, hV⟩ : ∃ V, V4.alloc (.cells #[.int .u32 0, .int .u32 0, .int .u32 0, .int .u32 0, .int .u32 0, .bool false] 26) = V := ⟨_, rfl⟩
                rw [hV] at QD5 QB5 QZ5 ⊢
                clear hV
                obtain ⟨e0, e1, e2, e3, e4, e5⟩ := (QZ5.out).box.cells
                have g0 := QZ5.out.box.frz 0
                have g1 := QZ5.out.box.frz 1
                have g2 := QZ5.out.box.frz 2
                have g3 := QZ5.out.box.frz 3
                have g4 := QZ5.out.box.frz 4
                have g5 := QZ5.out.box.frz 5
                refine wpAny_ready (rs := [12]) (by kernel_rfl) (by simp) ?_
                refine AllReady.cons rfl (fun K hK => ?_) AllReady.nil
                go_simp
                refine hK _ _ ?_
                clear hK K
                refine take_at (i := 13) (d := 13) (v := ?_) rfl rfl (by kernel_rfl) (by kernel_rfl) (by kernel_rfl) (fun _ _ _ h => h) (by kernel_rfl) ?_ ?_
                rotate_left
                · intro w; go_simp; try with_reducible rfl
                simp only [List.setIfInBounds_toArray, List.set_cons_succ, List.set_cons_zero]
                refine wpAny_done (by kernel_rfl) ?_ _
                go_wp2_with fail
                go_meet
                exact ⟨_, rfl, rfl, Lib.hid (QZ5.out.box.put t), Lib.hid (HDD.out _ (putV_below QB5.out QG5.out))⟩
            · go_simp
              refine hK _ _ ?_
              clear hK K
              have QD4 := Lib.hid (QD3.out.more (.cells #[.int .u32 0, .int .u32 0, .int .u32 0, .int .u32 0, .int .u32 0, .bool false] 26))
              have QB4 := Lib.hid (QB3.out.alloc QB3.out.size (.cells #[.int .u32 0, .int .u32 0, .int .u32 0, .int .u32 0, .int .u32 0, .bool false] 26))
              have QZ4 := Lib.hid (zero_new V3)
              have QO4 := Lib.hid (QO3.out.alloc (.cells #[.int .u32 0, .int .u32 0, .int .u32 0, .int .u32 0, .int .u32 0, .bool false] 26))
              have QR4 := Lib.hid (RdSt.all QR3.out _ ((Below.refl _ _).alloc (Nat.le_refl _) (.cells #[.int .u32 0, .int .u32 0, .int .u32 0, .int .u32 0, .int .u32 0, .bool false] 26)))
              obtain ⟨Z, hg⟩ : ∃ Z, V3.heap.size = Z := ⟨_, rfl⟩
              have QG4 : Hid (V0.heap.size ≤ Z) := Lib.hid (by rw [← hg]; exact QB3.out.size)
              rw [hg] at QZ4 ⊢
              clear hg
              obtain ⟨V4, hV⟩ : ∃ V, V3.alloc (.cells #[.int .u32 0, .int .u32 0, .int .u32 0, .int .u32 0, .int .u32 0, .bool false] 26) = V := ⟨_, rfl⟩
              rw [hV] at QD4 QB4 QZ4 QO4 QR4 ⊢
              clear hV
              refine wpAny_ready (rs := [7]) (by kernel_rfl) (by simp) ?_
              refine AllReady.cons rfl (fun K hK => ?_) (AllReady.nil)
              · go_simp
                refine (HCA.out _ A9 c9 QR4.out).mono ?_
                rintro e V5 ⟨rfl, hB⟩
                obtain ⟨b8, z8⟩ := after_call QB4.out (Nat.le_refl _) hB
                have QB5 := Lib.hid b8
                have QD5 := Lib.hid (QD0.out.below b8)
                have QZ5 := Lib.hid (z8 _ QZ4.out)
                have QG5 := QG4
                clear hB b8 z8
                refine hK _ _ ?_
                clear hK K
                refine take_at (i := 8) (d := 41) (v := ?_) rfl rfl (by kernel_rfl) (by kernel_rfl) (by kernel_rfl) (fun _ _ _ h => h) (by kernel_rfl) ?_ ?_
                rotate_left
                · intro w; go_simp; try with_reducible rfl
                simp only [List.setIfInBounds_toArray, List.set_cons_succ, List.set_cons_zero]
                refine take_at (i := 9) (d := 50) (v := ?_) rfl rfl (by kernel_rfl) (by kernel_rfl) (by kernel_rfl) (fun _ _ _ h => h) (by kernel_rfl) ?_ ?_
                rotate_left
                · intro w; go_simp; try with_reducible rfl
                simp only [List.setIfInBounds_toArray, List.set_cons_succ, List.set_cons_zero]
                refine take_at (i := 10) (d := 51) (v := ?_) rfl rfl (by kernel_rfl) (by kernel_rfl) (by kernel_rfl) (fun _ _ _ h => h) (by kernel_rfl) ?_ ?_
                rotate_left
                · intro w; go_simp; try with_reducible rfl
                simp only [List.setIfInBounds_toArray, List.set_cons_succ, List.set_cons_zero]
                obtain ⟨e0, e1, e2, e3, e4, e5⟩ := (QZ5.out).box.cells
                have g0 := QZ5.out.box.frz 0
                have g1 := QZ5.out.box.frz 1
                have g2 := QZ5.out.box.frz 2
                have g3 := QZ5.out.box.frz 3
                have g4 := QZ5.out.box.frz 4
                have g5 := QZ5.out.box.frz 5
                refine wpAny_ready (rs := [12]) (by kernel_rfl) (by simp) ?_
                refine AllReady.cons rfl (fun K hK => ?_) AllReady.nil
                go_simp
                refine hK _ _ ?_
                clear hK K
                refine take_at (i := 13) (d := 13) (v := ?_) rfl rfl (by kernel_rfl) (by kernel_rfl) (by kernel_rfl) (fun _ _ _ h => h) (by kernel_rfl) ?_ ?_
                rotate_left
                · intro w; go_simp; try with_reducible rfl
                simp only [List.setIfInBounds_toArray, List.set_cons_succ, List.set_cons_zero]
                refine wpAny_done (by kernel_rfl) ?_ _
                go_wp2_with fail
                go_meet
                exact ⟨_, rfl, rfl, Lib.hid (QZ5.out.box.put t), Lib.hid (HDD.out _ (putV_below QB5.out QG5.out))⟩
          · go_simp
            refine hK _ _ ?_
            clear hK K
            have QD3 := Lib.hid (QD2.out.more (.cells #[.int .u32 0, .int .u32 0, .int .u32 0, .int .u32 0, .int .u32 0, .bool false] 26))
            have QB3 := Lib.hid (QB2.out.alloc QB2.out.size (.cells #[.int .u32 0, .int .u32 0, .int .u32 0, .int .u32 0, .int .u32 0, .bool false] 26))
            have QZ3 := Lib.hid (zero_new V2)
            have QO3 := Lib.hid (QO2.out.alloc (.cells #[.int .u32 0, .int .u32 0, .int .u32 0, .int .u32 0, .int .u32 0, .bool false] 26))
            obtain ⟨Z, hg⟩ : ∃ Z, V2.heap.size = Z := ⟨_, rfl⟩
            have QG3 : Hid (V0.heap.size ≤ Z) := Lib.hid (by rw [← hg]; exact QB2.out.size)
            rw [hg] at QZ3 ⊢
            clear hg
            obtain ⟨V3, hV⟩ : ∃ V, V2.alloc (.cells #[.int .u32 0, .int .u32 0, .int .u32 0, .int .u32 0, .int .u32 0, .bool false] 26) = V := ⟨_, rfl⟩
            rw [hV] at QD3 QB3 QZ3 QO3 ⊢
            clear hV
            refine wpAny_ready (rs := [6]) (by kernel_rfl) (by simp) ?_
            refine AllReady.cons rfl (fun K hK => ?_) (AllReady.nil)
            · refine step_append_sets3 (w0 := V0) (by rfl) (.tmp 46) (.tmp 47) (by rfl) V0.heap.size _ len1 L1 (by rfl) QO3.out len2 cap2 a2 L2 (by rfl) HL2.out HZ2.out QB3.out (Nat.le_refl _) HRG2.out (len1 + len2) rfl (by omega) (L1 ++ L2) rfl ?_
              intro v9 V4 hO8 b8 z8
              obtain ⟨A9, c9, rfl, hR9⟩ := rd_own hO8 HL12.out HM12.out
              have QR4 := Lib.hid hR9
              clear hR9
              have QO4 := Lib.hid hO8
              have QB4 := Lib.hid b8
              have QD4 := Lib.hid (QD0.out.below b8)
              have QZ4 := Lib.hid (z8 _ QZ3.out)
              have QG4 := QG3
              clear hO8 b8 z8
              refine hK _ _ ?_
              clear hK K
              refine wpAny_ready (rs := [7]) (by kernel_rfl) (by simp) ?_
              refine AllReady.cons rfl (fun K hK => ?_) (AllReady.nil)
              · go_simp
                refine (HCA.out _ A9 c9 QR4.out).mono ?_
                rintro e V5 ⟨rfl, hB⟩
                obtain ⟨b8, z8⟩ := after_call QB4.out (Nat.le_refl _) hB
                have QB5 := Lib.hid b8
                have QD5 := Lib.hid (QD0.out.below b8)
                have QZ5 := Lib.hid (z8 _ QZ4.out)
                have QG5 := QG4
                clear hB b8 z8
                refine hK _ _ ?_
                clear hK K
                refine take_at (i := 8) (d := 41) (v := ?_) rfl rfl (by kernel_rfl) (by kernel_rfl) (by kernel_rfl) (fun _ _ _ h => h) (by kernel_rfl) ?_ ?_
                rotate_left
                · intro w; go_simp; try with_reducible rfl
                simp only [List.setIfInBounds_toArray, List.set_cons_succ, List.set_cons_zero]
                refine take_at (i := 9) (d := 50) (v := ?_) rfl rfl (by kernel_rfl) (by kernel_rfl) (by kernel_rfl) (fun _ _ _ h => h) (by kernel_rfl) ?_ ?_
                rotate_left
                · intro w; go_simp; try with_reducible rfl
                simp only [List.setIfInBounds_toArray, List.set_cons_succ, List.set_cons_zero]
                refine take_at (i := 10) (d := 51) (v := ?_) rfl rfl (by kernel_rfl) (by kernel_rfl) (by kernel_rfl) (fun _ _ _ h => h) (by kernel_rfl) ?_ ?_
                rotate_left
                · intro w; go_simp; try with_reducible rfl
                simp only [List.setIfInBounds_toArray, List.set_cons_succ, List.set_cons_zero]
                obtain ⟨e0, e1, e2, e3, e4, e5⟩ := (QZ5.out).box.cells
                have g0 := QZ5.out.box.frz 0
                have g1 := QZ5.out.box.frz 1
                have g2 := QZ5.out.box.frz 2
                have g3 := QZ5.out.box.frz 3
                have g4 := QZ5.out.box.frz 4
                have g5 := QZ5.out.box.frz 5
                refine wpAny_ready (rs := [12]) (by kernel_rfl) (by simp) ?_
                refine AllReady.cons rfl (fun K hK => ?_) AllReady.nil
                go_simp
                refine hK _ _ ?_
                clear hK K
                refine take_at (i := 13) (d := 13) (v := ?_) rfl rfl (by kernel_rfl) (by kernel_rfl) (by kernel_rfl) (fun _ _ _ h => h) (by kernel_rfl) ?_ ?_
                rotate_left
                · intro w; go_simp; try with_reducible rfl
                simp only [List.setIfInBounds_toArray, List.set_cons_succ, List.set_cons_zero]
                refine wpAny_done (by kernel_rfl) ?_ _
                go_wp2_with fail
                go_meet
                exact ⟨_, rfl, rfl, Lib.hid (QZ5.out.box.put t), Lib.hid (HDD.out _ (putV_below QB5.out QG5.out))⟩
        · refine step_append_sets3 (w0 := V0) (by rfl) (.tmp 46) (.tmp 47) (by rfl) V0.heap.size _ len1 L1 (by rfl) QO2.out len2 cap2 a2 L2 (by rfl) HL2.out HZ2.out QB2.out (Nat.le_refl _) HRG2.out (len1 + len2) rfl (by omega) (L1 ++ L2) rfl ?_
          intro v9 V3 hO8 b8 z8
          obtain ⟨A9, c9, rfl, hR9⟩ := rd_own hO8 HL12.out HM12.out
          have QR3 := Lib.hid hR9
          clear hR9
          have QO3 := Lib.hid hO8
          have QB3 := Lib.hid b8
          have QD3 := Lib.hid (QD0.out.below b8)
          clear hO8 b8 z8
          refine hK _ _ ?_
          clear hK K
          refine wpAny_ready (rs := [0, 11]) (by kernel_rfl) (by simp) ?_
          refine AllReady.cons rfl (fun K hK => ?_) (AllReady.cons rfl (fun K hK => ?_) (AllReady.nil))
          · obtain ⟨x0, x1, x2, x3, x4, x5⟩ := (QD3.out).cells
            go_simp
            clear x0 x1 x2 x3 x4 x5
            refine hK _ _ ?_
            clear hK K
            refine wpAny_ready (rs := [7, 11]) (by kernel_rfl) (by simp) ?_
            refine AllReady.cons rfl (fun K hK => ?_) (AllReady.cons rfl (fun K hK => ?_) (AllReady.nil))
            · go_simp
              refine (HCA.out _ A9 c9 QR3.out).mono ?_
              rintro e V4 ⟨rfl, hB⟩
              obtain ⟨b8, z8⟩ := after_call QB3.out (Nat.le_refl _) hB
              have QB4 := Lib.hid b8
              have QD4 := Lib.hid (QD0.out.below b8)
              clear hB b8 z8
              refine hK _ _ ?_
              clear hK K
              refine take_at (i := 8) (d := 41) (v := ?_) rfl rfl (by kernel_rfl) (by kernel_rfl) (by kernel_rfl) (fun _ _ _ h => h) (by kernel_rfl) ?_ ?_
              rotate_left
              · intro w; go_simp; try with_reducible rfl
              simp only [List.setIfInBounds_toArray, List.set_cons_succ, List.set_cons_zero]
              refine take_at (i := 9) (d := 50) (v := ?_) rfl rfl (by kernel_rfl) (by kernel_rfl) (by kernel_rfl) (fun _ _ _ h => h) (by kernel_rfl) ?_ ?_
              rotate_left
              · intro w; go_simp; try with_reducible rfl
              simp only [List.setIfInBounds_toArray, List.set_cons_succ, List.set_cons_zero]
              refine take_at (i := 10) (d := 51) (v := ?_) rfl rfl (by kernel_rfl) (by kernel_rfl) (by kernel_rfl) (fun _ _ _ h => h) (by kernel_rfl) ?_ ?_
              rotate_left
              · intro w; go_simp; try with_reducible rfl
              simp only [List.setIfInBounds_toArray, List.set_cons_succ, List.set_cons_zero]
              refine wpAny_ready (rs := [11]) (by kernel_rfl) (by simp) ?_
              refine AllReady.cons rfl (fun K hK => ?_) (AllReady.nil)
              · go_simp
                refine hK _ _ ?_
                clear hK K
                have QD5 := Lib.hid (QD4.out.more (.cells #[.int .u32 0, .int .u32 0, .int .u32 0, .int .u32 0, .int .u32 0, .bool false] 26))
                have QB5 := Lib.hid (QB4.out.alloc QB4.out.size (.cells #[.int .u32 0, .int .u32 0, .int .u32 0, .int .u32 0, .int .u32 0, .bool false] 26))
                have QZ5 := Lib.hid (zero_new V4)
                obtain ⟨Z, hg⟩ : ∃ Z, V4.heap.size = Z := ⟨_, rfl⟩
                have QG5 : Hid (V0.heap.size ≤ Z) := Lib.hid (by rw [← hg]; exact QB4.out.size)
                rw [hg] at QZ5 ⊢
                clear hg
                obtain ⟨V5, hV⟩ : ∃ V, V4.alloc (.cells #[.int .u32 0, .int .u32 0, .int .u32 0, .int .u32 0, .int .u32 0, .bool false] 26) = V := ⟨_, rfl⟩
                rw [hV] at QD5 QB5 QZ5 ⊢
                clear hV
                obtain ⟨e0, e1, e2, e3, e4, e5⟩ := (QZ5.out).box.cells
                have g0 := QZ5.out.box.frz 0
                have g1 := QZ5.out.box.frz 1
                have g2 := QZ5.out.box.frz 2
                have g3 := QZ5.out.box.frz 3
                have g4 := QZ5.out.box.frz 4
                have g5 := QZ5.out.box.frz 5
                refine wpAny_ready (rs := [12]) (by kernel_rfl) (by simp) ?_
                refine AllReady.cons rfl (fun K hK => ?_) AllReady.nil
                go_simp
                refine hK _ _ ?_
                clear hK K
                refine take_at (i := 13) (d := 13) (v := ?_) rfl rfl (by kernel_rfl) (by kernel_rfl) (by kernel_rfl) (fun _ _ _ h => h) (by kernel_rfl) ?_ ?_
                rotate_left
                · intro w; go_simp; try with_reducible rfl
                simp only [List.setIfInBounds_toArray, List.set_cons_succ, List.set_cons_zero]
                refine wpAny_done (by kernel_rfl) ?_ _
                go_wp2_with fail
                go_meet
                exact ⟨_, rfl, rfl, Lib.hid (QZ5.out.box.put t), Lib.hid (HDD.out _ (putV_below QB5.out QG5.out))⟩
            · go_simp
              refine hK _ _ ?_
              clear hK K
              have QD4 := Lib.hid (QD3.out.more (.cells #[.int .u32 0, .int .u32 0, .int .u32 0, .int .u32 0, .int .u32 0, .bool false] 26))
              have QB4 := Lib.hid (QB3.out.alloc QB3.out.size (.cells #[.int .u32 0, .int .u32 0, .int .u32 0, .int .u32 0, .int .u32 0, .bool false] 26))
              have QZ4 := Lib.hid (zero_new V3)
              have QO4 := Lib.hid (QO3.out.alloc (.cells #[.int .u32 0, .int .u32 0, .int .u32 0, .int .u32 0, .int .u32 0, .bool false] 26))
              have QR4 := Lib.hid (RdSt.all QR3.out _ ((Below.refl _ _).alloc (Nat.le_refl _) (.cells #[.int .u32 0, .int .u32 0, .int .u32 0, .int .u32 0, .int .u32 0, .bool false] 26)))
              obtain ⟨Z, hg⟩ : ∃ Z, V3.heap.size = Z := ⟨_, rfl⟩
              have QG4 : Hid (V0.heap.size ≤ Z) := Lib.hid (by rw [← hg]; exact QB3.out.size)
              rw [hg] at QZ4 ⊢
              clear hg
              obtain ⟨V4, hV⟩ : ∃ V, V3.alloc (.cells #[.int .u32 0, .int .u32 0, .int .u32 0, .int .u32 0, .int .u32 0, .bool false] 26) = V := ⟨_, rfl⟩
              rw [hV] at QD4 QB4 QZ4 QO4 QR4 ⊢
              clear hV
              refine wpAny_ready (rs := [7]) (by kernel_rfl) (by simp) ?_
              refine AllReady.cons rfl (fun K hK => ?_) (AllReady.nil)
              · go_simp
                refine (HCA.out _ A9 c9 QR4.out).mono ?_
                rintro e V5 ⟨rfl, hB⟩
                obtain ⟨b8, z8⟩ := after_call QB4.out (Nat.le_refl _) hB
                have QB5 := Lib.hid b8
                have QD5 := Lib.hid (QD0.out.below b8)
                have QZ5 := Lib.hid (z8 _ QZ4.out)
                have QG5 := QG4
                clear hB b8 z8
                refine hK _ _ ?_
                clear hK K
                refine take_at (i := 8) (d := 41) (v := ?_) rfl rfl (by kernel_rfl) (by kernel_rfl) (by kernel_rfl) (fun _ _ _ h => h) (by kernel_rfl) ?_ ?_
                rotate_left
                · intro w; go_simp; try with_reducible rfl
                simp only [List.setIfInBounds_toArray, List.set_cons_succ, List.set_cons_zero]
                refine take_at (i := 9) (d := 50) (v := ?_) rfl rfl (by kernel_rfl) (by kernel_rfl) (by kernel_rfl) (fun _ _ _ h => h) (by kernel_rfl) ?_ ?_
                rotate_left
                · intro w; go_simp; try with_reducible rfl
                simp only [List.setIfInBounds_toArray, List.set_cons_succ, List.set_cons_zero]
                refine take_at (i := 10) (d := 51) (v := ?_) rfl rfl (by kernel_rfl) (by kernel_rfl) (by kernel_rfl) (fun _ _ _ h => h) (by kernel_rfl) ?_ ?_
                rotate_left
                · intro w; go_simp; try with_reducible rfl
                simp only [List.setIfInBounds_toArray, List.set_cons_succ, List.set_cons_zero]
                obtain ⟨e0, e1, e2, e3, e4, e5⟩ := (QZ5.out).box.cells
                have g0 := QZ5.out.box.frz 0
                have g1 := QZ5.out.box.frz 1
                have g2 := QZ5.out.box.frz 2
                have g3 := QZ5.out.box.frz 3
                have g4 := QZ5.out.box.frz 4
                have g5 := QZ5.out.box.frz 5
                refine wpAny_ready (rs := [12]) (by kernel_rfl) (by simp) ?_
                refine AllReady.cons rfl (fun K hK => ?_) AllReady.nil
                go_simp
                refine hK _ _ ?_
                clear hK K
                refine take_at (i := 13) (d := 13) (v := ?_) rfl rfl (by kernel_rfl) (by kernel_rfl) (by kernel_rfl) (fun _ _ _ h => h) (by kernel_rfl) ?_ ?_
                rotate_left
                · intro w; go_simp; try with_reducible rfl
                simp only [List.setIfInBounds_toArray, List.set_cons_succ, List.set_cons_zero]
                refine wpAny_done (by kernel_rfl) ?_ _
                go_wp2_with fail
                go_meet
                exact ⟨_, rfl, rfl, Lib.hid (QZ5.out.box.put t), Lib.hid (HDD.out _ (putV_below QB5.out QG5.out))⟩
          · go_simp
            refine hK _ _ ?_
            clear hK K
            have QD4 := Lib.hid (QD3.out.more (.cells #[.int .u32 0, .int .u32 0, .int .u32 0, .int .u32 0, .int .u32 0, .bool false] 26))
            have QB4 := Lib.hid (QB3.out.alloc QB3.out.size (.cells #[.int .u32 0, .int .u32 0, .int .u32 0, .int .u32 0, .int .u32 0, .bool false] 26))
            have QZ4 := Lib.hid (zero_new V3)
            have QO4 := Lib.hid (QO3.out.alloc (.cells #[.int .u32 0, .int .u32 0, .int .u32 0, .int .u32 0, .int .u32 0, .bool false] 26))
            have QR4 := Lib.hid (RdSt.all QR3.out _ ((Below.refl _ _).alloc (Nat.le_refl _) (.cells #[.int .u32 0, .int .u32 0, .int .u32 0, .int .u32 0, .int .u32 0, .bool false] 26)))
            obtain ⟨Z, hg⟩ : ∃ Z, V3.heap.size = Z := ⟨_, rfl⟩
            have QG4 : Hid (V0.heap.size ≤ Z) := Lib.hid (by rw [← hg]; exact QB3.out.size)
            rw [hg] at QZ4 ⊢
            clear hg
            obtain ⟨V4, hV⟩ : ∃ V, V3.alloc (.cells #[.int .u32 0, .int .u32 0, .int .u32 0, .int .u32 0, .int .u32 0, .bool false] 26) = V := ⟨_, rfl⟩
            rw [hV] at QD4 QB4 QZ4 QO4 QR4 ⊢
            clear hV
            refine wpAny_ready (rs := [0]) (by kernel_rfl) (by simp) ?_
            refine AllReady.cons rfl (fun K hK => ?_) (AllReady.nil)
            · obtain ⟨x0, x1, x2, x3, x4, x5⟩ := (QD4.out).cells
              go_simp
              clear x0 x1 x2 x3 x4 x5
              refine hK _ _ ?_
              clear hK K
              refine wpAny_ready (rs := [7]) (by kernel_rfl) (by simp) ?_
              refine AllReady.cons rfl (fun K hK => ?_) (AllReady.nil)
              · go_simp
                refine (HCA.out _ A9 c9 QR4.out).mono ?_
                rintro e V5 ⟨rfl, hB⟩
                obtain ⟨b8, z8⟩ := after_call QB4.out (Nat.le_refl _) hB
                have QB5 := Lib.hid b8
                have QD5 := Lib.hid (QD0.out.below b8)
                have QZ5 := Lib.hid (z8 _ QZ4.out)
                have QG5 := QG4
                clear hB b8 z8
                refine hK _ _ ?_
                clear hK K
                refine take_at (i := 8) (d := 41) (v := ?_) rfl rfl (by kernel_rfl) (by kernel_rfl) (by kernel_rfl) (fun _ _ _ h => h) (by kernel_rfl) ?_ ?_
                rotate_left
                · intro w; go_simp; try with_reducible rfl
                simp only [List.setIfInBounds_toArray, List.set_cons_succ, List.set_cons_zero]
                refine take_at (i := 9) (d := 50) (v := ?_) rfl rfl (by kernel_rfl) (by kernel_rfl) (by kernel_rfl) (fun _ _ _ h => h) (by kernel_rfl) ?_ ?_
                rotate_left
                · intro w; go_simp; try with_reducible rfl
                simp only [List.setIfInBounds_toArray, List.set_cons_succ, List.set_cons_zero]
                refine take_at (i := 10) (d := 51) (v := ?_) rfl rfl (by kernel_rfl) (by kernel_rfl) (by kernel_rfl) (fun _ _ _ h => h) (by kernel_rfl) ?_ ?_
                rotate_left
                · intro w; go_simp; try with_reducible rfl
                simp only [List.setIfInBounds_toArray, List.set_cons_succ, List.set_cons_zero]
                obtain ⟨e0, e1, e2, e3, e4, e5⟩ := (QZ5.out).box.cells
                have g0 := QZ5.out.box.frz 0
                have g1 := QZ5.out.box.frz 1
                have g2 := QZ5.out.box.frz 2
                have g3 := QZ5.out.box.frz 3
                have g4 := QZ5.out.box.frz 4
                have g5 := QZ5.out.box.frz 5
                refine wpAny_ready (rs := [12]) (by kernel_rfl) (by simp) ?_
                refine AllReady.cons rfl (fun K hK => ?_) AllReady.nil
                go_simp
                refine hK _ _ ?_
                clear hK K
                refine take_at (i := 13) (d := 13) (v := ?_) rfl rfl (by kernel_rfl) (by kernel_rfl) (by kernel_rfl) (fun _ _ _ h => h) (by kernel_rfl) ?_ ?_
                rotate_left
                · intro w; go_simp; try with_reducible rfl
                simp only [List.setIfInBounds_toArray, List.set_cons_succ, List.set_cons_zero]
                refine wpAny_done (by kernel_rfl) ?_ _
                go_wp2_with fail
                go_meet
                exact ⟨_, rfl, rfl, Lib.hid (QZ5.out.box.put t), Lib.hid (HDD.out _ (putV_below QB5.out QG5.out))⟩
        · go_simp
          refine hK _ _ ?_
          clear hK K
          have QD3 := Lib.hid (QD2.out.more (.cells #[.int .u32 0, .int .u32 0, .int .u32 0, .int .u32 0, .int .u32 0, .bool false] 26))
          have QB3 := Lib.hid (QB2.out.alloc QB2.out.size (.cells #[.int .u32 0, .int .u32 0, .int .u32 0, .int .u32 0, .int .u32 0, .bool false] 26))
          have QZ3 := Lib.hid (zero_new V2)
          have QO3 := Lib.hid (QO2.out.alloc (.cells #[.int .u32 0, .int .u32 0, .int .u32 0, .int .u32 0, .int .u32 0, .bool false] 26))
          obtain ⟨Z, hg⟩ : ∃ Z, V2.heap.size = Z := ⟨_, rfl⟩
          have QG3 : Hid (V0.heap.size ≤ Z) := Lib.hid (by rw [← hg]; exact QB2.out.size)
          rw [hg] at QZ3 ⊢
          clear hg
          obtain ⟨V3, hV⟩ : ∃ V, V2.alloc (.cells #[.int .u32 0, .int .u32 0, .int .u32 0, .int .u32 0, .int .u32 0, .bool false] 26) = V := ⟨_, rfl⟩
          rw [hV] at QD3 QB3 QZ3 QO3 ⊢
          clear hV
          refine wpAny_ready (rs := [0, 6]) (by kernel_rfl) (by simp) ?_
          refine AllReady.cons rfl (fun K hK => ?_) (AllReady.cons rfl (fun K hK => ?_) (AllReady.nil))
          · obtain ⟨x0, x1, x2, x3, x4, x5⟩ := (QD3.out).cells
            go_simp
            clear x0 x1 x2 x3 x4 x5
            refine hK _ _ ?_
            clear hK K
            refine wpAny_ready (rs := [6]) (by kernel_rfl) (by simp) ?_
            refine AllReady.cons rfl (fun K hK => ?_) (AllReady.nil)
            · refine step_append_sets3 (w0 := V0) (by rfl) (.tmp 46) (.tmp 47) (by rfl) V0.heap.size _ len1 L1 (by rfl) QO3.out len2 cap2 a2 L2 (by rfl) HL2.out HZ2.out QB3.out (Nat.le_refl _) HRG2.out (len1 + len2) rfl (by omega) (L1 ++ L2) rfl ?_
              intro v9 V4 hO8 b8 z8
              obtain ⟨A9, c9, rfl, hR9⟩ := rd_own hO8 HL12.out HM12.out
              have QR4 := Lib.hid hR9
              clear hR9
              have QO4 := Lib.hid hO8
              have QB4 := Lib.hid b8
              have QD4 := Lib.hid (QD0.out.below b8)
              have QZ4 := Lib.hid (z8 _ QZ3.out)
              have QG4 := QG3
              clear hO8 b8 z8
              refine hK _ _ ?_
              clear hK K
              refine wpAny_ready (rs := [7]) (by kernel_rfl) (by simp) ?_
              refine AllReady.cons rfl (fun K hK => ?_) (AllReady.nil)
              · go_simp
                refine (HCA.out _ A9 c9 QR4.out).mono ?_
                rintro e V5 ⟨rfl, hB⟩
                obtain ⟨b8, z8⟩ := after_call QB4.out (Nat.le_refl _) hB
                have QB5 := Lib.hid b8
                have QD5 := Lib.hid (QD0.out.below b8)
                have QZ5 := Lib.hid (z8 _ QZ4.out)
                have QG5 := QG4
                clear hB b8 z8
                refine hK _ _ ?_
                clear hK K
                refine take_at (i := 8) (d := 41) (v := ?_) rfl rfl (by kernel_rfl) (by kernel_rfl) (by kernel_rfl) (fun _ _ _ h => h) (by kernel_rfl) ?_ ?_
                rotate_left
                · intro w; go_simp; try with_reducible rfl
                simp only [List.setIfInBounds_toArray, List.set_cons_succ, List.set_cons_zero]
                refine take_at (i := 9) (d := 50) (v := ?_) rfl rfl (by kernel_rfl) (by kernel_rfl) (by kernel_rfl) (fun _ _ _ h => h) (by kernel_rfl) ?_ ?_
                rotate_left
                · intro w; go_simp; try with_reducible rfl
                simp only [List.setIfInBounds_toArray, List.set_cons_succ, List.set_cons_zero]
                refine take_at (i := 10) (d := 51) (v := ?_) rfl rfl (by kernel_rfl) (by kernel_rfl) (by kernel_rfl) (fun _ _ _ h => h) (by kernel_rfl) ?_ ?_
                rotate_left
                · intro w; go_simp; try with_reducible rfl
                simp only [List.setIfInBounds_toArray, List.set_cons_succ, List.set_cons_zero]
                obtain ⟨e0, e1, e2, e3, e4, e5⟩ := (QZ5.out).box.cells
                have g0 := QZ5.out.box.frz 0
                have g1 := QZ5.out.box.frz 1
                have g2 := QZ5.out.box.frz 2
                have g3 := QZ5.out.box.frz 3
                have g4 := QZ5.out.box.frz 4
                have g5 := QZ5.out.box.frz 5
                refine wpAny_ready (rs := [12]) (by kernel_rfl) (by simp) ?_
                refine AllReady.cons rfl (fun K hK => ?_) AllReady.nil
                go_simp
                refine hK _ _ ?_
                clear hK K
                refine take_at (i := 13) (d := 13) (v := ?_) rfl rfl (by kernel_rfl) (by kernel_rfl) (by kernel_rfl) (fun _ _ _ h => h) (by kernel_rfl) ?_ ?_
                rotate_left
                · intro w; go_simp; try with_reducible rfl
                simp only [List.setIfInBounds_toArray, List.set_cons_succ, List.set_cons_zero]
                refine wpAny_done (by kernel_rfl) ?_ _
                go_wp2_with fail
                go_meet
                exact ⟨_, rfl, rfl, Lib.hid (QZ5.out.box.put t), Lib.hid (HDD.out _ (putV_below QB5.out QG5.out))⟩
          · refine step_append_sets3 (w0 := V0) (by rfl) (.tmp 46) (.tmp 47) (by rfl) V0.heap.size _ len1 L1 (by rfl) QO3.out len2 cap2 a2 L2 (by rfl) HL2.out HZ2.out QB3.out (Nat.le_refl _) HRG2.out (len1 + len2) rfl (by omega) (L1 ++ L2) rfl ?_
            intro v9 V4 hO8 b8 z8
            obtain ⟨A9, c9, rfl, hR9⟩ := rd_own hO8 HL12.out HM12.out
            have QR4 := Lib.hid hR9
            clear hR9
            have QO4 := Lib.hid hO8
            have QB4 := Lib.hid b8
            have QD4 := Lib.hid (QD0.out.below b8)
            have QZ4 := Lib.hid (z8 _ QZ3.out)
            have QG4 := QG3
            clear hO8 b8 z8
            refine hK _ _ ?_
            clear hK K
            refine wpAny_ready (rs := [0]) (by kernel_rfl) (by simp) ?_
            refine AllReady.cons rfl (fun K hK => ?_) (AllReady.nil)
            · obtain ⟨x0, x1, x2, x3, x4, x5⟩ := (QD4.out).cells
              go_simp
              clear x0 x1 x2 x3 x4 x5
              refine hK _ _ ?_
              clear hK K
              refine wpAny_ready (rs := [7]) (by kernel_rfl) (by simp) ?_
              refine AllReady.cons rfl (fun K hK => ?_) (AllReady.nil)
              · go_simp
                refine (HCA.out _ A9 c9 QR4.out).mono ?_
                rintro e V5 ⟨rfl, hB⟩
                obtain ⟨b8, z8⟩ := after_call QB4.out (Nat.le_refl _) hB
                have QB5 := Lib.hid b8
                have QD5 := Lib.hid (QD0.out.below b8)
                have QZ5 := Lib.hid (z8 _ QZ4.out)
                have QG5 := QG4
                clear hB b8 z8
                refine hK _ _ ?_
                clear hK K
                refine take_at (i := 8) (d := 41) (v := ?_) rfl rfl (by kernel_rfl) (by kernel_rfl) (by kernel_rfl) (fun _ _ _ h => h) (by kernel_rfl) ?_ ?_
                rotate_left
                · intro w; go_simp; try with_reducible rfl
                simp only [List.setIfInBounds_toArray, List.set_cons_succ, List.set_cons_zero]
                refine take_at (i := 9) (d := 50) (v := ?_) rfl rfl (by kernel_rfl) (by kernel_rfl) (by kernel_rfl) (fun _ _ _ h => h) (by kernel_rfl) ?_ ?_
                rotate_left
                · intro w; go_simp; try with_reducible rfl
                simp only [List.setIfInBounds_toArray, List.set_cons_succ, List.set_cons_zero]
                refine take_at (i := 10) (d := 51) (v := ?_) rfl rfl (by kernel_rfl) (by kernel_rfl) (by kernel_rfl) (fun _ _ _ h => h) (by kernel_rfl) ?_ ?_
                rotate_left
                · intro w; go_simp; try with_reducible rfl
                simp only [List.setIfInBounds_toArray, List.set_cons_succ, List.set_cons_zero]
                obtain ⟨e0, e1, e2, e3, e4, e5⟩ := (QZ5.out).box.cells
                have g0 := QZ5.out.box.frz 0
                have g1 := QZ5.out.box.frz 1
                have g2 := QZ5.out.box.frz 2
                have g3 := QZ5.out.box.frz 3
                have g4 := QZ5.out.box.frz 4
                have g5 := QZ5.out.box.frz 5
                refine wpAny_ready (rs := [12]) (by kernel_rfl) (by simp) ?_
                refine AllReady.cons rfl (fun K hK => ?_) AllReady.nil
                go_simp
                refine hK _ _ ?_
                clear hK K
                refine take_at (i := 13) (d := 13) (v := ?_) rfl rfl (by kernel_rfl) (by kernel_rfl) (by kernel_rfl) (fun _ _ _ h => h) (by kernel_rfl) ?_ ?_
                rotate_left
                · intro w; go_simp; try with_reducible rfl
                simp only [List.setIfInBounds_toArray, List.set_cons_succ, List.set_cons_zero]
                refine wpAny_done (by kernel_rfl) ?_ _
                go_wp2_with fail
                go_meet
                exact ⟨_, rfl, rfl, Lib.hid (QZ5.out.box.put t), Lib.hid (HDD.out _ (putV_below QB5.out QG5.out))⟩
      · go_simp
        refine hK _ _ ?_
        clear hK K
        have QD2 := Lib.hid (QD1.out.more (.cells #[.int .u32 0, .int .u32 0, .int .u32 0, .int .u32 0, .int .u32 0, .bool false] 26))
        have QB2 := Lib.hid (QB1.out.alloc QB1.out.size (.cells #[.int .u32 0, .int .u32 0, .int .u32 0, .int .u32 0, .int .u32 0, .bool false] 26))
        have QZ2 := Lib.hid (zero_new V1)
        have QE2 := Lib.hid ((heap_alloc_old V1 (.cells #[.int .u32 0, .int .u32 0, .int .u32 0, .int .u32 0, .int .u32 0, .bool false] 26) (world_lt3 QE1.out)).trans QE1.out)
        have QH2 := QH1
        obtain ⟨Z, hg⟩ : ∃ Z, V1.heap.size = Z := ⟨_, rfl⟩
        have QG2 : Hid (V0.heap.size ≤ Z) := Lib.hid (by rw [← hg]; exact QB1.out.size)
        rw [hg] at QZ2 ⊢
        clear hg
        obtain ⟨V2, hV⟩ : ∃ V, V1.alloc (.cells #[.int .u32 0, .int .u32 0, .int .u32 0, .int .u32 0, .int .u32 0, .bool false] 26) = V := ⟨_, rfl⟩
        rw [hV] at QD2 QB2 QE2 QZ2 ⊢
        clear hV
        refine wpAny_ready (rs := [0, 4]) (by kernel_rfl) (by simp) ?_
        refine AllReady.cons rfl (fun K hK => ?_) (AllReady.cons rfl (fun K hK => ?_) (AllReady.nil))
        · obtain ⟨x0, x1, x2, x3, x4, x5⟩ := (QD2.out).cells
          go_simp
          clear x0 x1 x2 x3 x4 x5
          refine hK _ _ ?_
          clear hK K
          refine wpAny_ready (rs := [4]) (by kernel_rfl) (by simp) ?_
          refine AllReady.cons rfl (fun K hK => ?_) (AllReady.nil)
          · refine step_append_sets3 (w0 := V0) (by rfl) (.tmp 44) (.tmp 45) (by rfl) V0.heap.size _ 0 [] (by rfl) (own_void QE2.out QH2.out) len1 cap1 a1 L1 (by rfl) HL1.out HZ1.out QB2.out (Nat.le_refl _) HRG1.out len1 (Nat.zero_add _) (by omega) L1 rfl ?_
            intro v8 V3 hO8 b8 z8
            have QO3 := Lib.hid hO8
            have QB3 := Lib.hid b8
            have QD3 := Lib.hid (QD0.out.below b8)
            have QZ3 := Lib.hid (z8 _ QZ2.out)
            have QG3 := QG2
            clear hO8 b8 z8
            refine hK _ _ ?_
            clear hK K
            refine wpAny_ready (rs := [6]) (by kernel_rfl) (by simp) ?_
            refine AllReady.cons rfl (fun K hK => ?_) (AllReady.nil)
            · refine step_append_sets3 (w0 := V0) (by rfl) (.tmp 46) (.tmp 47) (by rfl) V0.heap.size _ len1 L1 (by rfl) QO3.out len2 cap2 a2 L2 (by rfl) HL2.out HZ2.out QB3.out (Nat.le_refl _) HRG2.out (len1 + len2) rfl (by omega) (L1 ++ L2) rfl ?_
              intro v9 V4 hO8 b8 z8
              obtain ⟨A9, c9, rfl, hR9⟩ := rd_own hO8 HL12.out HM12.out
              have QR4 := Lib.hid hR9
              clear hR9
              have QO4 := Lib.hid hO8
              have QB4 := Lib.hid b8
              have QD4 := Lib.hid (QD0.out.below b8)
              have QZ4 := Lib.hid (z8 _ QZ3.out)
              have QG4 := QG3
              clear hO8 b8 z8
              refine hK _ _ ?_
              clear hK K
              refine wpAny_ready (rs := [7]) (by kernel_rfl) (by simp) ?_
              refine AllReady.cons rfl (fun K hK => ?_) (AllReady.nil)
              · go_simp
                refine (HCA.out _ A9 c9 QR4.out).mono ?_
                rintro e V5 ⟨rfl, hB⟩
                obtain ⟨b8, z8⟩ := after_call QB4.out (Nat.le_refl _) hB
                have QB5 := Lib.hid b8
                have QD5 := Lib.hid (QD0.out.below b8)
                have QZ5 := Lib.hid (z8 _ QZ4.out)
                have QG5 := QG4
                clear hB b8 z8
                refine hK _ _ ?_
                clear hK K
                refine take_at (i := 8) (d := 41) (v := ?_) rfl rfl (by kernel_rfl) (by kernel_rfl) (by kernel_rfl) (fun _ _ _ h => h) (by kernel_rfl) ?_ ?_
                rotate_left
                · intro w; go_simp; try with_reducible rfl
                simp only [List.setIfInBounds_toArray, List.set_cons_succ, List.set_cons_zero]
                refine take_at (i := 9) (d := 50) (v := ?_) rfl rfl (by kernel_rfl) (by kernel_rfl) (by kernel_rfl) (fun _ _ _ h => h) (by kernel_rfl) ?_ ?_
                rotate_left
                · intro w; go_simp; try with_reducible rfl
                simp only [List.setIfInBounds_toArray, List.set_cons_succ, List.set_cons_zero]
                refine take_at (i := 10) (d := 51) (v := ?_) rfl rfl (by kernel_rfl) (by kernel_rfl) (by kernel_rfl) (fun _ _ _ h => h) (by kernel_rfl) ?_ ?_
                rotate_left
                · intro w; go_simp; try with_reducible rfl
                simp only [List.setIfInBounds_toArray, List.set_cons_succ, List.set_cons_zero]
                obtain ⟨e0, e1, e2, e3, e4, e5⟩ := (QZ5.out).box.cells
                have g0 := QZ5.out.box.frz 0
                have g1 := QZ5.out.box.frz 1
                have g2 := QZ5.out.box.frz 2
                have g3 := QZ5.out.box.frz 3
                have g4 := QZ5.out.box.frz 4
                have g5 := QZ5.out.box.frz 5
                refine wpAny_ready (rs := [12]) (by kernel_rfl) (by simp) ?_
                refine AllReady.cons rfl (fun K hK => ?_) AllReady.nil
                go_simp
                refine hK _ _ ?_
                clear hK K
                refine take_at (i := 13) (d := 13) (v := ?_) rfl rfl (by kernel_rfl) (by kernel_rfl) (by kernel_rfl) (fun _ _ _ h => h) (by kernel_rfl) ?_ ?_
                rotate_left
                · intro w; go_simp; try with_reducible rfl
                simp only [List.setIfInBounds_toArray, List.set_cons_succ, List.set_cons_zero]
                refine wpAny_done (by kernel_rfl) ?_ _
                go_wp2_with fail
                go_meet
                exact ⟨_, rfl, rfl, Lib.hid (QZ5.out.box.put t), Lib.hid (HDD.out _ (putV_below QB5.out QG5.out))⟩
        · refine step_append_sets3 (w0 := V0) (by rfl) (.tmp 44) (.tmp 45) (by rfl) V0.heap.size _ 0 [] (by rfl) (own_void QE2.out QH2.out) len1 cap1 a1 L1 (by rfl) HL1.out HZ1.out QB2.out (Nat.le_refl _) HRG1.out len1 (Nat.zero_add _) (by omega) L1 rfl ?_
          intro v8 V3 hO8 b8 z8
          have QO3 := Lib.hid hO8
          have QB3 := Lib.hid b8
          have QD3 := Lib.hid (QD0.out.below b8)
          have QZ3 := Lib.hid (z8 _ QZ2.out)
          have QG3 := QG2
          clear hO8 b8 z8
          refine hK _ _ ?_
          clear hK K
          refine wpAny_ready (rs := [0, 6]) (by kernel_rfl) (by simp) ?_
          refine AllReady.cons rfl (fun K hK => ?_) (AllReady.cons rfl (fun K hK => ?_) (AllReady.nil))
          · obtain ⟨x0, x1, x2, x3, x4, x5⟩ := (QD3.out).cells
            go_simp
            clear x0 x1 x2 x3 x4 x5
            refine hK _ _ ?_
            clear hK K
            refine wpAny_ready (rs := [6]) (by kernel_rfl) (by simp) ?_
            refine AllReady.cons rfl (fun K hK => ?_) (AllReady.nil)
            · refine step_append_sets3 (w0 := V0) (by rfl) (.tmp 46) (.tmp 47) (by rfl) V0.heap.size _ len1 L1 (by rfl) QO3.out len2 cap2 a2 L2 (by rfl) HL2.out HZ2.out QB3.out (Nat.le_refl _) HRG2.out (len1 + len2) rfl (by omega) (L1 ++ L2) rfl ?_
              intro v9 V4 hO8 b8 z8
              obtain ⟨A9, c9, rfl, hR9⟩ := rd_own hO8 HL12.out HM12.out
              have QR4 := Lib.hid hR9
              clear hR9
              have QO4 := Lib.hid hO8
              have QB4 := Lib.hid b8
              have QD4 := Lib.hid (QD0.out.below b8)
              have QZ4 := Lib.hid (z8 _ QZ3.out)
              have QG4 := QG3
              clear hO8 b8 z8
              refine hK _ _ ?_
              clear hK K
              refine wpAny_ready (rs := [7]) (by kernel_rfl) (by simp) ?_
              refine AllReady.cons rfl (fun K hK => ?_) (AllReady.nil)
              · go_simp
                refine (HCA.out _ A9 c9 QR4.out).mono ?_
                rintro e V5 ⟨rfl, hB⟩
                obtain ⟨b8, z8⟩ := after_call QB4.out (Nat.le_refl _) hB
                have QB5 := Lib.hid b8
                have QD5 := Lib.hid (QD0.out.below b8)
                have QZ5 := Lib.hid (z8 _ QZ4.out)
                have QG5 := QG4
                clear hB b8 z8
                refine hK _ _ ?_
                clear hK K
                refine take_at (i := 8) (d := 41) (v := ?_) rfl rfl (by kernel_rfl) (by kernel_rfl) (by kernel_rfl) (fun _ _ _ h => h) (by kernel_rfl) ?_ ?_
                rotate_left
                · intro w; go_simp; try with_reducible rfl
                simp only [List.setIfInBounds_toArray, List.set_cons_succ, List.set_cons_zero]
                refine take_at (i := 9) (d := 50) (v := ?_) rfl rfl (by kernel_rfl) (by kernel_rfl) (by kernel_rfl) (fun _ _ _ h => h) (by kernel_rfl) ?_ ?_
                rotate_left
                · intro w; go_simp; try with_reducible rfl
                simp only [List.setIfInBounds_toArray, List.set_cons_succ, List.set_cons_zero]
                refine take_at (i := 10) (d := 51) (v := ?_) rfl rfl (by kernel_rfl) (by kernel_rfl) (by kernel_rfl) (fun _ _ _ h => h) (by kernel_rfl) ?_ ?_
                rotate_left
                · intro w; go_simp; try with_reducible rfl
                simp only [List.setIfInBounds_toArray, List.set_cons_succ, List.set_cons_zero]
                obtain ⟨e0, e1, e2, e3, e4, e5⟩ := (QZ5.out).box.cells
                have g0 := QZ5.out.box.frz 0
                have g1 := QZ5.out.box.frz 1
                have g2 := QZ5.out.box.frz 2
                have g3 := QZ5.out.box.frz 3
                have g4 := QZ5.out.box.frz 4
                have g5 := QZ5.out.box.frz 5
                refine wpAny_ready (rs := [12]) (by kernel_rfl) (by simp) ?_
                refine AllReady.cons rfl (fun K hK => ?_) AllReady.nil
                go_simp
                refine hK _ _ ?_
                clear hK K
                refine take_at (i := 13) (d := 13) (v := ?_) rfl rfl (by kernel_rfl) (by kernel_rfl) (by kernel_rfl) (fun _ _ _ h => h) (by kernel_rfl) ?_ ?_
                rotate_left
                · intro w; go_simp; try with_reducible rfl
                simp only [List.setIfInBounds_toArray, List.set_cons_succ, List.set_cons_zero]
                refine wpAny_done (by kernel_rfl) ?_ _
                go_wp2_with fail
                go_meet
                exact ⟨_, rfl, rfl, Lib.hid (QZ5.out.box.put t), Lib.hid (HDD.out _ (putV_below QB5.out QG5.out))⟩
          · refine step_append_sets3 (w0 := V0) (by rfl) (.tmp 46) (.tmp 47) (by rfl) V0.heap.size _ len1 L1 (by rfl) QO3.out len2 cap2 a2 L2 (by rfl) HL2.out HZ2.out QB3.out (Nat.le_refl _) HRG2.out (len1 + len2) rfl (by omega) (L1 ++ L2) rfl ?_
            intro v9 V4 hO8 b8 z8
            obtain ⟨A9, c9, rfl, hR9⟩ := rd_own hO8 HL12.out HM12.out
            have QR4 := Lib.hid hR9
            clear hR9
            have QO4 := Lib.hid hO8
            have QB4 := Lib.hid b8
            have QD4 := Lib.hid (QD0.out.below b8)
            have QZ4 := Lib.hid (z8 _ QZ3.out)
            have QG4 := QG3
            clear hO8 b8 z8
            refine hK _ _ ?_
            clear hK K
            refine wpAny_ready (rs := [0]) (by kernel_rfl) (by simp) ?_
            refine AllReady.cons rfl (fun K hK => ?_) (AllReady.nil)
            · obtain ⟨x0, x1, x2, x3, x4, x5⟩ := (QD4.out).cells
              go_simp
              clear x0 x1 x2 x3 x4 x5
              refine hK _ _ ?_
              clear hK K
              refine wpAny_ready (rs := [7]) (by kernel_rfl) (by simp) ?_
              refine AllReady.cons rfl (fun K hK => ?_) (AllReady.nil)
              · go_simp
                refine (HCA.out _ A9 c9 QR4.out).mono ?_
                rintro e V5 ⟨rfl, hB⟩
                obtain ⟨b8, z8⟩ := after_call QB4.out (Nat.le_refl _) hB
                have QB5 := Lib.hid b8
                have QD5 := Lib.hid (QD0.out.below b8)
                have QZ5 := Lib.hid (z8 _ QZ4.out)
                have QG5 := QG4
                clear hB b8 z8
                refine hK _ _ ?_
                clear hK K
                refine take_at (i := 8) (d := 41) (v := ?_) rfl rfl (by kernel_rfl) (by kernel_rfl) (by kernel_rfl) (fun _ _ _ h => h) (by kernel_rfl) ?_ ?_
                rotate_left
                · intro w; go_simp; try with_reducible rfl
                simp only [List.setIfInBounds_toArray, List.set_cons_succ, List.set_cons_zero]
                refine take_at (i := 9) (d := 50) (v := ?_) rfl rfl (by kernel_rfl) (by kernel_rfl) (by kernel_rfl) (fun _ _ _ h => h) (by kernel_rfl) ?_ ?_
                rotate_left
                · intro w; go_simp; try with_reducible rfl
                simp only [List.setIfInBounds_toArray, List.set_cons_succ, List.set_cons_zero]
                refine take_at (i := 10) (d := 51) (v := ?_) rfl rfl (by kernel_rfl) (by kernel_rfl) (by kernel_rfl) (fun _ _ _ h => h) (by kernel_rfl) ?_ ?_
                rotate_left
                · intro w; go_simp; try with_reducible rfl
                simp only [List.setIfInBounds_toArray, List.set_cons_succ, List.set_cons_zero]
                obtain ⟨e0, e1, e2, e3, e4, e5⟩ := (QZ5.out).box.cells
                have g0 := QZ5.out.box.frz 0
                have g1 := QZ5.out.box.frz 1
                have g2 := QZ5.out.box.frz 2
                have g3 := QZ5.out.box.frz 3
                have g4 := QZ5.out.box.frz 4
                have g5 := QZ5.out.box.frz 5
                refine wpAny_ready (rs := [12]) (by kernel_rfl) (by simp) ?_
                refine AllReady.cons rfl (fun K hK => ?_) AllReady.nil
                go_simp
                refine hK _ _ ?_
                clear hK K
                refine take_at (i := 13) (d := 13) (v := ?_) rfl rfl (by kernel_rfl) (by kernel_rfl) (by kernel_rfl) (fun _ _ _ h => h) (by kernel_rfl) ?_ ?_
                rotate_left
                · intro w; go_simp; try with_reducible rfl
                simp only [List.setIfInBounds_toArray, List.set_cons_succ, List.set_cons_zero]
                refine wpAny_done (by kernel_rfl) ?_ _
                go_wp2_with fail
                go_meet
                exact ⟨_, rfl, rfl, Lib.hid (QZ5.out.box.put t), Lib.hid (HDD.out _ (putV_below QB5.out QG5.out))⟩
    · go_simp
      refine hK _ _ ?_
      clear hK K
      have QD1 := Lib.hid (QD0.out.more (.cells #[.int .u32 0, .int .u32 0, .int .u32 0, .int .u32 0, .int .u32 0, .bool false] 26))
      have QB1 := Lib.hid (QB0.out.alloc QB0.out.size (.cells #[.int .u32 0, .int .u32 0, .int .u32 0, .int .u32 0, .int .u32 0, .bool false] 26))
      have QZ1 := Lib.hid (zero_new V0)
      obtain ⟨Z, hg⟩ : ∃ Z, V0.heap.size = Z := ⟨_, rfl⟩
      have QG1 : Hid (V0.heap.size ≤ Z) := Lib.hid (by rw [← hg]; exact QB0.out.size)
      rw [hg] at QZ1 ⊢
      clear hg
      obtain ⟨V1, hV⟩ : ∃ V, V0.alloc (.cells #[.int .u32 0, .int .u32 0, .int .u32 0, .int .u32 0, .int .u32 0, .bool false] 26) = V := ⟨_, rfl⟩
      rw [hV] at QD1 QB1 QZ1 ⊢
      clear hV
      refine wpAny_ready (rs := [0, 2]) (by kernel_rfl) (by simp) ?_
      refine AllReady.cons rfl (fun K hK => ?_) (AllReady.cons rfl (fun K hK => ?_) (AllReady.nil))
      · obtain ⟨x0, x1, x2, x3, x4, x5⟩ := (QD1.out).cells
        go_simp
        clear x0 x1 x2 x3 x4 x5
        refine hK _ _ ?_
        clear hK K
        refine wpAny_ready (rs := [2]) (by kernel_rfl) (by simp) ?_
        refine AllReady.cons rfl (fun K hK => ?_) (AllReady.nil)
        · go_simp
          refine hK _ _ ?_
          clear hK K
          have QD2 := Lib.hid (QD1.out.more (.cells #[] 48))
          have QB2 := Lib.hid (QB1.out.alloc QB1.out.size (.cells #[] 48))
          have QE2 := Lib.hid (heap_alloc_new V1 (.cells #[] 48))
          have QZ2 := Lib.hid (QZ1.out.more (.cells #[] 48))
          have QG2 := QG1
          obtain ⟨g, hg⟩ : ∃ g, V1.heap.size = g := ⟨_, rfl⟩
          have QH2 : Hid (V0.heap.size ≤ g) := Lib.hid (by rw [← hg]; exact QB1.out.size)
          rw [hg] at QE2 ⊢
          clear hg
          obtain ⟨V2, hV⟩ : ∃ V, V1.alloc (.cells #[] 48) = V := ⟨_, rfl⟩
          rw [hV] at QD2 QB2 QE2 QZ2 ⊢
          clear hV
          refine wpAny_ready (rs := [4]) (by kernel_rfl) (by simp) ?_
          refine AllReady.cons rfl (fun K hK => ?_) (AllReady.nil)
          · refine step_append_sets3 (w0 := V0) (by rfl) (.tmp 44) (.tmp 45) (by rfl) V0.heap.size _ 0 [] (by rfl) (own_void QE2.out QH2.out) len1 cap1 a1 L1 (by rfl) HL1.out HZ1.out QB2.out (Nat.le_refl _) HRG1.out len1 (Nat.zero_add _) (by omega) L1 rfl ?_
            intro v8 V3 hO8 b8 z8
            have QO3 := Lib.hid hO8
            have QB3 := Lib.hid b8
            have QD3 := Lib.hid (QD0.out.below b8)
            have QZ3 := Lib.hid (z8 _ QZ2.out)
            have QG3 := QG2
            clear hO8 b8 z8
            refine hK _ _ ?_
            clear hK K
            refine wpAny_ready (rs := [6]) (by kernel_rfl) (by simp) ?_
            refine AllReady.cons rfl (fun K hK => ?_) (AllReady.nil)
            · refine step_append_sets3 (w0 := V0) (by rfl) (.tmp 46) (.tmp 47) (by rfl) V0.heap.size _ len1 L1 (by rfl) QO3.out len2 cap2 a2 L2 (by rfl) HL2.out HZ2.out QB3.out (Nat.le_refl _) HRG2.out (len1 + len2) rfl (by omega) (L1 ++ L2) rfl ?_
              intro v9 V4 hO8 b8 z8
              obtain ⟨A9, c9, rfl, hR9⟩ := rd_own hO8 HL12.out HM12.out
              have QR4 := Lib.hid hR9
              clear hR9
              have QO4 := Lib.hid hO8
              have QB4 := Lib.hid b8
              have QD4 := Lib.hid (QD0.out.below b8)
              have QZ4 := Lib.hid (z8 _ QZ3.out)
              have QG4 := QG3
              clear hO8 b8 z8
              refine hK _ _ ?_
              clear hK K
              refine wpAny_ready (rs := [7]) (by kernel_rfl) (by simp) ?_
              refine AllReady.cons rfl (fun K hK => ?_) (AllReady.nil)
              · go_simp
                refine (HCA.out _ A9 c9 QR4.out).mono ?_
                rintro e V5 ⟨rfl, hB⟩
                obtain ⟨b8, z8⟩ := after_call QB4.out (Nat.le_refl _) hB
                have QB5 := Lib.hid b8
                have QD5 := Lib.hid (QD0.out.below b8)
                have QZ5 := Lib.hid (z8 _ QZ4.out)
                have QG5 := QG4
                clear hB b8 z8
                refine hK _ _ ?_
                clear hK K
                refine take_at (i := 8) (d := 41) (v := ?_) rfl rfl (by kernel_rfl) (by kernel_rfl) (by kernel_rfl) (fun _ _ _ h => h) (by kernel_rfl) ?_ ?_
                rotate_left
                · intro w; go_simp; try with_reducible rfl
                simp only [List.setIfInBounds_toArray, List.set_cons_succ, List.set_cons_zero]
                refine take_at (i := 9) (d := 50) (v := ?_) rfl rfl (by kernel_rfl) (by kernel_rfl) (by kernel_rfl) (fun _ _ _ h => h) (by kernel_rfl) ?_ ?_
                rotate_left
                · intro w; go_simp; try with_reducible rfl
                simp only [List.setIfInBounds_toArray, List.set_cons_succ, List.set_cons_zero]
                refine take_at (i := 10) (d := 51) (v := ?_) rfl rfl (by kernel_rfl) (by kernel_rfl) (by kernel_rfl) (fun _ _ _ h => h) (by kernel_rfl) ?_ ?_
                rotate_left
                · intro w; go_simp; try with_reducible rfl
                simp only [List.setIfInBounds_toArray, List.set_cons_succ, List.set_cons_zero]
                obtain ⟨e0, e1, e2, e3, e4, e5⟩ := (QZ5.out).box.cells
                have g0 := QZ5.out.box.frz 0
                have g1 := QZ5.out.box.frz 1
                have g2 := QZ5.out.box.frz 2
                have g3 := QZ5.out.box.frz 3
                have g4 := QZ5.out.box.frz 4
                have g5 := QZ5.out.box.frz 5
                refine wpAny_ready (rs := [12]) (by kernel_rfl) (by simp) ?_
                refine AllReady.cons rfl (fun K hK => ?_) AllReady.nil
                go_simp
                refine hK _ _ ?_
                clear hK K
                refine take_at (i := 13) (d := 13) (v := ?_) rfl rfl (by kernel_rfl) (by kernel_rfl) (by kernel_rfl) (fun _ _ _ h => h) (by kernel_rfl) ?_ ?_
                rotate_left
                · intro w; go_simp; try with_reducible rfl
                simp only [List.setIfInBounds_toArray, List.set_cons_succ, List.set_cons_zero]
                refine wpAny_done (by kernel_rfl) ?_ _
                go_wp2_with fail
                go_meet
                exact ⟨_, rfl, rfl, Lib.hid (QZ5.out.box.put t), Lib.hid (HDD.out _ (putV_below QB5.out QG5.out))⟩
      · go_simp
        refine hK _ _ ?_
        clear hK K
        have QD2 := Lib.hid (QD1.out.more (.cells #[] 48))
        have QB2 := Lib.hid (QB1.out.alloc QB1.out.size (.cells #[] 48))
        have QE2 := Lib.hid (heap_alloc_new V1 (.cells #[] 48))
        have QZ2 := Lib.hid (QZ1.out.more (.cells #[] 48))
        have QG2 := QG1
        obtain ⟨g, hg⟩ : ∃ g, V1.heap.size = g := ⟨_, rfl⟩
        have QH2 : Hid (V0.heap.size ≤ g) := Lib.hid (by rw [← hg]; exact QB1.out.size)
        rw [hg] at QE2 ⊢
        clear hg
        obtain ⟨V2, hV⟩ : ∃ V, V1.alloc (.cells #[] 48) = V := ⟨_, rfl⟩
        rw [hV] at QD2 QB2 QE2 QZ2 ⊢
        clear hV
        refine wpAny_ready (rs := [0, 4]) (by kernel_rfl) (by simp) ?_
        refine AllReady.cons rfl (fun K hK => ?_) (AllReady.cons rfl (fun K hK => ?_) (AllReady.nil))
        · obtain ⟨x0, x1, x2, x3, x4, x5⟩ := (QD2.out).cells
          go_simp
          clear x0 x1 x2 x3 x4 x5
          refine hK _ _ ?_
          clear hK K
          refine wpAny_ready (rs := [4]) (by kernel_rfl) (by simp) ?_
          refine AllReady.cons rfl (fun K hK => ?_) (AllReady.nil)
          · refine step_append_sets3 (w0 := V0) (by rfl) (.tmp 44) (.tmp 45) (by rfl) V0.heap.size _ 0 [] (by rfl) (own_void QE2.out QH2.out) len1 cap1 a1 L1 (by rfl) HL1.out HZ1.out QB2.out (Nat.le_refl _) HRG1.out len1 (Nat.zero_add _) (by omega) L1 rfl ?_
            intro v8 V3 hO8 b8 z8
            have QO3 := Lib.hid hO8
            have QB3 := Lib.hid b8
            have QD3 := Lib.hid (QD0.out.below b8)
            have QZ3 := Lib.hid (z8 _ QZ2.out)
            have QG3 := QG2
            clear hO8 b8 z8
            refine hK _ _ ?_
            clear hK K
            refine wpAny_ready (rs := [6]) (by kernel_rfl) (by simp) ?_
            refine AllReady.cons rfl (fun K hK => ?_) (AllReady.nil)
            · refine step_append_sets3 (w0 := V0) (by rfl) (.tmp 46) (.tmp 47) (by rfl) V0.heap.size _ len1 L1 (by rfl) QO3.out len2 cap2 a2 L2 (by rfl) HL2.out HZ2.out QB3.out (Nat.le_refl _) HRG2.out (len1 + len2) rfl (by omega) (L1 ++ L2) rfl ?_
              intro v9 V4 hO8 b8 z8
              obtain ⟨A9, c9, rfl, hR9⟩ := rd_own hO8 HL12.out HM12.out
              have QR4 := Lib.hid hR9
              clear hR9
              have QO4 := Lib.hid hO8
              have QB4 := Lib.hid b8
              have QD4 := Lib.hid (QD0.out.below b8)
              have QZ4 := Lib.hid (z8 _ QZ3.out)
              have QG4 := QG3
              clear hO8 b8 z8
              refine hK _ _ ?_
              clear hK K
              refine wpAny_ready (rs := [7]) (by kernel_rfl) (by simp) ?_
              refine AllReady.cons rfl (fun K hK => ?_) (AllReady.nil)
              · go_simp
                refine (HCA.out _ A9 c9 QR4.out).mono ?_
                rintro e V5 ⟨rfl, hB⟩
                obtain ⟨b8, z8⟩ := after_call QB4.out (Nat.le_refl _) hB
                have QB5 := Lib.hid b8
                have QD5 := Lib.hid (QD0.out.below b8)
                have QZ5 := Lib.hid (z8 _ QZ4.out)
                have QG5 := QG4
                clear hB b8 z8
                refine hK _ _ ?_
                clear hK K
                refine take_at (i := 8) (d := 41) (v := ?_) rfl rfl (by kernel_rfl) (by kernel_rfl) (by kernel_rfl) (fun _ _ _ h => h) (by kernel_rfl) ?_ ?_
                rotate_left
                · intro w; go_simp; try with_reducible rfl
                simp only [List.setIfInBounds_toArray, List.set_cons_succ, List.set_cons_zero]
                refine take_at (i := 9) (d := 50) (v := ?_) rfl rfl (by kernel_rfl) (by kernel_rfl) (by kernel_rfl) (fun _ _ _ h => h) (by kernel_rfl) ?_ ?_
                rotate_left
                · intro w; go_simp; try with_reducible rfl
                simp only [List.setIfInBounds_toArray, List.set_cons_succ, List.set_cons_zero]
                refine take_at (i := 10) (d := 51) (v := ?_) rfl rfl (by kernel_rfl) (by kernel_rfl) (by kernel_rfl) (fun _ _ _ h => h) (by kernel_rfl) ?_ ?_
                rotate_left
                · intro w; go_simp; try with_reducible rfl
                simp only [List.setIfInBounds_toArray, List.set_cons_succ, List.set_cons_zero]
                obtain ⟨e0, e1, e2, e3, e4, e5⟩ := (QZ5.out).box.cells
                have g0 := QZ5.out.box.frz 0
                have g1 := QZ5.out.box.frz 1
                have g2 := QZ5.out.box.frz 2
                have g3 := QZ5.out.box.frz 3
                have g4 := QZ5.out.box.frz 4
                have g5 := QZ5.out.box.frz 5
                refine wpAny_ready (rs := [12]) (by kernel_rfl) (by simp) ?_
                refine AllReady.cons rfl (fun K hK => ?_) AllReady.nil
                go_simp
                refine hK _ _ ?_
                clear hK K
                refine take_at (i := 13) (d := 13) (v := ?_) rfl rfl (by kernel_rfl) (by kernel_rfl) (by kernel_rfl) (fun _ _ _ h => h) (by kernel_rfl) ?_ ?_
                rotate_left
                · intro w; go_simp; try with_reducible rfl
                simp only [List.setIfInBounds_toArray, List.set_cons_succ, List.set_cons_zero]
                refine wpAny_done (by kernel_rfl) ?_ _
                go_wp2_with fail
                go_meet
                exact ⟨_, rfl, rfl, Lib.hid (QZ5.out.box.put t), Lib.hid (HDD.out _ (putV_below QB5.out QG5.out))⟩
        · refine step_append_sets3 (w0 := V0) (by rfl) (.tmp 44) (.tmp 45) (by rfl) V0.heap.size _ 0 [] (by rfl) (own_void QE2.out QH2.out) len1 cap1 a1 L1 (by rfl) HL1.out HZ1.out QB2.out (Nat.le_refl _) HRG1.out len1 (Nat.zero_add _) (by omega) L1 rfl ?_
          intro v8 V3 hO8 b8 z8
          have QO3 := Lib.hid hO8
          have QB3 := Lib.hid b8
          have QD3 := Lib.hid (QD0.out.below b8)
          have QZ3 := Lib.hid (z8 _ QZ2.out)
          have QG3 := QG2
          clear hO8 b8 z8
          refine hK _ _ ?_
          clear hK K
          refine wpAny_ready (rs := [0, 6]) (by kernel_rfl) (by simp) ?_
          refine AllReady.cons rfl (fun K hK => ?_) (AllReady.cons rfl (fun K hK => ?_) (AllReady.nil))
          · obtain ⟨x0, x1, x2, x3, x4, x5⟩ := (QD3.out).cells
            go_simp
            clear x0 x1 x2 x3 x4 x5
            refine hK _ _ ?_
            clear hK K
            refine wpAny_ready (rs := [6]) (by kernel_rfl) (by simp) ?_
            refine AllReady.cons rfl (fun K hK => ?_) (AllReady.nil)
            · refine step_append_sets3 (w0 := V0) (by rfl) (.tmp 46) (.tmp 47) (by rfl) V0.heap.size _ len1 L1 (by rfl) QO3.out len2 cap2 a2 L2 (by rfl) HL2.out HZ2.out QB3.out (Nat.le_refl _) HRG2.out (len1 + len2) rfl (by omega) (L1 ++ L2) rfl ?_
              intro v9 V4 hO8 b8 z8
              obtain ⟨A9, c9, rfl, hR9⟩ := rd_own hO8 HL12.out HM12.out
              have QR4 := Lib.hid hR9
              clear hR9
              have QO4 := Lib.hid hO8
              have QB4 := Lib.hid b8
              have QD4 := Lib.hid (QD0.out.below b8)
              have QZ4 := Lib.hid (z8 _ QZ3.out)
              have QG4 := QG3
              clear hO8 b8 z8
              refine hK _ _ ?_
              clear hK K
              refine wpAny_ready (rs := [7]) (by kernel_rfl) (by simp) ?_
              refine AllReady.cons rfl (fun K hK => ?_) (AllReady.nil)
              · go_simp
                refine (HCA.out _ A9 c9 QR4.out).mono ?_
                rintro e V5 ⟨rfl, hB⟩
                obtain ⟨b8, z8⟩ := after_call QB4.out (Nat.le_refl _) hB
                have QB5 := Lib.hid b8
                have QD5 := Lib.hid (QD0.out.below b8)
                have QZ5 := Lib.hid (z8 _ QZ4.out)
                have QG5 := QG4
                clear hB b8 z8
                refine hK _ _ ?_
                clear hK K
                refine take_at (i := 8) (d := 41) (v := ?_) rfl rfl (by kernel_rfl) (by kernel_rfl) (by kernel_rfl) (fun _ _ _ h => h) (by kernel_rfl) ?_ ?_
                rotate_left
                · intro w; go_simp; try with_reducible rfl
                simp only [List.setIfInBounds_toArray, List.set_cons_succ, List.set_cons_zero]
                refine take_at (i := 9) (d := 50) (v := ?_) rfl rfl (by kernel_rfl) (by kernel_rfl) (by kernel_rfl) (fun _ _ _ h => h) (by kernel_rfl) ?_ ?_
                rotate_left
                · intro w; go_simp; try with_reducible rfl
                simp only [List.setIfInBounds_toArray, List.set_cons_succ, List.set_cons_zero]
                refine take_at (i := 10) (d := 51) (v := ?_) rfl rfl (by kernel_rfl) (by kernel_rfl) (by kernel_rfl) (fun _ _ _ h => h) (by kernel_rfl) ?_ ?_
                rotate_left
                · intro w; go_simp; try with_reducible rfl
                simp only [List.setIfInBounds_toArray, List.set_cons_succ, List.set_cons_zero]
                obtain ⟨e0, e1, e2, e3, e4, e5⟩ := (QZ5.out).box.cells
                have g0 := QZ5.out.box.frz 0
                have g1 := QZ5.out.box.frz 1
                have g2 := QZ5.out.box.frz 2
                have g3 := QZ5.out.box.frz 3
                have g4 := QZ5.out.box.frz 4
                have g5 := QZ5.out.box.frz 5
                refine wpAny_ready (rs := [12]) (by kernel_rfl) (by simp) ?_
                refine AllReady.cons rfl (fun K hK => ?_) AllReady.nil
                go_simp
                refine hK _ _ ?_
                clear hK K
                refine take_at (i := 13) (d := 13) (v := ?_) rfl rfl (by kernel_rfl) (by kernel_rfl) (by kernel_rfl) (fun _ _ _ h => h) (by kernel_rfl) ?_ ?_
                rotate_left
                · intro w; go_simp; try with_reducible rfl
                simp only [List.setIfInBounds_toArray, List.set_cons_succ, List.set_cons_zero]
                refine wpAny_done (by kernel_rfl) ?_ _
                go_wp2_with fail
                go_meet
                exact ⟨_, rfl, rfl, Lib.hid (QZ5.out.box.put t), Lib.hid (HDD.out _ (putV_below QB5.out QG5.out))⟩
          · refine step_append_sets3 (w0 := V0) (by rfl) (.tmp 46) (.tmp 47) (by rfl) V0.heap.size _ len1 L1 (by rfl) QO3.out len2 cap2 a2 L2 (by rfl) HL2.out HZ2.out QB3.out (Nat.le_refl _) HRG2.out (len1 + len2) rfl (by omega) (L1 ++ L2) rfl ?_
            intro v9 V4 hO8 b8 z8
            obtain ⟨A9, c9, rfl, hR9⟩ := rd_own hO8 HL12.out HM12.out
            have QR4 := Lib.hid hR9
            clear hR9
            have QO4 := Lib.hid hO8
            have QB4 := Lib.hid b8
            have QD4 := Lib.hid (QD0.out.below b8)
            have QZ4 := Lib.hid (z8 _ QZ3.out)
            have QG4 := QG3
            clear hO8 b8 z8
            refine hK _ _ ?_
            clear hK K
            refine wpAny_ready (rs := [0]) (by kernel_rfl) (by simp) ?_
            refine AllReady.cons rfl (fun K hK => ?_) (AllReady.nil)
            · obtain ⟨x0, x1, x2, x3, x4, x5⟩ := (QD4.out).cells
              go_simp
              clear x0 x1 x2 x3 x4 x5
              refine hK _ _ ?_
              clear hK K
              refine wpAny_ready (rs := [7]) (by kernel_rfl) (by simp) ?_
              refine AllReady.cons rfl (fun K hK => ?_) (AllReady.nil)
              · go_simp
                refine (HCA.out _ A9 c9 QR4.out).mono ?_
                rintro e V5 ⟨rfl, hB⟩
                obtain ⟨b8, z8⟩ := after_call QB4.out (Nat.le_refl _) hB
                have QB5 := Lib.hid b8
                have QD5 := Lib.hid (QD0.out.below b8)
                have QZ5 := Lib.hid (z8 _ QZ4.out)
                have QG5 := QG4
                clear hB b8 z8
                refine hK _ _ ?_
                clear hK K
                refine take_at (i := 8) (d := 41) (v := ?_) rfl rfl (by kernel_rfl) (by kernel_rfl) (by kernel_rfl) (fun _ _ _ h => h) (by kernel_rfl) ?_ ?_
                rotate_left
                · intro w; go_simp; try with_reducible rfl
                simp only [List.setIfInBounds_toArray, List.set_cons_succ, List.set_cons_zero]
                refine take_at (i := 9) (d := 50) (v := ?_) rfl rfl (by kernel_rfl) (by kernel_rfl) (by kernel_rfl) (fun _ _ _ h => h) (by kernel_rfl) ?_ ?_
                rotate_left
                · intro w; go_simp; try with_reducible rfl
                simp only [List.setIfInBounds_toArray, List.set_cons_succ, List.set_cons_zero]
                refine take_at (i := 10) (d := 51) (v := ?_) rfl rfl (by kernel_rfl) (by kernel_rfl) (by kernel_rfl) (fun _ _ _ h => h) (by kernel_rfl) ?_ ?_
                rotate_left
                · intro w; go_simp; try with_reducible rfl
                simp only [List.setIfInBounds_toArray, List.set_cons_succ, List.set_cons_zero]
                obtain ⟨e0, e1, e2, e3, e4, e5⟩ := (QZ5.out).box.cells
                have g0 := QZ5.out.box.frz 0
                have g1 := QZ5.out.box.frz 1
                have g2 := QZ5.out.box.frz 2
                have g3 := QZ5.out.box.frz 3
                have g4 := QZ5.out.box.frz 4
                have g5 := QZ5.out.box.frz 5
                refine wpAny_ready (rs := [12]) (by kernel_rfl) (by simp) ?_
                refine AllReady.cons rfl (fun K hK => ?_) AllReady.nil
                go_simp
                refine hK _ _ ?_
                clear hK K
                refine take_at (i := 13) (d := 13) (v := ?_) rfl rfl (by kernel_rfl) (by kernel_rfl) (by kernel_rfl) (fun _ _ _ h => h) (by kernel_rfl) ?_ ?_
                rotate_left
                · intro w; go_simp; try with_reducible rfl
                simp only [List.setIfInBounds_toArray, List.set_cons_succ, List.set_cons_zero]
                refine wpAny_done (by kernel_rfl) ?_ _
                go_wp2_with fail
                go_meet
                exact ⟨_, rfl, rfl, Lib.hid (QZ5.out.box.put t), Lib.hid (HDD.out _ (putV_below QB5.out QG5.out))⟩
  case rest =>
    obtain ⟨Z, rfl, rfl, HZ8, HBZ⟩ := hcut
    generalize wc = w8 at *
    have HB8 := Lib.hid (HB7.out.trans (HBZ.out.mono HB7.out.size))
    have HD8 := Lib.hid (HD7.out.below HBZ.out)
    have HV8 := Lib.hid (HV7.out.below HBZ.out)
    have HU8 := Lib.hid (HU7.out.below HBZ.out)
    clear HB7 HD7 HV7 HU7 HBZ
    obtain ⟨d0, d1, d2, d3, d4, d5⟩ := HD8.out.cells
    obtain ⟨v0, v1, v2, v3, v4, v5⟩ := HV8.out.cells
    obtain ⟨u0, u1, u2, u3, u4, u5⟩ := HU8.out.cells
    obtain ⟨t0, t1, t2, t3, t4, t5⟩ := HZ8.out.cells
    have HSAME : Hid (∀ (v : Vals) (W : World), (binOp .eql 26 (.agg #[.int .u32 (v.table : Int), .int .u32 (v.streams : Int), .int .u32 (v.window : Int), .int .u32 (v.frame : Int), .int .u32 (v.list : Int), .bool v.push]) (.agg #[.int .u32 (v.table : Int), .int .u32 (v.streams : Int), .int .u32 (v.window : Int), .int .u32 (v.frame : Int), .int .u32 (v.list : Int), .bool v.push])).run Try.prog W = .ok (.bool true) W) := Lib.hid (fun v W => val_same v W)
    by_cases hx : x = 0
    · subst hx
      by_cases hy : y = 0
      · subst hy
        have ht := HT.out
        rw [apply_two HV.out, HU.out, if_neg (by simp)] at ht
        injection ht with e1 e2
        subst e1 e2
        have HAG := Lib.hid (apply_again HU.out)
        go_wp2_with fail
        refine (capply_is u u q0 a2 len2 cap2 0 L2 w8 (Lib.hid (HR2.out.on HB8.out HB8.out.size)) HL2 (by omega) HAG).mono ?_
        rintro e w9 ⟨rfl, hB9⟩
        have HU9 := Lib.hid (HU8.out.below hB9)
        have HZ9 := Lib.hid (HZ8.out.below hB9)
        have HB9 := Lib.hid (HB8.out.trans (hB9.mono HB8.out.size))
        clear hB9 HB8 HD8 HV8 HU8 HZ8 d0 d1 d2 d3 d4 d5 v0 v1 v2 v3 v4 v5 u0 u1 u2 u3 u4 u5 t0 t1 t2 t3 t4 t5
        unfold valV
        go_upto_region 14 with fail
        obtain ⟨hX, hBX, hsz⟩ := boxV_new w9 u
        obtain ⟨wa, hwa⟩ : ∃ wa, w9.alloc (.cells #[.int .u32 (u.table : Int), .int .u32 (u.streams : Int), .int .u32 (u.window : Int), .int .u32 (u.frame : Int), .int .u32 (u.list : Int), .bool u.push] 26) = wa := ⟨_, rfl⟩
        rw [hwa] at hX hBX hsz ⊢
        obtain ⟨A, hAA⟩ : ∃ A, w9.heap.size = A := ⟨_, rfl⟩
        have HUa := Lib.hid (HU9.out.below hBX)
        have HZa := Lib.hid (HZ9.out.below hBX)
        have HBa := Lib.hid (HB9.out.trans (hBX.mono HB9.out.size))
        rw [hAA] at hX hsz ⊢
        have HAa := Lib.hid hX
        clear hwa hAA hX hBX hsz HB9 HU9 HZ9
        obtain ⟨u0, u1, u2, u3, u4, u5⟩ := HUa.out.cells
        obtain ⟨t0, t1, t2, t3, t4, t5⟩ := HZa.out.cells
        obtain ⟨v0, v1, v2, v3, v4, v5⟩ := HAa.out.cells
        go_wp2_with (rw [HSAME.out])
        go_ret
        exact ⟨rfl, HBa.out⟩
      · have hyn : ((y : Int) != 0) = true := bne_iff_ne.2 (by omega)
        have ht := HT.out
        rw [apply_two HV.out, HU.out, if_pos hy] at ht
        injection ht with e1 e2
        have e3 := apply_bad HU.out hy
        subst e1 e2 e3
        have hyy : ((y : Int) == (y : Int)) = true := beq_self_eq_true _
        go_wp2_with (rw [HSAME.out])
        go_ret
        exact ⟨rfl, HB8.out⟩
    · have hxn : ((x : Int) != 0) = true := bne_iff_ne.2 (by omega)
      obtain ⟨e3, e4⟩ := apply_first (B := L2) HV.out hx
      have ht := HT.out
      rw [e4] at ht
      injection ht with e1 e2
      subst e3 e1 e2
      have hxx : ((x : Int) == (x : Int)) = true := beq_self_eq_true _
      clear e4
      go_wp2_with (rw [HSAME.out])
      go_ret
      exact ⟨rfl, HB8.out⟩

set_option maxRecDepth 100000 in
theorem lifted (os : Os) (started : os.Started) (H : Type) (enc : TypeId × Value → H) :
    ReturnsInHanded {} Try.checked os 5 .any (Rows.settingsOrderSpec.pre6 enc Try.prog Try.f5 Rows.settingsOrderRow.domain false) (Rows.settingsOrderSpec.post enc Try.prog Try.f5 false true false false) := by
  refine returnsInHanded_of_change (C := Try.checked) own started (by kernel_rfl) Try.func5
    (ChangeSpec.witness6 (enc := enc) (C := Try.checked) false ⟨#[], #[.bool false, .slice none 0 0, .slice none 0 0], []⟩ 8 (by kernel_rfl) (by kernel_rfl) (by kernel_rfl) (by kernel_rfl)) ?_
  intro W base args ds gs before hval0 hW hcnd _
  have hval : ∀ (j : Nat) t v, Try.f5.params[j]? = some t → args[j]? = some v → Value.okWide Try.prog W .any base t v := hval0
  have hW' := hW
  obtain ⟨p, q, hA0, hV, rfl, hfz, hnd⟩ := hW
  have hA : DataW.TrodAll enc Try.prog W 0 (fun _ => true) true Try.f5.params.toList args.toList ds p := hA0
  rw [Try.params5] at hA hval
  obtain ⟨v0, vs0, d0, ds0, p0, q0, hargs, rfl, rfl, h0, r0⟩ := trodAll_cons hA
  obtain ⟨v1, vs1, d1, ds1, p1, q1, rfl, rfl, rfl, h1, r1⟩ := trodAll_cons r0
  obtain ⟨v2, vs2, d2, ds2, p2, q2, rfl, rfl, rfl, h2, r2⟩ := trodAll_cons r1
  obtain ⟨rfl, rfl, rfl⟩ := trodAll_nil r2
  obtain rfl : args = #[v0, v1, v2] := by cases args; simp_all
  obtain ⟨rfl, rfl⟩ := trodVars_none hV
  have k0 := h0
  have lt0 : ∀ x ∈ p0, x.block < W.heap.size := by obtain ⟨m, hm⟩ := k0; exact DataW.trod_lt m _ _ _ hm
  obtain ⟨q0, rfl⟩ := okWide_bool Try.underlying4 (hval 0 4 v0 rfl rfl)
  obtain ⟨a1, len1, cap1, rfl⟩ := okWide_slice Try.underlying22 (hval 1 22 v1 rfl rfl)
  have k1 := h1
  have lt1 : ∀ x ∈ p1, x.block < W.heap.size := by obtain ⟨m, hm⟩ := k1; exact DataW.trod_lt m _ _ _ hm
  obtain ⟨hl1, L1, hN1, hR1⟩ : len1 ≤ maxLen ∧ ∃ L : List (Nat × Nat), L.length = len1 ∧ RdSt W W.heap.size a1 L := by
    obtain ⟨fuel, hf⟩ := h1
    exact rdst_of_trod hf
  have hz1 : a1 = none → cap1 = 0 ∧ len1 = 0 := by
    obtain ⟨fuel, hf⟩ := h1
    exact nil_of_trod hf
  obtain ⟨a2, len2, cap2, rfl⟩ := okWide_slice Try.underlying22 (hval 2 22 v2 rfl rfl)
  have k2 := h2
  have lt2 : ∀ x ∈ p2, x.block < W.heap.size := by obtain ⟨m, hm⟩ := k2; exact DataW.trod_lt m _ _ _ hm
  obtain ⟨hl2, L2, hN2, hR2⟩ : len2 ≤ maxLen ∧ ∃ L : List (Nat × Nat), L.length = len2 ∧ RdSt W W.heap.size a2 L := by
    obtain ⟨fuel, hf⟩ := h2
    exact rdst_of_trod hf
  have hz2 : a2 = none → cap2 = 0 ∧ len2 = 0 := by
    obtain ⟨fuel, hf⟩ := h2
    exact nil_of_trod hf
  clear hA0 hval0
  refine (walk q0 a1 len1 cap1 L1 a2 len2 cap2 L2 W hl1 hN1 hR1 hz1 hl2 hN2 hR2 hz2).mono fun e W' ⟨he, bel⟩ => ?_
  subst he
  exact ⟨_, rfl, _, _, _, [], _, [], hW', trodAll_mk1 (shut_bool Try.underlying4 _), (trodAll_cons_mk (Below.trod laidOut (by kernel_rfl) (of_decide_eq_true (by kernel_rfl)) k0 bel lt0) (trodAll_cons_mk (Below.trod laidOut (by kernel_rfl) (of_decide_eq_true (by kernel_rfl)) k1 bel lt1) (trodAll_cons_mk (Below.trod laidOut (by kernel_rfl) (of_decide_eq_true (by kernel_rfl)) k2 bel lt2) trodAll_mk0))), rfl, bel.frame _, fun h => by cases h⟩

theorem over : Rows.settingsOrderRow.holds Try.pinned (OpenSpec.ofChange Rows.settingsOrderSpec) :=
  OpenClaim.holds_of_wide 5 Try.f5 rfl rfl rfl rfl rfl rfl rfl ⟨rfl, rfl, rfl, rfl, rfl⟩ rfl rfl rfl rfl rfl (by kernel_rfl) Try.func5 (by kernel_rfl)
    (of_decide_eq_true (by kernel_rfl)) (by unfold Func.isWrapper; first | (rw [if_pos (by decide +kernel)]; kernel_rfl) | (rw [if_neg (by decide +kernel)]; exact ⟨rfl, rfl⟩))
    (fun os started H enc _ => lifted os started H enc)

theorem proved : Rows.SettingsOrderSaid := over
#print axioms proved
end Go.Proofs.Yteddepmiejlemaa.settingsOrder
