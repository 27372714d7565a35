/- Proves DataOne: records of one type that are right are alike in their data just if their plain bytes are. No condition. -/
import Derived.Test.YtnpdhfjglfpjcaaRows
import Derived.Test.YtnpdhfjglfpjcaaRecFrame
import Derived.Test.YtnpdhfjglfpjcaaRecAwake
import Derived.Test.YtnpdhfjglfpjcaaRecFew
import Derived.Test.YtnpdhfjglfpjcaaQuietHeld
import Derived.Test.YtnpdhfjglfpjcaaRecSame
import Derived.Test.YtnpdhfjglfpjcaaRecPlain
import Derived.Test.YtnpdhfjglfpjcaaRecOne
import Derived.Test.YtnpdhfjglfpjcaaRecCopy
import Derived.WalkKit
import Derived.ProofKit
import Derived.OpenShut
import Derived.ShutString
import Derived.ChangeOld
import Derived.Below
import Derived.Deep.RegionHeld3
namespace Go.Proofs.Ytnpdhfjglfpjcaa.dataOne
open Go.ChangeShapes Go.WideShapes Go.ChangeAt Go.RowKit
open Go.ChangeMaps (open_string shut_string)
open Bytes Strs Nums NameMath RecMath
set_option linter.unusedVariables false

theorem own : ownKnob Try.prog.godebug = none := by kernel_rfl
theorem laidOut : laidOutB Try.prog = true := by kernel_rfl

set_option maxHeartbeats 16000000 in
set_option maxRecDepth 100000 in
set_option linter.unusedSimpArgs false in
theorem walk (R : Rec) (x : ByteArray) (k l t : Nat) (A1 : Option Addr) (n1 c1 : Nat) (A2 : Option Addr) (n2 c2 : Nat) (A3 : Option Addr) (n3 c3 : Nat) (Rq : Rec) (xq : ByteArray) (kq lq tq : Nat) (Aq1 : Option Addr) (nq1 cq1 : Nat) (Aq2 : Option Addr) (nq2 cq2 : Nat) (Aq3 : Option Addr) (nq3 cq3 : Nat) (w : World) (hR0 : RecAt w w.heap.size R x k l t A1 n1 A2 n2 A3 n3) (hb0 : k ≤ 65535 ∧ l ≤ 65535 ∧ t ≤ 4294967295 ∧ x.size ≤ maxLen ∧ n1 ≤ maxLen ∧ n2 ≤ maxLen ∧ n3 ≤ maxLen) (hf0 : (A1 = none → c1 = 0) ∧ (A2 = none → c2 = 0) ∧ (A3 = none → c3 = 0)) (hu0 : ∀ k, k < R.nums.length → R.nums.getD k 0 ≤ 4294967295) (hR1 : RecAt w w.heap.size Rq xq kq lq tq Aq1 nq1 Aq2 nq2 Aq3 nq3) (hb1 : kq ≤ 65535 ∧ lq ≤ 65535 ∧ tq ≤ 4294967295 ∧ xq.size ≤ maxLen ∧ nq1 ≤ maxLen ∧ nq2 ≤ maxLen ∧ nq3 ≤ maxLen) (hf1 : (Aq1 = none → cq1 = 0) ∧ (Aq2 = none → cq2 = 0) ∧ (Aq3 = none → cq3 = 0)) (hu1 : ∀ k, k < Rq.nums.length → Rq.nums.getD k 0 ≤ 4294967295) :
    Calls Try.prog 5 #[.agg #[.string x, .int .u16 k, .int .u16 l, .int .u32 t, .slice A1 n1 c1, .slice A2 n2 c2, .slice A3 n3 c3], .agg #[.string xq, .int .u16 kq, .int .u16 lq, .int .u32 tq, .slice Aq1 nq1 cq1, .slice Aq2 nq2 cq2, .slice Aq3 nq3 cq3]] w fun e w' => e = .returned (.bool true) ∧ Below w.heap.size w w' := by
  have HF := Lib.hid hf0
  have HU := Lib.hid hu0
  have HFq := Lib.hid hf1
  have HUq := Lib.hid hu1
  obtain ⟨_, _, _, _, hx1, hx2, hx3⟩ := hb0
  obtain ⟨_, _, _, _, hy1, hy2, hy3⟩ := hb1
  have HX1 := Lib.hid hx1
  have HX2 := Lib.hid hx2
  have HX3 := Lib.hid hx3
  have HY1 := Lib.hid hy1
  have HY2 := Lib.hid hy2
  have HY3 := Lib.hid hy3
  have hB0 : Below w.heap.size w ((w.alloc (.cells #[.string x, .int .u16 k, .int .u16 l, .int .u32 t, .slice A1 n1 c1, .slice A2 n2 c2, .slice A3 n3 c3] 27)).alloc (.cells #[.string xq, .int .u16 kq, .int .u16 lq, .int .u32 tq, .slice Aq1 nq1 cq1, .slice Aq2 nq2 cq2, .slice Aq3 nq3 cq3] 27)) := ((Below.refl _ _).alloc (Nat.le_refl _) _).alloc (by simp) _
  have HR1 := Lib.hid ((hR0.box (.cells #[.string x, .int .u16 k, .int .u16 l, .int .u32 t, .slice A1 n1 c1, .slice A2 n2 c2, .slice A3 n3 c3] 27)).box (.cells #[.string xq, .int .u16 kq, .int .u16 lq, .int .u32 tq, .slice Aq1 nq1 cq1, .slice Aq2 nq2 cq2, .slice Aq3 nq3 cq3] 27))
  have HQ1 := Lib.hid ((hR1.box (.cells #[.string x, .int .u16 k, .int .u16 l, .int .u32 t, .slice A1 n1 c1, .slice A2 n2 c2, .slice A3 n3 c3] 27)).box (.cells #[.string xq, .int .u16 kq, .int .u16 lq, .int .u32 tq, .slice Aq1 nq1 cq1, .slice Aq2 nq2 cq2, .slice Aq3 nq3 cq3] 27))
  have HR0 := Lib.hid hR0
  have HQ0 := Lib.hid hR1
  have hs0 : ((w.alloc (.cells #[.string x, .int .u16 k, .int .u16 l, .int .u32 t, .slice A1 n1 c1, .slice A2 n2 c2, .slice A3 n3 c3] 27)).alloc (.cells #[.string xq, .int .u16 kq, .int .u16 lq, .int .u32 tq, .slice Aq1 nq1 cq1, .slice Aq2 nq2 cq2, .slice Aq3 nq3 cq3] 27)).heap.size = w.heap.size + 2 := by simp
  have hgb : ((w.alloc (.cells #[.string x, .int .u16 k, .int .u16 l, .int .u32 t, .slice A1 n1 c1, .slice A2 n2 c2, .slice A3 n3 c3] 27)).alloc (.cells #[.string xq, .int .u16 kq, .int .u16 lq, .int .u32 tq, .slice Aq1 nq1 cq1, .slice Aq2 nq2 cq2, .slice Aq3 nq3 cq3] 27)).heap[w.heap.size]? = some (.cells #[.string x, .int .u16 k, .int .u16 l, .int .u32 t, .slice A1 n1 c1, .slice A2 n2 c2, .slice A3 n3 c3] 27 (0, 0)) := (heap_alloc_old (w.alloc (.cells #[.string x, .int .u16 k, .int .u16 l, .int .u32 t, .slice A1 n1 c1, .slice A2 n2 c2, .slice A3 n3 c3] 27)) (.cells #[.string xq, .int .u16 kq, .int .u16 lq, .int .u32 tq, .slice Aq1 nq1 cq1, .slice Aq2 nq2 cq2, .slice Aq3 nq3 cq3] 27) (by simp)).trans (heap_alloc_new w _)
  have hhb : ((w.alloc (.cells #[.string x, .int .u16 k, .int .u16 l, .int .u32 t, .slice A1 n1 c1, .slice A2 n2 c2, .slice A3 n3 c3] 27)).alloc (.cells #[.string xq, .int .u16 kq, .int .u16 lq, .int .u32 tq, .slice Aq1 nq1 cq1, .slice Aq2 nq2 cq2, .slice Aq3 nq3 cq3] 27)).heap[w.heap.size + 1]? = some (.cells #[.string xq, .int .u16 kq, .int .u16 lq, .int .u32 tq, .slice Aq1 nq1 cq1, .slice Aq2 nq2 cq2, .slice Aq3 nq3 cq3] 27 (0, 0)) := by
    have := heap_alloc_new (w.alloc (.cells #[.string x, .int .u16 k, .int .u16 l, .int .u32 t, .slice A1 n1 c1, .slice A2 n2 c2, .slice A3 n3 c3] 27)) (.cells #[.string xq, .int .u16 kq, .int .u16 lq, .int .u32 tq, .slice Aq1 nq1 cq1, .slice Aq2 nq2 cq2, .slice Aq3 nq3 cq3] 27)
    simpa using this
  have HGB := Lib.hid hgb
  have HHB := Lib.hid hhb
  have a0 : ((w.alloc (.cells #[.string x, .int .u16 k, .int .u16 l, .int .u32 t, .slice A1 n1 c1, .slice A2 n2 c2, .slice A3 n3 c3] 27)).alloc (.cells #[.string xq, .int .u16 kq, .int .u16 lq, .int .u32 tq, .slice Aq1 nq1 cq1, .slice Aq2 nq2 cq2, .slice Aq3 nq3 cq3] 27)).cell? ⟨w.heap.size, 0, none⟩ = some (.string x) := by simp
  have b0 : ((w.alloc (.cells #[.string x, .int .u16 k, .int .u16 l, .int .u32 t, .slice A1 n1 c1, .slice A2 n2 c2, .slice A3 n3 c3] 27)).alloc (.cells #[.string xq, .int .u16 kq, .int .u16 lq, .int .u32 tq, .slice Aq1 nq1 cq1, .slice Aq2 nq2 cq2, .slice Aq3 nq3 cq3] 27)).cell? ⟨w.heap.size + 1, 0, none⟩ = some (.string xq) := by simp
  have a1 : ((w.alloc (.cells #[.string x, .int .u16 k, .int .u16 l, .int .u32 t, .slice A1 n1 c1, .slice A2 n2 c2, .slice A3 n3 c3] 27)).alloc (.cells #[.string xq, .int .u16 kq, .int .u16 lq, .int .u32 tq, .slice Aq1 nq1 cq1, .slice Aq2 nq2 cq2, .slice Aq3 nq3 cq3] 27)).cell? ⟨w.heap.size, 1, none⟩ = some (.int .u16 k) := by simp
  have b1 : ((w.alloc (.cells #[.string x, .int .u16 k, .int .u16 l, .int .u32 t, .slice A1 n1 c1, .slice A2 n2 c2, .slice A3 n3 c3] 27)).alloc (.cells #[.string xq, .int .u16 kq, .int .u16 lq, .int .u32 tq, .slice Aq1 nq1 cq1, .slice Aq2 nq2 cq2, .slice Aq3 nq3 cq3] 27)).cell? ⟨w.heap.size + 1, 1, none⟩ = some (.int .u16 kq) := by simp
  have a2 : ((w.alloc (.cells #[.string x, .int .u16 k, .int .u16 l, .int .u32 t, .slice A1 n1 c1, .slice A2 n2 c2, .slice A3 n3 c3] 27)).alloc (.cells #[.string xq, .int .u16 kq, .int .u16 lq, .int .u32 tq, .slice Aq1 nq1 cq1, .slice Aq2 nq2 cq2, .slice Aq3 nq3 cq3] 27)).cell? ⟨w.heap.size, 2, none⟩ = some (.int .u16 l) := by simp
  have b2 : ((w.alloc (.cells #[.string x, .int .u16 k, .int .u16 l, .int .u32 t, .slice A1 n1 c1, .slice A2 n2 c2, .slice A3 n3 c3] 27)).alloc (.cells #[.string xq, .int .u16 kq, .int .u16 lq, .int .u32 tq, .slice Aq1 nq1 cq1, .slice Aq2 nq2 cq2, .slice Aq3 nq3 cq3] 27)).cell? ⟨w.heap.size + 1, 2, none⟩ = some (.int .u16 lq) := by simp
  have a3 : ((w.alloc (.cells #[.string x, .int .u16 k, .int .u16 l, .int .u32 t, .slice A1 n1 c1, .slice A2 n2 c2, .slice A3 n3 c3] 27)).alloc (.cells #[.string xq, .int .u16 kq, .int .u16 lq, .int .u32 tq, .slice Aq1 nq1 cq1, .slice Aq2 nq2 cq2, .slice Aq3 nq3 cq3] 27)).cell? ⟨w.heap.size, 3, none⟩ = some (.int .u32 t) := by simp
  have b3 : ((w.alloc (.cells #[.string x, .int .u16 k, .int .u16 l, .int .u32 t, .slice A1 n1 c1, .slice A2 n2 c2, .slice A3 n3 c3] 27)).alloc (.cells #[.string xq, .int .u16 kq, .int .u16 lq, .int .u32 tq, .slice Aq1 nq1 cq1, .slice Aq2 nq2 cq2, .slice Aq3 nq3 cq3] 27)).cell? ⟨w.heap.size + 1, 3, none⟩ = some (.int .u32 tq) := by simp
  have a4 : ((w.alloc (.cells #[.string x, .int .u16 k, .int .u16 l, .int .u32 t, .slice A1 n1 c1, .slice A2 n2 c2, .slice A3 n3 c3] 27)).alloc (.cells #[.string xq, .int .u16 kq, .int .u16 lq, .int .u32 tq, .slice Aq1 nq1 cq1, .slice Aq2 nq2 cq2, .slice Aq3 nq3 cq3] 27)).cell? ⟨w.heap.size, 4, none⟩ = some (.slice A1 n1 c1) := by simp
  have b4 : ((w.alloc (.cells #[.string x, .int .u16 k, .int .u16 l, .int .u32 t, .slice A1 n1 c1, .slice A2 n2 c2, .slice A3 n3 c3] 27)).alloc (.cells #[.string xq, .int .u16 kq, .int .u16 lq, .int .u32 tq, .slice Aq1 nq1 cq1, .slice Aq2 nq2 cq2, .slice Aq3 nq3 cq3] 27)).cell? ⟨w.heap.size + 1, 4, none⟩ = some (.slice Aq1 nq1 cq1) := by simp
  have a5 : ((w.alloc (.cells #[.string x, .int .u16 k, .int .u16 l, .int .u32 t, .slice A1 n1 c1, .slice A2 n2 c2, .slice A3 n3 c3] 27)).alloc (.cells #[.string xq, .int .u16 kq, .int .u16 lq, .int .u32 tq, .slice Aq1 nq1 cq1, .slice Aq2 nq2 cq2, .slice Aq3 nq3 cq3] 27)).cell? ⟨w.heap.size, 5, none⟩ = some (.slice A2 n2 c2) := by simp
  have b5 : ((w.alloc (.cells #[.string x, .int .u16 k, .int .u16 l, .int .u32 t, .slice A1 n1 c1, .slice A2 n2 c2, .slice A3 n3 c3] 27)).alloc (.cells #[.string xq, .int .u16 kq, .int .u16 lq, .int .u32 tq, .slice Aq1 nq1 cq1, .slice Aq2 nq2 cq2, .slice Aq3 nq3 cq3] 27)).cell? ⟨w.heap.size + 1, 5, none⟩ = some (.slice Aq2 nq2 cq2) := by simp
  have a6 : ((w.alloc (.cells #[.string x, .int .u16 k, .int .u16 l, .int .u32 t, .slice A1 n1 c1, .slice A2 n2 c2, .slice A3 n3 c3] 27)).alloc (.cells #[.string xq, .int .u16 kq, .int .u16 lq, .int .u32 tq, .slice Aq1 nq1 cq1, .slice Aq2 nq2 cq2, .slice Aq3 nq3 cq3] 27)).cell? ⟨w.heap.size, 6, none⟩ = some (.slice A3 n3 c3) := by simp
  have b6 : ((w.alloc (.cells #[.string x, .int .u16 k, .int .u16 l, .int .u32 t, .slice A1 n1 c1, .slice A2 n2 c2, .slice A3 n3 c3] 27)).alloc (.cells #[.string xq, .int .u16 kq, .int .u16 lq, .int .u32 tq, .slice Aq1 nq1 cq1, .slice Aq2 nq2 cq2, .slice Aq3 nq3 cq3] 27)).cell? ⟨w.heap.size + 1, 6, none⟩ = some (.slice Aq3 nq3 cq3) := by simp
  clear hR0 hf0 hu0 hx1 hx2 hx3 hR1 hf1 hu1 hy1 hy2 hy3 hgb hhb
  go_enter Try.func5, Try.ntmps5
  go_wp2_with fail
  generalize ((w.alloc (.cells #[.string x, .int .u16 k, .int .u16 l, .int .u32 t, .slice A1 n1 c1, .slice A2 n2 c2, .slice A3 n3 c3] 27)).alloc (.cells #[.string xq, .int .u16 kq, .int .u16 lq, .int .u32 tq, .slice Aq1 nq1 cq1, .slice Aq2 nq2 cq2, .slice Aq3 nq3 cq3] 27)) = w0 at *
  generalize hgw : w.heap.size = g at *
  have HGW := Lib.hid hgw
  clear hgw
  refine (awake_any _).mono ?_
  rintro e w1 ⟨rfl, hB1⟩
  have hs1 := hB1.size
  have aa0 : w1.cell? ⟨g, 0, none⟩ = some (.string x) := (hB1.cell (p := ⟨g, 0, none⟩) (by show g < w0.heap.size; omega)).trans a0
  have aa1 : w1.cell? ⟨g, 1, none⟩ = some (.int .u16 k) := (hB1.cell (p := ⟨g, 1, none⟩) (by show g < w0.heap.size; omega)).trans a1
  have aa2 : w1.cell? ⟨g, 2, none⟩ = some (.int .u16 l) := (hB1.cell (p := ⟨g, 2, none⟩) (by show g < w0.heap.size; omega)).trans a2
  have aa3 : w1.cell? ⟨g, 3, none⟩ = some (.int .u32 t) := (hB1.cell (p := ⟨g, 3, none⟩) (by show g < w0.heap.size; omega)).trans a3
  have aa4 : w1.cell? ⟨g, 4, none⟩ = some (.slice A1 n1 c1) := (hB1.cell (p := ⟨g, 4, none⟩) (by show g < w0.heap.size; omega)).trans a4
  have aa5 : w1.cell? ⟨g, 5, none⟩ = some (.slice A2 n2 c2) := (hB1.cell (p := ⟨g, 5, none⟩) (by show g < w0.heap.size; omega)).trans a5
  have aa6 : w1.cell? ⟨g, 6, none⟩ = some (.slice A3 n3 c3) := (hB1.cell (p := ⟨g, 6, none⟩) (by show g < w0.heap.size; omega)).trans a6
  have bb0 : w1.cell? ⟨g + 1, 0, none⟩ = some (.string xq) := (hB1.cell (p := ⟨g + 1, 0, none⟩) (by show g + 1 < w0.heap.size; omega)).trans b0
  have bb1 : w1.cell? ⟨g + 1, 1, none⟩ = some (.int .u16 kq) := (hB1.cell (p := ⟨g + 1, 1, none⟩) (by show g + 1 < w0.heap.size; omega)).trans b1
  have bb2 : w1.cell? ⟨g + 1, 2, none⟩ = some (.int .u16 lq) := (hB1.cell (p := ⟨g + 1, 2, none⟩) (by show g + 1 < w0.heap.size; omega)).trans b2
  have bb3 : w1.cell? ⟨g + 1, 3, none⟩ = some (.int .u32 tq) := (hB1.cell (p := ⟨g + 1, 3, none⟩) (by show g + 1 < w0.heap.size; omega)).trans b3
  have bb4 : w1.cell? ⟨g + 1, 4, none⟩ = some (.slice Aq1 nq1 cq1) := (hB1.cell (p := ⟨g + 1, 4, none⟩) (by show g + 1 < w0.heap.size; omega)).trans b4
  have bb5 : w1.cell? ⟨g + 1, 5, none⟩ = some (.slice Aq2 nq2 cq2) := (hB1.cell (p := ⟨g + 1, 5, none⟩) (by show g + 1 < w0.heap.size; omega)).trans b5
  have bb6 : w1.cell? ⟨g + 1, 6, none⟩ = some (.slice Aq3 nq3 cq3) := (hB1.cell (p := ⟨g + 1, 6, none⟩) (by show g + 1 < w0.heap.size; omega)).trans b6
  have HR2 := Lib.hid (HR1.out.on hB1 hB1.size)
  have HQ2 := Lib.hid (HQ1.out.on hB1 hB1.size)
  have HB1 := Lib.hid (hB0.trans (hB1.mono (by omega)))
  have HGB1 := Lib.hid ((hB1.block g (by omega)).trans HGB.out)
  have HHB1 := Lib.hid ((hB1.block (g + 1) (by omega)).trans HHB.out)
  clear hB1 hB0 a0 a1 a2 a3 a4 a5 a6 b0 b1 b2 b3 b4 b5 b6 HR1 HQ1 HGB HHB
  go_wp2_with fail
  ((with_reducible refine (few_any R x k l t A1 n1 c1 A2 n2 c2 A3 n3 c3 _ HR2 HU HX1.out HX2.out HX3.out).mono ?_))
  rintro e w2 ⟨b, rfl, hfew, hB2⟩
  have hs2 := hB2.size
  have HB2 := Lib.hid (HB1.out.trans (hB2.mono (by omega)))
  have HFEW := Lib.hid hfew
  have a0 : w2.cell? ⟨g, 0, none⟩ = some (.string x) := (hB2.cell (p := ⟨g, 0, none⟩) (by show g < w1.heap.size; omega)).trans aa0
  have a1 : w2.cell? ⟨g, 1, none⟩ = some (.int .u16 k) := (hB2.cell (p := ⟨g, 1, none⟩) (by show g < w1.heap.size; omega)).trans aa1
  have a2 : w2.cell? ⟨g, 2, none⟩ = some (.int .u16 l) := (hB2.cell (p := ⟨g, 2, none⟩) (by show g < w1.heap.size; omega)).trans aa2
  have a3 : w2.cell? ⟨g, 3, none⟩ = some (.int .u32 t) := (hB2.cell (p := ⟨g, 3, none⟩) (by show g < w1.heap.size; omega)).trans aa3
  have a4 : w2.cell? ⟨g, 4, none⟩ = some (.slice A1 n1 c1) := (hB2.cell (p := ⟨g, 4, none⟩) (by show g < w1.heap.size; omega)).trans aa4
  have a5 : w2.cell? ⟨g, 5, none⟩ = some (.slice A2 n2 c2) := (hB2.cell (p := ⟨g, 5, none⟩) (by show g < w1.heap.size; omega)).trans aa5
  have a6 : w2.cell? ⟨g, 6, none⟩ = some (.slice A3 n3 c3) := (hB2.cell (p := ⟨g, 6, none⟩) (by show g < w1.heap.size; omega)).trans aa6
  have b0 : w2.cell? ⟨g + 1, 0, none⟩ = some (.string xq) := (hB2.cell (p := ⟨g + 1, 0, none⟩) (by show g + 1 < w1.heap.size; omega)).trans bb0
  have b1 : w2.cell? ⟨g + 1, 1, none⟩ = some (.int .u16 kq) := (hB2.cell (p := ⟨g + 1, 1, none⟩) (by show g + 1 < w1.heap.size; omega)).trans bb1
  have b2 : w2.cell? ⟨g + 1, 2, none⟩ = some (.int .u16 lq) := (hB2.cell (p := ⟨g + 1, 2, none⟩) (by show g + 1 < w1.heap.size; omega)).trans bb2
  have b3 : w2.cell? ⟨g + 1, 3, none⟩ = some (.int .u32 tq) := (hB2.cell (p := ⟨g + 1, 3, none⟩) (by show g + 1 < w1.heap.size; omega)).trans bb3
  have b4 : w2.cell? ⟨g + 1, 4, none⟩ = some (.slice Aq1 nq1 cq1) := (hB2.cell (p := ⟨g + 1, 4, none⟩) (by show g + 1 < w1.heap.size; omega)).trans bb4
  have b5 : w2.cell? ⟨g + 1, 5, none⟩ = some (.slice Aq2 nq2 cq2) := (hB2.cell (p := ⟨g + 1, 5, none⟩) (by show g + 1 < w1.heap.size; omega)).trans bb5
  have b6 : w2.cell? ⟨g + 1, 6, none⟩ = some (.slice Aq3 nq3 cq3) := (hB2.cell (p := ⟨g + 1, 6, none⟩) (by show g + 1 < w1.heap.size; omega)).trans bb6
  have HR3 := Lib.hid (HR2.out.on hB2 hB2.size)
  have HQ3 := Lib.hid (HQ2.out.on hB2 hB2.size)
  have HGB2 := Lib.hid ((hB2.block g (by omega)).trans HGB1.out)
  have HHB2 := Lib.hid ((hB2.block (g + 1) (by omega)).trans HHB1.out)
  clear hfew hB2 aa0 aa1 aa2 aa3 aa4 aa5 aa6 bb0 bb1 bb2 bb3 bb4 bb5 bb6 HR2 HQ2 HB1 HGB1 HHB1
  cases b with
  | false =>
    go_wp2_with fail
    go_ret
    exact ⟨rfl, by rw [HGW.out]; exact HB2.out⟩
  | true =>
    have hS := Lib.hid (HFEW.out rfl).1
    clear HFEW
    go_wp2_with fail
    ((with_reducible refine (few_any Rq xq kq lq tq Aq1 nq1 cq1 Aq2 nq2 cq2 Aq3 nq3 cq3 _ HQ3 HUq HY1.out HY2.out HY3.out).mono ?_))
    rintro e w3 ⟨b, rfl, hfew, hB3⟩
    have hs3 := hB3.size
    have HB3 := Lib.hid (HB2.out.trans (hB3.mono (by omega)))
    have HFEW := Lib.hid hfew
    have HR4 := Lib.hid (HR3.out.on hB3 hB3.size)
    have HQ4 := Lib.hid (HQ3.out.on hB3 hB3.size)
    have HGB3 := Lib.hid ((hB3.block g (by omega)).trans HGB2.out)
    have HHB3 := Lib.hid ((hB3.block (g + 1) (by omega)).trans HHB2.out)
    clear hfew hB3 a0 a1 a2 a3 a4 a5 a6 b0 b1 b2 b3 b4 b5 b6 HR3 HQ3 HB2 HGB2 HHB2
    cases b with
    | false =>
      go_wp2_with fail
      go_ret
      exact ⟨rfl, by rw [HGW.out]; exact HB3.out⟩
    | true =>
      have hSq := Lib.hid (HFEW.out rfl).1
      clear HFEW
      have a0 : w3.cell? ⟨g, 0, none⟩ = some (.string x) := by rw [Lib.cell_of_heap HGB3.out]; rfl
      have b0 : w3.cell? ⟨g + 1, 0, none⟩ = some (.string xq) := by rw [Lib.cell_of_heap HHB3.out]; rfl
      have a1 : w3.cell? ⟨g, 1, none⟩ = some (.int .u16 k) := by rw [Lib.cell_of_heap HGB3.out]; rfl
      have b1 : w3.cell? ⟨g + 1, 1, none⟩ = some (.int .u16 kq) := by rw [Lib.cell_of_heap HHB3.out]; rfl
      have a2 : w3.cell? ⟨g, 2, none⟩ = some (.int .u16 l) := by rw [Lib.cell_of_heap HGB3.out]; rfl
      have b2 : w3.cell? ⟨g + 1, 2, none⟩ = some (.int .u16 lq) := by rw [Lib.cell_of_heap HHB3.out]; rfl
      have a3 : w3.cell? ⟨g, 3, none⟩ = some (.int .u32 t) := by rw [Lib.cell_of_heap HGB3.out]; rfl
      have b3 : w3.cell? ⟨g + 1, 3, none⟩ = some (.int .u32 tq) := by rw [Lib.cell_of_heap HHB3.out]; rfl
      have z0 : w3.frozen? ⟨g + 1, 0, none⟩ = false := Lib.frozen_of_heap HHB3.out 0
      have z1 : w3.frozen? ⟨g + 1, 1, none⟩ = false := Lib.frozen_of_heap HHB3.out 1
      have z2 : w3.frozen? ⟨g + 1, 2, none⟩ = false := Lib.frozen_of_heap HHB3.out 2
      have z3 : w3.frozen? ⟨g + 1, 3, none⟩ = false := Lib.frozen_of_heap HHB3.out 3
      go_wp2_with fail
      go_region_held3 (fun w' => w'.cell? ⟨g, 0, none⟩ = some (.string x) ∧ w'.cell? ⟨g, 1, none⟩ = some (.int .u16 k) ∧ w'.cell? ⟨g, 2, none⟩ = some (.int .u16 l) ∧ w'.cell? ⟨g, 3, none⟩ = some (.int .u32 t)) (go_keep) (fail)
      have hG4 : ((((w3.setCell ⟨g + 1, 1, none⟩ (.int .u16 k)).setCell ⟨g + 1, 0, none⟩ (.string x)).setCell ⟨g + 1, 2, none⟩ (.int .u16 l)).setCell ⟨g + 1, 3, none⟩ (.int .u32 t)).drew.heap[g]? = some (.cells #[.string x, .int .u16 k, .int .u16 l, .int .u32 t, .slice A1 n1 c1, .slice A2 n2 c2, .slice A3 n3 c3] 27 (0, 0)) := other_block (other_block (other_block (other_block HGB3.out (by omega)) (by omega)) (by omega)) (by omega)
      have hH4 : ((((w3.setCell ⟨g + 1, 1, none⟩ (.int .u16 k)).setCell ⟨g + 1, 0, none⟩ (.string x)).setCell ⟨g + 1, 2, none⟩ (.int .u16 l)).setCell ⟨g + 1, 3, none⟩ (.int .u32 t)).drew.heap[g + 1]? = some (.cells #[.string x, .int .u16 k, .int .u16 l, .int .u32 t, .slice Aq1 nq1 cq1, .slice Aq2 nq2 cq2, .slice Aq3 nq3 cq3] 27 (0, 0)) := set_block (set_block (set_block (set_block HHB3.out rfl) rfl) rfl) rfl
      have hB4 : Below g w ((((w3.setCell ⟨g + 1, 1, none⟩ (.int .u16 k)).setCell ⟨g + 1, 0, none⟩ (.string x)).setCell ⟨g + 1, 2, none⟩ (.int .u16 l)).setCell ⟨g + 1, 3, none⟩ (.int .u32 t)).drew := ((((HB3.out.setCell (p := ⟨g + 1, 1, none⟩) (Nat.le_succ g) _).setCell (p := ⟨g + 1, 0, none⟩) (Nat.le_succ g) _).setCell (p := ⟨g + 1, 2, none⟩) (Nat.le_succ g) _).setCell (p := ⟨g + 1, 3, none⟩) (Nat.le_succ g) _).drew
      have hs4 : g + 2 ≤ ((((w3.setCell ⟨g + 1, 1, none⟩ (.int .u16 k)).setCell ⟨g + 1, 0, none⟩ (.string x)).setCell ⟨g + 1, 2, none⟩ (.int .u16 l)).setCell ⟨g + 1, 3, none⟩ (.int .u32 t)).drew.heap.size := by
        show g + 2 ≤ ((((w3.setCell ⟨g + 1, 1, none⟩ (.int .u16 k)).setCell ⟨g + 1, 0, none⟩ (.string x)).setCell ⟨g + 1, 2, none⟩ (.int .u16 l)).setCell ⟨g + 1, 3, none⟩ (.int .u32 t)).heap.size
        rw [Go.Deep.nblk_setCell, Go.Deep.nblk_setCell, Go.Deep.nblk_setCell, Go.Deep.nblk_setCell]
        omega
      have HG4 := Lib.hid hG4
      have HH4 := Lib.hid hH4
      have HB4 := Lib.hid hB4
      obtain ⟨N, hN⟩ : ∃ N : Rec, N = { name := R.name, kind := R.kind, cls := R.cls, ttl := R.ttl, names := Rq.names, nums := Rq.nums, texts := Rq.texts } := ⟨_, rfl⟩
      have hNn : N.names = Rq.names := by rw [hN]
      have hNu : N.nums = Rq.nums := by rw [hN]
      have hNt : N.texts = Rq.texts := by rw [hN]
      have hN0 : N.name = R.name := by rw [hN]
      have hN1 : N.kind = R.kind := by rw [hN]
      have hN2 : N.cls = R.cls := by rw [hN]
      have hN3 : N.ttl = R.ttl := by rw [hN]
      have HAN : Hid (∀ W B, Below g w W → g ≤ B → RecAt W B N x k l t Aq1 nq1 Aq2 nq2 Aq3 nq3) := fun W B hW hB => by
        have h1 := HR0.out.on hW hB
        have h2 := HQ0.out.on hW hB
        exact ⟨by rw [hN0]; exact h1.name, by rw [hN1]; exact h1.kind, by rw [hN2]; exact h1.cls, by rw [hN3]; exact h1.ttl, by rw [hNn]; exact h2.len1, by rw [hNu]; exact h2.len2, by rw [hNt]; exact h2.len3, by rw [hNn]; exact h2.rd1, by rw [hNu]; exact h2.rd2, by rw [hNt]; exact h2.rd3⟩
      have HAR : Hid (∀ W B, Below g w W → g ≤ B → RecAt W B R x k l t A1 n1 A2 n2 A3 n3) := fun W B hW hB => HR0.out.on hW hB
      have hSN : Hid (Small N) := by
        have h1 := hS.out
        have h2 := hSq.out
        exact ⟨by rw [hN0]; exact h1.name, by rw [hNn]; exact h2.n1, by rw [hNn]; exact h2.s1, by rw [hNu]; exact h2.n2, by rw [hNu]; exact h2.u2, by rw [hNt]; exact h2.n3, by rw [hNt]; exact h2.s3⟩
      obtain ⟨E1, hE1⟩ : ∃ E, checkE R = E := ⟨_, rfl⟩
      obtain ⟨E2, hE2⟩ : ∃ E, checkE N = E := ⟨_, rfl⟩
      have HE1 := Lib.hid hE1
      have HE2 := Lib.hid hE2
      have memle : ∀ {L : List Nat}, (∀ k, k < L.length → L.getD k 0 ≤ 4294967295) → ∀ n ∈ L, n ≤ 4294967295 := fun {L} h n hn => by
        obtain ⟨i, hi, rfl⟩ := List.mem_iff_getElem.1 hn
        have := h i hi
        rwa [List.getD_eq_getElem?_getD, List.getElem?_eq_getElem hi] at this
      have HIN : Hid (E1 = 0 → E2 = 0 → decide (plainO R = plainO N) = sameB R N) := fun h1 h2 => plainO_inj (hE1.trans h1) (hE2.trans h2) hN0.symm hN1.symm hN2.symm hN3.symm (memle HU.out) (by rw [hNu]; exact memle HUq.out)
      have aa0 : ((((w3.setCell ⟨g + 1, 1, none⟩ (.int .u16 k)).setCell ⟨g + 1, 0, none⟩ (.string x)).setCell ⟨g + 1, 2, none⟩ (.int .u16 l)).setCell ⟨g + 1, 3, none⟩ (.int .u32 t)).drew.cell? ⟨g, 0, none⟩ = some (.string x) := by rw [Lib.cell_of_heap HG4.out]; rfl
      have aa1 : ((((w3.setCell ⟨g + 1, 1, none⟩ (.int .u16 k)).setCell ⟨g + 1, 0, none⟩ (.string x)).setCell ⟨g + 1, 2, none⟩ (.int .u16 l)).setCell ⟨g + 1, 3, none⟩ (.int .u32 t)).drew.cell? ⟨g, 1, none⟩ = some (.int .u16 k) := by rw [Lib.cell_of_heap HG4.out]; rfl
      have aa2 : ((((w3.setCell ⟨g + 1, 1, none⟩ (.int .u16 k)).setCell ⟨g + 1, 0, none⟩ (.string x)).setCell ⟨g + 1, 2, none⟩ (.int .u16 l)).setCell ⟨g + 1, 3, none⟩ (.int .u32 t)).drew.cell? ⟨g, 2, none⟩ = some (.int .u16 l) := by rw [Lib.cell_of_heap HG4.out]; rfl
      have aa3 : ((((w3.setCell ⟨g + 1, 1, none⟩ (.int .u16 k)).setCell ⟨g + 1, 0, none⟩ (.string x)).setCell ⟨g + 1, 2, none⟩ (.int .u16 l)).setCell ⟨g + 1, 3, none⟩ (.int .u32 t)).drew.cell? ⟨g, 3, none⟩ = some (.int .u32 t) := by rw [Lib.cell_of_heap HG4.out]; rfl
      have aa4 : ((((w3.setCell ⟨g + 1, 1, none⟩ (.int .u16 k)).setCell ⟨g + 1, 0, none⟩ (.string x)).setCell ⟨g + 1, 2, none⟩ (.int .u16 l)).setCell ⟨g + 1, 3, none⟩ (.int .u32 t)).drew.cell? ⟨g, 4, none⟩ = some (.slice A1 n1 c1) := by rw [Lib.cell_of_heap HG4.out]; rfl
      have aa5 : ((((w3.setCell ⟨g + 1, 1, none⟩ (.int .u16 k)).setCell ⟨g + 1, 0, none⟩ (.string x)).setCell ⟨g + 1, 2, none⟩ (.int .u16 l)).setCell ⟨g + 1, 3, none⟩ (.int .u32 t)).drew.cell? ⟨g, 5, none⟩ = some (.slice A2 n2 c2) := by rw [Lib.cell_of_heap HG4.out]; rfl
      have aa6 : ((((w3.setCell ⟨g + 1, 1, none⟩ (.int .u16 k)).setCell ⟨g + 1, 0, none⟩ (.string x)).setCell ⟨g + 1, 2, none⟩ (.int .u16 l)).setCell ⟨g + 1, 3, none⟩ (.int .u32 t)).drew.cell? ⟨g, 6, none⟩ = some (.slice A3 n3 c3) := by rw [Lib.cell_of_heap HG4.out]; rfl
      have bb0 : ((((w3.setCell ⟨g + 1, 1, none⟩ (.int .u16 k)).setCell ⟨g + 1, 0, none⟩ (.string x)).setCell ⟨g + 1, 2, none⟩ (.int .u16 l)).setCell ⟨g + 1, 3, none⟩ (.int .u32 t)).drew.cell? ⟨g + 1, 0, none⟩ = some (.string x) := by rw [Lib.cell_of_heap HH4.out]; rfl
      have bb1 : ((((w3.setCell ⟨g + 1, 1, none⟩ (.int .u16 k)).setCell ⟨g + 1, 0, none⟩ (.string x)).setCell ⟨g + 1, 2, none⟩ (.int .u16 l)).setCell ⟨g + 1, 3, none⟩ (.int .u32 t)).drew.cell? ⟨g + 1, 1, none⟩ = some (.int .u16 k) := by rw [Lib.cell_of_heap HH4.out]; rfl
      have bb2 : ((((w3.setCell ⟨g + 1, 1, none⟩ (.int .u16 k)).setCell ⟨g + 1, 0, none⟩ (.string x)).setCell ⟨g + 1, 2, none⟩ (.int .u16 l)).setCell ⟨g + 1, 3, none⟩ (.int .u32 t)).drew.cell? ⟨g + 1, 2, none⟩ = some (.int .u16 l) := by rw [Lib.cell_of_heap HH4.out]; rfl
      have bb3 : ((((w3.setCell ⟨g + 1, 1, none⟩ (.int .u16 k)).setCell ⟨g + 1, 0, none⟩ (.string x)).setCell ⟨g + 1, 2, none⟩ (.int .u16 l)).setCell ⟨g + 1, 3, none⟩ (.int .u32 t)).drew.cell? ⟨g + 1, 3, none⟩ = some (.int .u32 t) := by rw [Lib.cell_of_heap HH4.out]; rfl
      have bb4 : ((((w3.setCell ⟨g + 1, 1, none⟩ (.int .u16 k)).setCell ⟨g + 1, 0, none⟩ (.string x)).setCell ⟨g + 1, 2, none⟩ (.int .u16 l)).setCell ⟨g + 1, 3, none⟩ (.int .u32 t)).drew.cell? ⟨g + 1, 4, none⟩ = some (.slice Aq1 nq1 cq1) := by rw [Lib.cell_of_heap HH4.out]; rfl
      have bb5 : ((((w3.setCell ⟨g + 1, 1, none⟩ (.int .u16 k)).setCell ⟨g + 1, 0, none⟩ (.string x)).setCell ⟨g + 1, 2, none⟩ (.int .u16 l)).setCell ⟨g + 1, 3, none⟩ (.int .u32 t)).drew.cell? ⟨g + 1, 5, none⟩ = some (.slice Aq2 nq2 cq2) := by rw [Lib.cell_of_heap HH4.out]; rfl
      have bb6 : ((((w3.setCell ⟨g + 1, 1, none⟩ (.int .u16 k)).setCell ⟨g + 1, 0, none⟩ (.string x)).setCell ⟨g + 1, 2, none⟩ (.int .u16 l)).setCell ⟨g + 1, 3, none⟩ (.int .u32 t)).drew.cell? ⟨g + 1, 6, none⟩ = some (.slice Aq3 nq3 cq3) := by rw [Lib.cell_of_heap HH4.out]; rfl
      clear a0 b0 z0 a1 b1 z1 a2 b2 z2 a3 b3 z3 hG4 hH4 hB4 hN hNn hNu hNt hN0 hN1 hN2 hN3 memle hE1 hE2 HGB3 HHB3 HR0 HQ0 HR4 HQ4 HB3
      go_wp2_with fail
      generalize ((((w3.setCell ⟨g + 1, 1, none⟩ (.int .u16 k)).setCell ⟨g + 1, 0, none⟩ (.string x)).setCell ⟨g + 1, 2, none⟩ (.int .u16 l)).setCell ⟨g + 1, 3, none⟩ (.int .u32 t)).drew = w4 at *
      have hR5 := HAR.out w4 w4.heap.size HB4.out (by omega)
      ((with_reducible refine (check_is R x k l t A1 n1 c1 A2 n2 c2 A3 n3 c3 E1 _ (Lib.hid hR5) hS HE1).mono ?_))
      rintro e w5 ⟨rfl, hB5⟩
      have hs5 := hB5.size
      have HG5 := Lib.hid ((hB5.block g (by omega)).trans HG4.out)
      have HH5 := Lib.hid ((hB5.block (g + 1) (by omega)).trans HH4.out)
      have HB5 := Lib.hid (HB4.out.trans (hB5.mono (by omega)))
      clear hB5 hR5 aa0 aa1 aa2 aa3 aa4 aa5 aa6 bb0 bb1 bb2 bb3 bb4 bb5 bb6 HG4 HH4 HB4
      have a0 : w5.cell? ⟨g, 0, none⟩ = some (.string x) := by rw [Lib.cell_of_heap HG5.out]; rfl
      have a1 : w5.cell? ⟨g, 1, none⟩ = some (.int .u16 k) := by rw [Lib.cell_of_heap HG5.out]; rfl
      have a2 : w5.cell? ⟨g, 2, none⟩ = some (.int .u16 l) := by rw [Lib.cell_of_heap HG5.out]; rfl
      have a3 : w5.cell? ⟨g, 3, none⟩ = some (.int .u32 t) := by rw [Lib.cell_of_heap HG5.out]; rfl
      have a4 : w5.cell? ⟨g, 4, none⟩ = some (.slice A1 n1 c1) := by rw [Lib.cell_of_heap HG5.out]; rfl
      have a5 : w5.cell? ⟨g, 5, none⟩ = some (.slice A2 n2 c2) := by rw [Lib.cell_of_heap HG5.out]; rfl
      have a6 : w5.cell? ⟨g, 6, none⟩ = some (.slice A3 n3 c3) := by rw [Lib.cell_of_heap HG5.out]; rfl
      have b0 : w5.cell? ⟨g + 1, 0, none⟩ = some (.string x) := by rw [Lib.cell_of_heap HH5.out]; rfl
      have b1 : w5.cell? ⟨g + 1, 1, none⟩ = some (.int .u16 k) := by rw [Lib.cell_of_heap HH5.out]; rfl
      have b2 : w5.cell? ⟨g + 1, 2, none⟩ = some (.int .u16 l) := by rw [Lib.cell_of_heap HH5.out]; rfl
      have b3 : w5.cell? ⟨g + 1, 3, none⟩ = some (.int .u32 t) := by rw [Lib.cell_of_heap HH5.out]; rfl
      have b4 : w5.cell? ⟨g + 1, 4, none⟩ = some (.slice Aq1 nq1 cq1) := by rw [Lib.cell_of_heap HH5.out]; rfl
      have b5 : w5.cell? ⟨g + 1, 5, none⟩ = some (.slice Aq2 nq2 cq2) := by rw [Lib.cell_of_heap HH5.out]; rfl
      have b6 : w5.cell? ⟨g + 1, 6, none⟩ = some (.slice Aq3 nq3 cq3) := by rw [Lib.cell_of_heap HH5.out]; rfl
      by_cases h1 : E1 = 0
      rotate_left
      · have f1 : ((E1 : Int) != 0) = true := int_nne h1
        have f1e : ((E1 : Int) == 0) = false := int_ne h1
        have HP : Hid (mk (plainO R) = ⟨#[]⟩) := by show _ = _; rw [plainO_no (by rw [HE1.out]; exact h1)]; rfl
        clear h1
        go_wp2_with fail
        have hR6 := HAR.out w5 w5.heap.size HB5.out (by omega)
        ((with_reducible refine (check_is R x k l t A1 n1 c1 A2 n2 c2 A3 n3 c3 E1 _ (Lib.hid hR6) hS HE1).mono ?_))
        rintro e w6 ⟨rfl, hB6⟩
        have hs6 := hB6.size
        have HG6 := Lib.hid ((hB6.block g (by omega)).trans HG5.out)
        have HB6 := Lib.hid (HB5.out.trans (hB6.mono (by omega)))
        clear hB6 hR6 a0 a1 a2 a3 a4 a5 a6 b0 b1 b2 b3 b4 b5 b6 HG5 HH5 HB5
        have a0 : w6.cell? ⟨g, 0, none⟩ = some (.string x) := by rw [Lib.cell_of_heap HG6.out]; rfl
        have a1 : w6.cell? ⟨g, 1, none⟩ = some (.int .u16 k) := by rw [Lib.cell_of_heap HG6.out]; rfl
        have a2 : w6.cell? ⟨g, 2, none⟩ = some (.int .u16 l) := by rw [Lib.cell_of_heap HG6.out]; rfl
        have a3 : w6.cell? ⟨g, 3, none⟩ = some (.int .u32 t) := by rw [Lib.cell_of_heap HG6.out]; rfl
        have a4 : w6.cell? ⟨g, 4, none⟩ = some (.slice A1 n1 c1) := by rw [Lib.cell_of_heap HG6.out]; rfl
        have a5 : w6.cell? ⟨g, 5, none⟩ = some (.slice A2 n2 c2) := by rw [Lib.cell_of_heap HG6.out]; rfl
        have a6 : w6.cell? ⟨g, 6, none⟩ = some (.slice A3 n3 c3) := by rw [Lib.cell_of_heap HG6.out]; rfl
        go_wp2_with fail
        have hR7 := HAR.out w6 w6.heap.size HB6.out (by omega)
        ((with_reducible refine (plain_is R x k l t A1 n1 c1 A2 n2 c2 A3 n3 c3 ⟨#[]⟩ _ (Lib.hid hR7) hS HP).mono ?_))
        rintro e w7 ⟨rfl, hB7⟩
        go_wp2_with fail
        go_ret
        exact ⟨rfl, by rw [HGW.out]; exact HB6.out.trans (hB7.mono (by omega))⟩
      have f1 : ((E1 : Int) != 0) = false := int_neq h1
      have f1e : ((E1 : Int) == 0) = true := int_eq h1
      have H1 := Lib.hid h1
      clear h1
      go_wp2_with fail
      have hN6 := HAN.out w5 w5.heap.size HB5.out (by omega)
      ((with_reducible refine (check_is N x k l t Aq1 nq1 cq1 Aq2 nq2 cq2 Aq3 nq3 cq3 E2 _ (Lib.hid hN6) hSN HE2).mono ?_))
      rintro e w6 ⟨rfl, hB6⟩
      have hs6 := hB6.size
      have HG6 := Lib.hid ((hB6.block g (by omega)).trans HG5.out)
      have HH6 := Lib.hid ((hB6.block (g + 1) (by omega)).trans HH5.out)
      have HB6 := Lib.hid (HB5.out.trans (hB6.mono (by omega)))
      clear hB6 hN6 a0 a1 a2 a3 a4 a5 a6 b0 b1 b2 b3 b4 b5 b6 HG5 HH5 HB5
      have a0 : w6.cell? ⟨g, 0, none⟩ = some (.string x) := by rw [Lib.cell_of_heap HG6.out]; rfl
      have a1 : w6.cell? ⟨g, 1, none⟩ = some (.int .u16 k) := by rw [Lib.cell_of_heap HG6.out]; rfl
      have a2 : w6.cell? ⟨g, 2, none⟩ = some (.int .u16 l) := by rw [Lib.cell_of_heap HG6.out]; rfl
      have a3 : w6.cell? ⟨g, 3, none⟩ = some (.int .u32 t) := by rw [Lib.cell_of_heap HG6.out]; rfl
      have a4 : w6.cell? ⟨g, 4, none⟩ = some (.slice A1 n1 c1) := by rw [Lib.cell_of_heap HG6.out]; rfl
      have a5 : w6.cell? ⟨g, 5, none⟩ = some (.slice A2 n2 c2) := by rw [Lib.cell_of_heap HG6.out]; rfl
      have a6 : w6.cell? ⟨g, 6, none⟩ = some (.slice A3 n3 c3) := by rw [Lib.cell_of_heap HG6.out]; rfl
      have b0 : w6.cell? ⟨g + 1, 0, none⟩ = some (.string x) := by rw [Lib.cell_of_heap HH6.out]; rfl
      have b1 : w6.cell? ⟨g + 1, 1, none⟩ = some (.int .u16 k) := by rw [Lib.cell_of_heap HH6.out]; rfl
      have b2 : w6.cell? ⟨g + 1, 2, none⟩ = some (.int .u16 l) := by rw [Lib.cell_of_heap HH6.out]; rfl
      have b3 : w6.cell? ⟨g + 1, 3, none⟩ = some (.int .u32 t) := by rw [Lib.cell_of_heap HH6.out]; rfl
      have b4 : w6.cell? ⟨g + 1, 4, none⟩ = some (.slice Aq1 nq1 cq1) := by rw [Lib.cell_of_heap HH6.out]; rfl
      have b5 : w6.cell? ⟨g + 1, 5, none⟩ = some (.slice Aq2 nq2 cq2) := by rw [Lib.cell_of_heap HH6.out]; rfl
      have b6 : w6.cell? ⟨g + 1, 6, none⟩ = some (.slice Aq3 nq3 cq3) := by rw [Lib.cell_of_heap HH6.out]; rfl
      by_cases h2 : E2 = 0
      rotate_left
      · have f2 : ((E2 : Int) != 0) = true := int_nne h2
        clear h2
        go_wp2_with fail
        have hR7 := HAR.out w6 w6.heap.size HB6.out (by omega)
        ((with_reducible refine (check_is R x k l t A1 n1 c1 A2 n2 c2 A3 n3 c3 E1 _ (Lib.hid hR7) hS HE1).mono ?_))
        rintro e w7 ⟨rfl, hB7⟩
        go_wp2_with fail
        go_ret
        exact ⟨rfl, by rw [HGW.out]; exact HB6.out.trans (hB7.mono (by omega))⟩
      have f2 : ((E2 : Int) != 0) = false := int_neq h2
      obtain ⟨z, hz⟩ : ∃ z, sameB R N = z := ⟨_, rfl⟩
      obtain ⟨p1, hp1⟩ : ∃ p, mk (plainO R) = p := ⟨_, rfl⟩
      obtain ⟨p2, hp2⟩ : ∃ p, mk (plainO N) = p := ⟨_, rfl⟩
      have fp : (p1.toList == p2.toList) = z := by
        rw [← hp1, ← hp2, eq_toList, ← hz, ← HIN.out H1.out h2]
        exact decide_eq_decide.2 ⟨fun h => mk_inj h, fun h => by rw [h]⟩
      have HZ := Lib.hid hz
      have HP1 := Lib.hid hp1
      have HP2 := Lib.hid hp2
      have fz : (z == z) = true := by simp
      clear h2 hz hp1 hp2
      have HCR : Hid (∀ W, Held w6 W → W.cell? ⟨g, 0, none⟩ = some (.string x) ∧ W.cell? ⟨g, 1, none⟩ = some (.int .u16 k) ∧ W.cell? ⟨g, 2, none⟩ = some (.int .u16 l) ∧ W.cell? ⟨g, 3, none⟩ = some (.int .u32 t) ∧ W.cell? ⟨g, 4, none⟩ = some (.slice A1 n1 c1) ∧ W.cell? ⟨g, 5, none⟩ = some (.slice A2 n2 c2) ∧ W.cell? ⟨g, 6, none⟩ = some (.slice A3 n3 c3)) := by
        intro W hW
        have hW' : Below w6.heap.size w6 W := hW
        exact ⟨(hW'.cell (p := ⟨g, 0, none⟩) (by show g < w6.heap.size; omega)).trans a0, (hW'.cell (p := ⟨g, 1, none⟩) (by show g < w6.heap.size; omega)).trans a1, (hW'.cell (p := ⟨g, 2, none⟩) (by show g < w6.heap.size; omega)).trans a2, (hW'.cell (p := ⟨g, 3, none⟩) (by show g < w6.heap.size; omega)).trans a3, (hW'.cell (p := ⟨g, 4, none⟩) (by show g < w6.heap.size; omega)).trans a4, (hW'.cell (p := ⟨g, 5, none⟩) (by show g < w6.heap.size; omega)).trans a5, (hW'.cell (p := ⟨g, 6, none⟩) (by show g < w6.heap.size; omega)).trans a6⟩
      have HCQ : Hid (∀ W, Held w6 W → W.cell? ⟨g + 1, 0, none⟩ = some (.string x) ∧ W.cell? ⟨g + 1, 1, none⟩ = some (.int .u16 k) ∧ W.cell? ⟨g + 1, 2, none⟩ = some (.int .u16 l) ∧ W.cell? ⟨g + 1, 3, none⟩ = some (.int .u32 t) ∧ W.cell? ⟨g + 1, 4, none⟩ = some (.slice Aq1 nq1 cq1) ∧ W.cell? ⟨g + 1, 5, none⟩ = some (.slice Aq2 nq2 cq2) ∧ W.cell? ⟨g + 1, 6, none⟩ = some (.slice Aq3 nq3 cq3)) := by
        intro W hW
        have hW' : Below w6.heap.size w6 W := hW
        exact ⟨(hW'.cell (p := ⟨g + 1, 0, none⟩) (by show g + 1 < w6.heap.size; omega)).trans b0, (hW'.cell (p := ⟨g + 1, 1, none⟩) (by show g + 1 < w6.heap.size; omega)).trans b1, (hW'.cell (p := ⟨g + 1, 2, none⟩) (by show g + 1 < w6.heap.size; omega)).trans b2, (hW'.cell (p := ⟨g + 1, 3, none⟩) (by show g + 1 < w6.heap.size; omega)).trans b3, (hW'.cell (p := ⟨g + 1, 4, none⟩) (by show g + 1 < w6.heap.size; omega)).trans b4, (hW'.cell (p := ⟨g + 1, 5, none⟩) (by show g + 1 < w6.heap.size; omega)).trans b5, (hW'.cell (p := ⟨g + 1, 6, none⟩) (by show g + 1 < w6.heap.size; omega)).trans b6⟩
      have hbw : ∀ W, Held w6 W → Below g w W ∧ g ≤ W.heap.size := fun W hW => ⟨HB6.out.trans (Below.mono hW (by omega)), by have := Below.size hW; omega⟩
      have HL1 : Hid (∀ W, Held w6 W → Calls Try.prog 13 #[.agg #[.string x, .int .u16 k, .int .u16 l, .int .u32 t, .slice A1 n1 c1, .slice A2 n2 c2, .slice A3 n3 c3]] W fun e w' => e = .returned (.string p1) ∧ Held w6 w') := fun W hW => (plain_is R x k l t A1 n1 c1 A2 n2 c2 A3 n3 c3 p1 W (Lib.hid (HAR.out W W.heap.size (hbw W hW).1 (hbw W hW).2)) hS HP1).mono fun _ _ ⟨he, hb⟩ => ⟨he, Below.trans hW (hb.mono (Below.size hW))⟩
      have HL2 : Hid (∀ W, Held w6 W → Calls Try.prog 13 #[.agg #[.string x, .int .u16 k, .int .u16 l, .int .u32 t, .slice Aq1 nq1 cq1, .slice Aq2 nq2 cq2, .slice Aq3 nq3 cq3]] W fun e w' => e = .returned (.string p2) ∧ Held w6 w') := fun W hW => (plain_is N x k l t Aq1 nq1 cq1 Aq2 nq2 cq2 Aq3 nq3 cq3 p2 W (Lib.hid (HAN.out W W.heap.size (hbw W hW).1 (hbw W hW).2)) hSN HP2).mono fun _ _ ⟨he, hb⟩ => ⟨he, Below.trans hW (hb.mono (Below.size hW))⟩
      have HL3 : Hid (∀ W, Held w6 W → Calls Try.prog 17 #[.agg #[.string x, .int .u16 k, .int .u16 l, .int .u32 t, .slice A1 n1 c1, .slice A2 n2 c2, .slice A3 n3 c3], .agg #[.string x, .int .u16 k, .int .u16 l, .int .u32 t, .slice Aq1 nq1 cq1, .slice Aq2 nq2 cq2, .slice Aq3 nq3 cq3]] W fun e w' => e = .returned (.bool z) ∧ Held w6 w') := fun W hW => (same_is R N x k l t A1 n1 c1 A2 n2 c2 A3 n3 c3 x k l t Aq1 nq1 cq1 Aq2 nq2 cq2 Aq3 nq3 cq3 z W (Lib.hid (HAR.out W W.heap.size (hbw W hW).1 (hbw W hW).2)) hS (Lib.hid (HAN.out W W.heap.size (hbw W hW).1 (hbw W hW).2)) hSN HZ).mono fun _ _ ⟨he, hb⟩ => ⟨he, Below.trans hW (hb.mono (Below.size hW))⟩
      have hH0 : Held w6 w6.drew := (Below.refl _ _).drew
      clear hbw
      go_wp2_with fail
      refine region_quiet (C := fun w' => Held w6 w') (by kernel_rfl) (by kernel_rfl) hH0 ?_
      refine qstep (v := ?qv0) (by rfl) ?qh0 ?_
      case qh0 => (intro wq hq; have hcs := HCR.out wq hq; go_split_ands; go_simp; try (with_reducible rfl))
      try simp only [Act.put, List.setIfInBounds_toArray, List.set_cons_zero, List.set_cons_succ]
      refine qstep (v := ?qv1) (by rfl) ?qh1 ?_
      case qh1 => (intro wq hq; go_simp; exact HL1.out wq hq)
      try simp only [Act.put, List.setIfInBounds_toArray, List.set_cons_zero, List.set_cons_succ]
      refine qstep (v := ?qv2) (by rfl) ?qh2 ?_
      case qh2 => (intro wq hq; have hcs := HCQ.out wq hq; go_split_ands; go_simp; try (with_reducible rfl))
      try simp only [Act.put, List.setIfInBounds_toArray, List.set_cons_zero, List.set_cons_succ]
      refine qstep (v := ?qv3) (by rfl) ?qh3 ?_
      case qh3 => (intro wq hq; go_simp; exact HL2.out wq hq)
      try simp only [Act.put, List.setIfInBounds_toArray, List.set_cons_zero, List.set_cons_succ]
      refine qstep (v := ?qv4) (by rfl) ?qh4 ?_
      case qh4 => (intro wq hq; go_simp; try (with_reducible rfl))
      try simp only [Act.put, List.setIfInBounds_toArray, List.set_cons_zero, List.set_cons_succ]
      refine qstep (v := ?qv5) (by rfl) ?qh5 ?_
      case qh5 => (intro wq hq; have hcs := HCR.out wq hq; go_split_ands; go_simp; try (with_reducible rfl))
      try simp only [Act.put, List.setIfInBounds_toArray, List.set_cons_zero, List.set_cons_succ]
      refine qstep (v := ?qv6) (by rfl) ?qh6 ?_
      case qh6 => (intro wq hq; have hcs := HCQ.out wq hq; go_split_ands; go_simp; try (with_reducible rfl))
      try simp only [Act.put, List.setIfInBounds_toArray, List.set_cons_zero, List.set_cons_succ]
      refine qstep (v := ?qv7) (by rfl) ?qh7 ?_
      case qh7 => (intro wq hq; go_simp; exact HL3.out wq hq)
      try simp only [Act.put, List.setIfInBounds_toArray, List.set_cons_zero, List.set_cons_succ]
      refine qstep (v := ?qv8) (by rfl) ?qh8 ?_
      case qh8 => (intro wq hq; go_simp; try (with_reducible rfl))
      try simp only [Act.put, List.setIfInBounds_toArray, List.set_cons_zero, List.set_cons_succ]
      refine qstep (v := ?qv9) (by rfl) ?qh9 ?_
      case qh9 => (intro wq hq; go_simp; try (with_reducible rfl))
      try simp only [Act.put, List.setIfInBounds_toArray, List.set_cons_zero, List.set_cons_succ]
      refine wpQuiet_nil ?_
      intro w7 hC7
      go_wp2_with fail
      go_ret
      exact ⟨rfl, by rw [HGW.out]; exact HB6.out.trans (Below.mono hC7 (by omega))⟩

set_option maxRecDepth 100000 in
theorem lifted (os : Os) (started : os.Started) (H : Type) (enc : TypeId × Value → H) :
    ReturnsInHanded {} Try.checked os 5 .any (Rows.dataOneSpec.pre6 enc Try.prog Try.f5 Rows.dataOneRow.domain false) (Rows.dataOneSpec.post enc Try.prog Try.f5 false true false false) := by
  refine returnsInHanded_of_change (C := Try.checked) own started (by kernel_rfl) Try.func5
    (ChangeSpec.witness6 (enc := enc) (C := Try.checked) false ⟨#[], #[.agg #[.string ByteArray.empty, .int .u16 0, .int .u16 0, .int .u32 0, .slice none 0 0, .slice none 0 0, .slice none 0 0], .agg #[.string ByteArray.empty, .int .u16 0, .int .u16 0, .int .u32 0, .slice none 0 0, .slice none 0 0, .slice none 0 0]], []⟩ 8 (by kernel_rfl) (by kernel_rfl) (by kernel_rfl) (by kernel_rfl)) ?_
  intro W base args ds gs before hval0 hW hcnd _
  have hval : ∀ (j : Nat) t v, Try.f5.params[j]? = some t → args[j]? = some v → Value.okWide Try.prog W .any base t v := hval0
  have hW' := hW
  obtain ⟨p, q, hA0, hV, rfl, hfz, hnd⟩ := hW
  have hA : DataW.TrodAll enc Try.prog W 0 (fun _ => true) true Try.f5.params.toList args.toList ds p := hA0
  rw [Try.params5] at hA hval
  obtain ⟨v0, vs0, d0, ds0, p0, q0, hargs, rfl, rfl, h0, r0⟩ := trodAll_cons hA
  obtain ⟨v1, vs1, d1, ds1, p1, q1, rfl, rfl, rfl, h1, r1⟩ := trodAll_cons r0
  obtain ⟨rfl, rfl, rfl⟩ := trodAll_nil r1
  obtain rfl : args = #[v0, v1] := by cases args; simp_all
  obtain ⟨rfl, rfl⟩ := trodVars_none hV
  have k00 := h0
  have lt0 : ∀ x ∈ p0, x.block < W.heap.size := by obtain ⟨m, hm⟩ := k00; exact DataW.trod_lt m _ _ _ hm
  obtain ⟨R, x, k, l, t, A1, n1, c1, A2, n2, c2, A3, n3, c3, hc0⟩ := came_rec (hval 0 27 v0 rfl rfl) h0
  obtain ⟨rfl, hR0, hb0, hf0, hu0⟩ := hc0
  have k10 := h1
  have lt1 : ∀ x ∈ p1, x.block < W.heap.size := by obtain ⟨m, hm⟩ := k10; exact DataW.trod_lt m _ _ _ hm
  obtain ⟨Rq, xq, kq, lq, tq, Aq1, nq1, cq1, Aq2, nq2, cq2, Aq3, nq3, cq3, hc1⟩ := came_rec (hval 1 27 v1 rfl rfl) h1
  obtain ⟨rfl, hR1, hb1, hf1, hu1⟩ := hc1
  clear hA0 hval0
  refine (walk R x k l t A1 n1 c1 A2 n2 c2 A3 n3 c3 Rq xq kq lq tq Aq1 nq1 cq1 Aq2 nq2 cq2 Aq3 nq3 cq3 W hR0 hb0 hf0 hu0 hR1 hb1 hf1 hu1).mono fun e W' ⟨he, bel⟩ => ?_
  subst he
  exact ⟨_, rfl, _, _, _, [], _, [], hW', trodAll_mk1 (shut_bool Try.underlying4 _), (trodAll_cons_mk (Below.trod laidOut (by kernel_rfl) (of_decide_eq_true (by kernel_rfl)) k00 bel lt0) (trodAll_cons_mk (Below.trod laidOut (by kernel_rfl) (of_decide_eq_true (by kernel_rfl)) k10 bel lt1) trodAll_mk0)), rfl, bel.frame _, fun h => by cases h⟩

theorem over : Rows.dataOneRow.holds Try.pinned (OpenSpec.ofChange Rows.dataOneSpec) :=
  OpenClaim.holds_of_wide 5 Try.f5 rfl rfl rfl rfl rfl rfl rfl ⟨rfl, rfl, rfl, rfl, rfl⟩ rfl rfl rfl rfl rfl (by kernel_rfl) Try.func5 (by kernel_rfl)
    (of_decide_eq_true (by kernel_rfl)) (by unfold Func.isWrapper; first | (rw [if_pos (by decide +kernel)]; kernel_rfl) | (rw [if_neg (by decide +kernel)]; exact ⟨rfl, rfl⟩))
    (fun os started H enc _ => lifted os started H enc)

theorem proved : Rows.DataOneSaid := over
#print axioms proved
end Go.Proofs.Ytnpdhfjglfpjcaa.dataOne
