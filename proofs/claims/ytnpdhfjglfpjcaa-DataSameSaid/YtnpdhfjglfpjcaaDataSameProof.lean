/- Proves DataSame: two records are told alike just if all that they tell is; a copy is, and goes its own way. No condition. -/
import Derived.Test.YtnpdhfjglfpjcaaRows
import Derived.Test.YtnpdhfjglfpjcaaRecFrame
import Derived.Test.YtnpdhfjglfpjcaaRecAwake
import Derived.Test.YtnpdhfjglfpjcaaRecFew
import Derived.Test.YtnpdhfjglfpjcaaQuietHeld
import Derived.Test.YtnpdhfjglfpjcaaRecSame
import Derived.Test.YtnpdhfjglfpjcaaRecLawCopied
import Derived.Test.YtnpdhfjglfpjcaaRecSpoil
import Derived.WalkKit
import Derived.ProofKit
import Derived.OpenShut
import Derived.ShutString
import Derived.ChangeOld
import Derived.Below
import Derived.Deep.RegionHeld3
namespace Go.Proofs.Ytnpdhfjglfpjcaa.dataSame
open Go.ChangeShapes Go.WideShapes Go.ChangeAt Go.RowKit
open Go.ChangeMaps (open_string shut_string)
open Bytes Strs Nums NameMath RecMath
set_option linter.unusedVariables false

theorem own : ownKnob Try.prog.godebug = none := by kernel_rfl
theorem laidOut : laidOutB Try.prog = true := by kernel_rfl

theorem own_formed {w : World} {base n c : Nat} {e : TypeId} {A : Option Addr} {xs : List Value} (h : w.ownsRow base e 1 (.slice A n c) n xs) : A = none → c = 0 := fun hA => by
  subst hA
  rcases own_look h with ⟨hv, _⟩ | ⟨b, cap, hv, _⟩
  · injection hv
  · injection hv with e1
    cases e1

set_option maxHeartbeats 16000000 in
set_option maxRecDepth 100000 in
set_option linter.unusedSimpArgs false in
theorem walk (R : Rec) (x : ByteArray) (k l t : Nat) (A1 : Option Addr) (n1 c1 : Nat) (A2 : Option Addr) (n2 c2 : Nat) (A3 : Option Addr) (n3 c3 : Nat) (Rq : Rec) (xq : ByteArray) (kq lq tq : Nat) (Aq1 : Option Addr) (nq1 cq1 : Nat) (Aq2 : Option Addr) (nq2 cq2 : Nat) (Aq3 : Option Addr) (nq3 cq3 : Nat) (w : World) (hR0 : RecAt w w.heap.size R x k l t A1 n1 A2 n2 A3 n3) (hb0 : k ≤ 65535 ∧ l ≤ 65535 ∧ t ≤ 4294967295 ∧ x.size ≤ maxLen ∧ n1 ≤ maxLen ∧ n2 ≤ maxLen ∧ n3 ≤ maxLen) (hf0 : (A1 = none → c1 = 0) ∧ (A2 = none → c2 = 0) ∧ (A3 = none → c3 = 0)) (hu0 : ∀ k, k < R.nums.length → R.nums.getD k 0 ≤ 4294967295) (hR1 : RecAt w w.heap.size Rq xq kq lq tq Aq1 nq1 Aq2 nq2 Aq3 nq3) (hb1 : kq ≤ 65535 ∧ lq ≤ 65535 ∧ tq ≤ 4294967295 ∧ xq.size ≤ maxLen ∧ nq1 ≤ maxLen ∧ nq2 ≤ maxLen ∧ nq3 ≤ maxLen) (hf1 : (Aq1 = none → cq1 = 0) ∧ (Aq2 = none → cq2 = 0) ∧ (Aq3 = none → cq3 = 0)) (hu1 : ∀ k, k < Rq.nums.length → Rq.nums.getD k 0 ≤ 4294967295) :
    Calls Try.prog 4 #[.agg #[.string x, .int .u16 k, .int .u16 l, .int .u32 t, .slice A1 n1 c1, .slice A2 n2 c2, .slice A3 n3 c3], .agg #[.string xq, .int .u16 kq, .int .u16 lq, .int .u32 tq, .slice Aq1 nq1 cq1, .slice Aq2 nq2 cq2, .slice Aq3 nq3 cq3]] w fun e w' => e = .returned (.bool true) ∧ Below w.heap.size w w' := by
  have HF := Lib.hid hf0
  have HU := Lib.hid hu0
  have HFq := Lib.hid hf1
  have HUq := Lib.hid hu1
  obtain ⟨_, _, _, _, hx1, hx2, hx3⟩ := hb0
  obtain ⟨_, _, _, _, hy1, hy2, hy3⟩ := hb1
  have HX1 := Lib.hid hx1
  have HX2 := Lib.hid hx2
  have HX3 := Lib.hid hx3
  have HY1 := Lib.hid hy1
  have HY2 := Lib.hid hy2
  have HY3 := Lib.hid hy3
  have hB0 : Below w.heap.size w ((w.alloc (.cells #[.string x, .int .u16 k, .int .u16 l, .int .u32 t, .slice A1 n1 c1, .slice A2 n2 c2, .slice A3 n3 c3] 27)).alloc (.cells #[.string xq, .int .u16 kq, .int .u16 lq, .int .u32 tq, .slice Aq1 nq1 cq1, .slice Aq2 nq2 cq2, .slice Aq3 nq3 cq3] 27)) := ((Below.refl _ _).alloc (Nat.le_refl _) _).alloc (by simp) _
  have HR1 := Lib.hid ((hR0.box (.cells #[.string x, .int .u16 k, .int .u16 l, .int .u32 t, .slice A1 n1 c1, .slice A2 n2 c2, .slice A3 n3 c3] 27)).box (.cells #[.string xq, .int .u16 kq, .int .u16 lq, .int .u32 tq, .slice Aq1 nq1 cq1, .slice Aq2 nq2 cq2, .slice Aq3 nq3 cq3] 27))
  have HQ1 := Lib.hid ((hR1.box (.cells #[.string x, .int .u16 k, .int .u16 l, .int .u32 t, .slice A1 n1 c1, .slice A2 n2 c2, .slice A3 n3 c3] 27)).box (.cells #[.string xq, .int .u16 kq, .int .u16 lq, .int .u32 tq, .slice Aq1 nq1 cq1, .slice Aq2 nq2 cq2, .slice Aq3 nq3 cq3] 27))
  have hs0 : ((w.alloc (.cells #[.string x, .int .u16 k, .int .u16 l, .int .u32 t, .slice A1 n1 c1, .slice A2 n2 c2, .slice A3 n3 c3] 27)).alloc (.cells #[.string xq, .int .u16 kq, .int .u16 lq, .int .u32 tq, .slice Aq1 nq1 cq1, .slice Aq2 nq2 cq2, .slice Aq3 nq3 cq3] 27)).heap.size = w.heap.size + 2 := by simp
  have a0 : ((w.alloc (.cells #[.string x, .int .u16 k, .int .u16 l, .int .u32 t, .slice A1 n1 c1, .slice A2 n2 c2, .slice A3 n3 c3] 27)).alloc (.cells #[.string xq, .int .u16 kq, .int .u16 lq, .int .u32 tq, .slice Aq1 nq1 cq1, .slice Aq2 nq2 cq2, .slice Aq3 nq3 cq3] 27)).cell? ⟨w.heap.size, 0, none⟩ = some (.string x) := by simp
  have b0 : ((w.alloc (.cells #[.string x, .int .u16 k, .int .u16 l, .int .u32 t, .slice A1 n1 c1, .slice A2 n2 c2, .slice A3 n3 c3] 27)).alloc (.cells #[.string xq, .int .u16 kq, .int .u16 lq, .int .u32 tq, .slice Aq1 nq1 cq1, .slice Aq2 nq2 cq2, .slice Aq3 nq3 cq3] 27)).cell? ⟨w.heap.size + 1, 0, none⟩ = some (.string xq) := by simp
  have a1 : ((w.alloc (.cells #[.string x, .int .u16 k, .int .u16 l, .int .u32 t, .slice A1 n1 c1, .slice A2 n2 c2, .slice A3 n3 c3] 27)).alloc (.cells #[.string xq, .int .u16 kq, .int .u16 lq, .int .u32 tq, .slice Aq1 nq1 cq1, .slice Aq2 nq2 cq2, .slice Aq3 nq3 cq3] 27)).cell? ⟨w.heap.size, 1, none⟩ = some (.int .u16 k) := by simp
  have b1 : ((w.alloc (.cells #[.string x, .int .u16 k, .int .u16 l, .int .u32 t, .slice A1 n1 c1, .slice A2 n2 c2, .slice A3 n3 c3] 27)).alloc (.cells #[.string xq, .int .u16 kq, .int .u16 lq, .int .u32 tq, .slice Aq1 nq1 cq1, .slice Aq2 nq2 cq2, .slice Aq3 nq3 cq3] 27)).cell? ⟨w.heap.size + 1, 1, none⟩ = some (.int .u16 kq) := by simp
  have a2 : ((w.alloc (.cells #[.string x, .int .u16 k, .int .u16 l, .int .u32 t, .slice A1 n1 c1, .slice A2 n2 c2, .slice A3 n3 c3] 27)).alloc (.cells #[.string xq, .int .u16 kq, .int .u16 lq, .int .u32 tq, .slice Aq1 nq1 cq1, .slice Aq2 nq2 cq2, .slice Aq3 nq3 cq3] 27)).cell? ⟨w.heap.size, 2, none⟩ = some (.int .u16 l) := by simp
  have b2 : ((w.alloc (.cells #[.string x, .int .u16 k, .int .u16 l, .int .u32 t, .slice A1 n1 c1, .slice A2 n2 c2, .slice A3 n3 c3] 27)).alloc (.cells #[.string xq, .int .u16 kq, .int .u16 lq, .int .u32 tq, .slice Aq1 nq1 cq1, .slice Aq2 nq2 cq2, .slice Aq3 nq3 cq3] 27)).cell? ⟨w.heap.size + 1, 2, none⟩ = some (.int .u16 lq) := by simp
  have a3 : ((w.alloc (.cells #[.string x, .int .u16 k, .int .u16 l, .int .u32 t, .slice A1 n1 c1, .slice A2 n2 c2, .slice A3 n3 c3] 27)).alloc (.cells #[.string xq, .int .u16 kq, .int .u16 lq, .int .u32 tq, .slice Aq1 nq1 cq1, .slice Aq2 nq2 cq2, .slice Aq3 nq3 cq3] 27)).cell? ⟨w.heap.size, 3, none⟩ = some (.int .u32 t) := by simp
  have b3 : ((w.alloc (.cells #[.string x, .int .u16 k, .int .u16 l, .int .u32 t, .slice A1 n1 c1, .slice A2 n2 c2, .slice A3 n3 c3] 27)).alloc (.cells #[.string xq, .int .u16 kq, .int .u16 lq, .int .u32 tq, .slice Aq1 nq1 cq1, .slice Aq2 nq2 cq2, .slice Aq3 nq3 cq3] 27)).cell? ⟨w.heap.size + 1, 3, none⟩ = some (.int .u32 tq) := by simp
  have a4 : ((w.alloc (.cells #[.string x, .int .u16 k, .int .u16 l, .int .u32 t, .slice A1 n1 c1, .slice A2 n2 c2, .slice A3 n3 c3] 27)).alloc (.cells #[.string xq, .int .u16 kq, .int .u16 lq, .int .u32 tq, .slice Aq1 nq1 cq1, .slice Aq2 nq2 cq2, .slice Aq3 nq3 cq3] 27)).cell? ⟨w.heap.size, 4, none⟩ = some (.slice A1 n1 c1) := by simp
  have b4 : ((w.alloc (.cells #[.string x, .int .u16 k, .int .u16 l, .int .u32 t, .slice A1 n1 c1, .slice A2 n2 c2, .slice A3 n3 c3] 27)).alloc (.cells #[.string xq, .int .u16 kq, .int .u16 lq, .int .u32 tq, .slice Aq1 nq1 cq1, .slice Aq2 nq2 cq2, .slice Aq3 nq3 cq3] 27)).cell? ⟨w.heap.size + 1, 4, none⟩ = some (.slice Aq1 nq1 cq1) := by simp
  have a5 : ((w.alloc (.cells #[.string x, .int .u16 k, .int .u16 l, .int .u32 t, .slice A1 n1 c1, .slice A2 n2 c2, .slice A3 n3 c3] 27)).alloc (.cells #[.string xq, .int .u16 kq, .int .u16 lq, .int .u32 tq, .slice Aq1 nq1 cq1, .slice Aq2 nq2 cq2, .slice Aq3 nq3 cq3] 27)).cell? ⟨w.heap.size, 5, none⟩ = some (.slice A2 n2 c2) := by simp
  have b5 : ((w.alloc (.cells #[.string x, .int .u16 k, .int .u16 l, .int .u32 t, .slice A1 n1 c1, .slice A2 n2 c2, .slice A3 n3 c3] 27)).alloc (.cells #[.string xq, .int .u16 kq, .int .u16 lq, .int .u32 tq, .slice Aq1 nq1 cq1, .slice Aq2 nq2 cq2, .slice Aq3 nq3 cq3] 27)).cell? ⟨w.heap.size + 1, 5, none⟩ = some (.slice Aq2 nq2 cq2) := by simp
  have a6 : ((w.alloc (.cells #[.string x, .int .u16 k, .int .u16 l, .int .u32 t, .slice A1 n1 c1, .slice A2 n2 c2, .slice A3 n3 c3] 27)).alloc (.cells #[.string xq, .int .u16 kq, .int .u16 lq, .int .u32 tq, .slice Aq1 nq1 cq1, .slice Aq2 nq2 cq2, .slice Aq3 nq3 cq3] 27)).cell? ⟨w.heap.size, 6, none⟩ = some (.slice A3 n3 c3) := by simp
  have b6 : ((w.alloc (.cells #[.string x, .int .u16 k, .int .u16 l, .int .u32 t, .slice A1 n1 c1, .slice A2 n2 c2, .slice A3 n3 c3] 27)).alloc (.cells #[.string xq, .int .u16 kq, .int .u16 lq, .int .u32 tq, .slice Aq1 nq1 cq1, .slice Aq2 nq2 cq2, .slice Aq3 nq3 cq3] 27)).cell? ⟨w.heap.size + 1, 6, none⟩ = some (.slice Aq3 nq3 cq3) := by simp
  clear hR0 hf0 hu0 hx1 hx2 hx3 hR1 hf1 hu1 hy1 hy2 hy3
  go_enter Try.func4, Try.ntmps4
  go_wp2_with fail
  generalize ((w.alloc (.cells #[.string x, .int .u16 k, .int .u16 l, .int .u32 t, .slice A1 n1 c1, .slice A2 n2 c2, .slice A3 n3 c3] 27)).alloc (.cells #[.string xq, .int .u16 kq, .int .u16 lq, .int .u32 tq, .slice Aq1 nq1 cq1, .slice Aq2 nq2 cq2, .slice Aq3 nq3 cq3] 27)) = w0 at *
  generalize hgw : w.heap.size = g at *
  have HGW := Lib.hid hgw
  clear hgw
  refine (awake_any _).mono ?_
  rintro e w1 ⟨rfl, hB1⟩
  have hs1 := hB1.size
  have aa0 : w1.cell? ⟨g, 0, none⟩ = some (.string x) := (hB1.cell (p := ⟨g, 0, none⟩) (by show g < w0.heap.size; omega)).trans a0
  have aa1 : w1.cell? ⟨g, 1, none⟩ = some (.int .u16 k) := (hB1.cell (p := ⟨g, 1, none⟩) (by show g < w0.heap.size; omega)).trans a1
  have aa2 : w1.cell? ⟨g, 2, none⟩ = some (.int .u16 l) := (hB1.cell (p := ⟨g, 2, none⟩) (by show g < w0.heap.size; omega)).trans a2
  have aa3 : w1.cell? ⟨g, 3, none⟩ = some (.int .u32 t) := (hB1.cell (p := ⟨g, 3, none⟩) (by show g < w0.heap.size; omega)).trans a3
  have aa4 : w1.cell? ⟨g, 4, none⟩ = some (.slice A1 n1 c1) := (hB1.cell (p := ⟨g, 4, none⟩) (by show g < w0.heap.size; omega)).trans a4
  have aa5 : w1.cell? ⟨g, 5, none⟩ = some (.slice A2 n2 c2) := (hB1.cell (p := ⟨g, 5, none⟩) (by show g < w0.heap.size; omega)).trans a5
  have aa6 : w1.cell? ⟨g, 6, none⟩ = some (.slice A3 n3 c3) := (hB1.cell (p := ⟨g, 6, none⟩) (by show g < w0.heap.size; omega)).trans a6
  have bb0 : w1.cell? ⟨g + 1, 0, none⟩ = some (.string xq) := (hB1.cell (p := ⟨g + 1, 0, none⟩) (by show g + 1 < w0.heap.size; omega)).trans b0
  have bb1 : w1.cell? ⟨g + 1, 1, none⟩ = some (.int .u16 kq) := (hB1.cell (p := ⟨g + 1, 1, none⟩) (by show g + 1 < w0.heap.size; omega)).trans b1
  have bb2 : w1.cell? ⟨g + 1, 2, none⟩ = some (.int .u16 lq) := (hB1.cell (p := ⟨g + 1, 2, none⟩) (by show g + 1 < w0.heap.size; omega)).trans b2
  have bb3 : w1.cell? ⟨g + 1, 3, none⟩ = some (.int .u32 tq) := (hB1.cell (p := ⟨g + 1, 3, none⟩) (by show g + 1 < w0.heap.size; omega)).trans b3
  have bb4 : w1.cell? ⟨g + 1, 4, none⟩ = some (.slice Aq1 nq1 cq1) := (hB1.cell (p := ⟨g + 1, 4, none⟩) (by show g + 1 < w0.heap.size; omega)).trans b4
  have bb5 : w1.cell? ⟨g + 1, 5, none⟩ = some (.slice Aq2 nq2 cq2) := (hB1.cell (p := ⟨g + 1, 5, none⟩) (by show g + 1 < w0.heap.size; omega)).trans b5
  have bb6 : w1.cell? ⟨g + 1, 6, none⟩ = some (.slice Aq3 nq3 cq3) := (hB1.cell (p := ⟨g + 1, 6, none⟩) (by show g + 1 < w0.heap.size; omega)).trans b6
  have HR2 := Lib.hid (HR1.out.on hB1 hB1.size)
  have HQ2 := Lib.hid (HQ1.out.on hB1 hB1.size)
  have HB1 := Lib.hid (hB0.trans (hB1.mono (by omega)))
  clear hB1 hB0 a0 a1 a2 a3 a4 a5 a6 b0 b1 b2 b3 b4 b5 b6 HR1 HQ1
  go_wp2_with fail
  ((with_reducible refine (few_any R x k l t A1 n1 c1 A2 n2 c2 A3 n3 c3 _ HR2 HU HX1.out HX2.out HX3.out).mono ?_))
  rintro e w2 ⟨b, rfl, hfew, hB2⟩
  have hs2 := hB2.size
  have HB2 := Lib.hid (HB1.out.trans (hB2.mono (by omega)))
  have HFEW := Lib.hid hfew
  have a0 : w2.cell? ⟨g, 0, none⟩ = some (.string x) := (hB2.cell (p := ⟨g, 0, none⟩) (by show g < w1.heap.size; omega)).trans aa0
  have a1 : w2.cell? ⟨g, 1, none⟩ = some (.int .u16 k) := (hB2.cell (p := ⟨g, 1, none⟩) (by show g < w1.heap.size; omega)).trans aa1
  have a2 : w2.cell? ⟨g, 2, none⟩ = some (.int .u16 l) := (hB2.cell (p := ⟨g, 2, none⟩) (by show g < w1.heap.size; omega)).trans aa2
  have a3 : w2.cell? ⟨g, 3, none⟩ = some (.int .u32 t) := (hB2.cell (p := ⟨g, 3, none⟩) (by show g < w1.heap.size; omega)).trans aa3
  have a4 : w2.cell? ⟨g, 4, none⟩ = some (.slice A1 n1 c1) := (hB2.cell (p := ⟨g, 4, none⟩) (by show g < w1.heap.size; omega)).trans aa4
  have a5 : w2.cell? ⟨g, 5, none⟩ = some (.slice A2 n2 c2) := (hB2.cell (p := ⟨g, 5, none⟩) (by show g < w1.heap.size; omega)).trans aa5
  have a6 : w2.cell? ⟨g, 6, none⟩ = some (.slice A3 n3 c3) := (hB2.cell (p := ⟨g, 6, none⟩) (by show g < w1.heap.size; omega)).trans aa6
  have b0 : w2.cell? ⟨g + 1, 0, none⟩ = some (.string xq) := (hB2.cell (p := ⟨g + 1, 0, none⟩) (by show g + 1 < w1.heap.size; omega)).trans bb0
  have b1 : w2.cell? ⟨g + 1, 1, none⟩ = some (.int .u16 kq) := (hB2.cell (p := ⟨g + 1, 1, none⟩) (by show g + 1 < w1.heap.size; omega)).trans bb1
  have b2 : w2.cell? ⟨g + 1, 2, none⟩ = some (.int .u16 lq) := (hB2.cell (p := ⟨g + 1, 2, none⟩) (by show g + 1 < w1.heap.size; omega)).trans bb2
  have b3 : w2.cell? ⟨g + 1, 3, none⟩ = some (.int .u32 tq) := (hB2.cell (p := ⟨g + 1, 3, none⟩) (by show g + 1 < w1.heap.size; omega)).trans bb3
  have b4 : w2.cell? ⟨g + 1, 4, none⟩ = some (.slice Aq1 nq1 cq1) := (hB2.cell (p := ⟨g + 1, 4, none⟩) (by show g + 1 < w1.heap.size; omega)).trans bb4
  have b5 : w2.cell? ⟨g + 1, 5, none⟩ = some (.slice Aq2 nq2 cq2) := (hB2.cell (p := ⟨g + 1, 5, none⟩) (by show g + 1 < w1.heap.size; omega)).trans bb5
  have b6 : w2.cell? ⟨g + 1, 6, none⟩ = some (.slice Aq3 nq3 cq3) := (hB2.cell (p := ⟨g + 1, 6, none⟩) (by show g + 1 < w1.heap.size; omega)).trans bb6
  have HR3 := Lib.hid (HR2.out.on hB2 hB2.size)
  have HQ3 := Lib.hid (HQ2.out.on hB2 hB2.size)
  clear hfew hB2 aa0 aa1 aa2 aa3 aa4 aa5 aa6 bb0 bb1 bb2 bb3 bb4 bb5 bb6 HR2 HQ2 HB1
  cases b with
  | false =>
    go_wp2_with fail
    go_ret
    exact ⟨rfl, by rw [HGW.out]; exact HB2.out⟩
  | true =>
    have hS := Lib.hid (HFEW.out rfl).1
    clear HFEW
    go_wp2_with fail
    ((with_reducible refine (few_any Rq xq kq lq tq Aq1 nq1 cq1 Aq2 nq2 cq2 Aq3 nq3 cq3 _ HQ3 HUq HY1.out HY2.out HY3.out).mono ?_))
    rintro e w3 ⟨b, rfl, hfew, hB3⟩
    have hs3 := hB3.size
    have HB3 := Lib.hid (HB2.out.trans (hB3.mono (by omega)))
    have HFEW := Lib.hid hfew
    have aa0 : w3.cell? ⟨g, 0, none⟩ = some (.string x) := (hB3.cell (p := ⟨g, 0, none⟩) (by show g < w2.heap.size; omega)).trans a0
    have aa1 : w3.cell? ⟨g, 1, none⟩ = some (.int .u16 k) := (hB3.cell (p := ⟨g, 1, none⟩) (by show g < w2.heap.size; omega)).trans a1
    have aa2 : w3.cell? ⟨g, 2, none⟩ = some (.int .u16 l) := (hB3.cell (p := ⟨g, 2, none⟩) (by show g < w2.heap.size; omega)).trans a2
    have aa3 : w3.cell? ⟨g, 3, none⟩ = some (.int .u32 t) := (hB3.cell (p := ⟨g, 3, none⟩) (by show g < w2.heap.size; omega)).trans a3
    have aa4 : w3.cell? ⟨g, 4, none⟩ = some (.slice A1 n1 c1) := (hB3.cell (p := ⟨g, 4, none⟩) (by show g < w2.heap.size; omega)).trans a4
    have aa5 : w3.cell? ⟨g, 5, none⟩ = some (.slice A2 n2 c2) := (hB3.cell (p := ⟨g, 5, none⟩) (by show g < w2.heap.size; omega)).trans a5
    have aa6 : w3.cell? ⟨g, 6, none⟩ = some (.slice A3 n3 c3) := (hB3.cell (p := ⟨g, 6, none⟩) (by show g < w2.heap.size; omega)).trans a6
    have bb0 : w3.cell? ⟨g + 1, 0, none⟩ = some (.string xq) := (hB3.cell (p := ⟨g + 1, 0, none⟩) (by show g + 1 < w2.heap.size; omega)).trans b0
    have bb1 : w3.cell? ⟨g + 1, 1, none⟩ = some (.int .u16 kq) := (hB3.cell (p := ⟨g + 1, 1, none⟩) (by show g + 1 < w2.heap.size; omega)).trans b1
    have bb2 : w3.cell? ⟨g + 1, 2, none⟩ = some (.int .u16 lq) := (hB3.cell (p := ⟨g + 1, 2, none⟩) (by show g + 1 < w2.heap.size; omega)).trans b2
    have bb3 : w3.cell? ⟨g + 1, 3, none⟩ = some (.int .u32 tq) := (hB3.cell (p := ⟨g + 1, 3, none⟩) (by show g + 1 < w2.heap.size; omega)).trans b3
    have bb4 : w3.cell? ⟨g + 1, 4, none⟩ = some (.slice Aq1 nq1 cq1) := (hB3.cell (p := ⟨g + 1, 4, none⟩) (by show g + 1 < w2.heap.size; omega)).trans b4
    have bb5 : w3.cell? ⟨g + 1, 5, none⟩ = some (.slice Aq2 nq2 cq2) := (hB3.cell (p := ⟨g + 1, 5, none⟩) (by show g + 1 < w2.heap.size; omega)).trans b5
    have bb6 : w3.cell? ⟨g + 1, 6, none⟩ = some (.slice Aq3 nq3 cq3) := (hB3.cell (p := ⟨g + 1, 6, none⟩) (by show g + 1 < w2.heap.size; omega)).trans b6
    have HR4 := Lib.hid (HR3.out.on hB3 hB3.size)
    have HQ4 := Lib.hid (HQ3.out.on hB3 hB3.size)
    clear hfew hB3 a0 a1 a2 a3 a4 a5 a6 b0 b1 b2 b3 b4 b5 b6 HR3 HQ3 HB2
    cases b with
    | false =>
      go_wp2_with fail
      go_ret
      exact ⟨rfl, by rw [HGW.out]; exact HB3.out⟩
    | true =>
      have hSq := Lib.hid (HFEW.out rfl).1
      clear HFEW
      have hm1 := HR4.out.m1 hS.out
      have hm2 := HR4.out.m2 hS.out
      have hm3 := HR4.out.m3 hS.out
      go_wp2_with fail
      ((with_reducible refine (lawCopied_is R x k l t A1 n1 c1 A2 n2 c2 A3 n3 c3 _ HR4 hS HF.out.1 HF.out.2.1 HF.out.2.2).mono ?_))
      rintro e w4 ⟨B1, d1, B2, d2, B3, d3, rfl, o1, o2, o3, hB4, _⟩
      have hs4 := hB4.size
      have a0 : w4.cell? ⟨g, 0, none⟩ = some (.string x) := (hB4.cell (p := ⟨g, 0, none⟩) (by show g < w3.heap.size; omega)).trans aa0
      have a1 : w4.cell? ⟨g, 1, none⟩ = some (.int .u16 k) := (hB4.cell (p := ⟨g, 1, none⟩) (by show g < w3.heap.size; omega)).trans aa1
      have a2 : w4.cell? ⟨g, 2, none⟩ = some (.int .u16 l) := (hB4.cell (p := ⟨g, 2, none⟩) (by show g < w3.heap.size; omega)).trans aa2
      have a3 : w4.cell? ⟨g, 3, none⟩ = some (.int .u32 t) := (hB4.cell (p := ⟨g, 3, none⟩) (by show g < w3.heap.size; omega)).trans aa3
      have a4 : w4.cell? ⟨g, 4, none⟩ = some (.slice A1 n1 c1) := (hB4.cell (p := ⟨g, 4, none⟩) (by show g < w3.heap.size; omega)).trans aa4
      have a5 : w4.cell? ⟨g, 5, none⟩ = some (.slice A2 n2 c2) := (hB4.cell (p := ⟨g, 5, none⟩) (by show g < w3.heap.size; omega)).trans aa5
      have a6 : w4.cell? ⟨g, 6, none⟩ = some (.slice A3 n3 c3) := (hB4.cell (p := ⟨g, 6, none⟩) (by show g < w3.heap.size; omega)).trans aa6
      have b0 : w4.cell? ⟨g + 1, 0, none⟩ = some (.string xq) := (hB4.cell (p := ⟨g + 1, 0, none⟩) (by show g + 1 < w3.heap.size; omega)).trans bb0
      have b1 : w4.cell? ⟨g + 1, 1, none⟩ = some (.int .u16 kq) := (hB4.cell (p := ⟨g + 1, 1, none⟩) (by show g + 1 < w3.heap.size; omega)).trans bb1
      have b2 : w4.cell? ⟨g + 1, 2, none⟩ = some (.int .u16 lq) := (hB4.cell (p := ⟨g + 1, 2, none⟩) (by show g + 1 < w3.heap.size; omega)).trans bb2
      have b3 : w4.cell? ⟨g + 1, 3, none⟩ = some (.int .u32 tq) := (hB4.cell (p := ⟨g + 1, 3, none⟩) (by show g + 1 < w3.heap.size; omega)).trans bb3
      have b4 : w4.cell? ⟨g + 1, 4, none⟩ = some (.slice Aq1 nq1 cq1) := (hB4.cell (p := ⟨g + 1, 4, none⟩) (by show g + 1 < w3.heap.size; omega)).trans bb4
      have b5 : w4.cell? ⟨g + 1, 5, none⟩ = some (.slice Aq2 nq2 cq2) := (hB4.cell (p := ⟨g + 1, 5, none⟩) (by show g + 1 < w3.heap.size; omega)).trans bb5
      have b6 : w4.cell? ⟨g + 1, 6, none⟩ = some (.slice Aq3 nq3 cq3) := (hB4.cell (p := ⟨g + 1, 6, none⟩) (by show g + 1 < w3.heap.size; omega)).trans bb6
      have hRm := rec_of_own HR4.out.name HR4.out.kind HR4.out.cls HR4.out.ttl HR4.out.len1 HR4.out.len2 HR4.out.len3 o1 o2 o3
      have HFM : Hid ((B1 = none → d1 = 0) ∧ (B2 = none → d2 = 0) ∧ (B3 = none → d3 = 0)) := ⟨own_formed o1, own_formed o2, own_formed o3⟩
      have hBM : Below w3.heap.size w3 (w4.alloc (.cells #[.string x, .int .u16 k, .int .u16 l, .int .u32 t, .slice B1 n1 d1, .slice B2 n2 d2, .slice B3 n3 d3] 27)) := hB4.alloc (by omega) _
      have hsM : (w4.alloc (.cells #[.string x, .int .u16 k, .int .u16 l, .int .u32 t, .slice B1 n1 d1, .slice B2 n2 d2, .slice B3 n3 d3] 27)).heap.size = w4.heap.size + 1 := by simp
      have HRm := Lib.hid (hRm.box (.cells #[.string x, .int .u16 k, .int .u16 l, .int .u32 t, .slice B1 n1 d1, .slice B2 n2 d2, .slice B3 n3 d3] 27))
      have HR5 : Hid (RecAt (w4.alloc (.cells #[.string x, .int .u16 k, .int .u16 l, .int .u32 t, .slice B1 n1 d1, .slice B2 n2 d2, .slice B3 n3 d3] 27)) (w4.alloc (.cells #[.string x, .int .u16 k, .int .u16 l, .int .u32 t, .slice B1 n1 d1, .slice B2 n2 d2, .slice B3 n3 d3] 27)).heap.size R x k l t A1 n1 A2 n2 A3 n3) := HR4.out.on hBM (by rw [hsM]; omega)
      have HQ5 : Hid (RecAt (w4.alloc (.cells #[.string x, .int .u16 k, .int .u16 l, .int .u32 t, .slice B1 n1 d1, .slice B2 n2 d2, .slice B3 n3 d3] 27)) (w4.alloc (.cells #[.string x, .int .u16 k, .int .u16 l, .int .u32 t, .slice B1 n1 d1, .slice B2 n2 d2, .slice B3 n3 d3] 27)).heap.size Rq xq kq lq tq Aq1 nq1 Aq2 nq2 Aq3 nq3) := HQ4.out.on hBM (by rw [hsM]; omega)
      have HB5 : Hid (Below g w (w4.alloc (.cells #[.string x, .int .u16 k, .int .u16 l, .int .u32 t, .slice B1 n1 d1, .slice B2 n2 d2, .slice B3 n3 d3] 27))) := HB3.out.trans (hBM.mono (by omega))
      have aa0' : (w4.alloc (.cells #[.string x, .int .u16 k, .int .u16 l, .int .u32 t, .slice B1 n1 d1, .slice B2 n2 d2, .slice B3 n3 d3] 27)).cell? ⟨g, 0, none⟩ = some (.string x) := (World.cell?_alloc_lt _ _ _ (by show g < w4.heap.size; omega)).trans a0
      have bb0' : (w4.alloc (.cells #[.string x, .int .u16 k, .int .u16 l, .int .u32 t, .slice B1 n1 d1, .slice B2 n2 d2, .slice B3 n3 d3] 27)).cell? ⟨g + 1, 0, none⟩ = some (.string xq) := (World.cell?_alloc_lt _ _ _ (by show g + 1 < w4.heap.size; omega)).trans b0
      have m0' : (w4.alloc (.cells #[.string x, .int .u16 k, .int .u16 l, .int .u32 t, .slice B1 n1 d1, .slice B2 n2 d2, .slice B3 n3 d3] 27)).cell? ⟨w4.heap.size, 0, none⟩ = some (.string x) := by rw [Lib.cell_of_heap (heap_alloc_new w4 _)]; rfl
      have aa1' : (w4.alloc (.cells #[.string x, .int .u16 k, .int .u16 l, .int .u32 t, .slice B1 n1 d1, .slice B2 n2 d2, .slice B3 n3 d3] 27)).cell? ⟨g, 1, none⟩ = some (.int .u16 k) := (World.cell?_alloc_lt _ _ _ (by show g < w4.heap.size; omega)).trans a1
      have bb1' : (w4.alloc (.cells #[.string x, .int .u16 k, .int .u16 l, .int .u32 t, .slice B1 n1 d1, .slice B2 n2 d2, .slice B3 n3 d3] 27)).cell? ⟨g + 1, 1, none⟩ = some (.int .u16 kq) := (World.cell?_alloc_lt _ _ _ (by show g + 1 < w4.heap.size; omega)).trans b1
      have m1' : (w4.alloc (.cells #[.string x, .int .u16 k, .int .u16 l, .int .u32 t, .slice B1 n1 d1, .slice B2 n2 d2, .slice B3 n3 d3] 27)).cell? ⟨w4.heap.size, 1, none⟩ = some (.int .u16 k) := by rw [Lib.cell_of_heap (heap_alloc_new w4 _)]; rfl
      have aa2' : (w4.alloc (.cells #[.string x, .int .u16 k, .int .u16 l, .int .u32 t, .slice B1 n1 d1, .slice B2 n2 d2, .slice B3 n3 d3] 27)).cell? ⟨g, 2, none⟩ = some (.int .u16 l) := (World.cell?_alloc_lt _ _ _ (by show g < w4.heap.size; omega)).trans a2
      have bb2' : (w4.alloc (.cells #[.string x, .int .u16 k, .int .u16 l, .int .u32 t, .slice B1 n1 d1, .slice B2 n2 d2, .slice B3 n3 d3] 27)).cell? ⟨g + 1, 2, none⟩ = some (.int .u16 lq) := (World.cell?_alloc_lt _ _ _ (by show g + 1 < w4.heap.size; omega)).trans b2
      have m2' : (w4.alloc (.cells #[.string x, .int .u16 k, .int .u16 l, .int .u32 t, .slice B1 n1 d1, .slice B2 n2 d2, .slice B3 n3 d3] 27)).cell? ⟨w4.heap.size, 2, none⟩ = some (.int .u16 l) := by rw [Lib.cell_of_heap (heap_alloc_new w4 _)]; rfl
      have aa3' : (w4.alloc (.cells #[.string x, .int .u16 k, .int .u16 l, .int .u32 t, .slice B1 n1 d1, .slice B2 n2 d2, .slice B3 n3 d3] 27)).cell? ⟨g, 3, none⟩ = some (.int .u32 t) := (World.cell?_alloc_lt _ _ _ (by show g < w4.heap.size; omega)).trans a3
      have bb3' : (w4.alloc (.cells #[.string x, .int .u16 k, .int .u16 l, .int .u32 t, .slice B1 n1 d1, .slice B2 n2 d2, .slice B3 n3 d3] 27)).cell? ⟨g + 1, 3, none⟩ = some (.int .u32 tq) := (World.cell?_alloc_lt _ _ _ (by show g + 1 < w4.heap.size; omega)).trans b3
      have m3' : (w4.alloc (.cells #[.string x, .int .u16 k, .int .u16 l, .int .u32 t, .slice B1 n1 d1, .slice B2 n2 d2, .slice B3 n3 d3] 27)).cell? ⟨w4.heap.size, 3, none⟩ = some (.int .u32 t) := by rw [Lib.cell_of_heap (heap_alloc_new w4 _)]; rfl
      have aa4' : (w4.alloc (.cells #[.string x, .int .u16 k, .int .u16 l, .int .u32 t, .slice B1 n1 d1, .slice B2 n2 d2, .slice B3 n3 d3] 27)).cell? ⟨g, 4, none⟩ = some (.slice A1 n1 c1) := (World.cell?_alloc_lt _ _ _ (by show g < w4.heap.size; omega)).trans a4
      have bb4' : (w4.alloc (.cells #[.string x, .int .u16 k, .int .u16 l, .int .u32 t, .slice B1 n1 d1, .slice B2 n2 d2, .slice B3 n3 d3] 27)).cell? ⟨g + 1, 4, none⟩ = some (.slice Aq1 nq1 cq1) := (World.cell?_alloc_lt _ _ _ (by show g + 1 < w4.heap.size; omega)).trans b4
      have m4' : (w4.alloc (.cells #[.string x, .int .u16 k, .int .u16 l, .int .u32 t, .slice B1 n1 d1, .slice B2 n2 d2, .slice B3 n3 d3] 27)).cell? ⟨w4.heap.size, 4, none⟩ = some (.slice B1 n1 d1) := by rw [Lib.cell_of_heap (heap_alloc_new w4 _)]; rfl
      have aa5' : (w4.alloc (.cells #[.string x, .int .u16 k, .int .u16 l, .int .u32 t, .slice B1 n1 d1, .slice B2 n2 d2, .slice B3 n3 d3] 27)).cell? ⟨g, 5, none⟩ = some (.slice A2 n2 c2) := (World.cell?_alloc_lt _ _ _ (by show g < w4.heap.size; omega)).trans a5
      have bb5' : (w4.alloc (.cells #[.string x, .int .u16 k, .int .u16 l, .int .u32 t, .slice B1 n1 d1, .slice B2 n2 d2, .slice B3 n3 d3] 27)).cell? ⟨g + 1, 5, none⟩ = some (.slice Aq2 nq2 cq2) := (World.cell?_alloc_lt _ _ _ (by show g + 1 < w4.heap.size; omega)).trans b5
      have m5' : (w4.alloc (.cells #[.string x, .int .u16 k, .int .u16 l, .int .u32 t, .slice B1 n1 d1, .slice B2 n2 d2, .slice B3 n3 d3] 27)).cell? ⟨w4.heap.size, 5, none⟩ = some (.slice B2 n2 d2) := by rw [Lib.cell_of_heap (heap_alloc_new w4 _)]; rfl
      have aa6' : (w4.alloc (.cells #[.string x, .int .u16 k, .int .u16 l, .int .u32 t, .slice B1 n1 d1, .slice B2 n2 d2, .slice B3 n3 d3] 27)).cell? ⟨g, 6, none⟩ = some (.slice A3 n3 c3) := (World.cell?_alloc_lt _ _ _ (by show g < w4.heap.size; omega)).trans a6
      have bb6' : (w4.alloc (.cells #[.string x, .int .u16 k, .int .u16 l, .int .u32 t, .slice B1 n1 d1, .slice B2 n2 d2, .slice B3 n3 d3] 27)).cell? ⟨g + 1, 6, none⟩ = some (.slice Aq3 nq3 cq3) := (World.cell?_alloc_lt _ _ _ (by show g + 1 < w4.heap.size; omega)).trans b6
      have m6' : (w4.alloc (.cells #[.string x, .int .u16 k, .int .u16 l, .int .u32 t, .slice B1 n1 d1, .slice B2 n2 d2, .slice B3 n3 d3] 27)).cell? ⟨w4.heap.size, 6, none⟩ = some (.slice B3 n3 d3) := by rw [Lib.cell_of_heap (heap_alloc_new w4 _)]; rfl
      have hl4 : g + 1 < w4.heap.size := by omega
      clear aa0 aa1 aa2 aa3 aa4 aa5 aa6 bb0 bb1 bb2 bb3 bb4 bb5 bb6 a0 a1 a2 a3 a4 a5 a6 b0 b1 b2 b3 b4 b5 b6 hB4 hBM o1 o2 o3 hRm HR4 HQ4
      go_wp2_with fail
      generalize (w4.alloc (.cells #[.string x, .int .u16 k, .int .u16 l, .int .u32 t, .slice B1 n1 d1, .slice B2 n2 d2, .slice B3 n3 d3] 27)) = wm at *
      generalize w4.heap.size = h at *
      ((with_reducible refine (copy_is R x k l t B1 n1 d1 B2 n2 d2 B3 n3 d3 _ HRm hS HFM.out.1 HFM.out.2.1 HFM.out.2.2).mono ?_))
      rintro e w5 ⟨D1, e1, D2, e2, D3, e3, rfl, o1, o2, o3, hB6⟩
      have hs5 := hB6.size
      have aa0 : (w5.alloc (.cells #[.string x, .int .u16 k, .int .u16 l, .int .u32 t, .slice D1 n1 e1, .slice D2 n2 e2, .slice D3 n3 e3] 27)).cell? ⟨g, 0, none⟩ = some (.string x) := (World.cell?_alloc_lt _ _ _ (by show g < w5.heap.size; omega)).trans ((hB6.cell (p := ⟨g, 0, none⟩) (by show g < wm.heap.size; omega)).trans aa0')
      have bb0 : (w5.alloc (.cells #[.string x, .int .u16 k, .int .u16 l, .int .u32 t, .slice D1 n1 e1, .slice D2 n2 e2, .slice D3 n3 e3] 27)).cell? ⟨g + 1, 0, none⟩ = some (.string xq) := (World.cell?_alloc_lt _ _ _ (by show g + 1 < w5.heap.size; omega)).trans ((hB6.cell (p := ⟨g + 1, 0, none⟩) (by show g + 1 < wm.heap.size; omega)).trans bb0')
      have m0 : (w5.alloc (.cells #[.string x, .int .u16 k, .int .u16 l, .int .u32 t, .slice D1 n1 e1, .slice D2 n2 e2, .slice D3 n3 e3] 27)).cell? ⟨h, 0, none⟩ = some (.string x) := (World.cell?_alloc_lt _ _ _ (by show h < w5.heap.size; omega)).trans ((hB6.cell (p := ⟨h, 0, none⟩) (by show h < wm.heap.size; omega)).trans m0')
      have fc0 : (w5.alloc (.cells #[.string x, .int .u16 k, .int .u16 l, .int .u32 t, .slice D1 n1 e1, .slice D2 n2 e2, .slice D3 n3 e3] 27)).cell? ⟨w5.heap.size, 0, none⟩ = some (.string x) := by rw [Lib.cell_of_heap (heap_alloc_new w5 _)]; rfl
      have aa1 : (w5.alloc (.cells #[.string x, .int .u16 k, .int .u16 l, .int .u32 t, .slice D1 n1 e1, .slice D2 n2 e2, .slice D3 n3 e3] 27)).cell? ⟨g, 1, none⟩ = some (.int .u16 k) := (World.cell?_alloc_lt _ _ _ (by show g < w5.heap.size; omega)).trans ((hB6.cell (p := ⟨g, 1, none⟩) (by show g < wm.heap.size; omega)).trans aa1')
      have bb1 : (w5.alloc (.cells #[.string x, .int .u16 k, .int .u16 l, .int .u32 t, .slice D1 n1 e1, .slice D2 n2 e2, .slice D3 n3 e3] 27)).cell? ⟨g + 1, 1, none⟩ = some (.int .u16 kq) := (World.cell?_alloc_lt _ _ _ (by show g + 1 < w5.heap.size; omega)).trans ((hB6.cell (p := ⟨g + 1, 1, none⟩) (by show g + 1 < wm.heap.size; omega)).trans bb1')
      have m1 : (w5.alloc (.cells #[.string x, .int .u16 k, .int .u16 l, .int .u32 t, .slice D1 n1 e1, .slice D2 n2 e2, .slice D3 n3 e3] 27)).cell? ⟨h, 1, none⟩ = some (.int .u16 k) := (World.cell?_alloc_lt _ _ _ (by show h < w5.heap.size; omega)).trans ((hB6.cell (p := ⟨h, 1, none⟩) (by show h < wm.heap.size; omega)).trans m1')
      have fc1 : (w5.alloc (.cells #[.string x, .int .u16 k, .int .u16 l, .int .u32 t, .slice D1 n1 e1, .slice D2 n2 e2, .slice D3 n3 e3] 27)).cell? ⟨w5.heap.size, 1, none⟩ = some (.int .u16 k) := by rw [Lib.cell_of_heap (heap_alloc_new w5 _)]; rfl
      have aa2 : (w5.alloc (.cells #[.string x, .int .u16 k, .int .u16 l, .int .u32 t, .slice D1 n1 e1, .slice D2 n2 e2, .slice D3 n3 e3] 27)).cell? ⟨g, 2, none⟩ = some (.int .u16 l) := (World.cell?_alloc_lt _ _ _ (by show g < w5.heap.size; omega)).trans ((hB6.cell (p := ⟨g, 2, none⟩) (by show g < wm.heap.size; omega)).trans aa2')
      have bb2 : (w5.alloc (.cells #[.string x, .int .u16 k, .int .u16 l, .int .u32 t, .slice D1 n1 e1, .slice D2 n2 e2, .slice D3 n3 e3] 27)).cell? ⟨g + 1, 2, none⟩ = some (.int .u16 lq) := (World.cell?_alloc_lt _ _ _ (by show g + 1 < w5.heap.size; omega)).trans ((hB6.cell (p := ⟨g + 1, 2, none⟩) (by show g + 1 < wm.heap.size; omega)).trans bb2')
      have m2 : (w5.alloc (.cells #[.string x, .int .u16 k, .int .u16 l, .int .u32 t, .slice D1 n1 e1, .slice D2 n2 e2, .slice D3 n3 e3] 27)).cell? ⟨h, 2, none⟩ = some (.int .u16 l) := (World.cell?_alloc_lt _ _ _ (by show h < w5.heap.size; omega)).trans ((hB6.cell (p := ⟨h, 2, none⟩) (by show h < wm.heap.size; omega)).trans m2')
      have fc2 : (w5.alloc (.cells #[.string x, .int .u16 k, .int .u16 l, .int .u32 t, .slice D1 n1 e1, .slice D2 n2 e2, .slice D3 n3 e3] 27)).cell? ⟨w5.heap.size, 2, none⟩ = some (.int .u16 l) := by rw [Lib.cell_of_heap (heap_alloc_new w5 _)]; rfl
      have aa3 : (w5.alloc (.cells #[.string x, .int .u16 k, .int .u16 l, .int .u32 t, .slice D1 n1 e1, .slice D2 n2 e2, .slice D3 n3 e3] 27)).cell? ⟨g, 3, none⟩ = some (.int .u32 t) := (World.cell?_alloc_lt _ _ _ (by show g < w5.heap.size; omega)).trans ((hB6.cell (p := ⟨g, 3, none⟩) (by show g < wm.heap.size; omega)).trans aa3')
      have bb3 : (w5.alloc (.cells #[.string x, .int .u16 k, .int .u16 l, .int .u32 t, .slice D1 n1 e1, .slice D2 n2 e2, .slice D3 n3 e3] 27)).cell? ⟨g + 1, 3, none⟩ = some (.int .u32 tq) := (World.cell?_alloc_lt _ _ _ (by show g + 1 < w5.heap.size; omega)).trans ((hB6.cell (p := ⟨g + 1, 3, none⟩) (by show g + 1 < wm.heap.size; omega)).trans bb3')
      have m3 : (w5.alloc (.cells #[.string x, .int .u16 k, .int .u16 l, .int .u32 t, .slice D1 n1 e1, .slice D2 n2 e2, .slice D3 n3 e3] 27)).cell? ⟨h, 3, none⟩ = some (.int .u32 t) := (World.cell?_alloc_lt _ _ _ (by show h < w5.heap.size; omega)).trans ((hB6.cell (p := ⟨h, 3, none⟩) (by show h < wm.heap.size; omega)).trans m3')
      have fc3 : (w5.alloc (.cells #[.string x, .int .u16 k, .int .u16 l, .int .u32 t, .slice D1 n1 e1, .slice D2 n2 e2, .slice D3 n3 e3] 27)).cell? ⟨w5.heap.size, 3, none⟩ = some (.int .u32 t) := by rw [Lib.cell_of_heap (heap_alloc_new w5 _)]; rfl
      have aa4 : (w5.alloc (.cells #[.string x, .int .u16 k, .int .u16 l, .int .u32 t, .slice D1 n1 e1, .slice D2 n2 e2, .slice D3 n3 e3] 27)).cell? ⟨g, 4, none⟩ = some (.slice A1 n1 c1) := (World.cell?_alloc_lt _ _ _ (by show g < w5.heap.size; omega)).trans ((hB6.cell (p := ⟨g, 4, none⟩) (by show g < wm.heap.size; omega)).trans aa4')
      have bb4 : (w5.alloc (.cells #[.string x, .int .u16 k, .int .u16 l, .int .u32 t, .slice D1 n1 e1, .slice D2 n2 e2, .slice D3 n3 e3] 27)).cell? ⟨g + 1, 4, none⟩ = some (.slice Aq1 nq1 cq1) := (World.cell?_alloc_lt _ _ _ (by show g + 1 < w5.heap.size; omega)).trans ((hB6.cell (p := ⟨g + 1, 4, none⟩) (by show g + 1 < wm.heap.size; omega)).trans bb4')
      have m4 : (w5.alloc (.cells #[.string x, .int .u16 k, .int .u16 l, .int .u32 t, .slice D1 n1 e1, .slice D2 n2 e2, .slice D3 n3 e3] 27)).cell? ⟨h, 4, none⟩ = some (.slice B1 n1 d1) := (World.cell?_alloc_lt _ _ _ (by show h < w5.heap.size; omega)).trans ((hB6.cell (p := ⟨h, 4, none⟩) (by show h < wm.heap.size; omega)).trans m4')
      have fc4 : (w5.alloc (.cells #[.string x, .int .u16 k, .int .u16 l, .int .u32 t, .slice D1 n1 e1, .slice D2 n2 e2, .slice D3 n3 e3] 27)).cell? ⟨w5.heap.size, 4, none⟩ = some (.slice D1 n1 e1) := by rw [Lib.cell_of_heap (heap_alloc_new w5 _)]; rfl
      have aa5 : (w5.alloc (.cells #[.string x, .int .u16 k, .int .u16 l, .int .u32 t, .slice D1 n1 e1, .slice D2 n2 e2, .slice D3 n3 e3] 27)).cell? ⟨g, 5, none⟩ = some (.slice A2 n2 c2) := (World.cell?_alloc_lt _ _ _ (by show g < w5.heap.size; omega)).trans ((hB6.cell (p := ⟨g, 5, none⟩) (by show g < wm.heap.size; omega)).trans aa5')
      have bb5 : (w5.alloc (.cells #[.string x, .int .u16 k, .int .u16 l, .int .u32 t, .slice D1 n1 e1, .slice D2 n2 e2, .slice D3 n3 e3] 27)).cell? ⟨g + 1, 5, none⟩ = some (.slice Aq2 nq2 cq2) := (World.cell?_alloc_lt _ _ _ (by show g + 1 < w5.heap.size; omega)).trans ((hB6.cell (p := ⟨g + 1, 5, none⟩) (by show g + 1 < wm.heap.size; omega)).trans bb5')
      have m5 : (w5.alloc (.cells #[.string x, .int .u16 k, .int .u16 l, .int .u32 t, .slice D1 n1 e1, .slice D2 n2 e2, .slice D3 n3 e3] 27)).cell? ⟨h, 5, none⟩ = some (.slice B2 n2 d2) := (World.cell?_alloc_lt _ _ _ (by show h < w5.heap.size; omega)).trans ((hB6.cell (p := ⟨h, 5, none⟩) (by show h < wm.heap.size; omega)).trans m5')
      have fc5 : (w5.alloc (.cells #[.string x, .int .u16 k, .int .u16 l, .int .u32 t, .slice D1 n1 e1, .slice D2 n2 e2, .slice D3 n3 e3] 27)).cell? ⟨w5.heap.size, 5, none⟩ = some (.slice D2 n2 e2) := by rw [Lib.cell_of_heap (heap_alloc_new w5 _)]; rfl
      have aa6 : (w5.alloc (.cells #[.string x, .int .u16 k, .int .u16 l, .int .u32 t, .slice D1 n1 e1, .slice D2 n2 e2, .slice D3 n3 e3] 27)).cell? ⟨g, 6, none⟩ = some (.slice A3 n3 c3) := (World.cell?_alloc_lt _ _ _ (by show g < w5.heap.size; omega)).trans ((hB6.cell (p := ⟨g, 6, none⟩) (by show g < wm.heap.size; omega)).trans aa6')
      have bb6 : (w5.alloc (.cells #[.string x, .int .u16 k, .int .u16 l, .int .u32 t, .slice D1 n1 e1, .slice D2 n2 e2, .slice D3 n3 e3] 27)).cell? ⟨g + 1, 6, none⟩ = some (.slice Aq3 nq3 cq3) := (World.cell?_alloc_lt _ _ _ (by show g + 1 < w5.heap.size; omega)).trans ((hB6.cell (p := ⟨g + 1, 6, none⟩) (by show g + 1 < wm.heap.size; omega)).trans bb6')
      have m6 : (w5.alloc (.cells #[.string x, .int .u16 k, .int .u16 l, .int .u32 t, .slice D1 n1 e1, .slice D2 n2 e2, .slice D3 n3 e3] 27)).cell? ⟨h, 6, none⟩ = some (.slice B3 n3 d3) := (World.cell?_alloc_lt _ _ _ (by show h < w5.heap.size; omega)).trans ((hB6.cell (p := ⟨h, 6, none⟩) (by show h < wm.heap.size; omega)).trans m6')
      have fc6 : (w5.alloc (.cells #[.string x, .int .u16 k, .int .u16 l, .int .u32 t, .slice D1 n1 e1, .slice D2 n2 e2, .slice D3 n3 e3] 27)).cell? ⟨w5.heap.size, 6, none⟩ = some (.slice D3 n3 e3) := by rw [Lib.cell_of_heap (heap_alloc_new w5 _)]; rfl
      have hRc := rec_of_own HRm.out.name HRm.out.kind HRm.out.cls HRm.out.ttl HRm.out.len1 HRm.out.len2 HRm.out.len3 o1 o2 o3
      have hBC : Below wm.heap.size wm (w5.alloc (.cells #[.string x, .int .u16 k, .int .u16 l, .int .u32 t, .slice D1 n1 e1, .slice D2 n2 e2, .slice D3 n3 e3] 27)) := hB6.alloc (by omega) _
      have hsC : (w5.alloc (.cells #[.string x, .int .u16 k, .int .u16 l, .int .u32 t, .slice D1 n1 e1, .slice D2 n2 e2, .slice D3 n3 e3] 27)).heap.size = w5.heap.size + 1 := by simp
      have HRc := Lib.hid (hRc.box (.cells #[.string x, .int .u16 k, .int .u16 l, .int .u32 t, .slice D1 n1 e1, .slice D2 n2 e2, .slice D3 n3 e3] 27))
      have HR6 : Hid (RecAt (w5.alloc (.cells #[.string x, .int .u16 k, .int .u16 l, .int .u32 t, .slice D1 n1 e1, .slice D2 n2 e2, .slice D3 n3 e3] 27)) wm.heap.size R x k l t A1 n1 A2 n2 A3 n3) := HR5.out.on hBC (Nat.le_refl _)
      have HQ6 : Hid (RecAt (w5.alloc (.cells #[.string x, .int .u16 k, .int .u16 l, .int .u32 t, .slice D1 n1 e1, .slice D2 n2 e2, .slice D3 n3 e3] 27)) wm.heap.size Rq xq kq lq tq Aq1 nq1 Aq2 nq2 Aq3 nq3) := HQ5.out.on hBC (Nat.le_refl _)
      have HRm6 : Hid (RecAt (w5.alloc (.cells #[.string x, .int .u16 k, .int .u16 l, .int .u32 t, .slice D1 n1 e1, .slice D2 n2 e2, .slice D3 n3 e3] 27)) wm.heap.size R x k l t B1 n1 B2 n2 B3 n3) := HRm.out.on hBC (Nat.le_refl _)
      have hBn : Below w5.heap.size w5 (w5.alloc (.cells #[.string x, .int .u16 k, .int .u16 l, .int .u32 t, .slice D1 n1 e1, .slice D2 n2 e2, .slice D3 n3 e3] 27)) := (Below.refl _ _).alloc (Nat.le_refl _) _
      have HO1 := Lib.hid (own_below o1 hBn)
      have HO2 := Lib.hid (own_below o2 hBn)
      have HO3 := Lib.hid (own_below o3 hBn)
      have HB6 : Hid (Below g w (w5.alloc (.cells #[.string x, .int .u16 k, .int .u16 l, .int .u32 t, .slice D1 n1 e1, .slice D2 n2 e2, .slice D3 n3 e3] 27))) := HB5.out.trans (hBC.mono (by omega))
      clear  aa0' bb0' m0' aa1' bb1' m1' aa2' bb2' m2' aa3' bb3' m3' aa4' bb4' m4' aa5' bb5' m5' aa6' bb6' m6' hB6 hBC hBn o1 o2 o3 hRc HR5 HQ5 HRm HB5
      go_wp2_with fail
      generalize (w5.alloc (.cells #[.string x, .int .u16 k, .int .u16 l, .int .u32 t, .slice D1 n1 e1, .slice D2 n2 e2, .slice D3 n3 e3] 27)) = wc at *
      generalize w5.heap.size = i at *
      generalize wm.heap.size = base at *
      obtain ⟨q, hq⟩ : ∃ q, sameB R Rq = q := ⟨_, rfl⟩
      have HQQ := Lib.hid hq
      have HSS : Hid (sameB R R = true) := by show _ = _; unfold sameB; exact decide_eq_true ⟨rfl, rfl, rfl, rfl, rfl, rfl, rfl⟩
      have hlc : h + 1 ≤ base := by omega
      clear hq
      have HCR : Hid (∀ W, Held wc W → W.cell? ⟨g, 0, none⟩ = some (.string x) ∧ W.cell? ⟨g, 1, none⟩ = some (.int .u16 k) ∧ W.cell? ⟨g, 2, none⟩ = some (.int .u16 l) ∧ W.cell? ⟨g, 3, none⟩ = some (.int .u32 t) ∧ W.cell? ⟨g, 4, none⟩ = some (.slice A1 n1 c1) ∧ W.cell? ⟨g, 5, none⟩ = some (.slice A2 n2 c2) ∧ W.cell? ⟨g, 6, none⟩ = some (.slice A3 n3 c3)) := by
        intro W hW
        have hW' : Below wc.heap.size wc W := hW
        exact ⟨(hW'.cell (p := ⟨g, 0, none⟩) (by show g < wc.heap.size; omega)).trans aa0, (hW'.cell (p := ⟨g, 1, none⟩) (by show g < wc.heap.size; omega)).trans aa1, (hW'.cell (p := ⟨g, 2, none⟩) (by show g < wc.heap.size; omega)).trans aa2, (hW'.cell (p := ⟨g, 3, none⟩) (by show g < wc.heap.size; omega)).trans aa3, (hW'.cell (p := ⟨g, 4, none⟩) (by show g < wc.heap.size; omega)).trans aa4, (hW'.cell (p := ⟨g, 5, none⟩) (by show g < wc.heap.size; omega)).trans aa5, (hW'.cell (p := ⟨g, 6, none⟩) (by show g < wc.heap.size; omega)).trans aa6⟩
      have HCQ : Hid (∀ W, Held wc W → W.cell? ⟨g + 1, 0, none⟩ = some (.string xq) ∧ W.cell? ⟨g + 1, 1, none⟩ = some (.int .u16 kq) ∧ W.cell? ⟨g + 1, 2, none⟩ = some (.int .u16 lq) ∧ W.cell? ⟨g + 1, 3, none⟩ = some (.int .u32 tq) ∧ W.cell? ⟨g + 1, 4, none⟩ = some (.slice Aq1 nq1 cq1) ∧ W.cell? ⟨g + 1, 5, none⟩ = some (.slice Aq2 nq2 cq2) ∧ W.cell? ⟨g + 1, 6, none⟩ = some (.slice Aq3 nq3 cq3)) := by
        intro W hW
        have hW' : Below wc.heap.size wc W := hW
        exact ⟨(hW'.cell (p := ⟨g + 1, 0, none⟩) (by show g + 1 < wc.heap.size; omega)).trans bb0, (hW'.cell (p := ⟨g + 1, 1, none⟩) (by show g + 1 < wc.heap.size; omega)).trans bb1, (hW'.cell (p := ⟨g + 1, 2, none⟩) (by show g + 1 < wc.heap.size; omega)).trans bb2, (hW'.cell (p := ⟨g + 1, 3, none⟩) (by show g + 1 < wc.heap.size; omega)).trans bb3, (hW'.cell (p := ⟨g + 1, 4, none⟩) (by show g + 1 < wc.heap.size; omega)).trans bb4, (hW'.cell (p := ⟨g + 1, 5, none⟩) (by show g + 1 < wc.heap.size; omega)).trans bb5, (hW'.cell (p := ⟨g + 1, 6, none⟩) (by show g + 1 < wc.heap.size; omega)).trans bb6⟩
      have HCC : Hid (∀ W, Held wc W → W.cell? ⟨i, 0, none⟩ = some (.string x) ∧ W.cell? ⟨i, 1, none⟩ = some (.int .u16 k) ∧ W.cell? ⟨i, 2, none⟩ = some (.int .u16 l) ∧ W.cell? ⟨i, 3, none⟩ = some (.int .u32 t) ∧ W.cell? ⟨i, 4, none⟩ = some (.slice D1 n1 e1) ∧ W.cell? ⟨i, 5, none⟩ = some (.slice D2 n2 e2) ∧ W.cell? ⟨i, 6, none⟩ = some (.slice D3 n3 e3)) := by
        intro W hW
        have hW' : Below wc.heap.size wc W := hW
        exact ⟨(hW'.cell (p := ⟨i, 0, none⟩) (by show i < wc.heap.size; omega)).trans fc0, (hW'.cell (p := ⟨i, 1, none⟩) (by show i < wc.heap.size; omega)).trans fc1, (hW'.cell (p := ⟨i, 2, none⟩) (by show i < wc.heap.size; omega)).trans fc2, (hW'.cell (p := ⟨i, 3, none⟩) (by show i < wc.heap.size; omega)).trans fc3, (hW'.cell (p := ⟨i, 4, none⟩) (by show i < wc.heap.size; omega)).trans fc4, (hW'.cell (p := ⟨i, 5, none⟩) (by show i < wc.heap.size; omega)).trans fc5, (hW'.cell (p := ⟨i, 6, none⟩) (by show i < wc.heap.size; omega)).trans fc6⟩
      have HS1 : Hid (∀ W, Held wc W → Calls Try.prog 17 #[.agg #[.string x, .int .u16 k, .int .u16 l, .int .u32 t, .slice A1 n1 c1, .slice A2 n2 c2, .slice A3 n3 c3], .agg #[.string xq, .int .u16 kq, .int .u16 lq, .int .u32 tq, .slice Aq1 nq1 cq1, .slice Aq2 nq2 cq2, .slice Aq3 nq3 cq3]] W fun e w' => e = .returned (.bool q) ∧ Held wc w') := fun W hW => (same_is R Rq x k l t A1 n1 c1 A2 n2 c2 A3 n3 c3 xq kq lq tq Aq1 nq1 cq1 Aq2 nq2 cq2 Aq3 nq3 cq3 q W (HR6.out.on (Below.mono hW (by omega)) (by have := Below.size hW; omega)) hS (HQ6.out.on (Below.mono hW (by omega)) (by have := Below.size hW; omega)) hSq HQQ).mono fun _ _ ⟨he, hb⟩ => ⟨he, Below.trans hW (hb.mono (Below.size hW))⟩
      have HS2 : Hid (∀ W, Held wc W → Calls Try.prog 18 #[.agg #[.string x, .int .u16 k, .int .u16 l, .int .u32 t, .slice A1 n1 c1, .slice A2 n2 c2, .slice A3 n3 c3], .agg #[.string xq, .int .u16 kq, .int .u16 lq, .int .u32 tq, .slice Aq1 nq1 cq1, .slice Aq2 nq2 cq2, .slice Aq3 nq3 cq3]] W fun e w' => e = .returned (.bool q) ∧ Held wc w') := fun W hW => (refSame_is R Rq x k l t A1 n1 c1 A2 n2 c2 A3 n3 c3 xq kq lq tq Aq1 nq1 cq1 Aq2 nq2 cq2 Aq3 nq3 cq3 q W (HR6.out.on (Below.mono hW (by omega)) (by have := Below.size hW; omega)) hS (HQ6.out.on (Below.mono hW (by omega)) (by have := Below.size hW; omega)) hSq HQQ).mono fun _ _ ⟨he, hb⟩ => ⟨he, Below.trans hW (hb.mono (Below.size hW))⟩
      have HS3 : Hid (∀ W, Held wc W → Calls Try.prog 17 #[.agg #[.string x, .int .u16 k, .int .u16 l, .int .u32 t, .slice D1 n1 e1, .slice D2 n2 e2, .slice D3 n3 e3], .agg #[.string x, .int .u16 k, .int .u16 l, .int .u32 t, .slice A1 n1 c1, .slice A2 n2 c2, .slice A3 n3 c3]] W fun e w' => e = .returned (.bool true) ∧ Held wc w') := fun W hW => (same_is R R x k l t D1 n1 e1 D2 n2 e2 D3 n3 e3 x k l t A1 n1 c1 A2 n2 c2 A3 n3 c3 true W (HRc.out.on hW (Below.size hW)) hS (HR6.out.on (Below.mono hW (by omega)) (by have := Below.size hW; omega)) hS HSS).mono fun _ _ ⟨he, hb⟩ => ⟨he, Below.trans hW (hb.mono (Below.size hW))⟩
      have hH0 : Held wc wc.drew := (Below.refl _ _).drew
      have fq : (q != q) = false := by simp
      refine region_quiet (C := fun w' => Held wc w') (by kernel_rfl) (by kernel_rfl) hH0 ?_
      refine qstep (v := ?qv0) (by rfl) ?qh0 ?_
      case qh0 => (intro wq hq; have hcs := HCR.out wq hq; go_split_ands; go_simp; try (with_reducible rfl))
      try simp only [Act.put, List.setIfInBounds_toArray, List.set_cons_zero, List.set_cons_succ]
      refine qstep (v := ?qv1) (by rfl) ?qh1 ?_
      case qh1 => (intro wq hq; have hcs := HCQ.out wq hq; go_split_ands; go_simp; try (with_reducible rfl))
      try simp only [Act.put, List.setIfInBounds_toArray, List.set_cons_zero, List.set_cons_succ]
      refine qstep (v := ?qv2) (by rfl) ?qh2 ?_
      case qh2 => (intro wq hq; go_simp; exact HS1.out wq hq)
      try simp only [Act.put, List.setIfInBounds_toArray, List.set_cons_zero, List.set_cons_succ]
      refine qstep (v := ?qv3) (by rfl) ?qh3 ?_
      case qh3 => (intro wq hq; have hcs := HCR.out wq hq; go_split_ands; go_simp; try (with_reducible rfl))
      try simp only [Act.put, List.setIfInBounds_toArray, List.set_cons_zero, List.set_cons_succ]
      refine qstep (v := ?qv4) (by rfl) ?qh4 ?_
      case qh4 => (intro wq hq; have hcs := HCQ.out wq hq; go_split_ands; go_simp; try (with_reducible rfl))
      try simp only [Act.put, List.setIfInBounds_toArray, List.set_cons_zero, List.set_cons_succ]
      refine qstep (v := ?qv5) (by rfl) ?qh5 ?_
      case qh5 => (intro wq hq; go_simp; exact HS2.out wq hq)
      try simp only [Act.put, List.setIfInBounds_toArray, List.set_cons_zero, List.set_cons_succ]
      refine qstep (v := ?qv6) (by rfl) ?qh6 ?_
      case qh6 => (intro wq hq; go_simp; try (with_reducible rfl))
      try simp only [Act.put, List.setIfInBounds_toArray, List.set_cons_zero, List.set_cons_succ]
      refine qstep (v := ?qv7) (by rfl) ?qh7 ?_
      case qh7 => (intro wq hq; go_simp; try (with_reducible rfl))
      try simp only [Act.put, List.setIfInBounds_toArray, List.set_cons_zero, List.set_cons_succ]
      refine qstep (v := ?qv8) (by rfl) ?qh8 ?_
      case qh8 => (intro wq hq; have hcs := HCC.out wq hq; go_split_ands; go_simp; try (with_reducible rfl))
      try simp only [Act.put, List.setIfInBounds_toArray, List.set_cons_zero, List.set_cons_succ]
      refine qstep (v := ?qv9) (by rfl) ?qh9 ?_
      case qh9 => (intro wq hq; have hcs := HCR.out wq hq; go_split_ands; go_simp; try (with_reducible rfl))
      try simp only [Act.put, List.setIfInBounds_toArray, List.set_cons_zero, List.set_cons_succ]
      refine qstep (v := ?qv10) (by rfl) ?qh10 ?_
      case qh10 => (intro wq hq; go_simp; exact HS3.out wq hq)
      try simp only [Act.put, List.setIfInBounds_toArray, List.set_cons_zero, List.set_cons_succ]
      refine qstep (v := ?qv11) (by rfl) ?qh11 ?_
      case qh11 => (intro wq hq; go_simp; try (with_reducible rfl))
      try simp only [Act.put, List.setIfInBounds_toArray, List.set_cons_zero, List.set_cons_succ]
      refine qstep (v := ?qv12) (by rfl) ?qh12 ?_
      case qh12 => (intro wq hq; go_simp; try (with_reducible rfl))
      try simp only [Act.put, List.setIfInBounds_toArray, List.set_cons_zero, List.set_cons_succ]
      refine wpQuiet_nil ?_
      intro w6 hC6
      have hC6' : Below wc.heap.size wc w6 := hC6
      have hs6 := hC6'.size
      have a0 : w6.cell? ⟨g, 0, none⟩ = some (.string x) := (hC6'.cell (p := ⟨g, 0, none⟩) (by show g < wc.heap.size; omega)).trans aa0
      have a1 : w6.cell? ⟨g, 1, none⟩ = some (.int .u16 k) := (hC6'.cell (p := ⟨g, 1, none⟩) (by show g < wc.heap.size; omega)).trans aa1
      have a2 : w6.cell? ⟨g, 2, none⟩ = some (.int .u16 l) := (hC6'.cell (p := ⟨g, 2, none⟩) (by show g < wc.heap.size; omega)).trans aa2
      have a3 : w6.cell? ⟨g, 3, none⟩ = some (.int .u32 t) := (hC6'.cell (p := ⟨g, 3, none⟩) (by show g < wc.heap.size; omega)).trans aa3
      have a4 : w6.cell? ⟨g, 4, none⟩ = some (.slice A1 n1 c1) := (hC6'.cell (p := ⟨g, 4, none⟩) (by show g < wc.heap.size; omega)).trans aa4
      have a5 : w6.cell? ⟨g, 5, none⟩ = some (.slice A2 n2 c2) := (hC6'.cell (p := ⟨g, 5, none⟩) (by show g < wc.heap.size; omega)).trans aa5
      have a6 : w6.cell? ⟨g, 6, none⟩ = some (.slice A3 n3 c3) := (hC6'.cell (p := ⟨g, 6, none⟩) (by show g < wc.heap.size; omega)).trans aa6
      have mm0 : w6.cell? ⟨h, 0, none⟩ = some (.string x) := (hC6'.cell (p := ⟨h, 0, none⟩) (by show h < wc.heap.size; omega)).trans m0
      have mm1 : w6.cell? ⟨h, 1, none⟩ = some (.int .u16 k) := (hC6'.cell (p := ⟨h, 1, none⟩) (by show h < wc.heap.size; omega)).trans m1
      have mm2 : w6.cell? ⟨h, 2, none⟩ = some (.int .u16 l) := (hC6'.cell (p := ⟨h, 2, none⟩) (by show h < wc.heap.size; omega)).trans m2
      have mm3 : w6.cell? ⟨h, 3, none⟩ = some (.int .u32 t) := (hC6'.cell (p := ⟨h, 3, none⟩) (by show h < wc.heap.size; omega)).trans m3
      have mm4 : w6.cell? ⟨h, 4, none⟩ = some (.slice B1 n1 d1) := (hC6'.cell (p := ⟨h, 4, none⟩) (by show h < wc.heap.size; omega)).trans m4
      have mm5 : w6.cell? ⟨h, 5, none⟩ = some (.slice B2 n2 d2) := (hC6'.cell (p := ⟨h, 5, none⟩) (by show h < wc.heap.size; omega)).trans m5
      have mm6 : w6.cell? ⟨h, 6, none⟩ = some (.slice B3 n3 d3) := (hC6'.cell (p := ⟨h, 6, none⟩) (by show h < wc.heap.size; omega)).trans m6
      have cc0 : w6.cell? ⟨i, 0, none⟩ = some (.string x) := (hC6'.cell (p := ⟨i, 0, none⟩) (by show i < wc.heap.size; omega)).trans fc0
      have cc1 : w6.cell? ⟨i, 1, none⟩ = some (.int .u16 k) := (hC6'.cell (p := ⟨i, 1, none⟩) (by show i < wc.heap.size; omega)).trans fc1
      have cc2 : w6.cell? ⟨i, 2, none⟩ = some (.int .u16 l) := (hC6'.cell (p := ⟨i, 2, none⟩) (by show i < wc.heap.size; omega)).trans fc2
      have cc3 : w6.cell? ⟨i, 3, none⟩ = some (.int .u32 t) := (hC6'.cell (p := ⟨i, 3, none⟩) (by show i < wc.heap.size; omega)).trans fc3
      have cc4 : w6.cell? ⟨i, 4, none⟩ = some (.slice D1 n1 e1) := (hC6'.cell (p := ⟨i, 4, none⟩) (by show i < wc.heap.size; omega)).trans fc4
      have cc5 : w6.cell? ⟨i, 5, none⟩ = some (.slice D2 n2 e2) := (hC6'.cell (p := ⟨i, 5, none⟩) (by show i < wc.heap.size; omega)).trans fc5
      have cc6 : w6.cell? ⟨i, 6, none⟩ = some (.slice D3 n3 e3) := (hC6'.cell (p := ⟨i, 6, none⟩) (by show i < wc.heap.size; omega)).trans fc6
      have HP1 := Lib.hid (own_below HO1.out hC6')
      have HP2 := Lib.hid (own_below HO2.out hC6')
      have HP3 := Lib.hid (own_below HO3.out hC6')
      have HR7 := Lib.hid (HR6.out.on (hC6'.mono (by omega)) (Nat.le_refl base))
      have HRm7 := Lib.hid (HRm6.out.on (hC6'.mono (by omega)) (Nat.le_refl base))
      have HB7 := Lib.hid (HB6.out.trans (hC6'.mono (by omega)))
      clear aa0 aa1 aa2 aa3 aa4 aa5 aa6 bb0 bb1 bb2 bb3 bb4 bb5 bb6 m0 m1 m2 m3 m4 m5 m6 fc0 fc1 fc2 fc3 fc4 fc5 fc6 hC6 hC6' HO1 HO2 HO3 HR6 HQ6 HRm6 HRc HB6 HCR HCQ HCC HS1 HS2 HS3
      go_wp2_with fail
      ((with_reducible refine (spoil_is x k l t D1 n1 e1 D2 n2 e2 D3 n3 e3 base _ _ _ _ HP1.out HP2.out HP3.out (by omega) (by omega) (by omega) (by omega)).mono ?_))
      rintro e w7 ⟨rfl, hB7⟩
      have hs7 := hB7.size
      have aa0 : w7.cell? ⟨g, 0, none⟩ = some (.string x) := (hB7.cell (p := ⟨g, 0, none⟩) (by show g < base; omega)).trans a0
      have aa1 : w7.cell? ⟨g, 1, none⟩ = some (.int .u16 k) := (hB7.cell (p := ⟨g, 1, none⟩) (by show g < base; omega)).trans a1
      have aa2 : w7.cell? ⟨g, 2, none⟩ = some (.int .u16 l) := (hB7.cell (p := ⟨g, 2, none⟩) (by show g < base; omega)).trans a2
      have aa3 : w7.cell? ⟨g, 3, none⟩ = some (.int .u32 t) := (hB7.cell (p := ⟨g, 3, none⟩) (by show g < base; omega)).trans a3
      have aa4 : w7.cell? ⟨g, 4, none⟩ = some (.slice A1 n1 c1) := (hB7.cell (p := ⟨g, 4, none⟩) (by show g < base; omega)).trans a4
      have aa5 : w7.cell? ⟨g, 5, none⟩ = some (.slice A2 n2 c2) := (hB7.cell (p := ⟨g, 5, none⟩) (by show g < base; omega)).trans a5
      have aa6 : w7.cell? ⟨g, 6, none⟩ = some (.slice A3 n3 c3) := (hB7.cell (p := ⟨g, 6, none⟩) (by show g < base; omega)).trans a6
      have m0 : w7.cell? ⟨h, 0, none⟩ = some (.string x) := (hB7.cell (p := ⟨h, 0, none⟩) (by show h < base; omega)).trans mm0
      have m1 : w7.cell? ⟨h, 1, none⟩ = some (.int .u16 k) := (hB7.cell (p := ⟨h, 1, none⟩) (by show h < base; omega)).trans mm1
      have m2 : w7.cell? ⟨h, 2, none⟩ = some (.int .u16 l) := (hB7.cell (p := ⟨h, 2, none⟩) (by show h < base; omega)).trans mm2
      have m3 : w7.cell? ⟨h, 3, none⟩ = some (.int .u32 t) := (hB7.cell (p := ⟨h, 3, none⟩) (by show h < base; omega)).trans mm3
      have m4 : w7.cell? ⟨h, 4, none⟩ = some (.slice B1 n1 d1) := (hB7.cell (p := ⟨h, 4, none⟩) (by show h < base; omega)).trans mm4
      have m5 : w7.cell? ⟨h, 5, none⟩ = some (.slice B2 n2 d2) := (hB7.cell (p := ⟨h, 5, none⟩) (by show h < base; omega)).trans mm5
      have m6 : w7.cell? ⟨h, 6, none⟩ = some (.slice B3 n3 d3) := (hB7.cell (p := ⟨h, 6, none⟩) (by show h < base; omega)).trans mm6
      have HR8 := Lib.hid (HR7.out.on hB7 (show base ≤ w7.heap.size by omega))
      have HRm8 := Lib.hid (HRm7.out.on hB7 (show base ≤ w7.heap.size by omega))
      have HB8 := Lib.hid (HB7.out.trans (hB7.mono (by omega)))
      clear a0 a1 a2 a3 a4 a5 a6 mm0 mm1 mm2 mm3 mm4 mm5 mm6 cc0 cc1 cc2 cc3 cc4 cc5 cc6 hB7 HR7 HRm7 HB7 HP1 HP2 HP3
      go_wp2_with fail
      ((with_reducible refine (refSame_is R R x k l t B1 n1 d1 B2 n2 d2 B3 n3 d3 x k l t A1 n1 c1 A2 n2 c2 A3 n3 c3 true _ HRm8 hS HR8 hS HSS).mono ?_))
      rintro e w8 ⟨rfl, hB8⟩
      go_wp2_with fail
      go_ret
      exact ⟨rfl, by rw [HGW.out]; exact HB8.out.trans (hB8.mono (by omega))⟩

set_option maxRecDepth 100000 in
theorem lifted (os : Os) (started : os.Started) (H : Type) (enc : TypeId × Value → H) :
    ReturnsInHanded {} Try.checked os 4 .any (Rows.dataSameSpec.pre6 enc Try.prog Try.f4 Rows.dataSameRow.domain false) (Rows.dataSameSpec.post enc Try.prog Try.f4 false true false false) := by
  refine returnsInHanded_of_change (C := Try.checked) own started (by kernel_rfl) Try.func4
    (ChangeSpec.witness6 (enc := enc) (C := Try.checked) false ⟨#[], #[.agg #[.string ByteArray.empty, .int .u16 0, .int .u16 0, .int .u32 0, .slice none 0 0, .slice none 0 0, .slice none 0 0], .agg #[.string ByteArray.empty, .int .u16 0, .int .u16 0, .int .u32 0, .slice none 0 0, .slice none 0 0, .slice none 0 0]], []⟩ 8 (by kernel_rfl) (by kernel_rfl) (by kernel_rfl) (by kernel_rfl)) ?_
  intro W base args ds gs before hval0 hW hcnd _
  have hval : ∀ (j : Nat) t v, Try.f4.params[j]? = some t → args[j]? = some v → Value.okWide Try.prog W .any base t v := hval0
  have hW' := hW
  obtain ⟨p, q, hA0, hV, rfl, hfz, hnd⟩ := hW
  have hA : DataW.TrodAll enc Try.prog W 0 (fun _ => true) true Try.f4.params.toList args.toList ds p := hA0
  rw [Try.params4] at hA hval
  obtain ⟨v0, vs0, d0, ds0, p0, q0, hargs, rfl, rfl, h0, r0⟩ := trodAll_cons hA
  obtain ⟨v1, vs1, d1, ds1, p1, q1, rfl, rfl, rfl, h1, r1⟩ := trodAll_cons r0
  obtain ⟨rfl, rfl, rfl⟩ := trodAll_nil r1
  obtain rfl : args = #[v0, v1] := by cases args; simp_all
  obtain ⟨rfl, rfl⟩ := trodVars_none hV
  have k00 := h0
  have lt0 : ∀ x ∈ p0, x.block < W.heap.size := by obtain ⟨m, hm⟩ := k00; exact DataW.trod_lt m _ _ _ hm
  obtain ⟨R, x, k, l, t, A1, n1, c1, A2, n2, c2, A3, n3, c3, hc0⟩ := came_rec (hval 0 27 v0 rfl rfl) h0
  obtain ⟨rfl, hR0, hb0, hf0, hu0⟩ := hc0
  have k10 := h1
  have lt1 : ∀ x ∈ p1, x.block < W.heap.size := by obtain ⟨m, hm⟩ := k10; exact DataW.trod_lt m _ _ _ hm
  obtain ⟨Rq, xq, kq, lq, tq, Aq1, nq1, cq1, Aq2, nq2, cq2, Aq3, nq3, cq3, hc1⟩ := came_rec (hval 1 27 v1 rfl rfl) h1
  obtain ⟨rfl, hR1, hb1, hf1, hu1⟩ := hc1
  clear hA0 hval0
  refine (walk R x k l t A1 n1 c1 A2 n2 c2 A3 n3 c3 Rq xq kq lq tq Aq1 nq1 cq1 Aq2 nq2 cq2 Aq3 nq3 cq3 W hR0 hb0 hf0 hu0 hR1 hb1 hf1 hu1).mono fun e W' ⟨he, bel⟩ => ?_
  subst he
  exact ⟨_, rfl, _, _, _, [], _, [], hW', trodAll_mk1 (shut_bool Try.underlying4 _), (trodAll_cons_mk (Below.trod laidOut (by kernel_rfl) (of_decide_eq_true (by kernel_rfl)) k00 bel lt0) (trodAll_cons_mk (Below.trod laidOut (by kernel_rfl) (of_decide_eq_true (by kernel_rfl)) k10 bel lt1) trodAll_mk0)), rfl, bel.frame _, fun h => by cases h⟩

theorem over : Rows.dataSameRow.holds Try.pinned (OpenSpec.ofChange Rows.dataSameSpec) :=
  OpenClaim.holds_of_wide 4 Try.f4 rfl rfl rfl rfl rfl rfl rfl ⟨rfl, rfl, rfl, rfl, rfl⟩ rfl rfl rfl rfl rfl (by kernel_rfl) Try.func4 (by kernel_rfl)
    (of_decide_eq_true (by kernel_rfl)) (by unfold Func.isWrapper; first | (rw [if_pos (by decide +kernel)]; kernel_rfl) | (rw [if_neg (by decide +kernel)]; exact ⟨rfl, rfl⟩))
    (fun os started H enc _ => lifted os started H enc)

theorem proved : Rows.DataSameSaid := over
#print axioms proved
end Go.Proofs.Ytnpdhfjglfpjcaa.dataSame
