/- Proves DataChecks: any record is told right or not, and has plain bytes, just as the document says; each type has its shape. No condition. -/
import Derived.Test.YtnpdhfjglfpjcaaRows
import Derived.Test.YtnpdhfjglfpjcaaRecFrame
import Derived.Test.YtnpdhfjglfpjcaaRecAwake
import Derived.Test.YtnpdhfjglfpjcaaRecFew
import Derived.Test.YtnpdhfjglfpjcaaQuietHeld
import Derived.Test.YtnpdhfjglfpjcaaRecPlain
import Derived.Test.YtnpdhfjglfpjcaaRecRefCheck
import Derived.WalkKit
import Derived.ProofKit
import Derived.OpenShut
import Derived.ShutString
import Derived.ChangeOld
import Derived.Below
import Derived.Deep.RegionHeld3
namespace Go.Proofs.Ytnpdhfjglfpjcaa.dataChecks
open Go.ChangeShapes Go.WideShapes Go.ChangeAt Go.RowKit
open Go.ChangeMaps (open_string shut_string)
open Bytes Strs Nums NameMath RecMath
set_option linter.unusedVariables false

theorem own : ownKnob Try.prog.godebug = none := by kernel_rfl
theorem laidOut : laidOutB Try.prog = true := by kernel_rfl

set_option maxHeartbeats 8000000 in
set_option maxRecDepth 100000 in
set_option linter.unusedSimpArgs false in
theorem walk (R : Rec) (x : ByteArray) (k l t : Nat) (A1 : Option Addr) (n1 c1 : Nat) (A2 : Option Addr) (n2 c2 : Nat) (A3 : Option Addr) (n3 c3 : Nat) (m1 : Nat) (w : World) (hR0 : RecAt w w.heap.size R x k l t A1 n1 A2 n2 A3 n3) (hb0 : k ≤ 65535 ∧ l ≤ 65535 ∧ t ≤ 4294967295 ∧ x.size ≤ maxLen ∧ n1 ≤ maxLen ∧ n2 ≤ maxLen ∧ n3 ≤ maxLen) (hf0 : (A1 = none → c1 = 0) ∧ (A2 = none → c2 = 0) ∧ (A3 = none → c3 = 0)) (hu0 : ∀ k, k < R.nums.length → R.nums.getD k 0 ≤ 4294967295) (hm1 : m1 ≤ 65535) :
    Calls Try.prog 3 #[.agg #[.string x, .int .u16 k, .int .u16 l, .int .u32 t, .slice A1 n1 c1, .slice A2 n2 c2, .slice A3 n3 c3], .int .u16 m1] w fun e w' => e = .returned (.bool true) ∧ Below w.heap.size w w' := by
  have HR := Lib.hid hR0
  have HF := Lib.hid hf0
  have HU := Lib.hid hu0
  obtain ⟨_, _, _, _, hx1, hx2, hx3⟩ := hb0
  have HX1 := Lib.hid hx1
  have HX2 := Lib.hid hx2
  have HX3 := Lib.hid hx3
  have hB0 : Below w.heap.size w (w.alloc (.cells #[.string x, .int .u16 k, .int .u16 l, .int .u32 t, .slice A1 n1 c1, .slice A2 n2 c2, .slice A3 n3 c3] 27)) := (Below.refl _ _).alloc (Nat.le_refl _) _
  have HR1 := Lib.hid (hR0.box (.cells #[.string x, .int .u16 k, .int .u16 l, .int .u32 t, .slice A1 n1 c1, .slice A2 n2 c2, .slice A3 n3 c3] 27))
  have hs0 : (w.alloc (.cells #[.string x, .int .u16 k, .int .u16 l, .int .u32 t, .slice A1 n1 c1, .slice A2 n2 c2, .slice A3 n3 c3] 27)).heap.size = w.heap.size + 1 := by simp
  have d0 : (w.alloc (.cells #[.string x, .int .u16 k, .int .u16 l, .int .u32 t, .slice A1 n1 c1, .slice A2 n2 c2, .slice A3 n3 c3] 27)).cell? ⟨w.heap.size, 0, none⟩ = some (.string x) := by simp
  have d1 : (w.alloc (.cells #[.string x, .int .u16 k, .int .u16 l, .int .u32 t, .slice A1 n1 c1, .slice A2 n2 c2, .slice A3 n3 c3] 27)).cell? ⟨w.heap.size, 1, none⟩ = some (.int .u16 k) := by simp
  have d2 : (w.alloc (.cells #[.string x, .int .u16 k, .int .u16 l, .int .u32 t, .slice A1 n1 c1, .slice A2 n2 c2, .slice A3 n3 c3] 27)).cell? ⟨w.heap.size, 2, none⟩ = some (.int .u16 l) := by simp
  have d3 : (w.alloc (.cells #[.string x, .int .u16 k, .int .u16 l, .int .u32 t, .slice A1 n1 c1, .slice A2 n2 c2, .slice A3 n3 c3] 27)).cell? ⟨w.heap.size, 3, none⟩ = some (.int .u32 t) := by simp
  have d4 : (w.alloc (.cells #[.string x, .int .u16 k, .int .u16 l, .int .u32 t, .slice A1 n1 c1, .slice A2 n2 c2, .slice A3 n3 c3] 27)).cell? ⟨w.heap.size, 4, none⟩ = some (.slice A1 n1 c1) := by simp
  have d5 : (w.alloc (.cells #[.string x, .int .u16 k, .int .u16 l, .int .u32 t, .slice A1 n1 c1, .slice A2 n2 c2, .slice A3 n3 c3] 27)).cell? ⟨w.heap.size, 5, none⟩ = some (.slice A2 n2 c2) := by simp
  have d6 : (w.alloc (.cells #[.string x, .int .u16 k, .int .u16 l, .int .u32 t, .slice A1 n1 c1, .slice A2 n2 c2, .slice A3 n3 c3] 27)).cell? ⟨w.heap.size, 6, none⟩ = some (.slice A3 n3 c3) := by simp
  clear hR0 hf0 hu0 hx1 hx2 hx3
  go_enter Try.func3, Try.ntmps3
  go_wp2_with fail
  generalize (w.alloc (.cells #[.string x, .int .u16 k, .int .u16 l, .int .u32 t, .slice A1 n1 c1, .slice A2 n2 c2, .slice A3 n3 c3] 27)) = w0 at *
  generalize hgw : w.heap.size = g at *
  have HGW := Lib.hid hgw
  clear hgw
  refine (awake_any _).mono ?_
  rintro e w1 ⟨rfl, hB1⟩
  have hs1 := hB1.size
  have p0 : w1.cell? ⟨g, 0, none⟩ = some (.string x) := (hB1.cell (p := ⟨g, 0, none⟩) (by show g < w0.heap.size; omega)).trans d0
  have p1 : w1.cell? ⟨g, 1, none⟩ = some (.int .u16 k) := (hB1.cell (p := ⟨g, 1, none⟩) (by show g < w0.heap.size; omega)).trans d1
  have p2 : w1.cell? ⟨g, 2, none⟩ = some (.int .u16 l) := (hB1.cell (p := ⟨g, 2, none⟩) (by show g < w0.heap.size; omega)).trans d2
  have p3 : w1.cell? ⟨g, 3, none⟩ = some (.int .u32 t) := (hB1.cell (p := ⟨g, 3, none⟩) (by show g < w0.heap.size; omega)).trans d3
  have p4 : w1.cell? ⟨g, 4, none⟩ = some (.slice A1 n1 c1) := (hB1.cell (p := ⟨g, 4, none⟩) (by show g < w0.heap.size; omega)).trans d4
  have p5 : w1.cell? ⟨g, 5, none⟩ = some (.slice A2 n2 c2) := (hB1.cell (p := ⟨g, 5, none⟩) (by show g < w0.heap.size; omega)).trans d5
  have p6 : w1.cell? ⟨g, 6, none⟩ = some (.slice A3 n3 c3) := (hB1.cell (p := ⟨g, 6, none⟩) (by show g < w0.heap.size; omega)).trans d6
  have HR2 := Lib.hid (HR1.out.on hB1 hB1.size)
  have HB1 := Lib.hid (hB0.trans (hB1.mono (by omega)))
  clear hB1 hB0 d0 d1 d2 d3 d4 d5 d6 HR1
  go_wp2_with fail
  ((with_reducible refine (few_any R x k l t A1 n1 c1 A2 n2 c2 A3 n3 c3 _ HR2 HU HX1.out HX2.out HX3.out).mono ?_))
  rintro e w2 ⟨b, rfl, hfew, hB2⟩
  have hs2 := hB2.size
  have HB2 := Lib.hid (HB1.out.trans (hB2.mono (by omega)))
  have HFEW := Lib.hid hfew
  have q0 : w2.cell? ⟨g, 0, none⟩ = some (.string x) := (hB2.cell (p := ⟨g, 0, none⟩) (by show g < w1.heap.size; omega)).trans p0
  have q1 : w2.cell? ⟨g, 1, none⟩ = some (.int .u16 k) := (hB2.cell (p := ⟨g, 1, none⟩) (by show g < w1.heap.size; omega)).trans p1
  have q2 : w2.cell? ⟨g, 2, none⟩ = some (.int .u16 l) := (hB2.cell (p := ⟨g, 2, none⟩) (by show g < w1.heap.size; omega)).trans p2
  have q3 : w2.cell? ⟨g, 3, none⟩ = some (.int .u32 t) := (hB2.cell (p := ⟨g, 3, none⟩) (by show g < w1.heap.size; omega)).trans p3
  have q4 : w2.cell? ⟨g, 4, none⟩ = some (.slice A1 n1 c1) := (hB2.cell (p := ⟨g, 4, none⟩) (by show g < w1.heap.size; omega)).trans p4
  have q5 : w2.cell? ⟨g, 5, none⟩ = some (.slice A2 n2 c2) := (hB2.cell (p := ⟨g, 5, none⟩) (by show g < w1.heap.size; omega)).trans p5
  have q6 : w2.cell? ⟨g, 6, none⟩ = some (.slice A3 n3 c3) := (hB2.cell (p := ⟨g, 6, none⟩) (by show g < w1.heap.size; omega)).trans p6
  have HR3 := Lib.hid (HR2.out.on hB2 hB2.size)
  have hg2 : g < w2.heap.size := by omega
  clear hfew hB2 p0 p1 p2 p3 p4 p5 p6 HR2 HB1
  cases b with
  | false =>
    go_wp2_with fail
    go_ret
    exact ⟨rfl, by rw [HGW.out]; exact HB2.out⟩
  | true =>
    have hS := Lib.hid (HFEW.out rfl).1
    obtain ⟨a, ha⟩ : ∃ a, shA m1 = a := ⟨_, rfl⟩
    obtain ⟨bb, hbb⟩ : ∃ b, shB m1 = b := ⟨_, rfl⟩
    obtain ⟨c, hc⟩ : ∃ c, shC m1 = c := ⟨_, rfl⟩
    obtain ⟨E, hE⟩ : ∃ E, checkE R = E := ⟨_, rfl⟩
    obtain ⟨p, hp⟩ : ∃ p, mk (plainO R) = p := ⟨_, rfl⟩
    have HA := Lib.hid ha
    have HBB := Lib.hid hbb
    have HC := Lib.hid hc
    have HE := Lib.hid hE
    have HP := Lib.hid hp
    have HCELLS : Hid (∀ W, Held w2 W → W.cell? ⟨g, 0, none⟩ = some (.string x) ∧ W.cell? ⟨g, 1, none⟩ = some (.int .u16 k) ∧ W.cell? ⟨g, 2, none⟩ = some (.int .u16 l) ∧ W.cell? ⟨g, 3, none⟩ = some (.int .u32 t) ∧ W.cell? ⟨g, 4, none⟩ = some (.slice A1 n1 c1) ∧ W.cell? ⟨g, 5, none⟩ = some (.slice A2 n2 c2) ∧ W.cell? ⟨g, 6, none⟩ = some (.slice A3 n3 c3)) := by
      intro W hW
      have hW' : Below w2.heap.size w2 W := hW
      exact ⟨(hW'.cell (p := ⟨g, 0, none⟩) hg2).trans q0, (hW'.cell (p := ⟨g, 1, none⟩) hg2).trans q1, (hW'.cell (p := ⟨g, 2, none⟩) hg2).trans q2, (hW'.cell (p := ⟨g, 3, none⟩) hg2).trans q3, (hW'.cell (p := ⟨g, 4, none⟩) hg2).trans q4, (hW'.cell (p := ⟨g, 5, none⟩) hg2).trans q5, (hW'.cell (p := ⟨g, 6, none⟩) hg2).trans q6⟩
    have HCK : Hid (∀ W, Held w2 W → Calls Try.prog 11 #[.agg #[.string x, .int .u16 k, .int .u16 l, .int .u32 t, .slice A1 n1 c1, .slice A2 n2 c2, .slice A3 n3 c3]] W fun e w' => e = .returned (.int .i64 E) ∧ Held w2 w') := fun W hW => (check_is R x k l t A1 n1 c1 A2 n2 c2 A3 n3 c3 E W (HR3.out.on hW (Below.size hW)) hS HE).mono fun _ _ ⟨he, hb⟩ => ⟨he, Below.trans hW (hb.mono (Below.size hW))⟩
    have HRC : Hid (∀ W, Held w2 W → Calls Try.prog 12 #[.agg #[.string x, .int .u16 k, .int .u16 l, .int .u32 t, .slice A1 n1 c1, .slice A2 n2 c2, .slice A3 n3 c3]] W fun e w' => e = .returned (.int .i64 E) ∧ Held w2 w') := fun W hW => (refCheck_is R x k l t A1 n1 c1 A2 n2 c2 A3 n3 c3 E W (HR3.out.on hW (Below.size hW)) hS HE).mono fun _ _ ⟨he, hb⟩ => ⟨he, Below.trans hW (hb.mono (Below.size hW))⟩
    have HPL : Hid (∀ W, Held w2 W → Calls Try.prog 13 #[.agg #[.string x, .int .u16 k, .int .u16 l, .int .u32 t, .slice A1 n1 c1, .slice A2 n2 c2, .slice A3 n3 c3]] W fun e w' => e = .returned (.string p) ∧ Held w2 w') := fun W hW => (plain_is R x k l t A1 n1 c1 A2 n2 c2 A3 n3 c3 p W (HR3.out.on hW (Below.size hW)) hS HP).mono fun _ _ ⟨he, hb⟩ => ⟨he, Below.trans hW (hb.mono (Below.size hW))⟩
    have HRP : Hid (∀ W, Held w2 W → Calls Try.prog 14 #[.agg #[.string x, .int .u16 k, .int .u16 l, .int .u32 t, .slice A1 n1 c1, .slice A2 n2 c2, .slice A3 n3 c3]] W fun e w' => e = .returned (.string p) ∧ Held w2 w') := fun W hW => (refPlainO_is R x k l t A1 n1 c1 A2 n2 c2 A3 n3 c3 p W (HR3.out.on hW (Below.size hW)) hS HP).mono fun _ _ ⟨he, hb⟩ => ⟨he, Below.trans hW (hb.mono (Below.size hW))⟩
    have fE : ((E : Int) == (E : Int)) = true := beq_self_eq_true _
    have fp : (p.toList == p.toList) = true := beq_self_eq_true _
    have fa : ((a : Int) == (a : Int)) = true := beq_self_eq_true _
    have fb : ((bb : Int) == (bb : Int)) = true := beq_self_eq_true _
    have fc : ((c : Int) == (c : Int)) = true := beq_self_eq_true _
    have hH0 : Held w2 w2.drew := (Below.refl _ _).drew
    clear ha hbb hc hE hp
    go_wp2_with fail
    refine (shape_is m1 a bb c _ HA HBB HC).mono ?_
    rintro e w' ⟨rfl, rfl⟩
    go_wp2_with fail
    refine (refShape_is m1 a bb c _ HA HBB HC).mono ?_
    rintro e w' ⟨rfl, rfl⟩
    go_wp2_with fail
    refine region_quiet (C := fun w' => Held w2 w') (by kernel_rfl) (by kernel_rfl) hH0 ?_
    refine qstep (v := ?qv0) (by rfl) ?qh0 ?_
    case qh0 => (intro wq hq; go_simp; try (with_reducible rfl))
    try simp only [Act.put, List.setIfInBounds_toArray, List.set_cons_zero, List.set_cons_succ]
    refine qstep (v := ?qv1) (by rfl) ?qh1 ?_
    case qh1 => (intro wq hq; go_simp; try (with_reducible rfl))
    try simp only [Act.put, List.setIfInBounds_toArray, List.set_cons_zero, List.set_cons_succ]
    refine qstep (v := ?qv2) (by rfl) ?qh2 ?_
    case qh2 => (intro wq hq; go_simp; try (with_reducible rfl))
    try simp only [Act.put, List.setIfInBounds_toArray, List.set_cons_zero, List.set_cons_succ]
    refine qstep (v := ?qv3) (by rfl) ?qh3 ?_
    case qh3 => (intro wq hq; go_simp; try (with_reducible rfl))
    try simp only [Act.put, List.setIfInBounds_toArray, List.set_cons_zero, List.set_cons_succ]
    refine qstep (v := ?qv4) (by rfl) ?qh4 ?_
    case qh4 => (intro wq hq; go_simp; try (with_reducible rfl))
    try simp only [Act.put, List.setIfInBounds_toArray, List.set_cons_zero, List.set_cons_succ]
    refine qstep (v := ?qv5) (by rfl) ?qh5 ?_
    case qh5 => (intro wq hq; go_simp; try (with_reducible rfl))
    try simp only [Act.put, List.setIfInBounds_toArray, List.set_cons_zero, List.set_cons_succ]
    refine qstep (v := ?qv6) (by rfl) ?qh6 ?_
    case qh6 => (intro wq hq; go_simp; try (with_reducible rfl))
    try simp only [Act.put, List.setIfInBounds_toArray, List.set_cons_zero, List.set_cons_succ]
    refine qstep (v := ?qv7) (by rfl) ?qh7 ?_
    case qh7 => (intro wq hq; go_simp; try (with_reducible rfl))
    try simp only [Act.put, List.setIfInBounds_toArray, List.set_cons_zero, List.set_cons_succ]
    refine qstep (v := ?qv8) (by rfl) ?qh8 ?_
    case qh8 => (intro wq hq; go_simp; try (with_reducible rfl))
    try simp only [Act.put, List.setIfInBounds_toArray, List.set_cons_zero, List.set_cons_succ]
    refine qstep (v := ?qv9) (by rfl) ?qh9 ?_
    case qh9 => (intro wq hq; go_simp; try (with_reducible rfl))
    try simp only [Act.put, List.setIfInBounds_toArray, List.set_cons_zero, List.set_cons_succ]
    refine qstep (v := ?qv10) (by rfl) ?qh10 ?_
    case qh10 => (intro wq hq; go_simp; try (with_reducible rfl))
    try simp only [Act.put, List.setIfInBounds_toArray, List.set_cons_zero, List.set_cons_succ]
    refine qstep (v := ?qv11) (by rfl) ?qh11 ?_
    case qh11 => (intro wq hq; go_simp; try (with_reducible rfl))
    try simp only [Act.put, List.setIfInBounds_toArray, List.set_cons_zero, List.set_cons_succ]
    refine qstep (v := ?qv12) (by rfl) ?qh12 ?_
    case qh12 => (intro wq hq; go_simp; try (with_reducible rfl))
    try simp only [Act.put, List.setIfInBounds_toArray, List.set_cons_zero, List.set_cons_succ]
    refine qstep (v := ?qv13) (by rfl) ?qh13 ?_
    case qh13 => (intro wq hq; go_simp; try (with_reducible rfl))
    try simp only [Act.put, List.setIfInBounds_toArray, List.set_cons_zero, List.set_cons_succ]
    refine qstep (v := ?qv14) (by rfl) ?qh14 ?_
    case qh14 => (intro wq hq; have hcs := HCELLS.out wq hq; go_split_ands; go_simp; try (with_reducible rfl))
    try simp only [Act.put, List.setIfInBounds_toArray, List.set_cons_zero, List.set_cons_succ]
    refine qstep (v := ?qv15) (by rfl) ?qh15 ?_
    case qh15 => (intro wq hq; go_simp; exact HCK.out wq hq)
    try simp only [Act.put, List.setIfInBounds_toArray, List.set_cons_zero, List.set_cons_succ]
    refine qstep (v := ?qv16) (by rfl) ?qh16 ?_
    case qh16 => (intro wq hq; have hcs := HCELLS.out wq hq; go_split_ands; go_simp; try (with_reducible rfl))
    try simp only [Act.put, List.setIfInBounds_toArray, List.set_cons_zero, List.set_cons_succ]
    refine qstep (v := ?qv17) (by rfl) ?qh17 ?_
    case qh17 => (intro wq hq; go_simp; exact HRC.out wq hq)
    try simp only [Act.put, List.setIfInBounds_toArray, List.set_cons_zero, List.set_cons_succ]
    refine qstep (v := ?qv18) (by rfl) ?qh18 ?_
    case qh18 => (intro wq hq; go_simp; try (with_reducible rfl))
    try simp only [Act.put, List.setIfInBounds_toArray, List.set_cons_zero, List.set_cons_succ]
    refine qstep (v := ?qv19) (by rfl) ?qh19 ?_
    case qh19 => (intro wq hq; go_simp; try (with_reducible rfl))
    try simp only [Act.put, List.setIfInBounds_toArray, List.set_cons_zero, List.set_cons_succ]
    refine qstep (v := ?qv20) (by rfl) ?qh20 ?_
    case qh20 => (intro wq hq; go_simp; try (with_reducible rfl))
    try simp only [Act.put, List.setIfInBounds_toArray, List.set_cons_zero, List.set_cons_succ]
    refine qstep (v := ?qv21) (by rfl) ?qh21 ?_
    case qh21 => (intro wq hq; have hcs := HCELLS.out wq hq; go_split_ands; go_simp; try (with_reducible rfl))
    try simp only [Act.put, List.setIfInBounds_toArray, List.set_cons_zero, List.set_cons_succ]
    refine qstep (v := ?qv22) (by rfl) ?qh22 ?_
    case qh22 => (intro wq hq; go_simp; exact HPL.out wq hq)
    try simp only [Act.put, List.setIfInBounds_toArray, List.set_cons_zero, List.set_cons_succ]
    refine qstep (v := ?qv23) (by rfl) ?qh23 ?_
    case qh23 => (intro wq hq; have hcs := HCELLS.out wq hq; go_split_ands; go_simp; try (with_reducible rfl))
    try simp only [Act.put, List.setIfInBounds_toArray, List.set_cons_zero, List.set_cons_succ]
    refine qstep (v := ?qv24) (by rfl) ?qh24 ?_
    case qh24 => (intro wq hq; go_simp; exact HRP.out wq hq)
    try simp only [Act.put, List.setIfInBounds_toArray, List.set_cons_zero, List.set_cons_succ]
    refine qstep (v := ?qv25) (by rfl) ?qh25 ?_
    case qh25 => (intro wq hq; go_simp; try (with_reducible rfl))
    try simp only [Act.put, List.setIfInBounds_toArray, List.set_cons_zero, List.set_cons_succ]
    refine qstep (v := ?qv26) (by rfl) ?qh26 ?_
    case qh26 => (intro wq hq; go_simp; try (with_reducible rfl))
    try simp only [Act.put, List.setIfInBounds_toArray, List.set_cons_zero, List.set_cons_succ]
    refine qstep (v := ?qv27) (by rfl) ?qh27 ?_
    case qh27 => (intro wq hq; go_simp; try (with_reducible rfl))
    try simp only [Act.put, List.setIfInBounds_toArray, List.set_cons_zero, List.set_cons_succ]
    refine wpQuiet_nil ?_
    intro w9 hC9
    have hBB := HB2.out.trans (Below.mono hC9 (by omega))
    go_wp2_with fail
    go_ret
    exact ⟨rfl, by rw [HGW.out]; exact hBB⟩

set_option maxRecDepth 100000 in
theorem lifted (os : Os) (started : os.Started) (H : Type) (enc : TypeId × Value → H) :
    ReturnsInHanded {} Try.checked os 3 .any (Rows.dataChecksSpec.pre6 enc Try.prog Try.f3 Rows.dataChecksRow.domain false) (Rows.dataChecksSpec.post enc Try.prog Try.f3 false true false false) := by
  refine returnsInHanded_of_change (C := Try.checked) own started (by kernel_rfl) Try.func3
    (ChangeSpec.witness6 (enc := enc) (C := Try.checked) false ⟨#[], #[.agg #[.string ByteArray.empty, .int .u16 0, .int .u16 0, .int .u32 0, .slice none 0 0, .slice none 0 0, .slice none 0 0], .int .u16 0], []⟩ 8 (by kernel_rfl) (by kernel_rfl) (by kernel_rfl) (by kernel_rfl)) ?_
  intro W base args ds gs before hval0 hW hcnd _
  have hval : ∀ (j : Nat) t v, Try.f3.params[j]? = some t → args[j]? = some v → Value.okWide Try.prog W .any base t v := hval0
  have hW' := hW
  obtain ⟨p, q, hA0, hV, rfl, hfz, hnd⟩ := hW
  have hA : DataW.TrodAll enc Try.prog W 0 (fun _ => true) true Try.f3.params.toList args.toList ds p := hA0
  rw [Try.params3] at hA hval
  obtain ⟨v0, vs0, d0, ds0, p0, q0, hargs, rfl, rfl, h0, r0⟩ := trodAll_cons hA
  obtain ⟨v1, vs1, d1, ds1, p1, q1, rfl, rfl, rfl, h1, r1⟩ := trodAll_cons r0
  obtain ⟨rfl, rfl, rfl⟩ := trodAll_nil r1
  obtain rfl : args = #[v0, v1] := by cases args; simp_all
  obtain ⟨rfl, rfl⟩ := trodVars_none hV
  have k00 := h0
  have lt0 : ∀ x ∈ p0, x.block < W.heap.size := by obtain ⟨m, hm⟩ := k00; exact DataW.trod_lt m _ _ _ hm
  obtain ⟨R, x, k, l, t, A1, n1, c1, A2, n2, c2, A3, n3, c3, hc0⟩ := came_rec (hval 0 27 v0 rfl rfl) h0
  obtain ⟨rfl, hR0, hb0, hf0, hu0⟩ := hc0
  obtain ⟨z1, rfl, rfl, rfl, wf1⟩ := open_int Try.underlying22 (hval 1 22 v1 rfl rfl) h1
  have wf10 := wf1
  obtain ⟨m1, rfl, hm1⟩ := wf_u16 wf1
  clear hA0 hval0
  refine (walk R x k l t A1 n1 c1 A2 n2 c2 A3 n3 c3 m1 W hR0 hb0 hf0 hu0 hm1).mono fun e W' ⟨he, bel⟩ => ?_
  subst he
  exact ⟨_, rfl, _, _, _, [], _, [], hW', trodAll_mk1 (shut_bool Try.underlying4 _), (trodAll_cons_mk (Below.trod laidOut (by kernel_rfl) (of_decide_eq_true (by kernel_rfl)) k00 bel lt0) (trodAll_cons_mk (shut_int Try.underlying22 wf10) trodAll_mk0)), rfl, bel.frame _, fun h => by cases h⟩

theorem over : Rows.dataChecksRow.holds Try.pinned (OpenSpec.ofChange Rows.dataChecksSpec) :=
  OpenClaim.holds_of_wide 3 Try.f3 rfl rfl rfl rfl rfl rfl rfl ⟨rfl, rfl, rfl, rfl, rfl⟩ rfl rfl rfl rfl rfl (by kernel_rfl) Try.func3 (by kernel_rfl)
    (of_decide_eq_true (by kernel_rfl)) (by unfold Func.isWrapper; first | (rw [if_pos (by decide +kernel)]; kernel_rfl) | (rw [if_neg (by decide +kernel)]; exact ⟨rfl, rfl⟩))
    (fun os started H enc _ => lifted os started H enc)

theorem proved : Rows.DataChecksSaid := over
#print axioms proved
end Go.Proofs.Ytnpdhfjglfpjcaa.dataChecks
