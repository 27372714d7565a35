/- Proves DataLimits: a record that is right is wrong once its time to live, its name or its data pass their limits. No condition. -/
import Derived.Test.YtnpdhfjglfpjcaaRows
import Derived.Test.YtnpdhfjglfpjcaaRecFrame
import Derived.Test.YtnpdhfjglfpjcaaRecAwake
import Derived.Test.YtnpdhfjglfpjcaaRecFew
import Derived.Test.YtnpdhfjglfpjcaaQuietHeld
import Derived.Test.YtnpdhfjglfpjcaaRecSame
import Derived.Test.YtnpdhfjglfpjcaaRecOne
import Derived.Test.YtnpdhfjglfpjcaaRecLawCopied
import Derived.Test.YtnpdhfjglfpjcaaRecLimits
import Derived.Test.YtnpdhfjglfpjcaaRecCheck
import Derived.Lib.MinMax
import Derived.Deep.CutRange
import Derived.WalkKit
import Derived.ProofKit
import Derived.OpenShut
import Derived.ShutString
import Derived.ChangeOld
import Derived.Below
import Derived.Deep.RegionHeld3
namespace Go.Proofs.Ytnpdhfjglfpjcaa.dataLimits
open Go.ChangeShapes Go.WideShapes Go.ChangeAt Go.RowKit
open Go.ChangeMaps (open_string shut_string)
open Bytes Strs Nums NameMath RecMath
set_option linter.unusedVariables false

theorem own : ownKnob Try.prog.godebug = none := by kernel_rfl
theorem laidOut : laidOutB Try.prog = true := by kernel_rfl

theorem few_lists {R : Rec} (h : checkE R = 0) : R.names.length ≤ 2 ∧ R.nums.length ≤ 5 := by
  obtain ⟨_, h2, _⟩ := check_ok h
  obtain ⟨hc, _⟩ := okB_cnt h2
  obtain ⟨c1, c2, _⟩ := cnt_of hc
  unfold shA at c1
  unfold shB at c2
  refine ⟨?_, ?_⟩
  · rw [c1]; (repeat' split) <;> omega
  · rw [c2]; (repeat' split) <;> omega
theorem getD_cat {α : Type} (L M : List α) (d : α) (k : Nat) (P : α → Prop) (h1 : ∀ k, k < L.length → P (L.getD k d)) (h2 : ∀ k, k < M.length → P (M.getD k d)) (hk : k < (L ++ M).length) : P ((L ++ M).getD k d) := by
  rw [List.getD_eq_getElem?_getD, List.getElem?_append]
  rw [List.length_append] at hk
  by_cases h : k < L.length
  · rw [if_pos h, ← List.getD_eq_getElem?_getD]; exact h1 k h
  · rw [if_neg h, ← List.getD_eq_getElem?_getD]; exact h2 _ (by omega)
theorem small_name {R : Rec} (hS : Small R) (hn : R.name.length ≤ 5000) (c : UInt8) : Small { name := R.name ++ [c], kind := R.kind, cls := R.cls, ttl := R.ttl, names := R.names, nums := R.nums, texts := R.texts } := ⟨by show (R.name ++ [c]).length ≤ 100000; rw [List.length_append, List.length_singleton]; omega, hS.n1, hS.s1, hS.n2, hS.u2, hS.n3, hS.s3⟩
theorem small_names {R : Rec} (hS : Small R) (h : checkE R = 0) : Small { name := R.name, kind := R.kind, cls := R.cls, ttl := R.ttl, names := R.names ++ [[0]], nums := R.nums, texts := R.texts } := by
  have hl := few_lists h
  refine ⟨hS.name, ?_, fun k hk => ?_, hS.n2, hS.u2, hS.n3, hS.s3⟩
  · show (R.names ++ [[0]]).length ≤ 100000
    rw [List.length_append, List.length_singleton]; omega
  · refine getD_cat R.names [[0]] [] k (fun l => l.length ≤ 100000) hS.s1 (fun j hj => ?_) hk
    obtain rfl : j = 0 := by simpa using hj
    decide
theorem small_nums {R : Rec} (hS : Small R) (h : checkE R = 0) : Small { name := R.name, kind := R.kind, cls := R.cls, ttl := R.ttl, names := R.names, nums := R.nums ++ [0], texts := R.texts } := by
  have hl := few_lists h
  refine ⟨hS.name, hS.n1, hS.s1, ?_, fun k hk => ?_, hS.n3, hS.s3⟩
  · show (R.nums ++ [0]).length ≤ 100000
    rw [List.length_append, List.length_singleton]; omega
  · refine getD_cat R.nums [0] 0 k (fun l => l ≤ 4294967295) hS.u2 (fun j hj => ?_) hk
    obtain rfl : j = 0 := by simpa using hj
    decide
theorem small_head {R : Rec} (hS : Small R) (h : checkE R = 0) {n : Nat} (hn : n ≤ 4294967295) : Small { name := R.name, kind := R.kind, cls := R.cls, ttl := R.ttl, names := R.names, nums := n :: R.nums.tail, texts := R.texts } := by
  have hl := few_lists h
  refine ⟨hS.name, hS.n1, hS.s1, ?_, fun k hk => ?_, hS.n3, hS.s3⟩
  · show (n :: R.nums.tail).length ≤ 100000
    rw [List.length_cons, List.length_tail]; omega
  · have hk' : k < (n :: R.nums.tail).length := hk
    rw [List.length_cons, List.length_tail] at hk'
    show (n :: R.nums.tail).getD k 0 ≤ 4294967295
    cases k with
    | zero => exact hn
    | succ j =>
      rw [List.getD_cons_succ]
      cases hr : R.nums with
      | nil => exact Nat.zero_le _
      | cons a L =>
        have := hS.u2 (j + 1)
        rw [hr] at this hk'
        rw [List.getD_cons_succ] at this
        refine this ?_
        rw [List.length_cons] at hk' ⊢
        omega
theorem grown_blk {w w2 : World} {base n c : Nat} {e e2 : TypeId} {v : Value} {xs : List Value} {o : Obj} {cs : Array Value} {fz : Nat × Nat} (h : w.ownsRow base e 1 v n xs) (hg : (w.alloc o).grownBy w2 v.ownBlock) (hc : w.heap[c]? = some (.cells cs e2 fz)) (he : e ≠ e2) : w2.heap[c]? = some (.cells cs e2 fz) := by
  have hl := (Array.getElem?_eq_some_iff.1 hc).1
  rw [hg.block c (by simp; omega) (fun e1 => own_ne h hc he e1.symm)]
  exact (heap_alloc_old w o hl).trans hc
theorem grown_own {w w2 : World} {base n : Nat} {e : TypeId} {v : Value} {xs : List Value} {o : Obj} {row : Option Nat} (h : w.ownsRow base e 1 v n xs) (hg : (w.alloc o).grownBy w2 row) (hap : v.ownBlock = none ∨ v.ownBlock ≠ row) : w2.ownsRow base e 1 v n xs := (h.alloc o).kept hg hap

set_option maxHeartbeats 16000000 in
set_option maxRecDepth 100000 in
set_option linter.unusedSimpArgs false in
theorem walk (R : Rec) (x : ByteArray) (k l t : Nat) (A1 : Option Addr) (n1 c1 : Nat) (A2 : Option Addr) (n2 c2 : Nat) (A3 : Option Addr) (n3 c3 : Nat) (m1 : Nat) (w : World) (hR0 : RecAt w w.heap.size R x k l t A1 n1 A2 n2 A3 n3) (hb0 : k ≤ 65535 ∧ l ≤ 65535 ∧ t ≤ 4294967295 ∧ x.size ≤ maxLen ∧ n1 ≤ maxLen ∧ n2 ≤ maxLen ∧ n3 ≤ maxLen) (hf0 : (A1 = none → c1 = 0) ∧ (A2 = none → c2 = 0) ∧ (A3 = none → c3 = 0)) (hu0 : ∀ k, k < R.nums.length → R.nums.getD k 0 ≤ 4294967295) (hm1 : m1 ≤ 4294967295) :
    Calls Try.prog 6 #[.agg #[.string x, .int .u16 k, .int .u16 l, .int .u32 t, .slice A1 n1 c1, .slice A2 n2 c2, .slice A3 n3 c3], .int .u32 m1] w fun e w' => e = .returned (.bool true) ∧ Below w.heap.size w w' := by
  have HF := Lib.hid hf0
  have HU := Lib.hid hu0
  obtain ⟨_, _, _, _, hx1, hx2, hx3⟩ := hb0
  have HX1 := Lib.hid hx1
  have HX2 := Lib.hid hx2
  have HX3 := Lib.hid hx3
  have hB0 : Below w.heap.size w (w.alloc (.cells #[.string x, .int .u16 k, .int .u16 l, .int .u32 t, .slice A1 n1 c1, .slice A2 n2 c2, .slice A3 n3 c3] 27)) := (Below.refl _ _).alloc (Nat.le_refl _) _
  have HB0 := Lib.hid hB0
  have HR0 := Lib.hid hR0
  have HG0 : Hid ((w.alloc (.cells #[.string x, .int .u16 k, .int .u16 l, .int .u32 t, .slice A1 n1 c1, .slice A2 n2 c2, .slice A3 n3 c3] 27)).heap[w.heap.size]? = some (.cells #[.string x, .int .u16 k, .int .u16 l, .int .u32 t, .slice A1 n1 c1, .slice A2 n2 c2, .slice A3 n3 c3] 27 (0, 0))) := heap_alloc_new w _
  have hs0 : (w.alloc (.cells #[.string x, .int .u16 k, .int .u16 l, .int .u32 t, .slice A1 n1 c1, .slice A2 n2 c2, .slice A3 n3 c3] 27)).heap.size = w.heap.size + 1 := by simp
  have a0 : (w.alloc (.cells #[.string x, .int .u16 k, .int .u16 l, .int .u32 t, .slice A1 n1 c1, .slice A2 n2 c2, .slice A3 n3 c3] 27)).cell? ⟨w.heap.size, 0, none⟩ = some (.string x) := by rw [Lib.cell_of_heap HG0.out]; rfl
  have a1 : (w.alloc (.cells #[.string x, .int .u16 k, .int .u16 l, .int .u32 t, .slice A1 n1 c1, .slice A2 n2 c2, .slice A3 n3 c3] 27)).cell? ⟨w.heap.size, 1, none⟩ = some (.int .u16 k) := by rw [Lib.cell_of_heap HG0.out]; rfl
  have a2 : (w.alloc (.cells #[.string x, .int .u16 k, .int .u16 l, .int .u32 t, .slice A1 n1 c1, .slice A2 n2 c2, .slice A3 n3 c3] 27)).cell? ⟨w.heap.size, 2, none⟩ = some (.int .u16 l) := by rw [Lib.cell_of_heap HG0.out]; rfl
  have a3 : (w.alloc (.cells #[.string x, .int .u16 k, .int .u16 l, .int .u32 t, .slice A1 n1 c1, .slice A2 n2 c2, .slice A3 n3 c3] 27)).cell? ⟨w.heap.size, 3, none⟩ = some (.int .u32 t) := by rw [Lib.cell_of_heap HG0.out]; rfl
  have a4 : (w.alloc (.cells #[.string x, .int .u16 k, .int .u16 l, .int .u32 t, .slice A1 n1 c1, .slice A2 n2 c2, .slice A3 n3 c3] 27)).cell? ⟨w.heap.size, 4, none⟩ = some (.slice A1 n1 c1) := by rw [Lib.cell_of_heap HG0.out]; rfl
  have a5 : (w.alloc (.cells #[.string x, .int .u16 k, .int .u16 l, .int .u32 t, .slice A1 n1 c1, .slice A2 n2 c2, .slice A3 n3 c3] 27)).cell? ⟨w.heap.size, 5, none⟩ = some (.slice A2 n2 c2) := by rw [Lib.cell_of_heap HG0.out]; rfl
  have a6 : (w.alloc (.cells #[.string x, .int .u16 k, .int .u16 l, .int .u32 t, .slice A1 n1 c1, .slice A2 n2 c2, .slice A3 n3 c3] 27)).cell? ⟨w.heap.size, 6, none⟩ = some (.slice A3 n3 c3) := by rw [Lib.cell_of_heap HG0.out]; rfl
  clear hR0 hf0 hu0 hx1 hx2 hx3 hB0
  go_enter Try.func6, Try.ntmps6
  go_wp2_with fail
  generalize (w.alloc (.cells #[.string x, .int .u16 k, .int .u16 l, .int .u32 t, .slice A1 n1 c1, .slice A2 n2 c2, .slice A3 n3 c3] 27)) = w0 at *
  generalize hgw : w.heap.size = g at *
  have HGW := Lib.hid hgw
  have HAR : Hid (∀ W B, Below g w W → g ≤ B → RecAt W B R x k l t A1 n1 A2 n2 A3 n3) := fun W B hW hB => HR0.out.on hW hB
  clear hgw HR0
  refine (awake_any _).mono ?_
  rintro e w1 ⟨rfl, hB1⟩
  have hs1 := hB1.size
  have HB1 := Lib.hid (HB0.out.trans (hB1.mono (by omega)))
  have HG1 := Lib.hid ((hB1.block g (by omega)).trans HG0.out)
  clear hB1 a0 a1 a2 a3 a4 a5 a6 HB0 HG0
  have a0 : w1.cell? ⟨g, 0, none⟩ = some (.string x) := by rw [Lib.cell_of_heap HG1.out]; rfl
  have a1 : w1.cell? ⟨g, 1, none⟩ = some (.int .u16 k) := by rw [Lib.cell_of_heap HG1.out]; rfl
  have a2 : w1.cell? ⟨g, 2, none⟩ = some (.int .u16 l) := by rw [Lib.cell_of_heap HG1.out]; rfl
  have a3 : w1.cell? ⟨g, 3, none⟩ = some (.int .u32 t) := by rw [Lib.cell_of_heap HG1.out]; rfl
  have a4 : w1.cell? ⟨g, 4, none⟩ = some (.slice A1 n1 c1) := by rw [Lib.cell_of_heap HG1.out]; rfl
  have a5 : w1.cell? ⟨g, 5, none⟩ = some (.slice A2 n2 c2) := by rw [Lib.cell_of_heap HG1.out]; rfl
  have a6 : w1.cell? ⟨g, 6, none⟩ = some (.slice A3 n3 c3) := by rw [Lib.cell_of_heap HG1.out]; rfl
  go_wp2_with fail
  ((with_reducible refine (few_any R x k l t A1 n1 c1 A2 n2 c2 A3 n3 c3 _ (Lib.hid (HAR.out w1 w1.heap.size HB1.out (by omega))) HU HX1.out HX2.out HX3.out).mono ?_))
  rintro e w2 ⟨b, rfl, hfew, hB2⟩
  have hs2 := hB2.size
  have HB2 := Lib.hid (HB1.out.trans (hB2.mono (by omega)))
  have HG2 := Lib.hid ((hB2.block g (by omega)).trans HG1.out)
  have HFEW := Lib.hid hfew
  clear hfew hB2 a0 a1 a2 a3 a4 a5 a6 HB1 HG1
  have a0 : w2.cell? ⟨g, 0, none⟩ = some (.string x) := by rw [Lib.cell_of_heap HG2.out]; rfl
  have a1 : w2.cell? ⟨g, 1, none⟩ = some (.int .u16 k) := by rw [Lib.cell_of_heap HG2.out]; rfl
  have a2 : w2.cell? ⟨g, 2, none⟩ = some (.int .u16 l) := by rw [Lib.cell_of_heap HG2.out]; rfl
  have a3 : w2.cell? ⟨g, 3, none⟩ = some (.int .u32 t) := by rw [Lib.cell_of_heap HG2.out]; rfl
  have a4 : w2.cell? ⟨g, 4, none⟩ = some (.slice A1 n1 c1) := by rw [Lib.cell_of_heap HG2.out]; rfl
  have a5 : w2.cell? ⟨g, 5, none⟩ = some (.slice A2 n2 c2) := by rw [Lib.cell_of_heap HG2.out]; rfl
  have a6 : w2.cell? ⟨g, 6, none⟩ = some (.slice A3 n3 c3) := by rw [Lib.cell_of_heap HG2.out]; rfl
  cases b with
  | false =>
    go_wp2_with fail
    go_ret
    exact ⟨rfl, by rw [HGW.out]; exact HB2.out⟩
  | true =>
    have hS := Lib.hid (HFEW.out rfl).1
    have HNAME := Lib.hid (HFEW.out rfl).2
    clear HFEW
    obtain ⟨E1, hE1⟩ : ∃ E, checkE R = E := ⟨_, rfl⟩
    have HE1 := Lib.hid hE1
    clear hE1
    go_wp2_with fail
    ((with_reducible refine (check_is R x k l t A1 n1 c1 A2 n2 c2 A3 n3 c3 E1 _ (Lib.hid (HAR.out w2 w2.heap.size HB2.out (by omega))) hS HE1).mono ?_))
    rintro e w3 ⟨rfl, hB3⟩
    have hs3 := hB3.size
    have HB3 := Lib.hid (HB2.out.trans (hB3.mono (by omega)))
    have HG3 := Lib.hid ((hB3.block g (by omega)).trans HG2.out)
    clear hB3 a0 a1 a2 a3 a4 a5 a6 HB2 HG2
    have a0 : w3.cell? ⟨g, 0, none⟩ = some (.string x) := by rw [Lib.cell_of_heap HG3.out]; rfl
    have a1 : w3.cell? ⟨g, 1, none⟩ = some (.int .u16 k) := by rw [Lib.cell_of_heap HG3.out]; rfl
    have a2 : w3.cell? ⟨g, 2, none⟩ = some (.int .u16 l) := by rw [Lib.cell_of_heap HG3.out]; rfl
    have a3 : w3.cell? ⟨g, 3, none⟩ = some (.int .u32 t) := by rw [Lib.cell_of_heap HG3.out]; rfl
    have a4 : w3.cell? ⟨g, 4, none⟩ = some (.slice A1 n1 c1) := by rw [Lib.cell_of_heap HG3.out]; rfl
    have a5 : w3.cell? ⟨g, 5, none⟩ = some (.slice A2 n2 c2) := by rw [Lib.cell_of_heap HG3.out]; rfl
    have a6 : w3.cell? ⟨g, 6, none⟩ = some (.slice A3 n3 c3) := by rw [Lib.cell_of_heap HG3.out]; rfl
    by_cases h1 : E1 = 0
    rotate_left
    · have f1 : ((E1 : Int) != 0) = true := int_nne h1
      clear h1
      go_wp2_with fail
      go_ret
      exact ⟨rfl, by rw [HGW.out]; exact HB3.out⟩
    have f1 : ((E1 : Int) != 0) = false := int_neq h1
    have HOK : Hid (checkE R = 0) := HE1.out.trans h1
    obtain ⟨T, hT, hT2⟩ : ∃ T : Nat, max (m1 : Int) 2147483648 = (T : Int) ∧ 2147483647 < T := ⟨(max (m1 : Int) 2147483648).toNat, by omega, by omega⟩
    have HT2 := Lib.hid hT2
    have hgl : g < w3.heap.size := by omega
    clear h1 HE1 hT2
    go_upto_region 7 with fail
    go_cut [31] from 24 to 31 (fun v wx => v = .bool false ∧ Hid (Below g w wx) ∧ Hid (wx.heap[g]? = some (.cells #[.string x, .int .u16 k, .int .u16 l, .int .u32 t, .slice A1 n1 c1, .slice A2 n2 c2, .slice A3 n3 c3] 27 (0, 0))))
    case first =>
      have hB4 : Below g w (w3.alloc (.cells #[.string x, .int .u16 k, .int .u16 l, .int .u32 T, .slice A1 n1 c1, .slice A2 n2 c2, .slice A3 n3 c3] 27)) := HB3.out.alloc (by omega) _
      have hG4 : (w3.alloc (.cells #[.string x, .int .u16 k, .int .u16 l, .int .u32 T, .slice A1 n1 c1, .slice A2 n2 c2, .slice A3 n3 c3] 27)).heap[g]? = some (.cells #[.string x, .int .u16 k, .int .u16 l, .int .u32 t, .slice A1 n1 c1, .slice A2 n2 c2, .slice A3 n3 c3] 27 (0, 0)) := (heap_alloc_old w3 _ hgl).trans HG3.out
      have hA4 : (w3.alloc (.cells #[.string x, .int .u16 k, .int .u16 l, .int .u32 T, .slice A1 n1 c1, .slice A2 n2 c2, .slice A3 n3 c3] 27)).heap[w3.heap.size]? = some (.cells #[.string x, .int .u16 k, .int .u16 l, .int .u32 T, .slice A1 n1 c1, .slice A2 n2 c2, .slice A3 n3 c3] 27 (0, 0)) := heap_alloc_new w3 _
      have hs4 : w3.heap.size < (w3.alloc (.cells #[.string x, .int .u16 k, .int .u16 l, .int .u32 T, .slice A1 n1 c1, .slice A2 n2 c2, .slice A3 n3 c3] 27)).heap.size := by simp
      have HB4 := Lib.hid hB4
      have HG4 := Lib.hid hG4
      have HA4 := Lib.hid hA4
      clear hB4 hG4 hA4 a0 a1 a2 a3 a4 a5 a6
      generalize (w3.alloc (.cells #[.string x, .int .u16 k, .int .u16 l, .int .u32 T, .slice A1 n1 c1, .slice A2 n2 c2, .slice A3 n3 c3] 27)) = w4 at *
      generalize w3.heap.size = ga at *
      have a0 : w4.cell? ⟨g, 0, none⟩ = some (.string x) := by rw [Lib.cell_of_heap HG4.out]; rfl
      have a1 : w4.cell? ⟨g, 1, none⟩ = some (.int .u16 k) := by rw [Lib.cell_of_heap HG4.out]; rfl
      have a2 : w4.cell? ⟨g, 2, none⟩ = some (.int .u16 l) := by rw [Lib.cell_of_heap HG4.out]; rfl
      have a3 : w4.cell? ⟨g, 3, none⟩ = some (.int .u32 t) := by rw [Lib.cell_of_heap HG4.out]; rfl
      have a4 : w4.cell? ⟨g, 4, none⟩ = some (.slice A1 n1 c1) := by rw [Lib.cell_of_heap HG4.out]; rfl
      have a5 : w4.cell? ⟨g, 5, none⟩ = some (.slice A2 n2 c2) := by rw [Lib.cell_of_heap HG4.out]; rfl
      have a6 : w4.cell? ⟨g, 6, none⟩ = some (.slice A3 n3 c3) := by rw [Lib.cell_of_heap HG4.out]; rfl
      have b0 : w4.cell? ⟨ga, 0, none⟩ = some (.string x) := by rw [Lib.cell_of_heap HA4.out]; rfl
      have b1 : w4.cell? ⟨ga, 1, none⟩ = some (.int .u16 k) := by rw [Lib.cell_of_heap HA4.out]; rfl
      have b2 : w4.cell? ⟨ga, 2, none⟩ = some (.int .u16 l) := by rw [Lib.cell_of_heap HA4.out]; rfl
      have b3 : w4.cell? ⟨ga, 3, none⟩ = some (.int .u32 T) := by rw [Lib.cell_of_heap HA4.out]; rfl
      have b4 : w4.cell? ⟨ga, 4, none⟩ = some (.slice A1 n1 c1) := by rw [Lib.cell_of_heap HA4.out]; rfl
      have b5 : w4.cell? ⟨ga, 5, none⟩ = some (.slice A2 n2 c2) := by rw [Lib.cell_of_heap HA4.out]; rfl
      have b6 : w4.cell? ⟨ga, 6, none⟩ = some (.slice A3 n3 c3) := by rw [Lib.cell_of_heap HA4.out]; rfl
      by_cases h41 : k = 41
      · have f41 : ((k : Int) != 41) = false := by simp; omega
        clear h41
        go_wp2_with fail
        go_meet
        exact ⟨rfl, HB4, HG4⟩
      · have f41 : ((k : Int) != 41) = true := by simp; omega
        obtain ⟨Ea, hEa⟩ : ∃ E, checkE { name := R.name, kind := R.kind, cls := R.cls, ttl := T, names := R.names, nums := R.nums, texts := R.texts } = E := ⟨_, rfl⟩
        have fa : ((Ea : Int) != 1) = false := by rw [← hEa, late_check HOK.out HT2.out (by rw [(HAR.out w4 w4.heap.size HB4.out (by omega)).kind]; exact h41)]; rfl
        have HEa := Lib.hid hEa
        clear h41 hEa
        go_wp2_with fail
        have hR4 := HAR.out w4 w4.heap.size HB4.out (by omega)
        have HRa : Hid (RecAt w4 w4.heap.size { name := R.name, kind := R.kind, cls := R.cls, ttl := T, names := R.names, nums := R.nums, texts := R.texts } x k l T A1 n1 A2 n2 A3 n3) := ⟨hR4.name, hR4.kind, hR4.cls, rfl, hR4.len1, hR4.len2, hR4.len3, hR4.rd1, hR4.rd2, hR4.rd3⟩
        clear hR4
        ((with_reducible refine (check_is { name := R.name, kind := R.kind, cls := R.cls, ttl := T, names := R.names, nums := R.nums, texts := R.texts } x k l T A1 n1 c1 A2 n2 c2 A3 n3 c3 Ea _ HRa (Lib.hid ⟨hS.out.name, hS.out.n1, hS.out.s1, hS.out.n2, hS.out.u2, hS.out.n3, hS.out.s3⟩) HEa).mono ?_))
        rintro e w5 ⟨rfl, hB5⟩
        go_wp2_with fail
        go_meet
        exact ⟨rfl, Lib.hid (HB4.out.trans (hB5.mono (by omega))), Lib.hid ((hB5.block g (by omega)).trans HG4.out)⟩
    case rest =>
      clear a0 a1 a2 a3 a4 a5 a6 HB3 HG3 hT hgl hs0 hs1 hs2 hs3 f1 HT2
      obtain ⟨rfl, HB3, HG3⟩ := hcut
      generalize wc = w4 at *
      have hgl : g < w4.heap.size := (Array.getElem?_eq_some_iff.1 HG3.out).1
      have hR4 := HAR.out w4 w4.heap.size HB3.out (by omega)
      have HL1 := Lib.hid hR4.len1
      have HL2 := Lib.hid hR4.len2
      have HL3 := Lib.hid hR4.len3
      have HN := Lib.hid hR4.name
      have HK := Lib.hid hR4.kind
      have HLC := Lib.hid hR4.cls
      have HTT := Lib.hid hR4.ttl
      have hn1 := hR4.m1 hS.out
      have hn2 := hR4.m2 hS.out
      have hn3 := hR4.m3 hS.out
      clear hR4
      have hx : x.size ≤ 5000 := by rw [Lib.size_eq, (HAR.out w4 w4.heap.size HB3.out (by omega)).name]; exact HNAME.out
      have a0 : w4.cell? ⟨g, 0, none⟩ = some (.string x) := by rw [Lib.cell_of_heap HG3.out]; rfl
      have a1 : w4.cell? ⟨g, 1, none⟩ = some (.int .u16 k) := by rw [Lib.cell_of_heap HG3.out]; rfl
      have a2 : w4.cell? ⟨g, 2, none⟩ = some (.int .u16 l) := by rw [Lib.cell_of_heap HG3.out]; rfl
      have a3 : w4.cell? ⟨g, 3, none⟩ = some (.int .u32 t) := by rw [Lib.cell_of_heap HG3.out]; rfl
      have a4 : w4.cell? ⟨g, 4, none⟩ = some (.slice A1 n1 c1) := by rw [Lib.cell_of_heap HG3.out]; rfl
      have a5 : w4.cell? ⟨g, 5, none⟩ = some (.slice A2 n2 c2) := by rw [Lib.cell_of_heap HG3.out]; rfl
      have a6 : w4.cell? ⟨g, 6, none⟩ = some (.slice A3 n3 c3) := by rw [Lib.cell_of_heap HG3.out]; rfl
      go_wp2_with fail
      have HB5 : Hid (Below g w (w4.alloc (.cells #[.string (x ++ ⟨#[120]⟩), .int .u16 k, .int .u16 l, .int .u32 t, .slice A1 n1 c1, .slice A2 n2 c2, .slice A3 n3 c3] 27))) := HB3.out.alloc (by omega) _
      have HG5 : Hid ((w4.alloc (.cells #[.string (x ++ ⟨#[120]⟩), .int .u16 k, .int .u16 l, .int .u32 t, .slice A1 n1 c1, .slice A2 n2 c2, .slice A3 n3 c3] 27)).heap[g]? = some (.cells #[.string x, .int .u16 k, .int .u16 l, .int .u32 t, .slice A1 n1 c1, .slice A2 n2 c2, .slice A3 n3 c3] 27 (0, 0))) := (heap_alloc_old w4 _ hgl).trans HG3.out
      have HBB5 : Hid ((w4.alloc (.cells #[.string (x ++ ⟨#[120]⟩), .int .u16 k, .int .u16 l, .int .u32 t, .slice A1 n1 c1, .slice A2 n2 c2, .slice A3 n3 c3] 27)).heap[w4.heap.size]? = some (.cells #[.string (x ++ ⟨#[120]⟩), .int .u16 k, .int .u16 l, .int .u32 t, .slice A1 n1 c1, .slice A2 n2 c2, .slice A3 n3 c3] 27 (0, 0))) := heap_alloc_new w4 _
      have hs5 : w4.heap.size < (w4.alloc (.cells #[.string (x ++ ⟨#[120]⟩), .int .u16 k, .int .u16 l, .int .u32 t, .slice A1 n1 c1, .slice A2 n2 c2, .slice A3 n3 c3] 27)).heap.size := by simp
      clear a0 a1 a2 a3 a4 a5 a6 HB3 HG3
      generalize (w4.alloc (.cells #[.string (x ++ ⟨#[120]⟩), .int .u16 k, .int .u16 l, .int .u32 t, .slice A1 n1 c1, .slice A2 n2 c2, .slice A3 n3 c3] 27)) = w5 at *
      generalize w4.heap.size = gb at *
      ((with_reducible refine (lawCopied_is R x k l t A1 n1 c1 A2 n2 c2 A3 n3 c3 _ (Lib.hid (HAR.out w5 w5.heap.size HB5.out (by omega))) hS HF.out.1 HF.out.2.1 HF.out.2.2).mono ?_))
      rintro e w6 ⟨C1, d1, C2, d2, C3, d3, rfl, o1, o2, o3, hB6, hap⟩
      have hs6 := hB6.size
      have HB6 := Lib.hid (HB5.out.trans (hB6.mono (by omega)))
      have HG6 := Lib.hid ((hB6.block g (by omega)).trans HG5.out)
      have HBB6 := Lib.hid ((hB6.block gb (by omega)).trans HBB5.out)
      have HO1 := Lib.hid o1
      have HO2 := Lib.hid o2
      have HO3 := Lib.hid o3
      have HAP := Lib.hid hap
      clear o1 o2 o3 hB6 hap HB5 HG5 HBB5
      go_upto_region 12 with fail
      have HB7 : Hid (Below g w (w6.alloc (.cells #[.string x, .int .u16 k, .int .u16 l, .int .u32 t, .slice C1 n1 d1, .slice C2 n2 d2, .slice C3 n3 d3] 27))) := HB6.out.alloc (by omega) _
      have HG7 : Hid ((w6.alloc (.cells #[.string x, .int .u16 k, .int .u16 l, .int .u32 t, .slice C1 n1 d1, .slice C2 n2 d2, .slice C3 n3 d3] 27)).heap[g]? = some (.cells #[.string x, .int .u16 k, .int .u16 l, .int .u32 t, .slice A1 n1 c1, .slice A2 n2 c2, .slice A3 n3 c3] 27 (0, 0))) := (heap_alloc_old w6 _ (by omega)).trans HG6.out
      have HBB7 : Hid ((w6.alloc (.cells #[.string x, .int .u16 k, .int .u16 l, .int .u32 t, .slice C1 n1 d1, .slice C2 n2 d2, .slice C3 n3 d3] 27)).heap[gb]? = some (.cells #[.string (x ++ ⟨#[120]⟩), .int .u16 k, .int .u16 l, .int .u32 t, .slice A1 n1 c1, .slice A2 n2 c2, .slice A3 n3 c3] 27 (0, 0))) := (heap_alloc_old w6 _ (by omega)).trans HBB6.out
      have HC7 : Hid ((w6.alloc (.cells #[.string x, .int .u16 k, .int .u16 l, .int .u32 t, .slice C1 n1 d1, .slice C2 n2 d2, .slice C3 n3 d3] 27)).heap[w6.heap.size]? = some (.cells #[.string x, .int .u16 k, .int .u16 l, .int .u32 t, .slice C1 n1 d1, .slice C2 n2 d2, .slice C3 n3 d3] 27 (0, 0))) := heap_alloc_new w6 _
      have HP1 := Lib.hid (HO1.out.alloc (.cells #[.string x, .int .u16 k, .int .u16 l, .int .u32 t, .slice C1 n1 d1, .slice C2 n2 d2, .slice C3 n3 d3] 27))
      have HP2 := Lib.hid (HO2.out.alloc (.cells #[.string x, .int .u16 k, .int .u16 l, .int .u32 t, .slice C1 n1 d1, .slice C2 n2 d2, .slice C3 n3 d3] 27))
      have HP3 := Lib.hid (HO3.out.alloc (.cells #[.string x, .int .u16 k, .int .u16 l, .int .u32 t, .slice C1 n1 d1, .slice C2 n2 d2, .slice C3 n3 d3] 27))
      have hs7 : w6.heap.size < (w6.alloc (.cells #[.string x, .int .u16 k, .int .u16 l, .int .u32 t, .slice C1 n1 d1, .slice C2 n2 d2, .slice C3 n3 d3] 27)).heap.size := by simp
      clear HB6 HG6 HBB6 HO1 HO2 HO3
      generalize (w6.alloc (.cells #[.string x, .int .u16 k, .int .u16 l, .int .u32 t, .slice C1 n1 d1, .slice C2 n2 d2, .slice C3 n3 d3] 27)) = w7 at *
      generalize w6.heap.size = gc at *
      have b0 : w7.cell? ⟨gc, 0, none⟩ = some (.string x) := by rw [Lib.cell_of_heap HC7.out]; rfl
      have b1 : w7.cell? ⟨gc, 1, none⟩ = some (.int .u16 k) := by rw [Lib.cell_of_heap HC7.out]; rfl
      have b2 : w7.cell? ⟨gc, 2, none⟩ = some (.int .u16 l) := by rw [Lib.cell_of_heap HC7.out]; rfl
      have b3 : w7.cell? ⟨gc, 3, none⟩ = some (.int .u32 t) := by rw [Lib.cell_of_heap HC7.out]; rfl
      have b4 : w7.cell? ⟨gc, 4, none⟩ = some (.slice C1 n1 d1) := by rw [Lib.cell_of_heap HC7.out]; rfl
      have b5 : w7.cell? ⟨gc, 5, none⟩ = some (.slice C2 n2 d2) := by rw [Lib.cell_of_heap HC7.out]; rfl
      have b6 : w7.cell? ⟨gc, 6, none⟩ = some (.slice C3 n3 d3) := by rw [Lib.cell_of_heap HC7.out]; rfl
      go_wp2_with (at_builtin; refine wpList_append_strs (by rfl) _ _ (by rfl) w5.heap.size (.slice C1 n1 d1) n1 (strCs R.names) (by rfl) (HP1.out.alloc _) 1 [[0]] ?c1 ?c2 ?c3 ?_)
      case c1 =>
        refine Or.inr ⟨⟨w7.heap.size, 0, none⟩, 1, rfl, rfl, fun j hj => ?_⟩
        obtain rfl : j = 0 := by simpa using hj
        show (w7.alloc _).cell? ⟨w7.heap.size, 0, none⟩ = _
        rw [Lib.cell_of_heap (heap_alloc_new w7 _)]
        rfl
      case c2 => omega
      case c3 => simp; omega
      intro v' w8 hown hgrow
      obtain ⟨N1, hN1⟩ : ∃ N, n1 + 1 = N := ⟨_, rfl⟩
      have hlen : N1 = (R.names ++ [[0]]).length := by rw [List.length_append, HL1.out, ← hN1]; rfl
      rw [hN1, show strCs R.names ++ strCs [[0]] = strCs (R.names ++ [[0]]) by simp [strCs]] at hown
      obtain ⟨D1, e1, rfl, _, _, _⟩ := own_rds hown hlen
      have HC8 := Lib.hid (grown_blk HP1.out hgrow HC7.out (by decide))
      have HG8 := Lib.hid (grown_blk HP1.out hgrow HG7.out (by decide))
      have HBB8 := Lib.hid (grown_blk HP1.out hgrow HBB7.out (by decide))
      have HQ1 := Lib.hid hown
      have HQ2 := Lib.hid (grown_own HP2.out hgrow (own_apart HP2.out HP1.out (by decide)))
      have HQ3 := Lib.hid (grown_own HP3.out hgrow (slice_apart HAP.out))
      have HB8 := Lib.hid ((HB7.out.alloc (by omega) _).grown hgrow (by simp; omega) (fun k hk => by have := (HP1.out.lt k hk).1; omega))
      have HLEN := Lib.hid hlen
      clear hlen hN1 hown hgrow b0 b1 b2 b3 b4 b5 b6 HC7 HG7 HBB7 HP1 HP2 HP3 HAP HB7
      have a0 : w8.cell? ⟨g, 0, none⟩ = some (.string x) := by rw [Lib.cell_of_heap HG8.out]; rfl
      have a1 : w8.cell? ⟨g, 1, none⟩ = some (.int .u16 k) := by rw [Lib.cell_of_heap HG8.out]; rfl
      have a2 : w8.cell? ⟨g, 2, none⟩ = some (.int .u16 l) := by rw [Lib.cell_of_heap HG8.out]; rfl
      have a3 : w8.cell? ⟨g, 3, none⟩ = some (.int .u32 t) := by rw [Lib.cell_of_heap HG8.out]; rfl
      have a4 : w8.cell? ⟨g, 4, none⟩ = some (.slice A1 n1 c1) := by rw [Lib.cell_of_heap HG8.out]; rfl
      have a5 : w8.cell? ⟨g, 5, none⟩ = some (.slice A2 n2 c2) := by rw [Lib.cell_of_heap HG8.out]; rfl
      have a6 : w8.cell? ⟨g, 6, none⟩ = some (.slice A3 n3 c3) := by rw [Lib.cell_of_heap HG8.out]; rfl
      have b4 : w8.cell? ⟨gc, 4, none⟩ = some (.slice C1 n1 d1) := by rw [Lib.cell_of_heap HC8.out]; rfl
      have z4 : w8.frozen? ⟨gc, 4, none⟩ = false := Lib.frozen_of_heap HC8.out 4
      go_wp2_with fail
      have HB9 : Hid (Below g w (w8.setCell ⟨gc, 4, none⟩ (.slice D1 N1 e1))) := HB8.out.setCell (p := ⟨gc, 4, none⟩) (by show g ≤ gc; omega) _
      have HG9 : Hid ((w8.setCell ⟨gc, 4, none⟩ (.slice D1 N1 e1)).heap[g]? = some (.cells #[.string x, .int .u16 k, .int .u16 l, .int .u32 t, .slice A1 n1 c1, .slice A2 n2 c2, .slice A3 n3 c3] 27 (0, 0))) := other_block HG8.out (by omega)
      have HBB9 : Hid ((w8.setCell ⟨gc, 4, none⟩ (.slice D1 N1 e1)).heap[gb]? = some (.cells #[.string (x ++ ⟨#[120]⟩), .int .u16 k, .int .u16 l, .int .u32 t, .slice A1 n1 c1, .slice A2 n2 c2, .slice A3 n3 c3] 27 (0, 0))) := other_block HBB8.out (by omega)
      have HC9 : Hid ((w8.setCell ⟨gc, 4, none⟩ (.slice D1 N1 e1)).heap[gc]? = some (.cells #[.string x, .int .u16 k, .int .u16 l, .int .u32 t, .slice D1 N1 e1, .slice C2 n2 d2, .slice C3 n3 d3] 27 (0, 0))) := set_block HC8.out rfl
      have HRC : Hid (RecAt (w8.setCell ⟨gc, 4, none⟩ (.slice D1 N1 e1)) (w8.setCell ⟨gc, 4, none⟩ (.slice D1 N1 e1)).heap.size { name := R.name, kind := R.kind, cls := R.cls, ttl := R.ttl, names := R.names ++ [[0]], nums := R.nums, texts := R.texts } x k l t D1 N1 C2 n2 C3 n3) := rec_of_own HN.out HK.out HLC.out HTT.out HLEN.out.symm HL2.out HL3.out (own_set_type HQ1.out HC8.out (by decide)) (own_set_type HQ2.out HC8.out (by decide)) (own_set_type HQ3.out HC8.out (by decide))
      have hs9 : gc < (w8.setCell ⟨gc, 4, none⟩ (.slice D1 N1 e1)).heap.size := by rw [Go.Deep.nblk_setCell]; exact (Array.getElem?_eq_some_iff.1 HC8.out).1
      clear a0 a1 a2 a3 a4 a5 a6 b4 z4 HB8 HG8 HBB8 HC8 HQ1 HQ2 HQ3
      generalize (w8.setCell ⟨gc, 4, none⟩ (.slice D1 N1 e1)) = w9 at *
      ((with_reducible refine (lawCopied_is R x k l t A1 n1 c1 A2 n2 c2 A3 n3 c3 _ (Lib.hid (HAR.out w9 w9.heap.size HB9.out (by omega))) hS HF.out.1 HF.out.2.1 HF.out.2.2).mono ?_))
      rintro e w10 ⟨P1, p1, P2, p2, P3, p3, rfl, o1, o2, o3, hB10, hap⟩
      have hs10 := hB10.size
      have HB10 := Lib.hid (HB9.out.trans (hB10.mono (by omega)))
      have HG10 := Lib.hid ((hB10.block g (by omega)).trans HG9.out)
      have HBB10 := Lib.hid ((hB10.block gb (by omega)).trans HBB9.out)
      have HC10 := Lib.hid ((hB10.block gc (by omega)).trans HC9.out)
      have HT10 := Lib.hid hB10
      have HRCA : Hid (∀ W B, Below w9.heap.size w9 W → w9.heap.size ≤ B → RecAt W B { name := R.name, kind := R.kind, cls := R.cls, ttl := R.ttl, names := R.names ++ [[0]], nums := R.nums, texts := R.texts } x k l t D1 N1 C2 n2 C3 n3) := fun W B hW hB => HRC.out.on hW hB
      have HO1 := Lib.hid o1
      have HO2 := Lib.hid o2
      have HO3 := Lib.hid o3
      clear o1 o2 o3 hB10 hap HB9 HG9 HBB9 HC9 HRC
      go_upto_region 14 with fail
      have HB11 : Hid (Below g w (w10.alloc (.cells #[.string x, .int .u16 k, .int .u16 l, .int .u32 t, .slice P1 n1 p1, .slice P2 n2 p2, .slice P3 n3 p3] 27))) := HB10.out.alloc (by omega) _
      have HG11 : Hid ((w10.alloc (.cells #[.string x, .int .u16 k, .int .u16 l, .int .u32 t, .slice P1 n1 p1, .slice P2 n2 p2, .slice P3 n3 p3] 27)).heap[g]? = some (.cells #[.string x, .int .u16 k, .int .u16 l, .int .u32 t, .slice A1 n1 c1, .slice A2 n2 c2, .slice A3 n3 c3] 27 (0, 0))) := (heap_alloc_old w10 _ (by omega)).trans HG10.out
      have HBB11 : Hid ((w10.alloc (.cells #[.string x, .int .u16 k, .int .u16 l, .int .u32 t, .slice P1 n1 p1, .slice P2 n2 p2, .slice P3 n3 p3] 27)).heap[gb]? = some (.cells #[.string (x ++ ⟨#[120]⟩), .int .u16 k, .int .u16 l, .int .u32 t, .slice A1 n1 c1, .slice A2 n2 c2, .slice A3 n3 c3] 27 (0, 0))) := (heap_alloc_old w10 _ (by omega)).trans HBB10.out
      have HC11 : Hid ((w10.alloc (.cells #[.string x, .int .u16 k, .int .u16 l, .int .u32 t, .slice P1 n1 p1, .slice P2 n2 p2, .slice P3 n3 p3] 27)).heap[gc]? = some (.cells #[.string x, .int .u16 k, .int .u16 l, .int .u32 t, .slice D1 N1 e1, .slice C2 n2 d2, .slice C3 n3 d3] 27 (0, 0))) := (heap_alloc_old w10 _ (by omega)).trans HC10.out
      have HD11 : Hid ((w10.alloc (.cells #[.string x, .int .u16 k, .int .u16 l, .int .u32 t, .slice P1 n1 p1, .slice P2 n2 p2, .slice P3 n3 p3] 27)).heap[w10.heap.size]? = some (.cells #[.string x, .int .u16 k, .int .u16 l, .int .u32 t, .slice P1 n1 p1, .slice P2 n2 p2, .slice P3 n3 p3] 27 (0, 0))) := heap_alloc_new w10 _
      have HT11 : Hid (Below w9.heap.size w9 (w10.alloc (.cells #[.string x, .int .u16 k, .int .u16 l, .int .u32 t, .slice P1 n1 p1, .slice P2 n2 p2, .slice P3 n3 p3] 27))) := HT10.out.alloc (by omega) _
      have HP1 := Lib.hid (HO1.out.alloc (.cells #[.string x, .int .u16 k, .int .u16 l, .int .u32 t, .slice P1 n1 p1, .slice P2 n2 p2, .slice P3 n3 p3] 27))
      have HP2 := Lib.hid (HO2.out.alloc (.cells #[.string x, .int .u16 k, .int .u16 l, .int .u32 t, .slice P1 n1 p1, .slice P2 n2 p2, .slice P3 n3 p3] 27))
      have HP3 := Lib.hid (HO3.out.alloc (.cells #[.string x, .int .u16 k, .int .u16 l, .int .u32 t, .slice P1 n1 p1, .slice P2 n2 p2, .slice P3 n3 p3] 27))
      have hs11 : w10.heap.size < (w10.alloc (.cells #[.string x, .int .u16 k, .int .u16 l, .int .u32 t, .slice P1 n1 p1, .slice P2 n2 p2, .slice P3 n3 p3] 27)).heap.size := by simp
      clear HB10 HG10 HBB10 HC10 HT10 HO1 HO2 HO3
      generalize (w10.alloc (.cells #[.string x, .int .u16 k, .int .u16 l, .int .u32 t, .slice P1 n1 p1, .slice P2 n2 p2, .slice P3 n3 p3] 27)) = w11 at *
      generalize w10.heap.size = gd at *
      have b0 : w11.cell? ⟨gd, 0, none⟩ = some (.string x) := by rw [Lib.cell_of_heap HD11.out]; rfl
      have b1 : w11.cell? ⟨gd, 1, none⟩ = some (.int .u16 k) := by rw [Lib.cell_of_heap HD11.out]; rfl
      have b2 : w11.cell? ⟨gd, 2, none⟩ = some (.int .u16 l) := by rw [Lib.cell_of_heap HD11.out]; rfl
      have b3 : w11.cell? ⟨gd, 3, none⟩ = some (.int .u32 t) := by rw [Lib.cell_of_heap HD11.out]; rfl
      have b4 : w11.cell? ⟨gd, 4, none⟩ = some (.slice P1 n1 p1) := by rw [Lib.cell_of_heap HD11.out]; rfl
      have b5 : w11.cell? ⟨gd, 5, none⟩ = some (.slice P2 n2 p2) := by rw [Lib.cell_of_heap HD11.out]; rfl
      have b6 : w11.cell? ⟨gd, 6, none⟩ = some (.slice P3 n3 p3) := by rw [Lib.cell_of_heap HD11.out]; rfl
      go_wp2_with (at_builtin; refine wpList_append_nums (by rfl) _ _ (by rfl) w9.heap.size (.slice P2 n2 p2) n2 (numCs R.nums) (by rfl) (HP2.out.alloc _) 1 [0] ?c1 ?c2 ?c3 ?_)
      case c1 =>
        refine Or.inr ⟨⟨w11.heap.size, 0, none⟩, 1, rfl, rfl, fun j hj => ?_⟩
        obtain rfl : j = 0 := by simpa using hj
        show (w11.alloc _).cell? ⟨w11.heap.size, 0, none⟩ = _
        rw [Lib.cell_of_heap (heap_alloc_new w11 _)]
        rfl
      case c2 => omega
      case c3 => simp; omega
      intro v' w12 hown hgrow
      obtain ⟨N2, hN2⟩ : ∃ N, n2 + 1 = N := ⟨_, rfl⟩
      have hlen : N2 = (R.nums ++ [0]).length := by rw [List.length_append, HL2.out, ← hN2]; rfl
      rw [hN2, show numCs R.nums ++ numCs [0] = numCs (R.nums ++ [0]) by simp [numCs]] at hown
      obtain ⟨Q2, q2, rfl, _, _, _⟩ := own_rdn hown hlen
      have HC12 := Lib.hid (grown_blk HP2.out hgrow HC11.out (by decide))
      have HG12 := Lib.hid (grown_blk HP2.out hgrow HG11.out (by decide))
      have HBB12 := Lib.hid (grown_blk HP2.out hgrow HBB11.out (by decide))
      have HD12 := Lib.hid (grown_blk HP2.out hgrow HD11.out (by decide))
      have HQ1 := Lib.hid (grown_own HP1.out hgrow (own_apart HP1.out HP2.out (by decide)))
      have HQ2 := Lib.hid hown
      have HQ3 := Lib.hid (grown_own HP3.out hgrow (own_apart HP3.out HP2.out (by decide)))
      have HT12 := Lib.hid ((HT11.out.alloc (by omega) _).grown hgrow (by simp; omega) (fun k hk => (HP2.out.lt k hk).1))
      have HB12 := Lib.hid ((HB11.out.alloc (by omega) _).grown hgrow (by simp; omega) (fun k hk => by have := (HP2.out.lt k hk).1; omega))
      have HLEN2 := Lib.hid hlen
      have hlt12 : gd < w12.heap.size := (Array.getElem?_eq_some_iff.1 HD12.out).1
      clear hlen hN2 hown hgrow b0 b1 b2 b3 b4 b5 b6 HC11 HG11 HBB11 HD11 HP1 HP2 HP3 HB11 HT11
      have a0 : w12.cell? ⟨g, 0, none⟩ = some (.string x) := by rw [Lib.cell_of_heap HG12.out]; rfl
      have a1 : w12.cell? ⟨g, 1, none⟩ = some (.int .u16 k) := by rw [Lib.cell_of_heap HG12.out]; rfl
      have a2 : w12.cell? ⟨g, 2, none⟩ = some (.int .u16 l) := by rw [Lib.cell_of_heap HG12.out]; rfl
      have a3 : w12.cell? ⟨g, 3, none⟩ = some (.int .u32 t) := by rw [Lib.cell_of_heap HG12.out]; rfl
      have a4 : w12.cell? ⟨g, 4, none⟩ = some (.slice A1 n1 c1) := by rw [Lib.cell_of_heap HG12.out]; rfl
      have a5 : w12.cell? ⟨g, 5, none⟩ = some (.slice A2 n2 c2) := by rw [Lib.cell_of_heap HG12.out]; rfl
      have a6 : w12.cell? ⟨g, 6, none⟩ = some (.slice A3 n3 c3) := by rw [Lib.cell_of_heap HG12.out]; rfl
      have y0 : w12.cell? ⟨gb, 0, none⟩ = some (.string (x ++ ⟨#[120]⟩)) := by rw [Lib.cell_of_heap HBB12.out]; rfl
      have y1 : w12.cell? ⟨gb, 1, none⟩ = some (.int .u16 k) := by rw [Lib.cell_of_heap HBB12.out]; rfl
      have y2 : w12.cell? ⟨gb, 2, none⟩ = some (.int .u16 l) := by rw [Lib.cell_of_heap HBB12.out]; rfl
      have y3 : w12.cell? ⟨gb, 3, none⟩ = some (.int .u32 t) := by rw [Lib.cell_of_heap HBB12.out]; rfl
      have y4 : w12.cell? ⟨gb, 4, none⟩ = some (.slice A1 n1 c1) := by rw [Lib.cell_of_heap HBB12.out]; rfl
      have y5 : w12.cell? ⟨gb, 5, none⟩ = some (.slice A2 n2 c2) := by rw [Lib.cell_of_heap HBB12.out]; rfl
      have y6 : w12.cell? ⟨gb, 6, none⟩ = some (.slice A3 n3 c3) := by rw [Lib.cell_of_heap HBB12.out]; rfl
      have b5 : w12.cell? ⟨gd, 5, none⟩ = some (.slice P2 n2 p2) := by rw [Lib.cell_of_heap HD12.out]; rfl
      have z5 : w12.frozen? ⟨gd, 5, none⟩ = false := Lib.frozen_of_heap HD12.out 5
      go_wp2_with fail
      have HB13 : Hid (Below g w (w12.setCell ⟨gd, 5, none⟩ (.slice Q2 N2 q2))) := HB12.out.setCell (p := ⟨gd, 5, none⟩) (by show g ≤ gd; omega) _
      have HT13 : Hid (Below w9.heap.size w9 (w12.setCell ⟨gd, 5, none⟩ (.slice Q2 N2 q2))) := HT12.out.setCell (p := ⟨gd, 5, none⟩) (by show w9.heap.size ≤ gd; omega) _
      have HG13 : Hid ((w12.setCell ⟨gd, 5, none⟩ (.slice Q2 N2 q2)).heap[g]? = some (.cells #[.string x, .int .u16 k, .int .u16 l, .int .u32 t, .slice A1 n1 c1, .slice A2 n2 c2, .slice A3 n3 c3] 27 (0, 0))) := other_block HG12.out (by omega)
      have HC13 : Hid ((w12.setCell ⟨gd, 5, none⟩ (.slice Q2 N2 q2)).heap[gc]? = some (.cells #[.string x, .int .u16 k, .int .u16 l, .int .u32 t, .slice D1 N1 e1, .slice C2 n2 d2, .slice C3 n3 d3] 27 (0, 0))) := other_block HC12.out (by omega)
      have HD13 : Hid ((w12.setCell ⟨gd, 5, none⟩ (.slice Q2 N2 q2)).heap[gd]? = some (.cells #[.string x, .int .u16 k, .int .u16 l, .int .u32 t, .slice P1 n1 p1, .slice Q2 N2 q2, .slice P3 n3 p3] 27 (0, 0))) := set_block HD12.out rfl
      have HRD : Hid (RecAt (w12.setCell ⟨gd, 5, none⟩ (.slice Q2 N2 q2)) (w12.setCell ⟨gd, 5, none⟩ (.slice Q2 N2 q2)).heap.size { name := R.name, kind := R.kind, cls := R.cls, ttl := R.ttl, names := R.names, nums := R.nums ++ [0], texts := R.texts } x k l t P1 n1 Q2 N2 P3 n3) := rec_of_own HN.out HK.out HLC.out HTT.out HL1.out HLEN2.out.symm HL3.out (own_set_type HQ1.out HD12.out (by decide)) (own_set_type HQ2.out HD12.out (by decide)) (own_set_type HQ3.out HD12.out (by decide))
      have hs13 : gd < (w12.setCell ⟨gd, 5, none⟩ (.slice Q2 N2 q2)).heap.size := by rw [Go.Deep.nblk_setCell]; exact hlt12
      have hs13' : w9.heap.size ≤ (w12.setCell ⟨gd, 5, none⟩ (.slice Q2 N2 q2)).heap.size := HT13.out.size
      clear a0 a1 a2 a3 a4 a5 a6 y0 y1 y2 y3 y4 y5 y6 b5 z5 HB12 HG12 HBB12 HC12 HD12 HQ1 HQ2 HQ3 HT12
      generalize (w12.setCell ⟨gd, 5, none⟩ (.slice Q2 N2 q2)) = w13 at *
      have HRC13 := Lib.hid (HRCA.out w13 w13.heap.size HT13.out hs13')
      have hRb0 := HAR.out w13 w13.heap.size HB13.out (by omega)
      have HRb : Hid (RecAt w13 w13.heap.size { name := R.name ++ [120], kind := R.kind, cls := R.cls, ttl := R.ttl, names := R.names, nums := R.nums, texts := R.texts } (x ++ ⟨#[120]⟩) k l t A1 n1 A2 n2 A3 n3) := ⟨by rw [← HN.out]; simp, hRb0.kind, hRb0.cls, hRb0.ttl, hRb0.len1, hRb0.len2, hRb0.len3, hRb0.rd1, hRb0.rd2, hRb0.rd3⟩
      obtain ⟨Eb, hEb⟩ : ∃ E, checkE { name := R.name ++ [120], kind := R.kind, cls := R.cls, ttl := R.ttl, names := R.names, nums := R.nums, texts := R.texts } = E := ⟨_, rfl⟩
      have fb : ((Eb : Int) != 40) = false := by rw [← hEb, name_check HOK.out]; rfl
      have HEb := Lib.hid hEb
      obtain ⟨Ec, hEc⟩ : ∃ E, checkE { name := R.name, kind := R.kind, cls := R.cls, ttl := R.ttl, names := R.names ++ [[0]], nums := R.nums, texts := R.texts } = E := ⟨_, rfl⟩
      have fc : ((Ec : Int) != 50) = false := by rw [← hEc, names_check HOK.out]; rfl
      have HEc := Lib.hid hEc
      obtain ⟨Ed, hEd⟩ : ∃ E, checkE { name := R.name, kind := R.kind, cls := R.cls, ttl := R.ttl, names := R.names, nums := R.nums ++ [0], texts := R.texts } = E := ⟨_, rfl⟩
      have fd : ((Ed : Int) != 50) = false := by rw [← hEd, nums_check HOK.out]; rfl
      have HEd := Lib.hid hEd
      clear hEb hEc hEd hRb0 HRCA HT13
      ((with_reducible refine (check_is { name := R.name ++ [120], kind := R.kind, cls := R.cls, ttl := R.ttl, names := R.names, nums := R.nums, texts := R.texts } (x ++ ⟨#[120]⟩) k l t A1 n1 c1 A2 n2 c2 A3 n3 c3 Eb _ HRb (Lib.hid (small_name hS.out HNAME.out _)) HEb).mono ?_))
      rintro e w14 ⟨rfl, hB14⟩
      have hs14 := hB14.size
      have HB14 := Lib.hid (HB13.out.trans (hB14.mono (by omega)))
      have HG14 := Lib.hid ((hB14.block g (by omega)).trans HG13.out)
      have HC14 := Lib.hid ((hB14.block gc (by omega)).trans HC13.out)
      have HD14 := Lib.hid ((hB14.block gd (by omega)).trans HD13.out)
      have HRC14 := Lib.hid (HRC13.out.on hB14 hB14.size)
      have HRD14 := Lib.hid (HRD.out.on hB14 hB14.size)
      clear hB14 HB13 HG13 HC13 HD13 HRC13 HRD
      have y0 : w14.cell? ⟨gc, 0, none⟩ = some (.string x) := by rw [Lib.cell_of_heap HC14.out]; rfl
      have y1 : w14.cell? ⟨gc, 1, none⟩ = some (.int .u16 k) := by rw [Lib.cell_of_heap HC14.out]; rfl
      have y2 : w14.cell? ⟨gc, 2, none⟩ = some (.int .u16 l) := by rw [Lib.cell_of_heap HC14.out]; rfl
      have y3 : w14.cell? ⟨gc, 3, none⟩ = some (.int .u32 t) := by rw [Lib.cell_of_heap HC14.out]; rfl
      have y4 : w14.cell? ⟨gc, 4, none⟩ = some (.slice D1 N1 e1) := by rw [Lib.cell_of_heap HC14.out]; rfl
      have y5 : w14.cell? ⟨gc, 5, none⟩ = some (.slice C2 n2 d2) := by rw [Lib.cell_of_heap HC14.out]; rfl
      have y6 : w14.cell? ⟨gc, 6, none⟩ = some (.slice C3 n3 d3) := by rw [Lib.cell_of_heap HC14.out]; rfl
      go_wp2_with fail
      ((with_reducible refine (check_is { name := R.name, kind := R.kind, cls := R.cls, ttl := R.ttl, names := R.names ++ [[0]], nums := R.nums, texts := R.texts } x k l t D1 N1 e1 C2 n2 d2 C3 n3 d3 Ec _ HRC14 (Lib.hid (small_names hS.out HOK.out)) HEc).mono ?_))
      rintro e w15 ⟨rfl, hB15⟩
      have hs15 := hB15.size
      have HB15 := Lib.hid (HB14.out.trans (hB15.mono (by omega)))
      have HG15 := Lib.hid ((hB15.block g (by omega)).trans HG14.out)
      have HD15 := Lib.hid ((hB15.block gd (by omega)).trans HD14.out)
      have HRD15 := Lib.hid (HRD14.out.on hB15 hB15.size)
      clear hB15 HB14 HG14 HC14 HD14 HRC14 HRD14 y0 y1 y2 y3 y4 y5 y6
      have y0 : w15.cell? ⟨gd, 0, none⟩ = some (.string x) := by rw [Lib.cell_of_heap HD15.out]; rfl
      have y1 : w15.cell? ⟨gd, 1, none⟩ = some (.int .u16 k) := by rw [Lib.cell_of_heap HD15.out]; rfl
      have y2 : w15.cell? ⟨gd, 2, none⟩ = some (.int .u16 l) := by rw [Lib.cell_of_heap HD15.out]; rfl
      have y3 : w15.cell? ⟨gd, 3, none⟩ = some (.int .u32 t) := by rw [Lib.cell_of_heap HD15.out]; rfl
      have y4 : w15.cell? ⟨gd, 4, none⟩ = some (.slice P1 n1 p1) := by rw [Lib.cell_of_heap HD15.out]; rfl
      have y5 : w15.cell? ⟨gd, 5, none⟩ = some (.slice Q2 N2 q2) := by rw [Lib.cell_of_heap HD15.out]; rfl
      have y6 : w15.cell? ⟨gd, 6, none⟩ = some (.slice P3 n3 p3) := by rw [Lib.cell_of_heap HD15.out]; rfl
      go_wp2_with fail
      ((with_reducible refine (check_is { name := R.name, kind := R.kind, cls := R.cls, ttl := R.ttl, names := R.names, nums := R.nums ++ [0], texts := R.texts } x k l t P1 n1 p1 Q2 N2 q2 P3 n3 p3 Ed _ HRD15 (Lib.hid (small_nums hS.out HOK.out)) HEd).mono ?_))
      rintro e w16 ⟨rfl, hB16⟩
      have hs16 := hB16.size
      have HB16 := Lib.hid (HB15.out.trans (hB16.mono (by omega)))
      have HG16 := Lib.hid ((hB16.block g (by omega)).trans HG15.out)
      clear hB16 HB15 HG15 HD15 HRD15 y0 y1 y2 y3 y4 y5 y6
      have a0 : w16.cell? ⟨g, 0, none⟩ = some (.string x) := by rw [Lib.cell_of_heap HG16.out]; rfl
      have a1 : w16.cell? ⟨g, 1, none⟩ = some (.int .u16 k) := by rw [Lib.cell_of_heap HG16.out]; rfl
      have a2 : w16.cell? ⟨g, 2, none⟩ = some (.int .u16 l) := by rw [Lib.cell_of_heap HG16.out]; rfl
      have a3 : w16.cell? ⟨g, 3, none⟩ = some (.int .u32 t) := by rw [Lib.cell_of_heap HG16.out]; rfl
      have a4 : w16.cell? ⟨g, 4, none⟩ = some (.slice A1 n1 c1) := by rw [Lib.cell_of_heap HG16.out]; rfl
      have a5 : w16.cell? ⟨g, 5, none⟩ = some (.slice A2 n2 c2) := by rw [Lib.cell_of_heap HG16.out]; rfl
      have a6 : w16.cell? ⟨g, 6, none⟩ = some (.slice A3 n3 c3) := by rw [Lib.cell_of_heap HG16.out]; rfl
      go_wp2_with fail
      ((with_reducible refine (lawCopied_is R x k l t A1 n1 c1 A2 n2 c2 A3 n3 c3 _ (Lib.hid (HAR.out w16 w16.heap.size HB16.out (by omega))) hS HF.out.1 HF.out.2.1 HF.out.2.2).mono ?_))
      rintro e w17 ⟨H1, h1, H2, h2, H3, h3, rfl, o1, o2, o3, hB17, hap⟩
      have hs17 := hB17.size
      have HT17 := Lib.hid hB17
      have HG17 := Lib.hid ((hB17.block g (by omega)).trans HG16.out)
      have HO1 := Lib.hid o1
      have HO2 := Lib.hid o2
      have HO3 := Lib.hid o3
      clear o1 o2 o3 hB17 hap HG16 a0 a1 a2 a3 a4 a5 a6
      go_upto_region 18 with fail
      have HB18 : Hid (Below g w (w17.alloc (.cells #[.string x, .int .u16 k, .int .u16 l, .int .u32 t, .slice H1 n1 h1, .slice H2 n2 h2, .slice H3 n3 h3] 27))) := (HB16.out.trans (HT17.out.mono (by omega))).alloc (by omega) _
      have HG18 : Hid ((w17.alloc (.cells #[.string x, .int .u16 k, .int .u16 l, .int .u32 t, .slice H1 n1 h1, .slice H2 n2 h2, .slice H3 n3 h3] 27)).heap[g]? = some (.cells #[.string x, .int .u16 k, .int .u16 l, .int .u32 t, .slice A1 n1 c1, .slice A2 n2 c2, .slice A3 n3 c3] 27 (0, 0))) := (heap_alloc_old w17 _ (by omega)).trans HG17.out
      have HF18 : Hid ((w17.alloc (.cells #[.string x, .int .u16 k, .int .u16 l, .int .u32 t, .slice H1 n1 h1, .slice H2 n2 h2, .slice H3 n3 h3] 27)).heap[w17.heap.size]? = some (.cells #[.string x, .int .u16 k, .int .u16 l, .int .u32 t, .slice H1 n1 h1, .slice H2 n2 h2, .slice H3 n3 h3] 27 (0, 0))) := heap_alloc_new w17 _
      have HP1 := Lib.hid (HO1.out.alloc (.cells #[.string x, .int .u16 k, .int .u16 l, .int .u32 t, .slice H1 n1 h1, .slice H2 n2 h2, .slice H3 n3 h3] 27))
      have HP2 := Lib.hid (HO2.out.alloc (.cells #[.string x, .int .u16 k, .int .u16 l, .int .u32 t, .slice H1 n1 h1, .slice H2 n2 h2, .slice H3 n3 h3] 27))
      have HP3 := Lib.hid (HO3.out.alloc (.cells #[.string x, .int .u16 k, .int .u16 l, .int .u32 t, .slice H1 n1 h1, .slice H2 n2 h2, .slice H3 n3 h3] 27))
      have hs18 : w17.heap.size < (w17.alloc (.cells #[.string x, .int .u16 k, .int .u16 l, .int .u32 t, .slice H1 n1 h1, .slice H2 n2 h2, .slice H3 n3 h3] 27)).heap.size := by simp
      have hg16 : g ≤ w16.heap.size := by omega
      clear HB16 HG17 HT17 HO1 HO2 HO3
      generalize (w17.alloc (.cells #[.string x, .int .u16 k, .int .u16 l, .int .u32 t, .slice H1 n1 h1, .slice H2 n2 h2, .slice H3 n3 h3] 27)) = w18 at *
      generalize w17.heap.size = gf at *
      have a0 : w18.cell? ⟨g, 0, none⟩ = some (.string x) := by rw [Lib.cell_of_heap HG18.out]; rfl
      have a1 : w18.cell? ⟨g, 1, none⟩ = some (.int .u16 k) := by rw [Lib.cell_of_heap HG18.out]; rfl
      have a2 : w18.cell? ⟨g, 2, none⟩ = some (.int .u16 l) := by rw [Lib.cell_of_heap HG18.out]; rfl
      have a3 : w18.cell? ⟨g, 3, none⟩ = some (.int .u32 t) := by rw [Lib.cell_of_heap HG18.out]; rfl
      have a4 : w18.cell? ⟨g, 4, none⟩ = some (.slice A1 n1 c1) := by rw [Lib.cell_of_heap HG18.out]; rfl
      have a5 : w18.cell? ⟨g, 5, none⟩ = some (.slice A2 n2 c2) := by rw [Lib.cell_of_heap HG18.out]; rfl
      have a6 : w18.cell? ⟨g, 6, none⟩ = some (.slice A3 n3 c3) := by rw [Lib.cell_of_heap HG18.out]; rfl
      have y0 : w18.cell? ⟨gf, 0, none⟩ = some (.string x) := by rw [Lib.cell_of_heap HF18.out]; rfl
      have y1 : w18.cell? ⟨gf, 1, none⟩ = some (.int .u16 k) := by rw [Lib.cell_of_heap HF18.out]; rfl
      have y2 : w18.cell? ⟨gf, 2, none⟩ = some (.int .u16 l) := by rw [Lib.cell_of_heap HF18.out]; rfl
      have y3 : w18.cell? ⟨gf, 3, none⟩ = some (.int .u32 t) := by rw [Lib.cell_of_heap HF18.out]; rfl
      have y4 : w18.cell? ⟨gf, 4, none⟩ = some (.slice H1 n1 h1) := by rw [Lib.cell_of_heap HF18.out]; rfl
      have y5 : w18.cell? ⟨gf, 5, none⟩ = some (.slice H2 n2 h2) := by rw [Lib.cell_of_heap HF18.out]; rfl
      have y6 : w18.cell? ⟨gf, 6, none⟩ = some (.slice H3 n3 h3) := by rw [Lib.cell_of_heap HF18.out]; rfl
      by_cases hz : n2 = 0
      · have hz1 : ¬ (0 < (n2 : Int)) := by omega
        have hz2 : decide (0 < (n2 : Int)) = false := decide_eq_false hz1
        have hz3 : ((n2 : Int) > 0) = False := by simp; omega
        clear hz
        go_wp2_with fail
        go_ret
        exact ⟨rfl, by rw [HGW.out]; exact HB18.out⟩
      have hz1 : 0 < (n2 : Int) := by omega
      have hz2 : decide (0 < (n2 : Int)) = true := decide_eq_true hz1
      by_cases hk6 : k = 6
      · have f6 : ((k : Int) != 6) = false := by simp; omega
        clear hk6
        go_wp2_with fail
        go_ret
        exact ⟨rfl, by rw [HGW.out]; exact HB18.out⟩
      have f6 : ((k : Int) != 6) = true := by simp; omega
      obtain ⟨U, hU, hU2, hU3⟩ : ∃ U : Nat, max (m1 : Int) 65536 = (U : Int) ∧ 65535 < U ∧ U ≤ 4294967295 := ⟨(max (m1 : Int) 65536).toNat, by omega, by omega, by omega⟩
      obtain ⟨Ef, hEf⟩ : ∃ E, checkE { name := R.name, kind := R.kind, cls := R.cls, ttl := R.ttl, names := R.names, nums := U :: R.nums.tail, texts := R.texts } = E := ⟨_, rfl⟩
      have ff : ((Ef : Int) == 50) = true := by rw [← hEf, big_check HOK.out (by rw [HK.out]; exact hk6) hU2]; rfl
      have HEf := Lib.hid hEf
      have HU3 := Lib.hid hU3
      clear hEf hU2 hU3 hk6
      rcases own_look HP2.out with ⟨_, h0⟩ | ⟨fb, cap, hv, hfb, hfl, hcap, hfz, hcs⟩
      · omega
      injection hv with hv _ hv2
      subst hv
      have p0 : w18.cell? ⟨fb, 0, none⟩ = some (.int .u32 ((R.nums.getD 0 0 : Nat) : Int)) := hcs 0 _ (numCs_at (by rw [HL2.out]; omega))
      have z0 : w18.frozen? ⟨fb, 0, none⟩ = false := hfz 0
      have HHD : Hid (RdN (w18.setCell ⟨fb, 0, none⟩ (.int .u32 (U : Int))) (w18.setCell ⟨fb, 0, none⟩ (.int .u32 (U : Int))).heap.size (some ⟨fb, 0, none⟩) (U :: R.nums.tail)) := rdn_head HP2.out HL2.out.symm (by omega)
      have hfx : (Value.slice (some ⟨fb, 0, none⟩) n2 h2).ownBlock ≠ some gf := own_ne HP2.out HF18.out (by decide)
      have hne1 : ¬ (fb = gf) := fun e => hfx (by rw [e]; rfl)
      have hne2 : ¬ (gf = fb) := fun e => hne1 e.symm
      have hR18 := rec_of_own HN.out HK.out HLC.out HTT.out HL1.out HL2.out HL3.out HP1.out HP2.out HP3.out
      have hb1 : (Value.slice H1 n1 h1).ownBlock ≠ some fb := by
        rcases own_apart HP1.out HP2.out (by decide) with h | h
        · rw [h]; exact fun e => by cases e
        · exact h
      have hb3 : (Value.slice H3 n3 h3).ownBlock ≠ some fb := by
        rcases own_apart HP3.out HP2.out (by decide) with h | h
        · rw [h]; exact fun e => by cases e
        · exact h
      have HS1 := Lib.hid (rds_set (p := ⟨fb, 0, none⟩) (u := .int .u32 (U : Int)) hR18.rd1 (own_addr HP1.out hb1))
      have HS3 := Lib.hid (rds_set (p := ⟨fb, 0, none⟩) (u := .int .u32 (U : Int)) hR18.rd3 (own_addr HP3.out hb3))
      have HRf : Hid (RecAt (w18.setCell ⟨fb, 0, none⟩ (.int .u32 (U : Int))) (w18.setCell ⟨fb, 0, none⟩ (.int .u32 (U : Int))).heap.size { name := R.name, kind := R.kind, cls := R.cls, ttl := R.ttl, names := R.names, nums := U :: R.nums.tail, texts := R.texts } x k l t H1 n1 (some ⟨fb, 0, none⟩) n2 H3 n3) :=
        ⟨HN.out, HK.out, HLC.out, HTT.out, HL1.out, by show (U :: R.nums.tail).length = n2; rw [List.length_cons, List.length_tail, HL2.out]; omega, HL3.out, by rw [Go.Deep.nblk_setCell]; exact HS1.out, HHD.out, by rw [Go.Deep.nblk_setCell]; exact HS3.out⟩
      have HB19 : Hid (Below g w (w18.setCell ⟨fb, 0, none⟩ (.int .u32 (U : Int)))) := HB18.out.setCell (p := ⟨fb, 0, none⟩) (by show g ≤ fb; omega) _
      have hs19 : g ≤ (w18.setCell ⟨fb, 0, none⟩ (.int .u32 (U : Int))).heap.size := by rw [Go.Deep.nblk_setCell]; omega
      clear hcs hfz hv2 hfx hR18 hb1 hb3 HHD
      go_wp2_with fail
      ((with_reducible refine (check_is { name := R.name, kind := R.kind, cls := R.cls, ttl := R.ttl, names := R.names, nums := U :: R.nums.tail, texts := R.texts } x k l t H1 n1 h1 (some ⟨fb, 0, none⟩) n2 h2 H3 n3 h3 Ef _ HRf (Lib.hid (small_head hS.out HOK.out HU3.out)) HEf).mono ?_))
      rintro e w19 ⟨rfl, hB20⟩
      go_wp2_with fail
      go_ret
      exact ⟨rfl, by rw [HGW.out]; exact HB19.out.trans (hB20.mono hs19)⟩

set_option maxRecDepth 100000 in
theorem lifted (os : Os) (started : os.Started) (H : Type) (enc : TypeId × Value → H) :
    ReturnsInHanded {} Try.checked os 6 .any (Rows.dataLimitsSpec.pre6 enc Try.prog Try.f6 Rows.dataLimitsRow.domain false) (Rows.dataLimitsSpec.post enc Try.prog Try.f6 false true false false) := by
  refine returnsInHanded_of_change (C := Try.checked) own started (by kernel_rfl) Try.func6
    (ChangeSpec.witness6 (enc := enc) (C := Try.checked) false ⟨#[], #[.agg #[.string ByteArray.empty, .int .u16 0, .int .u16 0, .int .u32 0, .slice none 0 0, .slice none 0 0, .slice none 0 0], .int .u32 0], []⟩ 8 (by kernel_rfl) (by kernel_rfl) (by kernel_rfl) (by kernel_rfl)) ?_
  intro W base args ds gs before hval0 hW hcnd _
  have hval : ∀ (j : Nat) t v, Try.f6.params[j]? = some t → args[j]? = some v → Value.okWide Try.prog W .any base t v := hval0
  have hW' := hW
  obtain ⟨p, q, hA0, hV, rfl, hfz, hnd⟩ := hW
  have hA : DataW.TrodAll enc Try.prog W 0 (fun _ => true) true Try.f6.params.toList args.toList ds p := hA0
  rw [Try.params6] at hA hval
  obtain ⟨v0, vs0, d0, ds0, p0, q0, hargs, rfl, rfl, h0, r0⟩ := trodAll_cons hA
  obtain ⟨v1, vs1, d1, ds1, p1, q1, rfl, rfl, rfl, h1, r1⟩ := trodAll_cons r0
  obtain ⟨rfl, rfl, rfl⟩ := trodAll_nil r1
  obtain rfl : args = #[v0, v1] := by cases args; simp_all
  obtain ⟨rfl, rfl⟩ := trodVars_none hV
  have k00 := h0
  have lt0 : ∀ x ∈ p0, x.block < W.heap.size := by obtain ⟨m, hm⟩ := k00; exact DataW.trod_lt m _ _ _ hm
  obtain ⟨R, x, k, l, t, A1, n1, c1, A2, n2, c2, A3, n3, c3, hc0⟩ := came_rec (hval 0 27 v0 rfl rfl) h0
  obtain ⟨rfl, hR0, hb0, hf0, hu0⟩ := hc0
  obtain ⟨z1, rfl, rfl, rfl, wf1⟩ := open_int Try.underlying23 (hval 1 23 v1 rfl rfl) h1
  have wf10 := wf1
  obtain ⟨m1, rfl, hm1⟩ := wf_u32 wf1
  clear hA0 hval0
  refine (walk R x k l t A1 n1 c1 A2 n2 c2 A3 n3 c3 m1 W hR0 hb0 hf0 hu0 hm1).mono fun e W' ⟨he, bel⟩ => ?_
  subst he
  exact ⟨_, rfl, _, _, _, [], _, [], hW', trodAll_mk1 (shut_bool Try.underlying4 _), (trodAll_cons_mk (Below.trod laidOut (by kernel_rfl) (of_decide_eq_true (by kernel_rfl)) k00 bel lt0) (trodAll_cons_mk (shut_int Try.underlying23 wf10) trodAll_mk0)), rfl, bel.frame _, fun h => by cases h⟩

theorem over : Rows.dataLimitsRow.holds Try.pinned (OpenSpec.ofChange Rows.dataLimitsSpec) :=
  OpenClaim.holds_of_wide 6 Try.f6 rfl rfl rfl rfl rfl rfl rfl ⟨rfl, rfl, rfl, rfl, rfl⟩ rfl rfl rfl rfl rfl (by kernel_rfl) Try.func6 (by kernel_rfl)
    (of_decide_eq_true (by kernel_rfl)) (by unfold Func.isWrapper; first | (rw [if_pos (by decide +kernel)]; kernel_rfl) | (rw [if_neg (by decide +kernel)]; exact ⟨rfl, rfl⟩))
    (fun os started H enc _ => lifted os started H enc)

theorem proved : Rows.DataLimitsSaid := over
#print axioms proved
end Go.Proofs.Ytnpdhfjglfpjcaa.dataLimits
