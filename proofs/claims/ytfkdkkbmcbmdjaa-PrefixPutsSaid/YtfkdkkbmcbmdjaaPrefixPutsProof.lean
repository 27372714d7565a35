/- Proves PrefixPuts: any number, with any prefix, behind any bytes, is put to just the document's bytes; what was handed in stays, its spare room too. No condition. -/
import Derived.Test.YtfkdkkbmcbmdjaaRows
import Derived.WalkKit
import Derived.ProofKit
import Derived.OpenShut
import Derived.ShutString
import Derived.ChangeOld
import Derived.Below
import Derived.Test.YtfkdkkbmcbmdjaaPfAwake
import Derived.Laws.MakeOwn
import Derived.Laws.OwnMore
import Derived.Deep.RegionHeld3
namespace Go.Proofs.Ytfkdkkbmcbmdjaa.prefixPuts
open Go.ChangeShapes Go.WideShapes Go.ChangeAt Go.RowKit
open Go.ChangeMaps (open_string shut_string)
set_option linter.unusedVariables false

theorem own : ownKnob Try.prog.godebug = none := by kernel_rfl
theorem laidOut : laidOutB Try.prog = true := by kernel_rfl

def IsRow (k : IntKind) (w : World) (a : Option Addr) (len cap : Nat) (zs : List Int) : Prop :=
  (a = none ∧ len = 0 ∧ cap = 0 ∧ zs = []) ∨
  ∃ x, a = some x ∧ len ≤ cap ∧ cap ≤ maxLen ∧ zs.length = cap ∧ (∀ i, i < zs.length → w.cell? (x.add i) = some (.int k (zs.getD i 0))) ∧ ∀ n ∈ zs, (Lit.int k n).wf = true

open Bytes Pf
theorem rdc_of_row {w : World} {a : Option Addr} {len cap : Nat} {z : List Int} (h : IsRow .u8 w a len cap z) :
    ∃ l : List UInt8, l.length = len ∧ RdC w w.heap.size a cap l := by
  rcases h with ⟨rfl, rfl, rfl, rfl⟩ | ⟨x, rfl, hl, hcm, hz, hc, hwf⟩
  · exact ⟨[], rfl, RdC.nil _ _⟩
  · refine ⟨(z.take len).map fun i => UInt8.ofNat i.toNat, by rw [List.length_map, List.length_take]; omega, by rw [List.length_map, List.length_take]; omega, by unfold maxLen at hcm; omega, (fun h => by cases h), fun y hy i v hv => ?_⟩
    injection hy with hy
    subst hy
    simp only [byteCells, List.map_map] at hv
    rw [List.getElem?_map] at hv
    obtain ⟨y, hy, rfl⟩ := Option.map_eq_some_iff.1 hv
    have hi : i < (z.take len).length := by
      rcases Nat.lt_or_ge i (z.take len).length with h | h
      · exact h
      · rw [List.getElem?_eq_none h] at hy; cases hy
    rw [List.length_take] at hi
    have hlt : x.block < w.heap.size := by
      have := World.block_lt_of_cell? _ _ (hc 0 (by omega))
      rwa [add_block] at this
    refine ⟨hlt, ?_⟩
    rw [List.getElem?_take_of_lt (by omega)] at hy
    have hb := bounds_u8 (hwf y (List.mem_of_getElem? hy))
    rw [hc i (by omega), List.getD_eq_getElem?_getD, hy]
    simp
    omega
/-- string(b) of a slice that came in. -/
theorem conv_rdc {w : World} {B : Nat} {a : Option Addr} {cap : Nat} {l : List UInt8} (h : RdC w B a cap l) :
    (convert 22 9 (.slice a l.length cap)).run Try.prog w = .ok (.string (mk l)) w := by
  cases a with
  | none =>
    obtain ⟨rfl, rfl⟩ := h.2.2.1 rfl
    exact Lib.run_convert_nil_bytes w _ _ 5 0 Try.underlying22 Try.underlying5 Try.underlying9
  | some x =>
    exact run_convert_bytes_back w _ _ 5 x cap l Try.underlying22 Try.underlying5 Try.underlying9 (fun j hj => (h.2.2.2 x rfl j _ (by simp [byteCells, hj])).2)
/-- string of a part of a block that is known whole. -/
theorem conv_part {W : World} {g off n cap : Nat} {C : List UInt8} (h : W.heap[g]? = some (.cells (byteCells C).toArray 5 (0, 0))) (hn : off + n ≤ C.length) :
    (convert 22 9 (.slice (some ⟨g, off, none⟩) n cap)).run Try.prog W = .ok (.string (mk ((C.drop off).take n))) W := by
  have hk : ((C.drop off).take n).length = n := by rw [List.length_take, List.length_drop]; omega
  have := run_convert_bytes_back W _ _ 5 ⟨g, off, none⟩ cap ((C.drop off).take n) Try.underlying22 Try.underlying5 Try.underlying9 (fun j hj => by
    rw [hk] at hj
    rw [Addr.add_lit, cell_of_row W g _ _ _ _ h]
    simp only [byteCells, List.getElem?_toArray, List.getElem?_map]
    rw [List.getElem?_eq_getElem (by omega), List.getElem_take, List.getElem_drop]
    rfl)
  rw [hk] at this
  exact this
theorem make_room (N : Nat) (hN : N ≤ 20000) (W : World) : (Instr.makeSlice 22 (.int .i64 0) (.int .i64 ((N : Int) + 12))).run Try.prog W = .ok (.slice (some ⟨W.heap.size, 0, none⟩) 0 (N + 12)) (W.alloc (.cells (byteCells (List.replicate (N + 12) 0)).toArray 5)) := by
  obtain ⟨i0, hi, hz0, hz1, hz2⟩ := info_parts info5
  have h := run_make (P := Try.prog) W 22 5 i0 (.int .u8 0) Try.underlying22 hi hz0 .i64 .i64 0 ((N : Int) + 12) (by omega) (by omega) (by rw [hz2]; omega) (by omega)
  rw [hz1, show ((N : Int) + 12).toNat = N + 12 by omega, Nat.mul_one] at h
  have e : madeCells (Value.int .u8 0).cells (N + 12) = (byteCells (List.replicate (N + 12) 0)).toArray := by
    apply Array.toList_inj.1
    rw [show (Value.int .u8 0).cells = #[Value.int .u8 0] from rfl, toList_madeCells_one]
    simp [byteCells]
  rw [e] at h
  exact h
/-- append of all that came in to the room that was made. -/
theorem run_mine (w : World) (a0 : Option Addr) (cap0 N : Nat) (l : List UInt8) (hl : l.length = N) (hr : RdC w w.heap.size a0 cap0 l) (hN : N ≤ 20000) :
    ∃ W2, (Builtin.append_ #[22, 22] 22 #[.slice (some ⟨w.heap.size, 0, none⟩) 0 (N + 12), .slice a0 N cap0]).run Try.prog (w.alloc (.cells (byteCells (List.replicate (N + 12) 0)).toArray 5)) = .ok (.slice (some ⟨w.heap.size, 0, none⟩) N (N + 12)) W2 ∧
      W2.heap[w.heap.size]? = some (.cells (byteCells (l ++ List.replicate 12 0)).toArray 5 (0, 0)) ∧ Below w.heap.size w W2 := by
  obtain ⟨i0, hi, hz0, hz1, hz2⟩ := info_parts info5
  have hb0 : Below w.heap.size w (w.alloc (.cells (byteCells (List.replicate (N + 12) 0)).toArray 5)) := (Below.refl _ _).alloc (Nat.le_refl _) _
  have hh := heap_alloc_new w (.cells (byteCells (List.replicate (N + 12) 0)).toArray 5)
  cases a0 with
  | none =>
    obtain ⟨rfl, rfl⟩ := hr.2.2.1 rfl
    subst hl
    refine ⟨_, run_append_owned_none (P := Try.prog) _ w.heap.size _ _ 5 i0 1 Try.underlying22 hi (.slice (some ⟨w.heap.size, 0, none⟩) 0 12) 0 [] (World.ownsRow_made w _ 12 (Nat.le_refl _) (by decide) (by decide)), ?_, hb0⟩
    exact hh
  | some x =>
    subst hl
    have h := run_append_room (P := Try.prog) (w.alloc (.cells (byteCells (List.replicate (l.length + 12) 0)).toArray 5)) 22 22 5 i0 Try.underlying22 hi w.heap.size 0 (l.length + 12) _ hh x l.length cap0 (byteCells l) (by rw [byteCells_len, hz1]; omega)
      (fun j u hj => by
        have h5 := hr.2.2.2 x rfl j u hj
        rw [World.cell?_alloc_lt w _ _ (by rw [add_block]; exact h5.1)]
        exact h5.2)
      (fun u hu => by
        simp only [byteCells, List.mem_map] at hu
        obtain ⟨b, _, rfl⟩ := hu
        rfl) (by omega) (by simp [byteCells])
    rw [Nat.zero_add] at h
    refine ⟨_, h, ?_, ?_⟩
    · rw [setRow_heap _ w.heap.size _ _ _ _ hh]
      congr 2
      rw [hz1]
      simp [byteCells]
    · exact ⟨hb0.os, hb0.tape, hb0.output, by simp [World.setRow], fun k hk => by rw [setRow_other _ _ _ _ (by omega)]; exact hb0.block k hk⟩
/-- The room, as a slice that reads as the bytes. -/
theorem rdc_mine {W : World} {g cap : Nat} {l z : List UInt8} (h : W.heap[g]? = some (.cells (byteCells (l ++ z)).toArray 5 (0, 0))) (hl : l.length ≤ cap) (hc : cap ≤ 100000) : RdC W W.heap.size (some ⟨g, 0, none⟩) cap l := by
  refine ⟨hl, by omega, (fun h => by cases h), fun x hx i v hv => ?_⟩
  injection hx with hx
  subst hx
  have hi : i < l.length := by
    rcases Nat.lt_or_ge i l.length with h2 | h2
    · exact h2
    · rw [List.getElem?_eq_none (by rw [byteCells_len]; exact h2)] at hv; cases hv
  refine ⟨(Array.getElem?_eq_some_iff.1 h).1, ?_⟩
  rw [Addr.add_lit, cell_of_row W g _ _ _ _ h, Nat.zero_add, List.getElem?_toArray, byteCells_cat, List.getElem?_append_left (by rw [byteCells_len]; exact hi)]
  exact hv
/-- All blocks that stood stand as they were. -/
def Held (w w' : World) : Prop := Below w.heap.size w w'
/-- The document's Put, behind which all stands that stood. -/
theorem refPut_held (s : ByteArray) (r : List UInt8) (R0 : ByteArray) (c n : Nat) (b : Int) (w W : World) (hs : s.size ≤ 1000000) (hc : c < 256) (hn : n < 18446744073709551616) (h3 : -9223372036854775808 ≤ b) (h4 : b ≤ 9223372036854775807) (h : Hid (putL (fullN b) c n = r)) (hR : Hid (mk (s.data.toList ++ r) = R0)) (P : World → Prop) (HP : ∀ W, Below w.heap.size w W → P W) (hB : Held w W) :
    Calls Try.prog 10 #[.string s, .int .u8 c, .int .i64 b, .int .u64 n] W fun e w' => e = .returned (.string R0) ∧ P w' ∧ Held w w' := by
  have hB : Below w.heap.size w W := hB
  have := refPut_is s r c n b W hs hc hn h3 h4 h
  rw [hR.out] at this
  exact this.mono fun _ _ ⟨he, hB2⟩ => ⟨he, HP _ (hB.trans (hB2.mono hB.size)), hB.trans (hB2.mono hB.size)⟩
/-- An append whose run is known. -/
theorem wpList_append_run {P : Program} {w w' : World} {ops : Array Oper} {rest : List Oper} {o : Oper} {a : Act} {Q : Exit → Act → World → Prop} (hg : o.guard = none) (s x : Operand) (t : TypeId) (hop : o.op = Op.call { callee := Callee.builtin Builtin.append, args := #[s, x], argTypes := #[t, t] })
    (vs vx v' : Value) (hs : a.eval s = vs) (hx : a.eval x = vx) (hrun : (Builtin.append_ #[t, t] o.type #[vs, vx]).run P w = .ok v' w') (hK : wpList P ops Q rest (a.put o.dst v') w') : wpList P ops Q (o :: rest) a w := by
  refine wpList_plain hg fun K hK' => ?_
  unfold Oper.wp
  simp [execOp, hop, resolve, invoke, builtin, hs, hx, hrun, Result.andThen]
  exact hK' _ _ hK

theorem walk (a0 : Option Addr) (len0 cap0 : Nat) (z0 : List Int) (a1 : Int) (a2 : Int) (a3 : Int) (w : World) (w0 : IsRow .u8 w a0 len0 cap0 z0) (w1 : (Lit.int .u8 a1).wf = true) (w2 : (Lit.int .i64 a2).wf = true) (w3 : (Lit.int .u64 a3).wf = true) :
    Calls Try.prog 3 #[.slice a0 len0 cap0, .int .u8 a1, .int .i64 a2, .int .u64 a3] w fun e w' => e = .returned (.bool true) ∧ Below w.heap.size w w' := by
  have b1 := bounds_u8 w1
  have b2 := bounds_i64 w2
  have b3 := bounds_u64 w3
  obtain ⟨l, hlen, hr⟩ := rdc_of_row w0
  clear w0
  by_cases h1 : (20000 : Int) < len0
  · clear hr hlen
    go_enter Try.func3, Try.ntmps3
    go_wp2_with fail
    refine (awake_any _).mono ?_
    rintro e w1 ⟨rfl, hB⟩
    go_wp2_with fail
    go_ret
    exact ⟨rfl, hB⟩
  obtain ⟨c, rfl⟩ := Int.eq_ofNat_of_zero_le b1.1
  obtain ⟨n, rfl⟩ := Int.eq_ofNat_of_zero_le b3.1
  have hcb : c < 256 := by omega
  have hnb : n < 18446744073709551616 := by omega
  obtain ⟨r, hrr⟩ : ∃ r, putL (fullN a2) c n = r := ⟨_, rfl⟩
  obtain ⟨k, hk⟩ : ∃ k, r.length = k := ⟨_, rfl⟩
  have HR := Lib.hid hr
  have HL := Lib.hid hlen
  have HRR := Lib.hid hrr
  have HK := Lib.hid hk
  clear hr hlen hrr hk
  have hmk := fun W => make_room len0 (by omega) W
  go_enter Try.func3, Try.ntmps3
  go_wp2_with fail
  refine (awake_any _).mono ?_
  rintro e w1 ⟨rfl, hB⟩
  have s1 := hB.size
  obtain ⟨W2, hrun, hW2, hB2⟩ := run_mine w1 a0 cap0 len0 l HL.out (HR.out.on hB s1) (by omega)
  have HRUN := Lib.hid hrun
  have HW2 := Lib.hid hW2
  clear hrun hW2
  go_wp2_with (at_builtin; refine wpList_append_run rfl _ _ _ rfl _ _ _ rfl rfl HRUN.out ?_)
  have n2 := hB.trans (hB2.mono s1)
  go_wp2_with fail
  refine (put_own (some ⟨w1.heap.size, 0, none⟩) (len0 + 12) len0 k l r c n a2 _ HL HK (by omega) (rdc_mine HW2.out (by have := HL.out; omega) (by omega)) hcb hnb b2.1 b2.2 HRR).mono ?_
  rintro e w3 ⟨g, cap, rfl, hcp, hcm, hgb, hO, hB3⟩
  have n3 := n2.trans (hB3.mono n2.size)
  have hb3 : w1.heap.size < W2.heap.size := (Array.getElem?_eq_some_iff.1 HW2.out).1
  have hW3 : w3.heap[w1.heap.size]? = some (.cells (byteCells (l ++ List.replicate 12 0)).toArray 5 (0, 0)) := by rw [hB3.block _ hb3]; exact HW2.out
  go_wp2_with fail
  have hz := HL.out
  have hLs : (mk l).size = len0 := by rw [mk_size]; exact hz
  obtain ⟨s, hs⟩ : ∃ s, mk l = s := ⟨_, rfl⟩
  obtain ⟨R0, hR0⟩ : ∃ R0, mk (l ++ r) = R0 := ⟨_, rfl⟩
  have hR1 : Hid (mk (s.data.toList ++ r) = R0) := by rw [← hs, mk_list]; exact hR0
  have hss : s.size ≤ 20000 := by rw [← hs, hLs]; omega
  have fa : (R0.toList == R0.toList) = true := beq_self_eq_true _
  have fb : (s.toList == s.toList) = true := beq_self_eq_true _
  have hall : ∀ W, Below w3.heap.size w3 W → (convert 22 9 (.slice (some ⟨g, 0, none⟩) (len0 + k) cap)).run Try.prog W = .ok (.string R0) W ∧ (convert 22 9 (.slice a0 len0 cap0)).run Try.prog W = .ok (.string s) W ∧ (convert 22 9 (.slice (some ⟨w1.heap.size, 0, none⟩) len0 (len0 + 12))).run Try.prog W = .ok (.string s) W ∧ (convert 22 9 (.slice (some ⟨w1.heap.size, len0, none⟩) 12 12)).run Try.prog W = .ok (.string ⟨#[0, 0, 0, 0, 0, 0, 0, 0, 0, 0, 0, 0]⟩) W := fun W hW => by
    have hx : W.heap[w1.heap.size]? = some (.cells (byteCells (l ++ List.replicate 12 0)).toArray 5 (0, 0)) := by rw [hW.block _ (by have := hB3.size; omega)]; exact hW3
    refine ⟨?_, ?_, ?_, ?_⟩
    · have := convert_own (own_below hO hW)
      rw [hR0] at this
      exact this
    · have := conv_rdc (HR.out.on (n3.trans (hW.mono n3.size)) (n3.trans (hW.mono n3.size)).size)
      rw [hz, hs] at this
      exact this
    · have := conv_part (off := 0) (n := len0) (cap := len0 + 12) hx (by simp; omega)
      rw [List.drop_zero, List.take_append_of_le_length (by omega), List.take_of_length_le (by omega), hs] at this
      exact this
    · have := conv_part (off := len0) (n := 12) (cap := 12) hx (by simp; omega)
      rw [← hz, List.drop_left] at this
      rw [← hz]
      exact this
  have HALL := Lib.hid (fun W (h : Held w3 W) => (⟨hall W h, h⟩ : ((convert 22 9 (.slice (some ⟨g, 0, none⟩) (len0 + k) cap)).run Try.prog W = .ok (.string R0) W ∧ (convert 22 9 (.slice a0 len0 cap0)).run Try.prog W = .ok (.string s) W ∧ (convert 22 9 (.slice (some ⟨w1.heap.size, 0, none⟩) len0 (len0 + 12))).run Try.prog W = .ok (.string s) W ∧ (convert 22 9 (.slice (some ⟨w1.heap.size, len0, none⟩) 12 12)).run Try.prog W = .ok (.string ⟨#[0, 0, 0, 0, 0, 0, 0, 0, 0, 0, 0, 0]⟩) W) ∧ Held w3 W))
  have hH0 : Held w3 w3 := Below.refl _ _
  have hH1 : Held w3 w3.drew := (Below.refl _ _).drew
  have ⟨⟨i0, i1, i2, i3⟩, _⟩ := HALL.out w3 hH0
  have ⟨⟨j0, j1, j2, j3⟩, _⟩ := HALL.out w3.drew hH1
  have hHC := Lib.hid (fun W (h : Held w3 W) => refPut_held s r R0 c n a2 w3 W (by omega) hcb hnb b2.1 b2.2 HRR hR1 _ (fun W hW => hall W hW) h)
  clear hall
  have hw1 : IntKind.i64.wrap ((len0 : Int) + 12) = (len0 : Int) + 12 := IntWalk.i64_in _ (by omega)
  have hw2 : ((len0 : Int) + 12).toNat = len0 + 12 := by omega
  have hw3 : (0 : Int) ≤ (len0 : Int) + 12 := by omega
  have hw4 : (len0 : Int) ≤ (len0 : Int) + 12 := by omega
  have hw5 : ¬ (len0 : Int) + 12 < (len0 : Int) := by omega
  have hw6 : ¬ (len0 : Int) + 12 < 0 := by omega
  go_region_held3 (fun W => (convert 22 9 (.slice (some ⟨g, 0, none⟩) (len0 + k) cap)).run Try.prog W = .ok (.string R0) W ∧ (convert 22 9 (.slice a0 len0 cap0)).run Try.prog W = .ok (.string s) W ∧ (convert 22 9 (.slice (some ⟨w1.heap.size, 0, none⟩) len0 (len0 + 12))).run Try.prog W = .ok (.string s) W ∧ (convert 22 9 (.slice (some ⟨w1.heap.size, len0, none⟩) 12 12)).run Try.prog W = .ok (.string ⟨#[0, 0, 0, 0, 0, 0, 0, 0, 0, 0, 0, 0]⟩) W ∧ Held w3 W) (first | (go_keep; done)) (first | (go_at_call 10; (with_reducible refine (hHC.out _ ?_).mono ?_); (simp [*]); rintro e w5 ⟨rfl, ⟨c0, c1, c2, c3⟩, hH5⟩))
  all_goals
    go_wp2_with fail
    go_ret
    exact ⟨rfl, n3.trans (Below.mono hH5 n3.size)⟩

set_option maxRecDepth 100000 in
theorem lifted (os : Os) (started : os.Started) (H : Type) (enc : TypeId × Value → H) :
    ReturnsInHanded {} Try.checked os 3 .any (Rows.prefixPutsSpec.pre6 enc Try.prog Try.f3 Rows.prefixPutsRow.domain false) (Rows.prefixPutsSpec.post enc Try.prog Try.f3 false true false false) := by
  refine returnsInHanded_of_change (C := Try.checked) own started (by kernel_rfl) Try.func3
    (ChangeSpec.witness6 (enc := enc) (C := Try.checked) false ⟨#[], #[.slice none 0 0, .int .u8 0, .int .i64 0, .int .u64 0], []⟩ 8 (by kernel_rfl) (by kernel_rfl) (by kernel_rfl) (by kernel_rfl)) ?_
  intro W base args ds gs before hval0 hW hcnd _
  have hval : ∀ (j : Nat) t v, Try.f3.params[j]? = some t → args[j]? = some v → Value.okWide Try.prog W .any base t v := hval0
  have hW' := hW
  obtain ⟨p, q, hA0, hV, rfl, hfz, hnd⟩ := hW
  have hA : DataW.TrodAll enc Try.prog W 0 (fun _ => true) true Try.f3.params.toList args.toList ds p := hA0
  rw [Try.params3] at hA hval
  obtain ⟨v0, vs0, d0, ds0, p0, q0, hargs, rfl, rfl, h0, r0⟩ := trodAll_cons hA
  obtain ⟨v1, vs1, d1, ds1, p1, q1, rfl, rfl, rfl, h1, r1⟩ := trodAll_cons r0
  obtain ⟨v2, vs2, d2, ds2, p2, q2, rfl, rfl, rfl, h2, r2⟩ := trodAll_cons r1
  obtain ⟨v3, vs3, d3, ds3, p3, q3, rfl, rfl, rfl, h3, r3⟩ := trodAll_cons r2
  obtain ⟨rfl, rfl, rfl⟩ := trodAll_nil r3
  obtain rfl : args = #[v0, v1, v2, v3] := by cases args; simp_all
  obtain ⟨rfl, rfl⟩ := trodVars_none hV
  obtain ⟨a0, len0, cap0, rfl⟩ := okWide_slice Try.underlying22 (hval 0 22 v0 rfl rfl)
  have k0 := h0
  have lt0 : ∀ x ∈ p0, x.block < W.heap.size := by obtain ⟨m, hm⟩ := k0; exact DataW.trod_lt m _ _ _ hm
  obtain ⟨z0, w0⟩ : ∃ zs, IsRow .u8 W a0 len0 cap0 zs := by
    obtain ⟨fuel, hf⟩ := h0
    rcases open_ints Try.underlying22 Try.underlying5 (by kernel_rfl) hf with ⟨hcs, _⟩ | ⟨x, l, c, zs, hcs, _, hl, hm, hz, _, hcell, hwz⟩
    · simp [Value.cells] at hcs
      obtain ⟨rfl, rfl, rfl⟩ := hcs
      exact ⟨[], .inl ⟨rfl, rfl, rfl, rfl⟩⟩
    · simp [Value.cells] at hcs
      obtain ⟨rfl, rfl, rfl⟩ := hcs
      exact ⟨zs, .inr ⟨_, rfl, hl, hm, by simpa using hz, hcell, hwz⟩⟩
  obtain ⟨a1, rfl, rfl, rfl, w1⟩ := open_int Try.underlying5 (hval 1 5 v1 rfl rfl) h1
  obtain ⟨a2, rfl, rfl, rfl, w2⟩ := open_int Try.underlying3 (hval 2 3 v2 rfl rfl) h2
  obtain ⟨a3, rfl, rfl, rfl, w3⟩ := open_int Try.underlying23 (hval 3 23 v3 rfl rfl) h3
  clear hA0 hval0
  refine (walk a0 len0 cap0 z0 a1 a2 a3 W w0 w1 w2 w3).mono fun e W' ⟨he, bel⟩ => ?_
  subst he
  exact ⟨_, rfl, _, _, _, [], _, [], hW', trodAll_mk1 (shut_bool Try.underlying4 _), (trodAll_cons_mk (Below.trod laidOut (by kernel_rfl) (of_decide_eq_true (by kernel_rfl)) k0 bel lt0) (trodAll_cons_mk (shut_int Try.underlying5 w1) (trodAll_cons_mk (shut_int Try.underlying3 w2) (trodAll_cons_mk (shut_int Try.underlying23 w3) trodAll_mk0)))), rfl, bel.frame _, fun h => by cases h⟩

theorem over : Rows.prefixPutsRow.holds Try.pinned (OpenSpec.ofChange Rows.prefixPutsSpec) :=
  OpenClaim.holds_of_wide 3 Try.f3 rfl rfl rfl rfl rfl rfl rfl ⟨rfl, rfl, rfl, rfl, rfl⟩ rfl rfl rfl rfl rfl (by kernel_rfl) Try.func3 (by kernel_rfl)
    (of_decide_eq_true (by kernel_rfl)) (by unfold Func.isWrapper; first | (rw [if_pos (by decide +kernel)]; kernel_rfl) | (rw [if_neg (by decide +kernel)]; exact ⟨rfl, rfl⟩))
    (fun os started H enc _ => lifted os started H enc)

theorem proved : Rows.PrefixPutsSaid := over
#print axioms proved
end Go.Proofs.Ytfkdkkbmcbmdjaa.prefixPuts
