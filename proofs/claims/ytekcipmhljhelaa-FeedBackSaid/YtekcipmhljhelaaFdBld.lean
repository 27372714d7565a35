/- A feed in its block, the builder of what it holds within: what the builder's methods leave. For at most 2 * 10^9 bytes. -/
import Derived.Test.YtekcipmhljhelaaProg
import Derived.Test.YtekcipmhljhelaaBytes
import Derived.WalkKit
import Derived.Lib.Hide
import Derived.Lib.Builder
import Derived.Lib.FrozenHead
import Derived.Lib.AppendStr
import Derived.Lib.UnsafeStr
import Derived.Laws.Externs
import Derived.Laws.OwnMore
import Derived.OwnWalk
import Derived.Outline
namespace Go.Proofs.Ytekcipmhljhelaa
open Go Go.RowKit Bytes

theorem infoB : (Try.prog.info? 45).map (·.size) = some 2 := by kernel_rfl
theorem liesF : liesAt Try.prog Try.prog.depth 47 (4 / Try.prog.cellsOf 47) 0 45 1 = true := by kernel_rfl
theorem bcells_one : Try.prog.cellsOf 5 = 1 := by kernel_rfl

namespace Fd
/-- The block in which a feed's bytes lie. -/
def rowOf (w : World) (b : Nat) : Option Nat :=
  match w.heap[b]? with
  | some (.cells c _ _) => (c[1]?).bind Value.ownBlock
  | _ => none
theorem world_lt {w : World} {k : Nat} {o : Obj} (h : w.heap[k]? = some o) : k < w.heap.size := by
  rcases Nat.lt_or_ge k w.heap.size with h1 | h1
  · exact h1
  · rw [Array.getElem?_eq_none h1] at h; cases h
theorem rowOf_same {w w' : World} {b : Nat} (h : w'.heap[b]? = w.heap[b]?) : rowOf w' b = rowOf w b := by unfold rowOf; rw [h]
theorem own_keepF {w w' : World} {g n size : Nat} {e : TypeId} {v : Value} {xs : List Value} (h : w.ownsRowF g e size v n xs) (hk : ∀ k, v.ownBlock = some k → w'.heap[k]? = w.heap[k]?) : w'.ownsRowF g e size v n xs := by
  refine ⟨h.1, ?_⟩
  rcases h.2 with hn | ⟨b, cap, cur, fz, rfl, hb, hgg, rest⟩
  · exact .inl hn
  · exact .inr ⟨b, cap, cur, fz, rfl, hb, (hk b rfl).trans hgg, rest⟩
/-- A feed in block b: the builder's own address p, its buffer v, the bytes l; is the preface wanted, is it down? -/
structure FdV (w : World) (b : Nat) (p v : Value) (l : List UInt8) (q d : Bool) : Prop where
  ptr : p = .pointer none ∨ p = .pointer (some ⟨b, 0, none⟩)
  cells : w.heap[b]? = some (.cells #[p, v, .bool q, .bool d] 47 (0, 0))
  own : w.ownsRowF b 5 1 v l.length (byteCells l)
  void : l = [] → v = .slice none 0 0
def FdB (w : World) (b : Nat) (l : List UInt8) (q d : Bool) : Prop := ∃ p v, FdV w b p v l q d
/-- Its block and its bytes' alone may have turned. -/
structure FdK (b : Nat) (w w' : World) : Prop where
  os : w'.os = w.os
  tape : w'.tape = w.tape
  output : w'.output = w.output
  size : w.heap.size ≤ w'.heap.size
  block : ∀ k, k < w.heap.size → k ≠ b → rowOf w b ≠ some k → w'.heap[k]? = w.heap[k]?
  low : ∀ k, rowOf w b = some k → b ≤ k
  row : ∀ k, rowOf w' b = some k → rowOf w b = some k ∨ w.heap.size ≤ k
section
variable {w w1 w2 : World} {b : Nat} {p v : Value} {l : List UInt8} {q d : Bool}
theorem FdV.lt (h : FdV w b p v l q d) : b < w.heap.size := world_lt h.cells
theorem FdV.row (h : FdV w b p v l q d) : rowOf w b = v.ownBlock := by unfold rowOf; rw [h.cells]; rfl
theorem FdV.vb (h : FdV w b p v l q d) : v.ownBlock ≠ some b := Lib.ownBlock_neF h.own h.cells (by decide)
theorem FdV.vlt (h : FdV w b p v l q d) {k : Nat} (hk : v.ownBlock = some k) : b ≤ k ∧ k < w.heap.size := h.own.lt _ hk
theorem FdV.low (h : FdV w b p v l q d) : ∀ k, rowOf w b = some k → b ≤ k := fun _ hk => (h.vlt (h.row.symm.trans hk)).1
/-- What is no row of bytes is not its row. -/
theorem FdV.kind (h : FdV w b p v l q d) {k : Nat} {c : Array Value} {e : TypeId} {fz : Nat × Nat} (hk : w.heap[k]? = some (.cells c e fz)) (he : e ≠ 5) : rowOf w b ≠ some k := fun e2 => by
  rw [h.row] at e2
  exact Lib.ownBlock_neF h.own hk he e2
theorem FdK.refl (h : FdV w b p v l q d) : FdK b w w := ⟨rfl, rfl, rfl, Nat.le_refl _, fun _ _ _ _ => rfl, h.low, fun _ hk => .inl hk⟩
theorem FdK.trans (h : FdK b w w1) (k : FdK b w1 w2) : FdK b w w2 :=
  ⟨k.os.trans h.os, k.tape.trans h.tape, k.output.trans h.output, Nat.le_trans h.size k.size, fun i hi h1 h2 =>
    (k.block i (Nat.lt_of_lt_of_le hi h.size) h1 (fun e => by rcases h.row i e with e | e; exact h2 e; omega)).trans (h.block i hi h1 h2), h.low, fun i hi => by
      rcases k.row i hi with e | e
      · exact h.row i e
      · exact .inr (Nat.le_trans h.size e)⟩
theorem FdK.of_below (h : FdV w b p v l q d) (k : Below w.heap.size w w1) : FdK b w w1 :=
  ⟨k.os, k.tape, k.output, k.size, fun i hi _ _ => k.block i hi, h.low, fun i hi => .inl (by rw [← rowOf_same (k.block b h.lt)]; exact hi)⟩
theorem FdK.below {g : Nat} (h : FdK b w w1) (hb : g ≤ b) (hg : g ≤ w.heap.size) : Below g w w1 :=
  ⟨h.os, h.tape, h.output, h.size, fun i hk => h.block i (by omega) (by omega) (fun e => by have := h.low i e; omega)⟩
theorem FdV.kept (h : FdV w b p v l q d) (hb : w1.heap[b]? = w.heap[b]?) (hr : ∀ k, rowOf w b = some k → w1.heap[k]? = w.heap[k]?) : FdV w1 b p v l q d :=
  ⟨h.ptr, hb.trans h.cells, own_keepF h.own (fun k hk => hr k (h.row.trans hk)), h.void⟩
theorem FdV.below (h : FdV w b p v l q d) (k : Below w.heap.size w w1) : FdV w1 b p v l q d :=
  h.kept (k.block b h.lt) (fun i hi => k.block i (h.vlt (h.row.symm.trans hi)).2)
/-- A cell of its own set, the buffer's not. -/
theorem FdV.cell (h : FdV w b p v l q d) (i : Nat) (x p' : Value) (q' d' : Bool) (hp : p' = .pointer none ∨ p' = .pointer (some ⟨b, 0, none⟩)) (hc : (#[p, v, .bool q, .bool d] : Array Value).setIfInBounds i x = #[p', v, .bool q', .bool d']) :
    FdV (w.setCell ⟨b, i, none⟩ x) b p' v l q' d' ∧ FdK b w (w.setCell ⟨b, i, none⟩ x) := by
  have hO : ∀ k, k ≠ b → (w.setCell ⟨b, i, none⟩ x).heap[k]? = w.heap[k]? := fun k hk => Below.heap_setCell w ⟨b, i, none⟩ x k hk
  have hb : (w.setCell ⟨b, i, none⟩ x).heap[b]? = some (.cells #[p', v, .bool q', .bool d'] 47 (0, 0)) := by
    rw [setCell_eq_setRow w b i _ _ _ x h.cells, hc]
    exact setRow_heap w b _ _ _ _ h.cells
  refine ⟨⟨hp, hb, own_keepF h.own (fun k hk => hO k (fun e => h.vb (by rw [← e]; exact hk))), h.void⟩, ⟨rfl, rfl, rfl, by simp, fun k _ h1 _ => hO k h1, h.low, fun k hk => .inl ?_⟩⟩
  rw [h.row]
  unfold rowOf at hk
  rw [hb] at hk
  exact hk
/-- A new buffer laid into it. -/
theorem FdV.put {r : List UInt8} {n : Nat} {v' : Value} (h : FdV w b p v l q d) (hG : w.grownBy w1 v.ownBlock) (hO : w1.ownsRowF b 5 1 v' n (byteCells r)) (hn : r.length = n) (h0 : r = [] → v' = .slice none 0 0) (hloc : ∀ k, v'.ownBlock = some k → v.ownBlock = some k ∨ w.heap.size ≤ k) :
    FdV (w1.setCell ⟨b, 1, none⟩ v') b p v' r q d ∧ FdK b w (w1.setCell ⟨b, 1, none⟩ v') := by
  subst hn
  have hb1 : w1.heap[b]? = some (.cells #[p, v, .bool q, .bool d] 47 (0, 0)) := (hG.block b h.lt (fun e => h.vb e.symm)).trans h.cells
  have hnb : v'.ownBlock ≠ some b := Lib.ownBlock_neF hO hb1 (by decide)
  have hset : ∀ k, k ≠ b → (w1.setCell ⟨b, 1, none⟩ v').heap[k]? = w1.heap[k]? := fun k hk => Below.heap_setCell w1 ⟨b, 1, none⟩ v' k hk
  have hb2 : (w1.setCell ⟨b, 1, none⟩ v').heap[b]? = some (.cells #[p, v', .bool q, .bool d] 47 (0, 0)) := by
    rw [setCell_eq_setRow w1 b 1 _ _ _ v' hb1]
    exact setRow_heap w1 b _ _ _ _ hb1
  refine ⟨⟨h.ptr, hb2, own_keepF hO (fun k hk => hset k (fun e => hnb (by rw [← e]; exact hk))), h0⟩, ⟨hG.os, hG.tape, hG.output, by have := hG.size; simpa using this, fun k hk h1 h2 => (hset k h1).trans (hG.block k hk (fun e => h2 (h.row.trans e.symm))), h.low, fun k hk => ?_⟩⟩
  rw [h.row]
  unfold rowOf at hk
  rw [hb2] at hk
  exact hloc k hk
end
theorem strCells_bytesF (s : ByteArray) : Lib.strCells s = byteCells s.data.toList := rfl
/-- append of a text to a row of one's own, its head frozen or not: where it lies then. -/
theorem run_append_strF (w : World) (ty : TypeId) (base : Nat) (v : Value) (m : Nat) (l : List UInt8) (hO : w.ownsRowF base 5 1 v m (byteCells l)) (s : ByteArray) (hmn : m + s.size ≤ 2000000000) (hb : base ≤ w.heap.size) :
    ∃ v' w', (Builtin.append_ #[43, 9] ty #[v, .string s]).run Try.prog w = .ok v' w' ∧ w'.ownsRowF base 5 1 v' (m + s.size) (byteCells (l ++ s.data.toList)) ∧ w.grownBy w' v.ownBlock ∧ (∀ k, v'.ownBlock = some k → v.ownBlock = some k ∨ w.heap.size ≤ k) ∧ (v = .slice none 0 0 → s.size = 0 → v' = .slice none 0 0) := by
  obtain ⟨i5, hi, hz0, hz1, hz2⟩ := info_parts info5
  obtain ⟨v', w', hr, h2, h3, h4⟩ := Lib.run_append_own_stringF (P := Try.prog) w base 43 9 ty 5 i5 Try.underlying43 Try.underlying9 hi hz0 hz1 hz2 _ m (byteCells l) hO s (by unfold maxLen; omega) (by omega) hb
  rw [strCells_bytesF, ← byteCells_cat] at h2
  have hxl : (byteCells l).length = m := by simpa using hO.1
  refine ⟨v', w', hr, h2, h3, ?_, fun e1 e2 => h4.2 ⟨e1, e2⟩⟩
  rcases hO.2 with ⟨rfl, rfl⟩ | ⟨g0, cap, cur, fz, rfl, hbg, hgg, hfz, hnc, hcm, hcs, htake⟩
  · by_cases hm : s.size = 0
    · have e := h4.2 ⟨rfl, hm⟩
      subst e
      intro k hk
      cases hk
    · have hr2 := run_append_nil_string (P := Try.prog) w 43 9 ty 5 i5 (.int .u8 0) Try.underlying43 Try.underlying9 hi hz0 s (by omega) (by omega) (by rw [hz2]; omega)
      rw [hr] at hr2
      injection hr2 with e1 e2
      subst e1
      intro k hk
      injection hk with hk
      exact .inr (Nat.le_of_eq hk)
  · by_cases hroom : m + s.size ≤ cap
    · have hcs' : cur.size = cap := by simpa using hcs
      have hr2 := Lib.run_append_room_stringF (P := Try.prog) w 43 9 ty 5 i5 Try.underlying43 Try.underlying9 hi hz1 g0 m cap cur fz hgg (by simpa using hfz) s hroom (by omega)
      rw [hr] at hr2
      injection hr2 with e1 e2
      subst e1
      exact fun k hk => .inl hk
    · have holds : ∀ j u, (byteCells l)[j]? = some u → w.cell? ((⟨g0, 0, none⟩ : Addr).add j) = some u := hO.cells (g := g0) rfl
      have hr2 := Lib.run_append_grow_string (P := Try.prog) w 43 9 ty 5 i5 (.int .u8 0) Try.underlying43 Try.underlying9 hi hz0 ⟨g0, 0, none⟩ m cap (byteCells l) (by rw [hz1]; simpa using hxl) holds s (by omega) (by omega) (by rw [hz2]; exact growslice_fits (by omega) (by omega))
      rw [hr] at hr2
      injection hr2 with e1 e2
      subst e1
      intro k hk
      injection hk with hk
      exact .inr (Nat.le_of_eq hk)
/-- An append of a text whose run is known. -/
theorem wpList_append_srun {P : Program} {w w' : World} {ops : Array Oper} {rest : List Oper} {o : Oper} {a : Act} {Q : Exit → Act → World → Prop} (hg : o.guard = none) (s x : Operand) (t t2 : TypeId) (hop : o.op = Op.call { callee := Callee.builtin Builtin.append, args := #[s, x], argTypes := #[t, t2] })
    (vs vx v' : Value) (hs : a.eval s = vs) (hx : a.eval x = vx) (hrun : (Builtin.append_ #[t, t2] o.type #[vs, vx]).run P w = .ok v' w') (hK : wpList P ops Q rest (a.put o.dst v') w') : wpList P ops Q (o :: rest) a w := by
  refine wpList_plain hg fun K hK' => ?_
  unfold Oper.wp
  simp [execOp, hop, resolve, invoke, builtin, hs, hx, hrun, Result.andThen]
  exact hK' _ _ hK
end Fd
open Fd

set_option maxHeartbeats 1000000 in
set_option maxRecDepth 100000 in
theorem bcheck_used (b : Nat) (v : Value) (l : List UInt8) (q d : Bool) (w : World) (h : FdV w b (.pointer (some ⟨b, 0, none⟩)) v l q d) :
    Calls Try.prog 22 #[.pointer (some ⟨b, 0, none⟩)] w fun e w' => e = .returned (.tuple #[]) ∧ w' = w := by
  obtain ⟨j, hj, _⟩ := Option.map_eq_some_iff.1 infoB
  have h0 : w.cell? ⟨b, 0, none⟩ = some (.pointer (some ⟨b, 0, none⟩)) := cell_of_row _ b 0 _ _ _ h.cells
  clear h
  go_enter Try.func22, Try.ntmps22
  go_wp2
  rw [Lib.run_neq_ptr_same w _ Try.underlying42 hj]
  go_wp2
  go_end0
  exact ⟨rfl, rfl⟩

set_option maxHeartbeats 1000000 in
set_option maxRecDepth 100000 in
theorem bcheck_fresh (b : Nat) (v : Value) (l : List UInt8) (q d : Bool) (w : World) (h : FdV w b (.pointer none) v l q d) :
    Calls Try.prog 22 #[.pointer (some ⟨b, 0, none⟩)] w fun e w' => e = .returned (.tuple #[]) ∧ w' = w.setCell ⟨b, 0, none⟩ (.pointer (some ⟨b, 0, none⟩)) := by
  obtain ⟨j, hj, hjs⟩ := Option.map_eq_some_iff.1 infoB
  have hc := h.cells
  have h0 : w.cell? ⟨b, 0, none⟩ = some (.pointer none) := cell_of_row _ b 0 _ _ _ hc
  have hsh : w.shape? b = some (47, 4) := by simp [World.shape?, hc]
  have hfz : w.frozen? ⟨b, 0, none⟩ = false := by simp [World.frozen?, hc]
  clear h hc
  go_enter Try.func22, Try.ntmps22
  go_wp2
  rw [Lib.run_to_unsafe w ⟨b, 0, none⟩ Try.underlying42 Try.underlying63 hj (by rw [hjs]; decide) hsh (Nat.zero_lt_succ 3)]
  simp only [Result.andThen]
  rw [Oper.upon_value]
  go_wp2
  rw [run_callFunc_extern Try.func27 (by kernel_rfl) (by kernel_rfl) (by kernel_rfl) (e := Extern.AbiNoEscape.same) (by kernel_rfl)]
  rw [Lib.run_noEscape]
  simp only [Result.andThen]
  rw [Oper.upon_value]
  go_wp2
  rw [Lib.run_from_unsafe w ⟨b, 0, none⟩ Try.underlying63 Try.underlying42 hj hsh liesF]
  simp only [Result.andThen]
  rw [Oper.upon_value]
  go_wp2
  go_end0
  exact ⟨rfl, rfl⟩

theorem bcheck_any (b : Nat) (p v : Value) (l : List UInt8) (q d : Bool) (w : World) (h : FdV w b p v l q d) :
    Calls Try.prog 22 #[.pointer (some ⟨b, 0, none⟩)] w fun e w' => e = .returned (.tuple #[]) ∧ FdV w' b (.pointer (some ⟨b, 0, none⟩)) v l q d ∧ FdK b w w' := by
  rcases h.ptr with rfl | rfl
  · refine (bcheck_fresh b v l q d w h).mono ?_
    rintro e w' ⟨rfl, rfl⟩
    have := h.cell 0 (.pointer (some ⟨b, 0, none⟩)) (.pointer (some ⟨b, 0, none⟩)) q d (.inr rfl) rfl
    exact ⟨rfl, this.1, this.2⟩
  · refine (bcheck_used b v l q d w h).mono ?_
    rintro e w' ⟨rfl, rfl⟩
    exact ⟨rfl, h, FdK.refl h⟩

set_option maxHeartbeats 2000000 in
set_option maxRecDepth 100000 in
/-- WriteString: a text behind what it holds. -/
theorem bstring_any (b : Nat) (l : List UInt8) (s : ByteArray) (q d : Bool) (w : World) (h : FdB w b l q d) (hmn : l.length + s.size ≤ 2000000000) :
    Calls Try.prog 15 #[.pointer (some ⟨b, 0, none⟩), .string s] w fun e w' => e = .returned (.tuple #[.int .i64 s.size, .nilIface]) ∧ FdB w' b (l ++ s.data.toList) q d ∧ FdK b w w' := by
  obtain ⟨p, v, h⟩ := h
  have H := Lib.hid h
  clear h
  go_enter Try.func15, Try.ntmps15
  go_wp2_with fail
  refine (bcheck_any b p v l q d _ H.out).mono ?_
  rintro e w1 ⟨rfl, h1, hK1⟩
  obtain ⟨v', w2, hrun, hO2, hG2, hloc, hz⟩ := run_append_strF w1 43 b v l.length l h1.own s hmn (Nat.le_of_lt h1.lt)
  have hsz : s.data.toList.length = s.size := Lib.size_eq s
  have hput := h1.put hG2 hO2 (by rw [List.length_append, hsz]) (fun e => by
    have e2 := List.append_eq_nil_iff.1 e
    exact hz (h1.void e2.1) (by rw [← hsz, e2.2]; rfl)) hloc
  have hc := h1.cells
  have c1 : w1.cell? ⟨b, 1, none⟩ = some v := cell_of_row _ b 1 _ _ _ hc
  have hu2 : w2.heap[b]? = some (.cells #[.pointer (some ⟨b, 0, none⟩), v, .bool q, .bool d] 47 (0, 0)) := (hG2.block b h1.lt (fun e => h1.vb e.symm)).trans hc
  have d1 : w2.cell? ⟨b, 1, none⟩ = some v := cell_of_row _ b 1 _ _ _ hu2
  have f1 : w2.frozen? ⟨b, 1, none⟩ = false := by simp [World.frozen?, hu2]
  obtain ⟨ao, n', cap, rfl⟩ : ∃ ao n' cap, v' = .slice ao n' cap := by
    rcases hO2.2 with ⟨hv, _⟩ | ⟨g, cap, cur, fz, hv, _⟩
    · exact ⟨_, _, _, hv⟩
    · exact ⟨_, _, _, hv⟩
  have HRUN := Lib.hid hrun
  have HP := Lib.hid (And.intro hput.1 (hK1.trans hput.2))
  clear hrun hput hO2 hG2 hloc hc hu2 hK1 h1 hsz hz
  go_wp2_with (at_builtin; refine wpList_append_srun rfl _ _ _ _ rfl _ _ _ rfl rfl HRUN.out ?_)
  go_ret2
  exact ⟨rfl, ⟨_, _, HP.out.1⟩, HP.out.2⟩

set_option maxHeartbeats 2000000 in
set_option maxRecDepth 100000 in
/-- String: what it holds. -/
theorem btext_any (b : Nat) (l : List UInt8) (r : ByteArray) (q d : Bool) (w : World) (h : FdB w b l q d) (hr : mk l = r) (hmn : l.length ≤ 2000000000) :
    Calls Try.prog 17 #[.pointer (some ⟨b, 0, none⟩)] w fun e w' => e = .returned (.string r) ∧ FdB w' b l q d ∧ FdK b w w' := by
  subst hr
  obtain ⟨p, v, h⟩ := h
  have hc := h.cells
  have c1 : w.drew.cell? ⟨b, 1, none⟩ = some v := cell_of_row w b 1 _ _ _ hc
  by_cases hl : l = []
  · subst hl
    have hv := h.void rfl
    subst hv
    have hUS := Lib.run_unsafeString_none (P := Try.prog) w.drew 61 3 9 none
    have hSD : (Builtin.unsafeSliceData_ #[43] 61 #[.slice none 0 0]).run Try.prog w.drew = .ok (.pointer none) w.drew := rfl
    have H := Lib.hid h
    clear h hc
    go_enter Try.func17, Try.ntmps17
    go_wp2_with fail
    go_region
    all_goals (go_wp2; go_ret; exact ⟨rfl, ⟨_, _, H.out.ptr, H.out.cells, H.out.own, H.out.void⟩, ⟨rfl, rfl, rfl, Nat.le_refl _, fun _ _ _ _ => rfl, H.out.low, fun _ hk => .inl hk⟩⟩)
  · have hl0 : l.length ≠ 0 := fun e => hl (List.length_eq_zero_iff.1 e)
    obtain ⟨g0, cap, cur, fz, rfl, hbg, hgg, hfz, hnc, hcm, hcs, htake⟩ : ∃ g0 cap cur fz, v = .slice (some ⟨g0, 0, none⟩) l.length cap ∧ b ≤ g0 ∧ w.heap[g0]? = some (.cells cur 5 fz) ∧ fz.2 ≤ l.length * 1 ∧ l.length ≤ cap ∧ cap ≤ maxLen ∧ cur.size = cap * 1 ∧ cur.toList.take (l.length * 1) = byteCells l := by
      rcases h.own.2 with ⟨_, hz⟩ | ⟨g0, cap, cur, fz, hv, r⟩
      · exact absurd hz hl0
      · exact ⟨g0, cap, cur, fz, hv, r⟩
    have hSD : (Builtin.unsafeSliceData_ #[43] 61 #[.slice (some ⟨g0, 0, none⟩) l.length cap]).run Try.prog w.drew = .ok (.pointer (some ⟨g0, 0, none⟩)) w.drew := Lib.run_unsafeSliceData_row _ _ _ _ _ _ (by omega)
    have hUS : (Builtin.unsafeString_ #[61, 3] 9 #[.pointer (some ⟨g0, 0, none⟩), .int .i64 l.length]).run Try.prog w.drew = .ok (.string ⟨l.toArray⟩) (w.drew.freeze ⟨g0, 0, none⟩ l.length) := by
      refine Lib.run_unsafeString_row w.drew 61 3 9 5 Try.underlying61 bcells_one g0 cur.size (by have hg' : w.drew.heap[g0]? = some (.cells cur 5 fz) := hgg; simp [World.shape?, hg']) l hl (by omega) (by omega) ?_
      intro j x hx
      exact h.own.cells (g := g0) rfl j (.int .u8 x.toNat) (by simp [byteCells, hx])
    have hfr : ∀ k, k ≠ g0 → (w.drew.freeze ⟨g0, 0, none⟩ l.length).heap[k]? = w.heap[k]? := fun k hk => by
      unfold World.freeze
      split
      · rfl
      · simp only [Array.getElem?_modify]
        rw [if_neg (fun e => hk e.symm)]
        rfl
    have hgb : g0 ≠ b := fun e => h.vb (by rw [← e]; rfl)
    have hfg : ∃ fz', fz'.2 ≤ l.length * 1 ∧ (w.drew.freeze ⟨g0, 0, none⟩ l.length).heap[g0]? = some (.cells cur 5 fz') := by
      have hg' : w.drew.heap[g0]? = some (.cells cur 5 fz) := hgg
      unfold World.freeze
      rw [if_neg hl0]
      obtain ⟨lo, hi⟩ := fz
      refine ⟨(if lo == hi then (0, 0 + l.length) else (min lo 0, max hi (0 + l.length))), ?_, by simp [Array.getElem?_modify, hg']⟩
      simp only at hfz
      split <;> simp <;> omega
    have hsz : (w.drew.freeze ⟨g0, 0, none⟩ l.length).heap.size = w.heap.size := by
      unfold World.freeze
      split
      · rfl
      · simp
    obtain ⟨fz', hfz', hfg⟩ := hfg
    have HV := Lib.hid (show FdV (w.drew.freeze ⟨g0, 0, none⟩ l.length) b p (.slice (some ⟨g0, 0, none⟩) l.length cap) l q d from
      ⟨h.ptr, (hfr b (fun e => hgb e.symm)).trans hc, ⟨h.own.1, .inr ⟨g0, cap, cur, fz', rfl, hbg, hfg, hfz', hnc, hcm, hcs, htake⟩⟩, h.void⟩)
    have HK := Lib.hid (show FdK b w (w.drew.freeze ⟨g0, 0, none⟩ l.length) from by
      refine ⟨?_, ?_, ?_, Nat.le_of_eq hsz.symm, fun k hk h1 h2 => hfr k (fun e => h2 ?_), h.low, fun k hk => .inl ?_⟩
      · unfold World.freeze; split <;> rfl
      · unfold World.freeze; split <;> rfl
      · unfold World.freeze; split <;> rfl
      · rw [h.row, e]; rfl
      · rw [← rowOf_same (hfr b (fun e => hgb e.symm))]; exact hk)
    clear h hc hfr hsz hgg hcs htake hgb hfg hfz hfz'
    go_enter Try.func17, Try.ntmps17
    go_wp2_with fail
    go_region
    all_goals (go_wp2; go_ret; exact ⟨rfl, ⟨_, _, HV.out⟩, HK.out⟩)

set_option maxHeartbeats 1000000 in
set_option maxRecDepth 100000 in
/-- Len: how many bytes it holds. -/
theorem blen_any (b : Nat) (l : List UInt8) (q d : Bool) (w : World) (h : FdB w b l q d) :
    Calls Try.prog 19 #[.pointer (some ⟨b, 0, none⟩)] w fun e w' => e = .returned (.int .i64 (l.length : Int)) ∧ w = w' := by
  obtain ⟨p, v, h⟩ := h
  obtain ⟨ao, cap, rfl⟩ : ∃ ao cap, v = .slice ao l.length cap := by
    rcases h.own.2 with ⟨hv, h0⟩ | ⟨g, cap, cur, fz, hv, _⟩
    · exact ⟨none, 0, by rw [hv, h0]⟩
    · exact ⟨_, _, hv⟩
  have c1 : w.cell? ⟨b, 1, none⟩ = some (.slice ao l.length cap) := cell_of_row w b 1 _ _ _ h.cells
  clear h
  go_enter Try.func19, Try.ntmps19
  go_wp2_with fail
  go_ret
  exact ⟨rfl, rfl⟩

set_option maxHeartbeats 1000000 in
set_option maxRecDepth 100000 in
/-- Reset: it holds nothing. -/
theorem breset_any (b : Nat) (l : List UInt8) (q d : Bool) (w : World) (h : FdB w b l q d) :
    Calls Try.prog 25 #[.pointer (some ⟨b, 0, none⟩)] w fun e w' => e = .returned (.tuple #[]) ∧ FdB w' b [] q d ∧ FdK b w w' := by
  obtain ⟨p, v, h⟩ := h
  have h1 := h.cell 0 (.pointer none) (.pointer none) q d (.inl rfl) rfl
  have h2 := h1.1.put (w1 := w.setCell ⟨b, 0, none⟩ (.pointer none)) (r := []) (n := 0) (v' := .slice none 0 0) ⟨rfl, rfl, rfl, Nat.le_refl _, fun _ _ _ => rfl⟩ (World.ownsRowF_nil _ _ _ _) rfl (fun _ => rfl) (fun k hk => by cases hk)
  have c0 : w.cell? ⟨b, 0, none⟩ = some p := cell_of_row w b 0 _ _ _ h.cells
  have f0 : w.frozen? ⟨b, 0, none⟩ = false := by simp [World.frozen?, h.cells]
  have c1 : (w.setCell ⟨b, 0, none⟩ (.pointer none)).cell? ⟨b, 1, none⟩ = some v := cell_of_row _ b 1 _ _ _ h1.1.cells
  have f1 : (w.setCell ⟨b, 0, none⟩ (.pointer none)).frozen? ⟨b, 1, none⟩ = false := by simp [World.frozen?, h1.1.cells]
  have HP := Lib.hid (And.intro h2.1 (h1.2.trans h2.2))
  clear h h1 h2
  go_enter Try.func25, Try.ntmps25
  go_wp2_with fail
  go_end0
  exact ⟨rfl, ⟨_, _, HP.out.1⟩, HP.out.2⟩
end Go.Proofs.Ytekcipmhljhelaa
