/- The program's values of layer 16 in a box, and the document's laid anew. No condition. -/
import Derived.Test.YteddepmiejlemaaProg
import Derived.Test.YteddepmiejlemaaFrFrame
import Derived.Test.YteddepmiejlemaaFrSets
import Derived.Test.YteddepmiejlemaaSeMath
import Derived.Test.YteddepmiejlemaaSeWrong
import Derived.Test.YteddepmiejlemaaSeRef
import Derived.Test.YteddepmiejlemaaSeSame
import Derived.Test.YteddepmiejlemaaSePar
import Derived.WalkKit
import Derived.OwnWalk
import Derived.Deep.RegionLaw
import Derived.Laws.AppendOwnNone
import Derived.Laws.OwnMore
import Derived.Lib.Hide
import Derived.Laws.Rows
namespace Go.Proofs.Yteddepmiejlemaa
open Go Go.RowKit Se Fr

namespace Se
def BoxV (w : World) (X : Nat) (v : Vals) : Prop := w.heap[X]? = some (.cells #[.int .u32 (v.table : Int), .int .u32 (v.streams : Int), .int .u32 (v.window : Int), .int .u32 (v.frame : Int), .int .u32 (v.list : Int), .bool v.push] 26 (0, 0))
section
variable {w w' : World} {X : Nat} {v u : Vals}
theorem BoxV.lt (h : BoxV w X v) : X < w.heap.size := by
  rcases Nat.lt_or_ge X w.heap.size with h1 | h1
  · exact h1
  · unfold BoxV at h; rw [Array.getElem?_eq_none h1] at h; cases h
theorem BoxV.below (h : BoxV w X v) (hB : Below w.heap.size w w') : BoxV w' X v := (hB.block X h.lt).trans h
theorem BoxV.cells (h : BoxV w X v) : w.cell? ⟨X, 0, none⟩ = some (.int .u32 (v.table : Int)) ∧ w.cell? ⟨X, 1, none⟩ = some (.int .u32 (v.streams : Int)) ∧ w.cell? ⟨X, 2, none⟩ = some (.int .u32 (v.window : Int)) ∧ w.cell? ⟨X, 3, none⟩ = some (.int .u32 (v.frame : Int)) ∧ w.cell? ⟨X, 4, none⟩ = some (.int .u32 (v.list : Int)) ∧ w.cell? ⟨X, 5, none⟩ = some (.bool v.push) :=
  ⟨cell_of_row _ _ 0 _ _ _ h, cell_of_row _ _ 1 _ _ _ h, cell_of_row _ _ 2 _ _ _ h, cell_of_row _ _ 3 _ _ _ h, cell_of_row _ _ 4 _ _ _ h, cell_of_row _ _ 5 _ _ _ h⟩
theorem BoxV.frz (h : BoxV w X v) (i : Nat) : w.frozen? ⟨X, i, none⟩ = false := by
  unfold BoxV at h
  simp [World.frozen?, h]
theorem boxV_new (w : World) (v : Vals) : BoxV (w.alloc (.cells #[.int .u32 (v.table : Int), .int .u32 (v.streams : Int), .int .u32 (v.window : Int), .int .u32 (v.frame : Int), .int .u32 (v.list : Int), .bool v.push] 26)) w.heap.size v ∧ Below w.heap.size w (w.alloc (.cells #[.int .u32 (v.table : Int), .int .u32 (v.streams : Int), .int .u32 (v.window : Int), .int .u32 (v.frame : Int), .int .u32 (v.list : Int), .bool v.push] 26)) ∧ (w.alloc (.cells #[.int .u32 (v.table : Int), .int .u32 (v.streams : Int), .int .u32 (v.window : Int), .int .u32 (v.frame : Int), .int .u32 (v.list : Int), .bool v.push] 26)).heap.size = w.heap.size + 1 :=
  ⟨heap_alloc_new w _, (Below.refl _ w).alloc (Nat.le_refl _) _, by simp⟩
theorem boxR_new (w : World) (v : Vals) : BoxR (w.alloc (.cells (rCs v) 32)) w.heap.size v ∧ Below w.heap.size w (w.alloc (.cells (rCs v) 32)) ∧ (w.alloc (.cells (rCs v) 32)).heap.size = w.heap.size + 1 :=
  ⟨heap_alloc_new w _, (Below.refl _ w).alloc (Nat.le_refl _) _, by simp⟩
/-- Other values laid into the box. -/
def putV (w : World) (X : Nat) (u : Vals) : World := ((((((w.setCell ⟨X, 0, none⟩ (.int .u32 (u.table : Int))).setCell ⟨X, 1, none⟩ (.int .u32 (u.streams : Int))).setCell ⟨X, 2, none⟩ (.int .u32 (u.window : Int))).setCell ⟨X, 3, none⟩ (.int .u32 (u.frame : Int))).setCell ⟨X, 4, none⟩ (.int .u32 (u.list : Int))).setCell ⟨X, 5, none⟩ (.bool u.push))
theorem BoxV.put (h : BoxV w X v) (u : Vals) : BoxV (putV w X u) X u := by
  unfold BoxV at h
  unfold BoxV putV
  simp [World.setCell, Array.getElem?_modify, h]
theorem putV_other {k : Nat} (hk : k ≠ X) : (putV w X u).heap[k]? = w.heap[k]? := by
  unfold putV
  rw [Below.heap_setCell _ ⟨X, 5, none⟩ _ k hk, Below.heap_setCell _ ⟨X, 4, none⟩ _ k hk, Below.heap_setCell _ ⟨X, 3, none⟩ _ k hk, Below.heap_setCell _ ⟨X, 2, none⟩ _ k hk, Below.heap_setCell _ ⟨X, 1, none⟩ _ k hk, Below.heap_setCell _ ⟨X, 0, none⟩ _ k hk]
theorem putV_size : (putV w X u).heap.size = w.heap.size := by unfold putV; simp
theorem putV_below {w0 : World} {g : Nat} (h : Below g w0 w) (hg : g ≤ X) : Below g w0 (putV w X u) :=
  (((((h.setCell (p := ⟨X, 0, none⟩) hg _).setCell (p := ⟨X, 1, none⟩) hg _).setCell (p := ⟨X, 2, none⟩) hg _).setCell (p := ⟨X, 3, none⟩) hg _).setCell (p := ⟨X, 4, none⟩) hg _).setCell (p := ⟨X, 5, none⟩) hg _
def putR (w : World) (X : Nat) (u : Vals) : World := (((((((w.setCell ⟨X, 0, none⟩ (.int .u32 0)).setCell ⟨X, 1, none⟩ (.int .u32 (u.table : Int))).setCell ⟨X, 2, none⟩ (.int .u32 (pushN u : Int))).setCell ⟨X, 3, none⟩ (.int .u32 (u.streams : Int))).setCell ⟨X, 4, none⟩ (.int .u32 (u.window : Int))).setCell ⟨X, 5, none⟩ (.int .u32 (u.frame : Int))).setCell ⟨X, 6, none⟩ (.int .u32 (u.list : Int)))
theorem BoxR.put2 (h : BoxR w X v) (u : Vals) : BoxR (putR w X u) X u := by
  unfold BoxR rCs at h
  unfold BoxR putR rCs
  simp [World.setCell, Array.getElem?_modify, h]
theorem putR_other {k : Nat} (hk : k ≠ X) : (putR w X u).heap[k]? = w.heap[k]? := by
  unfold putR
  rw [Below.heap_setCell _ ⟨X, 6, none⟩ _ k hk, Below.heap_setCell _ ⟨X, 5, none⟩ _ k hk, Below.heap_setCell _ ⟨X, 4, none⟩ _ k hk, Below.heap_setCell _ ⟨X, 3, none⟩ _ k hk, Below.heap_setCell _ ⟨X, 2, none⟩ _ k hk, Below.heap_setCell _ ⟨X, 1, none⟩ _ k hk, Below.heap_setCell _ ⟨X, 0, none⟩ _ k hk]
theorem putR_below {w0 : World} {g : Nat} (h : Below g w0 w) (hg : g ≤ X) : Below g w0 (putR w X u) :=
  ((((((h.setCell (p := ⟨X, 0, none⟩) hg _).setCell (p := ⟨X, 1, none⟩) hg _).setCell (p := ⟨X, 2, none⟩) hg _).setCell (p := ⟨X, 3, none⟩) hg _).setCell (p := ⟨X, 4, none⟩) hg _).setCell (p := ⟨X, 5, none⟩) hg _).setCell (p := ⟨X, 6, none⟩) hg _
end
/-- A row of one's own reads as its settings. -/
theorem rd_own {w : World} {base n : Nat} {v : Value} {L : List (Nat × Nat)} (h : w.ownsRow base 48 2 v n (setCs L)) (hn : L.length = n) (hb : ∀ x ∈ L, x.1 < 65536 ∧ x.2 < 4294967296) : ∃ A c, v = .slice A n c ∧ RdSt w w.heap.size A L :=
  own_sets h hn.symm (fun k hk => by
    have hm : setAt L k ∈ L := by
      unfold setAt
      rw [List.getD_eq_getElem?_getD, List.getElem?_eq_getElem hk]
      exact List.getElem_mem hk
    exact hb _ hm)
set_option maxRecDepth 100000 in
/-- append(own, xs...) of settings, where some stand already. -/
theorem wpList_append_sets2 {w : World} {ops : Array Oper} {rest : List Oper} {o : Oper} {a : Act} {Q : Exit → Act → World → Prop} (hgd : o.guard = none) (s x : Operand)
    (ho : o.op = .call { callee := .builtin .append, args := #[s, x], argTypes := #[22, 22] })
    (base : Nat) (v : Value) (m : Nat) (K : List (Nat × Nat)) (hs : a.eval s = v) (hown : w.ownsRow base 48 2 v m (setCs K)) (n c : Nat) (A : Option Addr) (L : List (Nat × Nat)) (hx : a.eval x = .slice A n c) (hn : L.length = n) (hnil : A = none → c = 0 ∧ n = 0) (B : Nat) (hsrc : RdSt w B A L)
    (hmn : m + n ≤ 100000) (hbase : base ≤ w.heap.size)
    (h : ∀ v' w', w'.ownsRow base 48 2 v' (m + n) (setCs (K ++ L)) → w.grownBy w' v.ownBlock → wpList Try.prog ops Q rest (a.put o.dst v') w') : wpList Try.prog ops Q (o :: rest) a w := by
  obtain ⟨i0, hi, hz0, hz1, hz2⟩ := info_parts infoS
  rcases A with _ | ad
  · obtain ⟨rfl, rfl⟩ := hnil rfl
    have hL : L = [] := List.length_eq_zero_iff.1 hn
    subst hL
    refine wpList_append_own_none hgd s x 22 ho base 48 i0 2 Try.underlying22 hi v m (setCs K) hs hown hx (h v w ?_ (World.grownBy.refl w _))
    rw [List.append_nil]
    exact hown
  · refine wpList_append_own w hgd s x 22 ho base 48 i0 (.agg #[.int .u16 0, .int .u32 0]) 2 8 Try.underlying22 hi hz0 hz1 hz2 rfl (by decide) v m (setCs K) hs hown ad n c (setCs L) hx (by rw [setCs_len, hn]) ?_ setCs_one (by unfold maxLen; omega) (by omega) hbase (fun v' w' h1 h2 _ => h v' w' (by rw [setCs_cat]; exact h1) h2)
    intro j u hj
    have hjl : j < (setCs L).length := by
      rcases Nat.lt_or_ge j (setCs L).length with h | h
      · exact h
      · rw [List.getElem?_eq_none h] at hj; cases hj
    rw [setCs_len] at hjl
    obtain ⟨b2, o2, ha, _, hc0, hc1, _⟩ := hsrc (j / 2) (by omega)
    injection ha with ha
    subst ha
    rw [Fr.oadd]
    have hat := setCs_at (L := L) (k := j / 2) (by omega)
    rcases Nat.mod_two_eq_zero_or_one j with hm | hm
    · rw [show j / 2 * 2 = j by omega] at hc0 hat
      rw [hat.1] at hj
      rw [hc0, ← hj]
    · rw [Nat.add_assoc, show j / 2 * 2 + 1 = j by omega] at hc1
      rw [show j / 2 * 2 + 1 = j by omega] at hat
      rw [hat.2] at hj
      rw [hc1, ← hj]
set_option maxRecDepth 100000 in
/-- The same within a region that draws. -/
theorem step_append_sets {w : World} {ops : Array Oper} {o : Oper} {a : Act} {K : Act → World → Prop} {Q : Exit → Act → World → Prop} {E : Prop} (hgd : o.guard = none) (s x : Operand)
    (ho : o.op = .call { callee := .builtin .append, args := #[s, x], argTypes := #[22, 22] })
    (base : Nat) (v : Value) (m : Nat) (M : List (Nat × Nat)) (hs : a.eval s = v) (hown : w.ownsRow base 48 2 v m (setCs M)) (n c : Nat) (A : Option Addr) (L : List (Nat × Nat)) (hx : a.eval x = .slice A n c) (hn : L.length = n) (hnil : A = none → c = 0 ∧ n = 0) (B : Nat) (hsrc : RdSt w B A L)
    (hmn : m + n ≤ 100000) (hbase : base ≤ w.heap.size)
    (h : ∀ v' w', w'.ownsRow base 48 2 v' (m + n) (setCs (M ++ L)) → w.grownBy w' v.ownBlock → K (a.put o.dst v') w') : if Region.wanted o (yielded ops a.tmps) = true then Oper.wp Try.prog o a w K Q else E := by
  obtain ⟨i0, hi, hz0, hz1, hz2⟩ := info_parts infoS
  have hw : Region.wanted o (yielded ops a.tmps) = true := by simp [Region.wanted, hgd]
  rw [if_pos hw]
  rcases A with _ | ad
  · obtain ⟨rfl, rfl⟩ := hnil rfl
    have hL : L = [] := List.length_eq_zero_iff.1 hn
    subst hL
    have hrun := run_append_owned_none (P := Try.prog) (w := w) base 22 o.type 48 i0 2 Try.underlying22 hi v m (setCs M) hown
    unfold Oper.wp
    simp [execOp, ho, resolve, invoke, builtin, hs, hx, hrun, Result.andThen]
    exact h v w (by rw [List.append_nil]; exact hown) (World.grownBy.refl w _)
  · obtain ⟨v', w', hrun, h2, h3, _⟩ := run_append_own (P := Try.prog) w base 22 o.type 48 i0 (.agg #[.int .u16 0, .int .u32 0]) 2 8 Try.underlying22 hi hz0 hz1 hz2 rfl (by decide) v m (setCs M) hown ad n c (setCs L) (by rw [setCs_len, hn]) (fun j u hj => by
      have hjl : j < (setCs L).length := by
        rcases Nat.lt_or_ge j (setCs L).length with h | h
        · exact h
        · rw [List.getElem?_eq_none h] at hj; cases hj
      rw [setCs_len] at hjl
      obtain ⟨b2, o2, ha, _, hc0, hc1, _⟩ := hsrc (j / 2) (by omega)
      injection ha with ha
      subst ha
      rw [Fr.oadd]
      have hat := setCs_at (L := L) (k := j / 2) (by omega)
      rcases Nat.mod_two_eq_zero_or_one j with hm | hm
      · rw [show j / 2 * 2 = j by omega] at hc0 hat
        rw [hat.1] at hj
        rw [hc0, ← hj]
      · rw [Nat.add_assoc, show j / 2 * 2 + 1 = j by omega] at hc1
        rw [show j / 2 * 2 + 1 = j by omega] at hat
        rw [hat.2] at hj
        rw [hc1, ← hj]) setCs_one (by unfold maxLen; omega) (by omega) hbase
    unfold Oper.wp
    simp [execOp, ho, resolve, invoke, builtin, hs, hx, hrun, Result.andThen]
    exact h v' w' (by rw [setCs_cat]; exact h2) h3
/-- Zero values in a box: they stand while settings are appended, and below what a call makes. -/
def ZeroV (w : World) (X : Nat) : Prop := w.heap[X]? = some (.cells #[.int .u32 0, .int .u32 0, .int .u32 0, .int .u32 0, .int .u32 0, .bool false] 26 (0, 0))
def v0 : Vals := ⟨0, 0, 0, 0, 0, false⟩
theorem ZeroV.box {w : World} {X : Nat} (h : ZeroV w X) : BoxV w X v0 := h
theorem zero_new (w : World) : ZeroV (w.alloc (.cells #[.int .u32 0, .int .u32 0, .int .u32 0, .int .u32 0, .int .u32 0, .bool false] 26)) w.heap.size := heap_alloc_new w _
theorem ZeroV.more {w : World} {X : Nat} (h : ZeroV w X) (o : Obj) : ZeroV (w.alloc o) X := (heap_alloc_old w o h.box.lt).trans h
theorem ZeroV.grown {w w' : World} {X base n : Nat} {v : Value} {xs : List Value} (h : ZeroV w X) (hO : w.ownsRow base 48 2 v n xs) (hG : w.grownBy w' v.ownBlock) : ZeroV w' X := by
  refine (hG.block X h.box.lt (fun e => ?_)).trans h
  rcases hO.2 with ⟨rfl, _⟩ | ⟨k, cap, cur, rfl, _, hgg, _⟩
  · cases e
  · injection e with e
    have e : X = k := e
    subst e
    unfold ZeroV at h
    rw [h] at hgg
    injection hgg with hgg
    injection hgg with _ h2
    exact absurd h2 (by decide)
theorem own_void {w : World} {G g : Nat} (h : w.heap[g]? = some (.cells #[] 48 (0, 0))) (hg : G ≤ g) : w.ownsRow G 48 2 (.slice (some ⟨g, 0, none⟩) 0 0) 0 (setCs []) := ⟨rfl, .inr ⟨g, 0, #[], rfl, hg, h, Nat.le_refl _, by unfold maxLen; omega, rfl, rfl⟩⟩
/-- A step of a region that draws: what it leaves of what stands. -/
theorem step_append_sets3 {w w0 : World} {ops : Array Oper} {o : Oper} {a : Act} {K : Act → World → Prop} {Q : Exit → Act → World → Prop} {E : Prop} (hgd : o.guard = none) (s x : Operand)
    (ho : o.op = .call { callee := .builtin .append, args := #[s, x], argTypes := #[22, 22] })
    (base : Nat) (v : Value) (m : Nat) (M : List (Nat × Nat)) (hs : a.eval s = v) (hown : w.ownsRow base 48 2 v m (setCs M)) (n c : Nat) (A : Option Addr) (L : List (Nat × Nat)) (hx : a.eval x = .slice A n c) (hn : L.length = n) (hnil : A = none → c = 0 ∧ n = 0) (hb : Below base w0 w) (h0 : base ≤ w0.heap.size) (hsrc : ∀ X, Below base w0 X → RdSt X X.heap.size A L)
    (k : Nat) (hk : m + n = k) (hmn : k ≤ 100000) (N : List (Nat × Nat)) (hN : M ++ L = N)
    (h : ∀ v' w', w'.ownsRow base 48 2 v' k (setCs N) → Below base w0 w' → (∀ Z, ZeroV w Z → ZeroV w' Z) → K (a.put o.dst v') w') : if Region.wanted o (yielded ops a.tmps) = true then Oper.wp Try.prog o a w K Q else E := by
  subst hk hN
  exact step_append_sets hgd s x ho base v m M hs hown n c A L hx hn hnil _ (hsrc w hb) hmn (Nat.le_trans h0 hb.size) (fun v' w' h1 h2 => h v' w' h1 (hb.grown h2 (Nat.le_trans h0 hb.size) (fun k hk => (hown.lt k hk).1)) (fun _ hZ => hZ.grown hown h2))
theorem BoxV.more {w : World} {X : Nat} {v : Vals} (h : BoxV w X v) (o : Obj) : BoxV (w.alloc o) X v := (heap_alloc_old w o h.lt).trans h
theorem sd_of {w V : World} {D : Nat} {d : Vals} (h : BoxV w D d) (hB : Below w.heap.size w V) : V.cell? ⟨D, 0, none⟩ = some (.int .u32 (d.table : Int)) ∧ V.cell? ⟨D, 1, none⟩ = some (.int .u32 (d.streams : Int)) ∧ V.cell? ⟨D, 2, none⟩ = some (.int .u32 (d.window : Int)) ∧ V.cell? ⟨D, 3, none⟩ = some (.int .u32 (d.frame : Int)) ∧ V.cell? ⟨D, 4, none⟩ = some (.int .u32 (d.list : Int)) ∧ V.cell? ⟨D, 5, none⟩ = some (.bool d.push) := (h.below hB).cells
theorem world_lt3 {w : World} {k : Nat} {o : Obj} (h : w.heap[k]? = some o) : k < w.heap.size := by
  rcases Nat.lt_or_ge k w.heap.size with h1 | h1
  · exact h1
  · rw [Array.getElem?_eq_none h1] at h; cases h
section
variable {P : Program} {ops : Array Oper} {Q : Exit → Act → World → Prop} {md : Region.Mode}
/-- An operation that yields in whatever world is taken first; what it yields is laid. -/
theorem take_at {i d : Nat} {oi : Oper} {v : Value} {fuel : Nat} {listed : Array Bool} {a : Act} {w : World} (hi : ops[i]? = some oi) (hd : oi.dst = some d)
    (hs : Region.noSelect ops = true) (hf : Region.free md ops listed i = true) (hr : (Region.ready md ops listed).contains i = true)
    (hQ : ∀ c a w, Q (.panic c) (a.put oi.dst v) w → Q (.panic c) a w) (hw : Region.wanted oi (yielded ops a.tmps) = true) (hy : ∀ w, (execOp a.eval oi).run P w = .ok (.value v) w)
    (h : wpAny P md ops Q fuel (listed.setIfInBounds i true) { a with tmps := a.tmps.setIfInBounds d v } w) : wpAny P md ops Q (fuel + 1) listed a w := by
  refine wpAny_take hi hs hf hr hQ (.inl ⟨hw, hy⟩) ?_
  rw [hd]
  exact h
end
theorem weave_mem {e x : Nat × Nat} : ∀ L : List (Nat × Nat), x ∈ weave e L → x = e ∨ x ∈ L
  | [], h => by cases h
  | y :: L, h => by
    rw [weave] at h
    rcases List.mem_cons.1 h with h | h
    · exact .inl h
    · rcases List.mem_cons.1 h with h | h
      · exact .inr (h ▸ List.mem_cons_self ..)
      · rcases weave_mem L h with h | h
        · exact .inl h
        · exact .inr (List.mem_cons_of_mem _ h)
theorem weave_step (e : Nat × Nat) {L : List (Nat × Nat)} {k : Nat} (hk : k < L.length) : weave e (L.take (k + 1)) = weave e (L.take k) ++ [e, setAt L k] := by
  rw [List.take_succ_eq_append_getElem hk, weave_snoc]
  have : setAt L k = L[k] := by
    unfold setAt
    rw [List.getD_eq_getElem?_getD, List.getElem?_eq_getElem hk]
    rfl
  rw [this]
theorem le_alloc {w : World} {G : Nat} (h : G ≤ w.heap.size) (o : Obj) : G ≤ (w.alloc o).heap.size := by rw [World.size_alloc]; omega
theorem le_drew {w : World} {G : Nat} (h : G ≤ w.heap.size) : G ≤ w.drew.heap.size := h
theorem ZeroV.drew {w : World} {X : Nat} (h : ZeroV w X) : ZeroV w.drew X := h
/-- What stands behind a call. -/
theorem after_call {w0 V W : World} {base : Nat} (hb : Below base w0 V) (h0 : base ≤ w0.heap.size) (h : Below V.heap.size V W) : Below base w0 W ∧ (∀ Z, ZeroV V Z → ZeroV W Z) :=
  ⟨hb.trans (h.mono (Nat.le_trans h0 hb.size)), fun Z hZ => (h.block Z hZ.box.lt).trans hZ⟩
theorem RdSt.all {w : World} {a : Option Addr} {L : List (Nat × Nat)} (h : RdSt w w.heap.size a L) : ∀ X, Below w.heap.size w X → RdSt X X.heap.size a L := fun _ hX => h.on hX hX.size
theorem apply_bad {v w : Vals} {q : Bool} {L : List (Nat × Nat)} {c : Nat} (h : applyS v q L = (w, c)) (hc : c ≠ 0) : w = v := (apply_first (B := []) h hc).1
theorem apply_code {v w : Vals} {q : Bool} {L : List (Nat × Nat)} {c : Nat} (h : applyS v q L = (w, c)) : c = 0 ∨ c = 1 ∨ c = 3 := by
  have h1 := codeL_le q L
  unfold applyS at h
  split at h
  · injection h with _ e
    rw [← e]; exact h1
  · injection h with _ e
    exact .inl e.symm
end Se
end Go.Proofs.Yteddepmiejlemaa
