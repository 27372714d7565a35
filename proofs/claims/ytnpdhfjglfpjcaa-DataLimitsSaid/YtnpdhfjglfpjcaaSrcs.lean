/- Slices of texts and of numbers that are appended whole, nil let in; append and make of rows of one's own. For lists of at most 10^6. -/
import Derived.Test.YtnpdhfjglfpjcaaProg
import Derived.Test.YtnpdhfjglfpjcaaStrs
import Derived.Test.YtnpdhfjglfpjcaaNums
import Derived.WalkKit
import Derived.Lib.Hide
import Derived.OwnWalk
import Derived.Below
import Derived.Laws.OwnMore
import Derived.Laws.AppendOwn
import Derived.Laws.AppendOwnNone
import Derived.Laws.MakeOwn
namespace Go.Proofs.Ytnpdhfjglfpjcaa
open Go.RowKit Bytes Strs Nums

/-- A slice that is appended whole: nil, or at an address. -/
def Srcs (w : World) (v : Value) (n : Nat) (L : List (List UInt8)) : Prop :=
  (v = .slice none 0 0 ∧ n = 0 ∧ L = []) ∨ ∃ ad c, v = .slice (some ad) n c ∧ n = L.length ∧ ∀ k, k < L.length → w.cell? (ad.add k) = some (.string (mk (L.getD k [])))
theorem strs_of {w : World} {B : Nat} {A : Option Addr} {n c : Nat} {L : List (List UInt8)} (hr : RdS w B A L) (hl : L.length = n) (hc : A = none → c = 0) : Srcs w (.slice A n c) n L := by
  cases A with
  | none =>
    have h0 : L.length = 0 := by
      rcases Nat.eq_zero_or_pos L.length with h | h
      · exact h
      · obtain ⟨a, e, _⟩ := hr h
        cases e
    exact Or.inl ⟨by rw [hc rfl, ← hl, h0], by rw [← hl, h0], List.length_eq_zero_iff.1 h0⟩
  | some ad =>
    refine Or.inr ⟨ad, c, rfl, hl.symm, fun k hk => ?_⟩
    obtain ⟨a, e, _, hcell⟩ := hr.get hk
    injection e with e
    subst e
    exact hcell
theorem strs_below {w w' : World} {v : Value} {n : Nat} {L : List (List UInt8)} (h : Srcs w v n L) (hb : Below w.heap.size w w') : Srcs w' v n L := by
  rcases h with h | ⟨ad, c, hx, hn, hc⟩
  · exact Or.inl h
  · exact Or.inr ⟨ad, c, hx, hn, fun k hk => (hb.cell (World.block_lt_of_cell? _ _ (hc k hk))).trans (hc k hk)⟩
theorem run_append_strs {w : World} (ty : TypeId) (base : Nat) (v : Value) (m : Nat) (xs : List Value) (hown : w.ownsRow base 9 1 v m xs) (x : Value) (n : Nat) (L : List (List UInt8)) (hsrc : Srcs w x n L) (hmn : m + n ≤ 1000000) (hbase : base ≤ w.heap.size) :
    ∃ v' w', (Builtin.append_ #[24, 24] ty #[v, x]).run Try.prog w = .ok v' w' ∧ w'.ownsRow base 9 1 v' (m + n) (xs ++ strCs L) ∧ w.grownBy w' v.ownBlock := by
  obtain ⟨i0, hi, hz0, hz1, hz2⟩ := info_parts info9
  rcases hsrc with ⟨rfl, rfl, rfl⟩ | ⟨ad, c, rfl, hn, hc⟩
  · exact ⟨v, w, run_append_owned_none w base 24 ty 9 i0 1 Try.underlying24 hi v m xs hown, by simpa [strCs] using hown, World.grownBy.refl w _⟩
  · obtain ⟨v', w', hr, h2, h3, _⟩ := run_append_own (P := Try.prog) w base 24 ty 9 i0 (.string ⟨#[]⟩) 1 16 Try.underlying24 hi hz0 hz1 hz2 rfl (by decide) v m xs hown ad n c (strCs L) (by rw [strCs_len]; omega) (fun j u hj => by
      have hjl : j < L.length := by
        rcases Nat.lt_or_ge j L.length with h | h
        · exact h
        · rw [List.getElem?_eq_none (by rw [strCs_len]; exact h)] at hj; cases hj
      rw [strCs_at hjl] at hj
      injection hj with hj
      rw [← hj]
      exact hc j hjl) (fun u hu => by
      unfold strCs at hu
      obtain ⟨l, _, rfl⟩ := List.mem_map.1 hu
      rfl) (by unfold maxLen; omega) (by omega) hbase
    exact ⟨v', w', hr, h2, h3⟩
theorem wpList_append_strs {w : World} {ops : Array Oper} {rest : List Oper} {o : Oper} {a : Act} {Q : Exit → Act → World → Prop} (hgd : o.guard = none) (s x : Operand)
    (ho : o.op = .call { callee := .builtin .append, args := #[s, x], argTypes := #[24, 24] })
    (base : Nat) (v : Value) (m : Nat) (xs : List Value) (hs : a.eval s = v) (hown : w.ownsRow base 9 1 v m xs) (n : Nat) (L : List (List UInt8)) (hsrc : Srcs w (a.eval x) n L)
    (hmn : m + n ≤ 1000000) (hbase : base ≤ w.heap.size)
    (h : ∀ v' w', w'.ownsRow base 9 1 v' (m + n) (xs ++ strCs L) → w.grownBy w' v.ownBlock → wpList Try.prog ops Q rest (a.put o.dst v') w') : wpList Try.prog ops Q (o :: rest) a w := by
  obtain ⟨v', w', hr, h2, h3⟩ := run_append_strs o.type base v m xs hown (a.eval x) n L hsrc hmn hbase
  refine wpList_plain hgd fun K hK => ?_
  unfold Oper.wp
  simp [execOp, ho, resolve, invoke, builtin, hs, hr, Result.andThen]
  exact hK _ _ (h v' w' h2 h3)
theorem step_append_strs {w : World} {ops : Array Oper} {o : Oper} {a : Act} {K : Act → World → Prop} {Q : Exit → Act → World → Prop} {E : Prop} (hgd : o.guard = none) (s x : Operand)
    (ho : o.op = .call { callee := .builtin .append, args := #[s, x], argTypes := #[24, 24] })
    (base : Nat) (v : Value) (m : Nat) (xs : List Value) (hs : a.eval s = v) (hown : w.ownsRow base 9 1 v m xs) (xv : Value) (hx : a.eval x = xv) (n : Nat) (L : List (List UInt8)) (hsrc : Srcs w xv n L)
    (hmn : m + n ≤ 1000000) (hbase : base ≤ w.heap.size)
    (h : ∀ v' w', w'.ownsRow base 9 1 v' (m + n) (xs ++ strCs L) → w.grownBy w' v.ownBlock → K (a.put o.dst v') w') : if Region.wanted o (yielded ops a.tmps) = true then Oper.wp Try.prog o a w K Q else E := by
  have hw : Region.wanted o (yielded ops a.tmps) = true := by simp [Region.wanted, hgd]
  rw [if_pos hw]
  obtain ⟨v', w', hr, h2, h3⟩ := run_append_strs o.type base v m xs hown xv n L hsrc hmn hbase
  unfold Oper.wp
  simp [execOp, ho, resolve, invoke, builtin, hs, hx, hr, Result.andThen]
  exact h v' w' h2 h3
/-- make, with a length of 0. -/
theorem make0_strs (c : Nat) (hc : c ≤ 1000000) : ∃ M : Array Value, M.size = c ∧ ∀ W : World, (Instr.makeSlice 24 (.int .i64 0) (.int .i64 (c : Int))).run Try.prog W = .ok (.slice (some ⟨W.heap.size, 0, none⟩) 0 c) (W.alloc (.cells M 9)) := by
  obtain ⟨i0, hi, hz0, hz1, hz2⟩ := info_parts info9
  refine ⟨madeCells (.string ⟨#[]⟩ : Value).cells (((c : Nat) : Int).toNat * i0.size), ?_, fun W => ?_⟩
  · rw [size_madeCells, hz1]; simp
  · have h := run_make (P := Try.prog) W 24 9 i0 (.string ⟨#[]⟩) Try.underlying24 hi hz0 .i64 .i64 0 (c : Int) (by omega) (by omega) (by rw [hz2]; omega) (by omega)
    simpa using h
theorem made0_strs (W : World) (M : Array Value) (c base : Nat) (hM : M.size = c) (hc : c ≤ 1000000) (hb : base ≤ W.heap.size) : (W.alloc (.cells M 9)).ownsRow base 9 1 (.slice (some ⟨W.heap.size, 0, none⟩) 0 c) 0 [] :=
  World.ownsRow_made W M c hb (by unfold maxLen; omega) (by rw [hM, Nat.mul_one])

/-- A slice that is appended whole: nil, or at an address. -/
def SrcN (w : World) (v : Value) (n : Nat) (L : List Nat) : Prop :=
  (v = .slice none 0 0 ∧ n = 0 ∧ L = []) ∨ ∃ ad c, v = .slice (some ad) n c ∧ n = L.length ∧ ∀ k, k < L.length → w.cell? (ad.add k) = some (.int .u32 ((L.getD k 0 : Nat) : Int))
theorem nums_of {w : World} {B : Nat} {A : Option Addr} {n c : Nat} {L : List Nat} (hr : RdN w B A L) (hl : L.length = n) (hc : A = none → c = 0) : SrcN w (.slice A n c) n L := by
  cases A with
  | none =>
    have h0 : L.length = 0 := by
      rcases Nat.eq_zero_or_pos L.length with h | h
      · exact h
      · obtain ⟨a, e, _⟩ := hr h
        cases e
    exact Or.inl ⟨by rw [hc rfl, ← hl, h0], by rw [← hl, h0], List.length_eq_zero_iff.1 h0⟩
  | some ad =>
    refine Or.inr ⟨ad, c, rfl, hl.symm, fun k hk => ?_⟩
    obtain ⟨a, e, _, hcell⟩ := hr.get hk
    injection e with e
    subst e
    exact hcell
theorem nums_below {w w' : World} {v : Value} {n : Nat} {L : List Nat} (h : SrcN w v n L) (hb : Below w.heap.size w w') : SrcN w' v n L := by
  rcases h with h | ⟨ad, c, hx, hn, hc⟩
  · exact Or.inl h
  · exact Or.inr ⟨ad, c, hx, hn, fun k hk => (hb.cell (World.block_lt_of_cell? _ _ (hc k hk))).trans (hc k hk)⟩
theorem run_append_nums {w : World} (ty : TypeId) (base : Nat) (v : Value) (m : Nat) (xs : List Value) (hown : w.ownsRow base 23 1 v m xs) (x : Value) (n : Nat) (L : List Nat) (hsrc : SrcN w x n L) (hmn : m + n ≤ 1000000) (hbase : base ≤ w.heap.size) :
    ∃ v' w', (Builtin.append_ #[25, 25] ty #[v, x]).run Try.prog w = .ok v' w' ∧ w'.ownsRow base 23 1 v' (m + n) (xs ++ numCs L) ∧ w.grownBy w' v.ownBlock := by
  obtain ⟨i0, hi, hz0, hz1, hz2⟩ := info_parts info23
  rcases hsrc with ⟨rfl, rfl, rfl⟩ | ⟨ad, c, rfl, hn, hc⟩
  · exact ⟨v, w, run_append_owned_none w base 25 ty 23 i0 1 Try.underlying25 hi v m xs hown, by simpa [numCs] using hown, World.grownBy.refl w _⟩
  · obtain ⟨v', w', hr, h2, h3, _⟩ := run_append_own (P := Try.prog) w base 25 ty 23 i0 (.int .u32 0) 1 4 Try.underlying25 hi hz0 hz1 hz2 rfl (by decide) v m xs hown ad n c (numCs L) (by rw [numCs_len]; omega) (fun j u hj => by
      have hjl : j < L.length := by
        rcases Nat.lt_or_ge j L.length with h | h
        · exact h
        · rw [List.getElem?_eq_none (by rw [numCs_len]; exact h)] at hj; cases hj
      rw [numCs_at hjl] at hj
      injection hj with hj
      rw [← hj]
      exact hc j hjl) (fun u hu => by
      unfold numCs at hu
      obtain ⟨l, _, rfl⟩ := List.mem_map.1 hu
      rfl) (by unfold maxLen; omega) (by omega) hbase
    exact ⟨v', w', hr, h2, h3⟩
theorem wpList_append_nums {w : World} {ops : Array Oper} {rest : List Oper} {o : Oper} {a : Act} {Q : Exit → Act → World → Prop} (hgd : o.guard = none) (s x : Operand)
    (ho : o.op = .call { callee := .builtin .append, args := #[s, x], argTypes := #[25, 25] })
    (base : Nat) (v : Value) (m : Nat) (xs : List Value) (hs : a.eval s = v) (hown : w.ownsRow base 23 1 v m xs) (n : Nat) (L : List Nat) (hsrc : SrcN w (a.eval x) n L)
    (hmn : m + n ≤ 1000000) (hbase : base ≤ w.heap.size)
    (h : ∀ v' w', w'.ownsRow base 23 1 v' (m + n) (xs ++ numCs L) → w.grownBy w' v.ownBlock → wpList Try.prog ops Q rest (a.put o.dst v') w') : wpList Try.prog ops Q (o :: rest) a w := by
  obtain ⟨v', w', hr, h2, h3⟩ := run_append_nums o.type base v m xs hown (a.eval x) n L hsrc hmn hbase
  refine wpList_plain hgd fun K hK => ?_
  unfold Oper.wp
  simp [execOp, ho, resolve, invoke, builtin, hs, hr, Result.andThen]
  exact hK _ _ (h v' w' h2 h3)
theorem step_append_nums {w : World} {ops : Array Oper} {o : Oper} {a : Act} {K : Act → World → Prop} {Q : Exit → Act → World → Prop} {E : Prop} (hgd : o.guard = none) (s x : Operand)
    (ho : o.op = .call { callee := .builtin .append, args := #[s, x], argTypes := #[25, 25] })
    (base : Nat) (v : Value) (m : Nat) (xs : List Value) (hs : a.eval s = v) (hown : w.ownsRow base 23 1 v m xs) (xv : Value) (hx : a.eval x = xv) (n : Nat) (L : List Nat) (hsrc : SrcN w xv n L)
    (hmn : m + n ≤ 1000000) (hbase : base ≤ w.heap.size)
    (h : ∀ v' w', w'.ownsRow base 23 1 v' (m + n) (xs ++ numCs L) → w.grownBy w' v.ownBlock → K (a.put o.dst v') w') : if Region.wanted o (yielded ops a.tmps) = true then Oper.wp Try.prog o a w K Q else E := by
  have hw : Region.wanted o (yielded ops a.tmps) = true := by simp [Region.wanted, hgd]
  rw [if_pos hw]
  obtain ⟨v', w', hr, h2, h3⟩ := run_append_nums o.type base v m xs hown xv n L hsrc hmn hbase
  unfold Oper.wp
  simp [execOp, ho, resolve, invoke, builtin, hs, hx, hr, Result.andThen]
  exact h v' w' h2 h3
/-- make, with a length of 0. -/
theorem make0_nums (c : Nat) (hc : c ≤ 1000000) : ∃ M : Array Value, M.size = c ∧ ∀ W : World, (Instr.makeSlice 25 (.int .i64 0) (.int .i64 (c : Int))).run Try.prog W = .ok (.slice (some ⟨W.heap.size, 0, none⟩) 0 c) (W.alloc (.cells M 23)) := by
  obtain ⟨i0, hi, hz0, hz1, hz2⟩ := info_parts info23
  refine ⟨madeCells (.int .u32 0 : Value).cells (((c : Nat) : Int).toNat * i0.size), ?_, fun W => ?_⟩
  · rw [size_madeCells, hz1]; simp
  · have h := run_make (P := Try.prog) W 25 23 i0 (.int .u32 0) Try.underlying25 hi hz0 .i64 .i64 0 (c : Int) (by omega) (by omega) (by rw [hz2]; omega) (by omega)
    simpa using h
theorem made0_nums (W : World) (M : Array Value) (c base : Nat) (hM : M.size = c) (hc : c ≤ 1000000) (hb : base ≤ W.heap.size) : (W.alloc (.cells M 23)).ownsRow base 23 1 (.slice (some ⟨W.heap.size, 0, none⟩) 0 c) 0 [] :=
  World.ownsRow_made W M c hb (by unfold maxLen; omega) (by rw [hM, Nat.mul_one])
end Go.Proofs.Ytnpdhfjglfpjcaa
