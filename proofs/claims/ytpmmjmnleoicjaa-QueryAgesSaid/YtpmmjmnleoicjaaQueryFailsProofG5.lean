/- Texts of one proof, one behind the other: Srcs, SlClone, RecCopied, RecCopy, QrAged, QrAge, QrAwake, QrRows. -/
import Derived.Test.YtpmmjmnleoicjaaProg
import Derived.Test.YtpmmjmnleoicjaaStrs
import Derived.Test.YtpmmjmnleoicjaaNums
import Derived.Test.YtpmmjmnleoicjaaClone
import Derived.Test.YtpmmjmnleoicjaaRecAt
import Derived.Test.YtpmmjmnleoicjaaBytes
import Derived.Test.YtpmmjmnleoicjaaMsgMath
import Derived.Test.YtpmmjmnleoicjaaRecMath
import Derived.Test.YtpmmjmnleoicjaaRecRow
import Derived.Test.YtpmmjmnleoicjaaRecAll
import Derived.Test.YtpmmjmnleoicjaaQueryFailsProofG1
import Derived.Test.YtpmmjmnleoicjaaOwnRow
import Derived.Test.YtpmmjmnleoicjaaQueryFailsProofG2
import Derived.Test.YtpmmjmnleoicjaaQueryFailsProofG3
import Derived.Test.YtpmmjmnleoicjaaQueryFailsProofG4
import Derived.Test.YtpmmjmnleoicjaaRdrRead
import Derived.Test.YtpmmjmnleoicjaaQueryFailsProofG6
import Derived.WalkKit
import Derived.Lib.Hide
import Derived.OwnWalk
import Derived.Below
import Derived.Laws.OwnMore
import Derived.Laws.AppendOwn
import Derived.Laws.AppendOwnNone
import Derived.Laws.MakeOwn
import Derived.Outline
import Derived.IntWalk
import Derived.WalkSpells
import Derived.WalkLawsBesides
import Derived.Deep.Heap
import Derived.Lib.MinMax
import Derived.Laws.Rows

/- Slices of texts and of numbers that are appended whole, nil let in; append and make of rows of one's own. For lists of at most 10^6. -/
namespace Go.Proofs.Ytpmmjmnleoicjaa
open Go.RowKit Bytes Strs Nums

/-- A slice that is appended whole: nil, or at an address. -/
def Srcs (w : World) (v : Value) (n : Nat) (L : List (List UInt8)) : Prop :=
  (v = .slice none 0 0 ∧ n = 0 ∧ L = []) ∨ ∃ ad c, v = .slice (some ad) n c ∧ n = L.length ∧ ∀ k, k < L.length → w.cell? (ad.add k) = some (.string (mk (L.getD k [])))
set_option maxRecDepth 100000 in
theorem strs_of {w : World} {B : Nat} {A : Option Addr} {n c : Nat} {L : List (List UInt8)} (hr : RdS w B A L) (hl : L.length = n) (hc : A = none → c = 0) : Srcs w (.slice A n c) n L := by
  cases A with
  | none =>
    have h0 : L.length = 0 := by
      rcases Nat.eq_zero_or_pos L.length with h | h
      · exact h
      · obtain ⟨a, e, _⟩ := hr h
        cases e
    exact Or.inl ⟨by rw [hc rfl, ← hl, h0], by rw [← hl, h0], List.length_eq_zero_iff.1 h0⟩
  | some ad =>
    refine Or.inr ⟨ad, c, rfl, hl.symm, fun k hk => ?_⟩
    obtain ⟨a, e, _, hcell⟩ := hr.get hk
    injection e with e
    subst e
    exact hcell
set_option maxRecDepth 100000 in
theorem strs_below {w w' : World} {v : Value} {n : Nat} {L : List (List UInt8)} (h : Srcs w v n L) (hb : Below w.heap.size w w') : Srcs w' v n L := by
  rcases h with h | ⟨ad, c, hx, hn, hc⟩
  · exact Or.inl h
  · exact Or.inr ⟨ad, c, hx, hn, fun k hk => (hb.cell (World.block_lt_of_cell? _ _ (hc k hk))).trans (hc k hk)⟩
set_option maxRecDepth 100000 in
theorem run_append_strs {w : World} (ty : TypeId) (base : Nat) (v : Value) (m : Nat) (xs : List Value) (hown : w.ownsRow base 9 1 v m xs) (x : Value) (n : Nat) (L : List (List UInt8)) (hsrc : Srcs w x n L) (hmn : m + n ≤ 1000000) (hbase : base ≤ w.heap.size) :
    ∃ v' w', (Builtin.append_ #[57, 57] ty #[v, x]).run Try.prog w = .ok v' w' ∧ w'.ownsRow base 9 1 v' (m + n) (xs ++ strCs L) ∧ w.grownBy w' v.ownBlock := by
  obtain ⟨i0, hi, hz0, hz1, hz2⟩ := info_parts info9
  rcases hsrc with ⟨rfl, rfl, rfl⟩ | ⟨ad, c, rfl, hn, hc⟩
  · exact ⟨v, w, run_append_owned_none w base 57 ty 9 i0 1 Try.underlying57 hi v m xs hown, by simpa [strCs] using hown, World.grownBy.refl w _⟩
  · obtain ⟨v', w', hr, h2, h3, _⟩ := run_append_own (P := Try.prog) w base 57 ty 9 i0 (.string ⟨#[]⟩) 1 16 Try.underlying57 hi hz0 hz1 hz2 rfl (by decide) v m xs hown ad n c (strCs L) (by rw [strCs_len]; omega) (fun j u hj => by
      have hjl : j < L.length := by
        rcases Nat.lt_or_ge j L.length with h | h
        · exact h
        · rw [List.getElem?_eq_none (by rw [strCs_len]; exact h)] at hj; cases hj
      rw [strCs_at hjl] at hj
      injection hj with hj
      rw [← hj]
      exact hc j hjl) (fun u hu => by
      unfold strCs at hu
      obtain ⟨l, _, rfl⟩ := List.mem_map.1 hu
      rfl) (by unfold maxLen; omega) (by omega) hbase
    exact ⟨v', w', hr, h2, h3⟩
set_option maxRecDepth 100000 in
theorem wpList_append_strs {w : World} {ops : Array Oper} {rest : List Oper} {o : Oper} {a : Act} {Q : Exit → Act → World → Prop} (hgd : o.guard = none) (s x : Operand)
    (ho : o.op = .call { callee := .builtin .append, args := #[s, x], argTypes := #[57, 57] })
    (base : Nat) (v : Value) (m : Nat) (xs : List Value) (hs : a.eval s = v) (hown : w.ownsRow base 9 1 v m xs) (n : Nat) (L : List (List UInt8)) (hsrc : Srcs w (a.eval x) n L)
    (hmn : m + n ≤ 1000000) (hbase : base ≤ w.heap.size)
    (h : ∀ v' w', w'.ownsRow base 9 1 v' (m + n) (xs ++ strCs L) → w.grownBy w' v.ownBlock → wpList Try.prog ops Q rest (a.put o.dst v') w') : wpList Try.prog ops Q (o :: rest) a w := by
  obtain ⟨v', w', hr, h2, h3⟩ := run_append_strs o.type base v m xs hown (a.eval x) n L hsrc hmn hbase
  refine wpList_plain hgd fun K hK => ?_
  unfold Oper.wp
  simp [execOp, ho, resolve, invoke, builtin, hs, hr, Result.andThen]
  exact hK _ _ (h v' w' h2 h3)
set_option maxRecDepth 100000 in
theorem step_append_strs {w : World} {ops : Array Oper} {o : Oper} {a : Act} {K : Act → World → Prop} {Q : Exit → Act → World → Prop} {E : Prop} (hgd : o.guard = none) (s x : Operand)
    (ho : o.op = .call { callee := .builtin .append, args := #[s, x], argTypes := #[57, 57] })
    (base : Nat) (v : Value) (m : Nat) (xs : List Value) (hs : a.eval s = v) (hown : w.ownsRow base 9 1 v m xs) (xv : Value) (hx : a.eval x = xv) (n : Nat) (L : List (List UInt8)) (hsrc : Srcs w xv n L)
    (hmn : m + n ≤ 1000000) (hbase : base ≤ w.heap.size)
    (h : ∀ v' w', w'.ownsRow base 9 1 v' (m + n) (xs ++ strCs L) → w.grownBy w' v.ownBlock → K (a.put o.dst v') w') : if Region.wanted o (yielded ops a.tmps) = true then Oper.wp Try.prog o a w K Q else E := by
  have hw : Region.wanted o (yielded ops a.tmps) = true := by simp [Region.wanted, hgd]
  rw [if_pos hw]
  obtain ⟨v', w', hr, h2, h3⟩ := run_append_strs o.type base v m xs hown xv n L hsrc hmn hbase
  unfold Oper.wp
  simp [execOp, ho, resolve, invoke, builtin, hs, hx, hr, Result.andThen]
  exact h v' w' h2 h3
set_option maxRecDepth 100000 in
/-- make, with a length of 0. -/
theorem make0_strs (c : Nat) (hc : c ≤ 1000000) : ∃ M : Array Value, M.size = c ∧ ∀ W : World, (Instr.makeSlice 57 (.int .i64 0) (.int .i64 (c : Int))).run Try.prog W = .ok (.slice (some ⟨W.heap.size, 0, none⟩) 0 c) (W.alloc (.cells M 9)) := by
  obtain ⟨i0, hi, hz0, hz1, hz2⟩ := info_parts info9
  refine ⟨madeCells (.string ⟨#[]⟩ : Value).cells (((c : Nat) : Int).toNat * i0.size), ?_, fun W => ?_⟩
  · rw [size_madeCells, hz1]; simp
  · have h := run_make (P := Try.prog) W 57 9 i0 (.string ⟨#[]⟩) Try.underlying57 hi hz0 .i64 .i64 0 (c : Int) (by omega) (by omega) (by rw [hz2]; omega) (by omega)
    simpa using h
set_option maxRecDepth 100000 in
theorem made0_strs (W : World) (M : Array Value) (c base : Nat) (hM : M.size = c) (hc : c ≤ 1000000) (hb : base ≤ W.heap.size) : (W.alloc (.cells M 9)).ownsRow base 9 1 (.slice (some ⟨W.heap.size, 0, none⟩) 0 c) 0 [] :=
  World.ownsRow_made W M c hb (by unfold maxLen; omega) (by rw [hM, Nat.mul_one])

/-- A slice that is appended whole: nil, or at an address. -/
def SrcN (w : World) (v : Value) (n : Nat) (L : List Nat) : Prop :=
  (v = .slice none 0 0 ∧ n = 0 ∧ L = []) ∨ ∃ ad c, v = .slice (some ad) n c ∧ n = L.length ∧ ∀ k, k < L.length → w.cell? (ad.add k) = some (.int .u32 ((L.getD k 0 : Nat) : Int))
set_option maxRecDepth 100000 in
theorem nums_of {w : World} {B : Nat} {A : Option Addr} {n c : Nat} {L : List Nat} (hr : RdN w B A L) (hl : L.length = n) (hc : A = none → c = 0) : SrcN w (.slice A n c) n L := by
  cases A with
  | none =>
    have h0 : L.length = 0 := by
      rcases Nat.eq_zero_or_pos L.length with h | h
      · exact h
      · obtain ⟨a, e, _⟩ := hr h
        cases e
    exact Or.inl ⟨by rw [hc rfl, ← hl, h0], by rw [← hl, h0], List.length_eq_zero_iff.1 h0⟩
  | some ad =>
    refine Or.inr ⟨ad, c, rfl, hl.symm, fun k hk => ?_⟩
    obtain ⟨a, e, _, hcell⟩ := hr.get hk
    injection e with e
    subst e
    exact hcell
set_option maxRecDepth 100000 in
theorem nums_below {w w' : World} {v : Value} {n : Nat} {L : List Nat} (h : SrcN w v n L) (hb : Below w.heap.size w w') : SrcN w' v n L := by
  rcases h with h | ⟨ad, c, hx, hn, hc⟩
  · exact Or.inl h
  · exact Or.inr ⟨ad, c, hx, hn, fun k hk => (hb.cell (World.block_lt_of_cell? _ _ (hc k hk))).trans (hc k hk)⟩
set_option maxRecDepth 100000 in
theorem run_append_nums {w : World} (ty : TypeId) (base : Nat) (v : Value) (m : Nat) (xs : List Value) (hown : w.ownsRow base 50 1 v m xs) (x : Value) (n : Nat) (L : List Nat) (hsrc : SrcN w x n L) (hmn : m + n ≤ 1000000) (hbase : base ≤ w.heap.size) :
    ∃ v' w', (Builtin.append_ #[58, 58] ty #[v, x]).run Try.prog w = .ok v' w' ∧ w'.ownsRow base 50 1 v' (m + n) (xs ++ numCs L) ∧ w.grownBy w' v.ownBlock := by
  obtain ⟨i0, hi, hz0, hz1, hz2⟩ := info_parts info23
  rcases hsrc with ⟨rfl, rfl, rfl⟩ | ⟨ad, c, rfl, hn, hc⟩
  · exact ⟨v, w, run_append_owned_none w base 58 ty 50 i0 1 Try.underlying58 hi v m xs hown, by simpa [numCs] using hown, World.grownBy.refl w _⟩
  · obtain ⟨v', w', hr, h2, h3, _⟩ := run_append_own (P := Try.prog) w base 58 ty 50 i0 (.int .u32 0) 1 4 Try.underlying58 hi hz0 hz1 hz2 rfl (by decide) v m xs hown ad n c (numCs L) (by rw [numCs_len]; omega) (fun j u hj => by
      have hjl : j < L.length := by
        rcases Nat.lt_or_ge j L.length with h | h
        · exact h
        · rw [List.getElem?_eq_none (by rw [numCs_len]; exact h)] at hj; cases hj
      rw [numCs_at hjl] at hj
      injection hj with hj
      rw [← hj]
      exact hc j hjl) (fun u hu => by
      unfold numCs at hu
      obtain ⟨l, _, rfl⟩ := List.mem_map.1 hu
      rfl) (by unfold maxLen; omega) (by omega) hbase
    exact ⟨v', w', hr, h2, h3⟩
set_option maxRecDepth 100000 in
theorem wpList_append_nums {w : World} {ops : Array Oper} {rest : List Oper} {o : Oper} {a : Act} {Q : Exit → Act → World → Prop} (hgd : o.guard = none) (s x : Operand)
    (ho : o.op = .call { callee := .builtin .append, args := #[s, x], argTypes := #[58, 58] })
    (base : Nat) (v : Value) (m : Nat) (xs : List Value) (hs : a.eval s = v) (hown : w.ownsRow base 50 1 v m xs) (n : Nat) (L : List Nat) (hsrc : SrcN w (a.eval x) n L)
    (hmn : m + n ≤ 1000000) (hbase : base ≤ w.heap.size)
    (h : ∀ v' w', w'.ownsRow base 50 1 v' (m + n) (xs ++ numCs L) → w.grownBy w' v.ownBlock → wpList Try.prog ops Q rest (a.put o.dst v') w') : wpList Try.prog ops Q (o :: rest) a w := by
  obtain ⟨v', w', hr, h2, h3⟩ := run_append_nums o.type base v m xs hown (a.eval x) n L hsrc hmn hbase
  refine wpList_plain hgd fun K hK => ?_
  unfold Oper.wp
  simp [execOp, ho, resolve, invoke, builtin, hs, hr, Result.andThen]
  exact hK _ _ (h v' w' h2 h3)
set_option maxRecDepth 100000 in
theorem step_append_nums {w : World} {ops : Array Oper} {o : Oper} {a : Act} {K : Act → World → Prop} {Q : Exit → Act → World → Prop} {E : Prop} (hgd : o.guard = none) (s x : Operand)
    (ho : o.op = .call { callee := .builtin .append, args := #[s, x], argTypes := #[58, 58] })
    (base : Nat) (v : Value) (m : Nat) (xs : List Value) (hs : a.eval s = v) (hown : w.ownsRow base 50 1 v m xs) (xv : Value) (hx : a.eval x = xv) (n : Nat) (L : List Nat) (hsrc : SrcN w xv n L)
    (hmn : m + n ≤ 1000000) (hbase : base ≤ w.heap.size)
    (h : ∀ v' w', w'.ownsRow base 50 1 v' (m + n) (xs ++ numCs L) → w.grownBy w' v.ownBlock → K (a.put o.dst v') w') : if Region.wanted o (yielded ops a.tmps) = true then Oper.wp Try.prog o a w K Q else E := by
  have hw : Region.wanted o (yielded ops a.tmps) = true := by simp [Region.wanted, hgd]
  rw [if_pos hw]
  obtain ⟨v', w', hr, h2, h3⟩ := run_append_nums o.type base v m xs hown xv n L hsrc hmn hbase
  unfold Oper.wp
  simp [execOp, ho, resolve, invoke, builtin, hs, hx, hr, Result.andThen]
  exact h v' w' h2 h3
set_option maxRecDepth 100000 in
/-- make, with a length of 0. -/
theorem make0_nums (c : Nat) (hc : c ≤ 1000000) : ∃ M : Array Value, M.size = c ∧ ∀ W : World, (Instr.makeSlice 58 (.int .i64 0) (.int .i64 (c : Int))).run Try.prog W = .ok (.slice (some ⟨W.heap.size, 0, none⟩) 0 c) (W.alloc (.cells M 50)) := by
  obtain ⟨i0, hi, hz0, hz1, hz2⟩ := info_parts info23
  refine ⟨madeCells (.int .u32 0 : Value).cells (((c : Nat) : Int).toNat * i0.size), ?_, fun W => ?_⟩
  · rw [size_madeCells, hz1]; simp
  · have h := run_make (P := Try.prog) W 58 50 i0 (.int .u32 0) Try.underlying58 hi hz0 .i64 .i64 0 (c : Int) (by omega) (by omega) (by rw [hz2]; omega) (by omega)
    simpa using h
set_option maxRecDepth 100000 in
theorem made0_nums (W : World) (M : Array Value) (c base : Nat) (hM : M.size = c) (hc : c ≤ 1000000) (hb : base ≤ W.heap.size) : (W.alloc (.cells M 50)).ownsRow base 50 1 (.slice (some ⟨W.heap.size, 0, none⟩) 0 c) 0 [] :=
  World.ownsRow_made W M c hb (by unfold maxLen; omega) (by rw [hM, Nat.mul_one])
end Go.Proofs.Ytpmmjmnleoicjaa

/- The contracts of slices.Clone over texts and numbers. For lists of at most 10^5. -/
namespace Go.Proofs.Ytpmmjmnleoicjaa
open Go.RowKit Bytes Strs Nums

/-- A row of texts of the call's own came back, and nothing that stood has changed. -/
def RowS (w : World) (n : Nat) (L : List (List UInt8)) (e : Ending) (w' : World) : Prop := ∃ v, e = .returned v ∧ w'.ownsRow w.heap.size 9 1 v n (strCs L) ∧ Below w.heap.size w w'
def RowN (w : World) (n : Nat) (L : List Nat) (e : Ending) (w' : World) : Prop := ∃ v, e = .returned v ∧ w'.ownsRow w.heap.size 50 1 v n (numCs L) ∧ Below w.heap.size w w'

set_option maxHeartbeats 1000000 in
set_option maxRecDepth 100000 in
theorem cloneS_is (A : Option Addr) (c n : Nat) (L : List (List UInt8)) (w : World) (hr : RdS w w.heap.size A L) (hn0 : Hid (L.length = n)) (hn : n ≤ 100000) (hf : A = none → c = 0) :
    Calls Try.prog 145 #[.slice A n c] w (RowS w n L) := by
  have hsrc := strs_of hr hn0.out hf
  have HSRC := Lib.hid hsrc
  have heq : ∀ W : World, (binOp .eql 57 (.slice A n c) (.slice none 0 0)).run Try.prog W = .ok (.bool A.isNone) W := fun W => Lib.run_eql_slice_nil W 57 9 A n c 0 0 Try.underlying57
  clear hsrc hr
  cases A with
  | none =>
    have h0 : n = 0 ∧ L = [] := by
      rcases HSRC.out with ⟨_, h1, h2⟩ | ⟨ad, c', h, _⟩
      · exact ⟨h1, h2⟩
      · cases h
    obtain ⟨rfl, rfl⟩ := h0
    obtain rfl : c = 0 := hf rfl
    have heq0 : ∀ W : World, (binOp .eql 57 (.slice none 0 0) (.slice none 0 0)).run Try.prog W = .ok (.bool true) W := heq
    clear heq
    go_enter Try.func145, Try.ntmps145
    go_wp2_with fail
    go_ret
    exact ⟨_, rfl, World.ownsRow_nil _ _ _ _, Below.refl _ _⟩
  | some ad =>
    have heq0 : ∀ W : World, (binOp .eql 57 (.slice (some ad) n c) (.slice none 0 0)).run Try.prog W = .ok (.bool false) W := heq
    clear heq
    have hown : (w.alloc (.cells #[] 9)).ownsRow w.heap.size 9 1 (.slice (some ⟨w.heap.size, 0, none⟩) 0 0) 0 [] := World.ownsRow_made w #[] 0 (Nat.le_refl _) (by decide) rfl
    have HOWN := Lib.hid hown
    have HS2 := Lib.hid (strs_below HSRC.out ((Below.refl _ w).alloc (Nat.le_refl _) (.cells #[] 9)))
    have HB := Lib.hid ((Below.refl w.heap.size w).alloc (Nat.le_refl _) (.cells #[] 9))
    clear hown
    go_enter Try.func145, Try.ntmps145
    go_wp2_with (at_builtin; refine wpList_append_strs rfl _ _ rfl w.heap.size _ 0 [] rfl HOWN.out n L HS2.out (by omega) (by simp) ?_)
    intro v' w2 hown2 hgrow
    have HO := Lib.hid hown2
    have HB2 := Lib.hid (HB.out.grown hgrow HB.out.size (fun k hk => (HOWN.out.lt k hk).1))
    clear hown2 hgrow
    go_wp2_with fail
    go_ret
    exact ⟨_, rfl, HO.out, HB2.out⟩

set_option maxHeartbeats 1000000 in
set_option maxRecDepth 100000 in
theorem cloneN_is (A : Option Addr) (c n : Nat) (L : List Nat) (w : World) (hr : RdN w w.heap.size A L) (hn0 : Hid (L.length = n)) (hn : n ≤ 100000) (hf : A = none → c = 0) :
    Calls Try.prog 126 #[.slice A n c] w (RowN w n L) := by
  have hsrc := nums_of hr hn0.out hf
  have HSRC := Lib.hid hsrc
  have heq : ∀ W : World, (binOp .eql 58 (.slice A n c) (.slice none 0 0)).run Try.prog W = .ok (.bool A.isNone) W := fun W => Lib.run_eql_slice_nil W 58 50 A n c 0 0 Try.underlying58
  clear hsrc hr
  cases A with
  | none =>
    have h0 : n = 0 ∧ L = [] := by
      rcases HSRC.out with ⟨_, h1, h2⟩ | ⟨ad, c', h, _⟩
      · exact ⟨h1, h2⟩
      · cases h
    obtain ⟨rfl, rfl⟩ := h0
    obtain rfl : c = 0 := hf rfl
    have heq0 : ∀ W : World, (binOp .eql 58 (.slice none 0 0) (.slice none 0 0)).run Try.prog W = .ok (.bool true) W := heq
    clear heq
    go_enter Try.func126, Try.ntmps126
    go_wp2_with fail
    go_ret
    exact ⟨_, rfl, World.ownsRow_nil _ _ _ _, Below.refl _ _⟩
  | some ad =>
    have heq0 : ∀ W : World, (binOp .eql 58 (.slice (some ad) n c) (.slice none 0 0)).run Try.prog W = .ok (.bool false) W := heq
    clear heq
    have hown : (w.alloc (.cells #[] 50)).ownsRow w.heap.size 50 1 (.slice (some ⟨w.heap.size, 0, none⟩) 0 0) 0 [] := World.ownsRow_made w #[] 0 (Nat.le_refl _) (by decide) rfl
    have HOWN := Lib.hid hown
    have HS2 := Lib.hid (nums_below HSRC.out ((Below.refl _ w).alloc (Nat.le_refl _) (.cells #[] 50)))
    have HB := Lib.hid ((Below.refl w.heap.size w).alloc (Nat.le_refl _) (.cells #[] 50))
    clear hown
    go_enter Try.func126, Try.ntmps126
    go_wp2_with (at_builtin; refine wpList_append_nums rfl _ _ rfl w.heap.size _ 0 [] rfl HOWN.out n L HS2.out (by omega) (by simp) ?_)
    intro v' w2 hown2 hgrow
    have HO := Lib.hid hown2
    have HB2 := Lib.hid (HB.out.grown hgrow HB.out.size (fun k hk => (HOWN.out.lt k hk).1))
    clear hown2 hgrow
    go_wp2_with fail
    go_ret
    exact ⟨_, rfl, HO.out, HB2.out⟩
end Go.Proofs.Ytpmmjmnleoicjaa

/- The contract of rdata's copied: texts that are like these, in memory of the call's own. For lists of at most 10^5 texts of at most 10^6 bytes. -/
namespace Go.Proofs.Ytpmmjmnleoicjaa
open Go.RowKit Bytes Strs Nums

set_option maxRecDepth 100000 in
theorem setCell_same {w : World} {a : Addr} {v : Value} (h : w.cell? a = some v) : w.setCell a v = w := by
  have hh : (w.setCell a v).heap = w.heap := by
    apply Array.ext_getElem?
    intro i
    unfold World.setCell
    simp only [Array.getElem?_modify]
    by_cases hi : a.block = i
    · subst hi
      rw [if_pos rfl]
      unfold World.cell? at h
      cases hb : w.heap[a.block]? with
      | none => rfl
      | some o =>
        rw [hb] at h
        cases o with
        | cells c e fz =>
          simp only at h
          by_cases hs : a.spot.isSome = true
          · rw [if_pos hs] at h; cases h
          · rw [if_neg hs] at h
            simp only [Option.map_some, if_neg hs]
            refine congrArg (fun c => some (Obj.cells c e fz)) ?_
            apply Array.ext_getElem?
            intro j
            rw [Array.getElem?_setIfInBounds]
            by_cases hj : a.off = j
            · subst hj
              rw [if_pos rfl, h]
              have hl : a.off < c.size := by
                rcases Nat.lt_or_ge a.off c.size with hl | hl
                · exact hl
                · rw [Array.getElem?_eq_none hl] at h; cases h
              rw [if_pos hl]
            · rw [if_neg hj]
        | _ => rfl
    · rw [if_neg hi]
  have e : w.setCell a v = { w with heap := (w.setCell a v).heap } := rfl
  rw [e, hh]
set_option maxRecDepth 100000 in
/-- What a row of one's own looks like: nil, or a block that may be written. -/
theorem own_look {w : World} {base n : Nat} {e : TypeId} {v : Value} {xs : List Value} (h : w.ownsRow base e 1 v n xs) :
    (v = .slice none 0 0 ∧ n = 0) ∨ ∃ g cap, v = .slice (some ⟨g, 0, none⟩) n cap ∧ base ≤ g ∧ g < w.heap.size ∧ n ≤ cap ∧ (∀ k, w.frozen? ⟨g, k, none⟩ = false) ∧ ∀ k u, xs[k]? = some u → w.cell? ⟨g, k, none⟩ = some u := by
  rcases h.2 with ⟨hv, h0⟩ | ⟨g, cap, cur, hv, hb, hg, hcap, _⟩
  · exact Or.inl ⟨hv, h0⟩
  · refine Or.inr ⟨g, cap, hv, hb, (h.lt g (by rw [hv]; rfl)).2, hcap, fun k => Lib.frozen_of_heap hg k, fun k u hk => ?_⟩
    have := h.cells (g := g) (by rw [hv]; rfl) k u hk
    rwa [show ((⟨g, 0, none⟩ : Addr).add k) = ⟨g, k, none⟩ from by unfold Addr.add; split <;> simp_all] at this

set_option maxHeartbeats 2000000 in
set_option maxRecDepth 100000 in
theorem copied_is (A : Option Addr) (c n : Nat) (L : List (List UInt8)) (w : World) (hr : RdS w w.heap.size A L) (hn0 : Hid (L.length = n)) (hn : n ≤ 100000) (hf : A = none → c = 0) (hs : Hid (∀ j, j < L.length → (L.getD j []).length ≤ 1000000)) :
    Calls Try.prog 125 #[.slice A n c] w (RowS w n L) := by
  have HR := Lib.hid hr
  clear hr
  generalize hg : w.heap.size = g at *
  have G := Lib.hid hg
  clear hg
  go_enter Try.func125, Try.ntmps125
  go_wp2_with fail
  refine (cloneS_is A c n L _ (by rw [G.out]; exact HR.out) hn0 hn hf).mono ?_
  rintro e w1 ⟨v, rfl, hO, hB⟩
  rw [G.out] at hO hB
  have HO := Lib.hid hO
  clear hO
  go_wp2_with fail
  go_loopw [10, 4, 5] (fun i u4 u5 wr => ∃ j : Nat, j ≤ n ∧ i = .int .i64 j ∧ Hid (wr.ownsRow g 9 1 v n (strCs L)) ∧ Below g w wr) (fun i _ _ _ => n - (intOf i).toNat)
  case atStart => exact ⟨0, Nat.zero_le _, rfl, HO, hB⟩
  case round =>
    obtain ⟨j, hj, rfl, hOw, hBw⟩ := hrel
    by_cases hlt : j < n
    · have hkl : j < L.length := by rw [hn0.out]; exact hlt
      obtain ⟨ad, rfl, hab, hcell⟩ := (HR.out.on hBw (Nat.le_refl g)).get hkl
      have hy6 : (mk (L.getD j [])).size ≤ 1000000 := by rw [mk_size]; exact hs.out j hkl
      have hat := strCs_at hkl
      generalize mk (L.getD j []) = y at *
      have HAT := Lib.hid hat
      clear hkl hat
      go_wp2_with fail
      refine (clone_any y _ hy6).mono ?_
      rintro e w3 ⟨rfl, hB3⟩
      have hO3 := own_below hOw.out hB3
      have hBB := hBw.trans (hB3.mono (by have := hBw.size; have := G.out; omega))
      rcases own_look hO3 with ⟨_, h0⟩ | ⟨b, cap, rfl, hb, hbl, hcap, hfz, hcs⟩
      · omega
      · have hcell3 := hcs j _ HAT.out
        have hfz3 := hfz j
        have HSAME := Lib.hid (setCell_same hcell3)
        have HO3 := Lib.hid hO3
        have hji : (j : Int) < n := by omega
        clear hcs hfz hO3 hB3 hBw hOw hcell
        go_wp2_with fail
        rw [HSAME.out]
        go_roundw
        case rel => exact ⟨j + 1, by omega, by go_num, HO3, hBB⟩
        case measure => simp [intOf]; omega
    · go_wp2_with fail
      go_ret
      exact ⟨_, rfl, by rw [G.out]; exact hOw.out, by rw [G.out]; exact hBw⟩
end Go.Proofs.Ytpmmjmnleoicjaa

/- The contract of rdata's Copy. For records of at most 10^5 texts of at most 10^5 bytes. -/
namespace Go.Proofs.Ytpmmjmnleoicjaa
open Go.RowKit Bytes Strs Nums NameMath RecMath

set_option maxRecDepth 100000 in
theorem set_block {w : World} {g i : Nat} {cs ds : Array Value} {t : TypeId} {fz : Nat × Nat} {v : Value} (h : w.heap[g]? = some (.cells cs t fz)) (hd : cs.setIfInBounds i v = ds) : (w.setCell ⟨g, i, none⟩ v).heap[g]? = some (.cells ds t fz) := by
  subst hd
  simp [World.setCell, Array.getElem?_modify, h]
set_option maxRecDepth 100000 in
theorem other_block {w : World} {g j i : Nat} {v : Value} {o : Option Obj} (h : w.heap[g]? = o) (hne : g ≠ j) : (w.setCell ⟨j, i, none⟩ v).heap[g]? = o := by
  rw [Go.Deep.blk_setCell_other _ _ _ _ hne]; exact h
set_option maxRecDepth 100000 in
theorem own_set {w : World} {base n : Nat} {e : TypeId} {v u : Value} {xs : List Value} {p : Addr} (h : w.ownsRow base e 1 v n xs) (hp : p.block < base) : (w.setCell p u).ownsRow base e 1 v n xs := by
  refine h.kept (row := some p.block) ⟨rfl, rfl, rfl, by simp [World.setCell], fun k _ hne => ?_⟩ ?_
  · exact Go.Deep.blk_setCell_other _ _ _ _ (fun e => hne (by rw [e]))
  · refine Or.inr (fun e => ?_)
    have := (h.lt p.block e).1
    omega
set_option maxRecDepth 100000 in
theorem own_low {w : World} {base b n : Nat} {e : TypeId} {v : Value} {xs : List Value} (h : w.ownsRow base e 1 v n xs) (hb : b ≤ base) : w.ownsRow b e 1 v n xs := by
  refine ⟨h.1, ?_⟩
  rcases h.2 with h0 | ⟨g, cap, cur, hv, hg, r⟩
  · exact Or.inl h0
  · exact Or.inr ⟨g, cap, cur, hv, by omega, r⟩
/-- A record came back in memory of the call's own. -/
def RecRes (w : World) (R : Rec) (x : ByteArray) (k l t n1 n2 n3 : Nat) (e : Ending) (w' : World) : Prop :=
  ∃ B1 d1 B2 d2 B3 d3, e = .returned (.agg #[.string x, .int .u16 k, .int .u16 l, .int .u32 t, .slice B1 n1 d1, .slice B2 n2 d2, .slice B3 n3 d3]) ∧ w'.ownsRow w.heap.size 9 1 (.slice B1 n1 d1) n1 (strCs R.names) ∧ w'.ownsRow w.heap.size 50 1 (.slice B2 n2 d2) n2 (numCs R.nums) ∧ w'.ownsRow w.heap.size 9 1 (.slice B3 n3 d3) n3 (strCs R.texts) ∧ Below w.heap.size w w'

set_option maxHeartbeats 4000000 in
set_option maxRecDepth 100000 in
theorem copy_is (R : Rec) (x : ByteArray) (k l t : Nat) (A1 : Option Addr) (n1 c1 : Nat) (A2 : Option Addr) (n2 c2 : Nat) (A3 : Option Addr) (n3 c3 : Nat) (w : World) (hR : Hid (RecAt w w.heap.size R x k l t A1 n1 A2 n2 A3 n3)) (hS : Hid (Small R)) (hf1 : A1 = none → c1 = 0) (hf2 : A2 = none → c2 = 0) (hf3 : A3 = none → c3 = 0) :
    Calls Try.prog 110 #[.agg #[.string x, .int .u16 k, .int .u16 l, .int .u32 t, .slice A1 n1 c1, .slice A2 n2 c2, .slice A3 n3 c3]] w (RecRes w R x k l t n1 n2 n3) := by
  have hx := hR.out.size hS.out
  have hx6 : x.size ≤ 1000000 := by omega
  have hm1 := hR.out.m1 hS.out
  have hm2 := hR.out.m2 hS.out
  have hm3 := hR.out.m3 hS.out
  have HS1 : Hid (∀ j, j < R.names.length → (R.names.getD j []).length ≤ 1000000) := fun j hj => Nat.le_trans (hS.out.s1 j hj) (by decide)
  have HS3 : Hid (∀ j, j < R.texts.length → (R.texts.getD j []).length ≤ 1000000) := fun j hj => Nat.le_trans (hS.out.s3 j hj) (by decide)
  have HF1 := Lib.hid hf1
  have HF2 := Lib.hid hf2
  have HF3 := Lib.hid hf3
  clear hf1 hf2 hf3
  go_enter Try.func110, Try.ntmps110
  go_wp2_with fail
  have hG0 : ((w.alloc (.cells #[.string x, .int .u16 k, .int .u16 l, .int .u32 t, .slice A1 n1 c1, .slice A2 n2 c2, .slice A3 n3 c3] 60)).alloc (.cells #[.string ⟨#[]⟩, .int .u16 0, .int .u16 0, .int .u32 0, .slice none 0 0, .slice none 0 0, .slice none 0 0] 60)).heap[w.heap.size]? = some (.cells #[.string x, .int .u16 k, .int .u16 l, .int .u32 t, .slice A1 n1 c1, .slice A2 n2 c2, .slice A3 n3 c3] 60 (0, 0)) := (heap_alloc_old (w.alloc (.cells #[.string x, .int .u16 k, .int .u16 l, .int .u32 t, .slice A1 n1 c1, .slice A2 n2 c2, .slice A3 n3 c3] 60)) (.cells #[.string ⟨#[]⟩, .int .u16 0, .int .u16 0, .int .u32 0, .slice none 0 0, .slice none 0 0, .slice none 0 0] 60) (by simp)).trans (heap_alloc_new w _)
  have hH0 : ((w.alloc (.cells #[.string x, .int .u16 k, .int .u16 l, .int .u32 t, .slice A1 n1 c1, .slice A2 n2 c2, .slice A3 n3 c3] 60)).alloc (.cells #[.string ⟨#[]⟩, .int .u16 0, .int .u16 0, .int .u32 0, .slice none 0 0, .slice none 0 0, .slice none 0 0] 60)).heap[w.heap.size + 1]? = some (.cells #[.string ⟨#[]⟩, .int .u16 0, .int .u16 0, .int .u32 0, .slice none 0 0, .slice none 0 0, .slice none 0 0] 60 (0, 0)) := by
    have := heap_alloc_new (w.alloc (.cells #[.string x, .int .u16 k, .int .u16 l, .int .u32 t, .slice A1 n1 c1, .slice A2 n2 c2, .slice A3 n3 c3] 60)) (.cells #[.string ⟨#[]⟩, .int .u16 0, .int .u16 0, .int .u32 0, .slice none 0 0, .slice none 0 0, .slice none 0 0] 60)
    simpa using this
  have hB0 : Below w.heap.size w ((w.alloc (.cells #[.string x, .int .u16 k, .int .u16 l, .int .u32 t, .slice A1 n1 c1, .slice A2 n2 c2, .slice A3 n3 c3] 60)).alloc (.cells #[.string ⟨#[]⟩, .int .u16 0, .int .u16 0, .int .u32 0, .slice none 0 0, .slice none 0 0, .slice none 0 0] 60)) := ((Below.refl _ _).alloc (Nat.le_refl _) _).alloc (by simp) _
  have hs0 : w.heap.size + 2 ≤ ((w.alloc (.cells #[.string x, .int .u16 k, .int .u16 l, .int .u32 t, .slice A1 n1 c1, .slice A2 n2 c2, .slice A3 n3 c3] 60)).alloc (.cells #[.string ⟨#[]⟩, .int .u16 0, .int .u16 0, .int .u32 0, .slice none 0 0, .slice none 0 0, .slice none 0 0] 60)).heap.size := by simp
  have HR0 := Lib.hid (hR.out.on hB0 hB0.size)
  have HRg := Lib.hid hR.out
  generalize ((w.alloc (.cells #[.string x, .int .u16 k, .int .u16 l, .int .u32 t, .slice A1 n1 c1, .slice A2 n2 c2, .slice A3 n3 c3] 60)).alloc (.cells #[.string ⟨#[]⟩, .int .u16 0, .int .u16 0, .int .u32 0, .slice none 0 0, .slice none 0 0, .slice none 0 0] 60)) = w0 at *
  have HA := Lib.hid hG0
  have HH := Lib.hid hH0
  have HB := Lib.hid hB0
  clear hG0 hH0 hB0 hR
  generalize hgw : w.heap.size = g at *
  have HGW := Lib.hid hgw
  clear hgw
  refine (clone_any x _ hx6).mono ?_
  rintro e w1 ⟨rfl, hB1⟩
  have hs1 : g + 2 ≤ w1.heap.size := by have := hB1.size; omega
  have hs1b := hB1.size
  have hG1 : w1.heap[g]? = some (.cells #[.string x, .int .u16 k, .int .u16 l, .int .u32 t, .slice A1 n1 c1, .slice A2 n2 c2, .slice A3 n3 c3] 60 (0, 0)) := (hB1.block g (by omega)).trans HA.out
  have hH1 : w1.heap[g + 1]? = some (.cells #[.string ⟨#[]⟩, .int .u16 0, .int .u16 0, .int .u32 0, .slice none 0 0, .slice none 0 0, .slice none 0 0] 60 (0, 0)) := (hB1.block (g + 1) (by omega)).trans HH.out
  have HBw1 : Hid (Below g w w1) := HB.out.trans (hB1.mono (by omega))
  have HR1 := Lib.hid (HR0.out.on (hB1.mono (Nat.le_refl _)) hs1b)
  clear HA HH HB hB1 HR0
  have p0 : w1.cell? ⟨g, 0, none⟩ = some (.string x) := by rw [Lib.cell_of_heap hG1]; rfl
  have p4 : w1.cell? ⟨g, 4, none⟩ = some (.slice A1 n1 c1) := by rw [Lib.cell_of_heap hG1]; rfl
  have pz0 : w1.frozen? ⟨g, 0, none⟩ = false := Lib.frozen_of_heap hG1 0
  have HSAME := Lib.hid (setCell_same p0)
  have HG1 := Lib.hid hG1
  have HH1 := Lib.hid hH1
  clear hG1 hH1
  go_wp2_with fail
  rw [HSAME.out]
  clear p0 p4 pz0 HSAME
  ((with_reducible refine (copied_is A1 c1 n1 R.names w1 HR1.out.rd1 (Lib.hid HR1.out.len1) hm1 HF1.out HS1).mono ?_))
  rintro e y2 ⟨v, rfl, hO2, hBy2⟩
  obtain ⟨B1, d1, rfl, _, _, _⟩ := own_rds hO2 HR1.out.len1.symm
  have hsy2 := hBy2.size
  have hs1' := hs1
  have hg2 : g + 2 ≤ w1.heap.size := by omega
  have hGy2 : y2.heap[g]? = some (.cells #[.string x, .int .u16 k, .int .u16 l, .int .u32 t, .slice A1 n1 c1, .slice A2 n2 c2, .slice A3 n3 c3] 60 (0, 0)) := (hBy2.block g (by omega)).trans HG1.out
  have hHy2 : y2.heap[g + 1]? = some (.cells #[.string ⟨#[]⟩, .int .u16 0, .int .u16 0, .int .u32 0, .slice none 0 0, .slice none 0 0, .slice none 0 0] 60 (0, 0)) := (hBy2.block (g + 1) (by omega)).trans HH1.out
  have p4 : y2.cell? ⟨g, 4, none⟩ = some (.slice A1 n1 c1) := by rw [Lib.cell_of_heap hGy2]; rfl
  have p5 : y2.cell? ⟨g, 5, none⟩ = some (.slice A2 n2 c2) := by rw [Lib.cell_of_heap hGy2]; rfl
  have pz4 : y2.frozen? ⟨g, 4, none⟩ = false := Lib.frozen_of_heap hGy2 4
  have hG2 : (y2.setCell ⟨g, 4, none⟩ (.slice B1 n1 d1)).heap[g]? = some (.cells #[.string x, .int .u16 k, .int .u16 l, .int .u32 t, .slice B1 n1 d1, .slice A2 n2 c2, .slice A3 n3 c3] 60 (0, 0)) := set_block hGy2 (by rfl)
  have hH2 : (y2.setCell ⟨g, 4, none⟩ (.slice B1 n1 d1)).heap[g + 1]? = some (.cells #[.string ⟨#[]⟩, .int .u16 0, .int .u16 0, .int .u32 0, .slice none 0 0, .slice none 0 0, .slice none 0 0] 60 (0, 0)) := other_block hHy2 (by omega)
  have hs2 : g + 2 ≤ (y2.setCell ⟨g, 4, none⟩ (.slice B1 n1 d1)).heap.size := by rw [Go.Deep.nblk_setCell]; omega
  have hBw2 : Below g w (y2.setCell ⟨g, 4, none⟩ (.slice B1 n1 d1)) := (HBw1.out.trans (hBy2.mono (by omega))).setCell (p := ⟨g, 4, none⟩) (Nat.le_refl g) _
  have hOv2 : (y2.setCell ⟨g, 4, none⟩ (.slice B1 n1 d1)).ownsRow (g + 2) 9 1 (.slice B1 n1 d1) n1 (strCs R.names) := own_set (own_low hO2 hg2) (Nat.lt_succ_of_lt (Nat.lt_succ_self g))
  have hR2 : RecAt (y2.setCell ⟨g, 4, none⟩ (.slice B1 n1 d1)) (y2.setCell ⟨g, 4, none⟩ (.slice B1 n1 d1)).heap.size R x k l t A1 n1 A2 n2 A3 n3 := HRg.out.on hBw2 (by rw [Go.Deep.nblk_setCell]; omega)
  have HG2 := Lib.hid hG2
  have HH2 := Lib.hid hH2
  have HBw2 := Lib.hid hBw2
  have HR2 := Lib.hid hR2
  have HOv1 := Lib.hid hOv2
  clear hG2 hH2 hBw2 hR2 hOv2 hGy2 hHy2 hO2 hBy2 hg2  HG1 HH1 HBw1 HR1 hs1'
  go_wp2_with fail
  clear p4 p5 pz4 hsy2
  generalize y2.setCell ⟨g, 4, none⟩ (.slice B1 n1 d1) = w2 at *
  ((with_reducible refine (cloneN_is A2 c2 n2 R.nums w2 HR2.out.rd2 (Lib.hid HR2.out.len2) hm2 HF2.out).mono ?_))
  rintro e y3 ⟨v, rfl, hO3, hBy3⟩
  obtain ⟨B2, d2, rfl, _, _, _⟩ := own_rdn hO3 HR2.out.len2.symm
  have hsy3 := hBy3.size
  have hs2' := hs2
  have hg2 : g + 2 ≤ w2.heap.size := by omega
  have hGy3 : y3.heap[g]? = some (.cells #[.string x, .int .u16 k, .int .u16 l, .int .u32 t, .slice B1 n1 d1, .slice A2 n2 c2, .slice A3 n3 c3] 60 (0, 0)) := (hBy3.block g (by omega)).trans HG2.out
  have hHy3 : y3.heap[g + 1]? = some (.cells #[.string ⟨#[]⟩, .int .u16 0, .int .u16 0, .int .u32 0, .slice none 0 0, .slice none 0 0, .slice none 0 0] 60 (0, 0)) := (hBy3.block (g + 1) (by omega)).trans HH2.out
  have hqv1 := own_below HOv1.out hBy3
  have p5 : y3.cell? ⟨g, 5, none⟩ = some (.slice A2 n2 c2) := by rw [Lib.cell_of_heap hGy3]; rfl
  have p6 : y3.cell? ⟨g, 6, none⟩ = some (.slice A3 n3 c3) := by rw [Lib.cell_of_heap hGy3]; rfl
  have pz5 : y3.frozen? ⟨g, 5, none⟩ = false := Lib.frozen_of_heap hGy3 5
  have hG3 : (y3.setCell ⟨g, 5, none⟩ (.slice B2 n2 d2)).heap[g]? = some (.cells #[.string x, .int .u16 k, .int .u16 l, .int .u32 t, .slice B1 n1 d1, .slice B2 n2 d2, .slice A3 n3 c3] 60 (0, 0)) := set_block hGy3 (by rfl)
  have hH3 : (y3.setCell ⟨g, 5, none⟩ (.slice B2 n2 d2)).heap[g + 1]? = some (.cells #[.string ⟨#[]⟩, .int .u16 0, .int .u16 0, .int .u32 0, .slice none 0 0, .slice none 0 0, .slice none 0 0] 60 (0, 0)) := other_block hHy3 (by omega)
  have hs3 : g + 2 ≤ (y3.setCell ⟨g, 5, none⟩ (.slice B2 n2 d2)).heap.size := by rw [Go.Deep.nblk_setCell]; omega
  have hBw3 : Below g w (y3.setCell ⟨g, 5, none⟩ (.slice B2 n2 d2)) := (HBw2.out.trans (hBy3.mono (by omega))).setCell (p := ⟨g, 5, none⟩) (Nat.le_refl g) _
  have hOv3 : (y3.setCell ⟨g, 5, none⟩ (.slice B2 n2 d2)).ownsRow (g + 2) 50 1 (.slice B2 n2 d2) n2 (numCs R.nums) := own_set (own_low hO3 hg2) (Nat.lt_succ_of_lt (Nat.lt_succ_self g))
  have hqv1' : (y3.setCell ⟨g, 5, none⟩ (.slice B2 n2 d2)).ownsRow (g + 2) 9 1 (.slice B1 n1 d1) n1 (strCs R.names) := own_set hqv1 (Nat.lt_succ_of_lt (Nat.lt_succ_self g))
  have hR3 : RecAt (y3.setCell ⟨g, 5, none⟩ (.slice B2 n2 d2)) (y3.setCell ⟨g, 5, none⟩ (.slice B2 n2 d2)).heap.size R x k l t A1 n1 A2 n2 A3 n3 := HRg.out.on hBw3 (by rw [Go.Deep.nblk_setCell]; omega)
  have HG3 := Lib.hid hG3
  have HH3 := Lib.hid hH3
  have HBw3 := Lib.hid hBw3
  have HR3 := Lib.hid hR3
  have HOv2 := Lib.hid hOv3
  have HOv1 := Lib.hid hqv1'
  clear hG3 hH3 hBw3 hR3 hOv3 hGy3 hHy3 hO3 hBy3 hg2 hqv1 hqv1' HG2 HH2 HBw2 HR2 hs2'
  go_wp2_with fail
  clear p5 p6 pz5 hsy3
  generalize y3.setCell ⟨g, 5, none⟩ (.slice B2 n2 d2) = w3 at *
  ((with_reducible refine (copied_is A3 c3 n3 R.texts w3 HR3.out.rd3 (Lib.hid HR3.out.len3) hm3 HF3.out HS3).mono ?_))
  rintro e y4 ⟨v, rfl, hO4, hBy4⟩
  obtain ⟨B3, d3, rfl, _, _, _⟩ := own_rds hO4 HR3.out.len3.symm
  have hsy4 := hBy4.size
  have hs3' := hs3
  have hg2 : g + 2 ≤ w3.heap.size := by omega
  have hGy4 : y4.heap[g]? = some (.cells #[.string x, .int .u16 k, .int .u16 l, .int .u32 t, .slice B1 n1 d1, .slice B2 n2 d2, .slice A3 n3 c3] 60 (0, 0)) := (hBy4.block g (by omega)).trans HG3.out
  have hHy4 : y4.heap[g + 1]? = some (.cells #[.string ⟨#[]⟩, .int .u16 0, .int .u16 0, .int .u32 0, .slice none 0 0, .slice none 0 0, .slice none 0 0] 60 (0, 0)) := (hBy4.block (g + 1) (by omega)).trans HH3.out
  have hqv1 := own_below HOv1.out hBy4
  have hqv2 := own_below HOv2.out hBy4
  have p0 : y4.cell? ⟨g, 0, none⟩ = some (.string x) := by rw [Lib.cell_of_heap hGy4]; rfl
  have p1 : y4.cell? ⟨g, 1, none⟩ = some (.int .u16 k) := by rw [Lib.cell_of_heap hGy4]; rfl
  have p2 : y4.cell? ⟨g, 2, none⟩ = some (.int .u16 l) := by rw [Lib.cell_of_heap hGy4]; rfl
  have p3 : y4.cell? ⟨g, 3, none⟩ = some (.int .u32 t) := by rw [Lib.cell_of_heap hGy4]; rfl
  have p4 : y4.cell? ⟨g, 4, none⟩ = some (.slice B1 n1 d1) := by rw [Lib.cell_of_heap hGy4]; rfl
  have p5 : y4.cell? ⟨g, 5, none⟩ = some (.slice B2 n2 d2) := by rw [Lib.cell_of_heap hGy4]; rfl
  have p6 : y4.cell? ⟨g, 6, none⟩ = some (.slice A3 n3 c3) := by rw [Lib.cell_of_heap hGy4]; rfl
  have pz6 : y4.frozen? ⟨g, 6, none⟩ = false := Lib.frozen_of_heap hGy4 6
  have r0 : y4.cell? ⟨g + 1, 0, none⟩ = some (.string ⟨#[]⟩) := by rw [Lib.cell_of_heap hHy4]; rfl
  have r1 : y4.cell? ⟨g + 1, 1, none⟩ = some (.int .u16 0) := by rw [Lib.cell_of_heap hHy4]; rfl
  have r2 : y4.cell? ⟨g + 1, 2, none⟩ = some (.int .u16 0) := by rw [Lib.cell_of_heap hHy4]; rfl
  have r3 : y4.cell? ⟨g + 1, 3, none⟩ = some (.int .u32 0) := by rw [Lib.cell_of_heap hHy4]; rfl
  have r4 : y4.cell? ⟨g + 1, 4, none⟩ = some (.slice none 0 0) := by rw [Lib.cell_of_heap hHy4]; rfl
  have r5 : y4.cell? ⟨g + 1, 5, none⟩ = some (.slice none 0 0) := by rw [Lib.cell_of_heap hHy4]; rfl
  have r6 : y4.cell? ⟨g + 1, 6, none⟩ = some (.slice none 0 0) := by rw [Lib.cell_of_heap hHy4]; rfl
  have rz0 : y4.frozen? ⟨g + 1, 0, none⟩ = false := Lib.frozen_of_heap hHy4 0
  have rz1 : y4.frozen? ⟨g + 1, 1, none⟩ = false := Lib.frozen_of_heap hHy4 1
  have rz2 : y4.frozen? ⟨g + 1, 2, none⟩ = false := Lib.frozen_of_heap hHy4 2
  have rz3 : y4.frozen? ⟨g + 1, 3, none⟩ = false := Lib.frozen_of_heap hHy4 3
  have rz4 : y4.frozen? ⟨g + 1, 4, none⟩ = false := Lib.frozen_of_heap hHy4 4
  have rz5 : y4.frozen? ⟨g + 1, 5, none⟩ = false := Lib.frozen_of_heap hHy4 5
  have rz6 : y4.frozen? ⟨g + 1, 6, none⟩ = false := Lib.frozen_of_heap hHy4 6
  have hG4 : (y4.setCell ⟨g, 6, none⟩ (.slice B3 n3 d3)).heap[g]? = some (.cells #[.string x, .int .u16 k, .int .u16 l, .int .u32 t, .slice B1 n1 d1, .slice B2 n2 d2, .slice B3 n3 d3] 60 (0, 0)) := set_block hGy4 (by rfl)
  have hH4 : (y4.setCell ⟨g, 6, none⟩ (.slice B3 n3 d3)).heap[g + 1]? = some (.cells #[.string ⟨#[]⟩, .int .u16 0, .int .u16 0, .int .u32 0, .slice none 0 0, .slice none 0 0, .slice none 0 0] 60 (0, 0)) := other_block hHy4 (by omega)
  have hs4 : g + 2 ≤ (y4.setCell ⟨g, 6, none⟩ (.slice B3 n3 d3)).heap.size := by rw [Go.Deep.nblk_setCell]; omega
  have hBw4 : Below g w (y4.setCell ⟨g, 6, none⟩ (.slice B3 n3 d3)) := (HBw3.out.trans (hBy4.mono (by omega))).setCell (p := ⟨g, 6, none⟩) (Nat.le_refl g) _
  have hOv4 : (y4.setCell ⟨g, 6, none⟩ (.slice B3 n3 d3)).ownsRow (g + 2) 9 1 (.slice B3 n3 d3) n3 (strCs R.texts) := own_set (own_low hO4 hg2) (Nat.lt_succ_of_lt (Nat.lt_succ_self g))
  have hqv1' : (y4.setCell ⟨g, 6, none⟩ (.slice B3 n3 d3)).ownsRow (g + 2) 9 1 (.slice B1 n1 d1) n1 (strCs R.names) := own_set hqv1 (Nat.lt_succ_of_lt (Nat.lt_succ_self g))
  have hqv2' : (y4.setCell ⟨g, 6, none⟩ (.slice B3 n3 d3)).ownsRow (g + 2) 50 1 (.slice B2 n2 d2) n2 (numCs R.nums) := own_set hqv2 (Nat.lt_succ_of_lt (Nat.lt_succ_self g))
  have hR4 : RecAt (y4.setCell ⟨g, 6, none⟩ (.slice B3 n3 d3)) (y4.setCell ⟨g, 6, none⟩ (.slice B3 n3 d3)).heap.size R x k l t A1 n1 A2 n2 A3 n3 := HRg.out.on hBw4 (by rw [Go.Deep.nblk_setCell]; omega)
  have HG4 := Lib.hid hG4
  have HH4 := Lib.hid hH4
  have HBw4 := Lib.hid hBw4
  have HR4 := Lib.hid hR4
  have HOv3 := Lib.hid hOv4
  have HOv1 := Lib.hid hqv1'
  have HOv2 := Lib.hid hqv2'
  have HBw4 := Lib.hid hBw4
  have HO1 := Lib.hid hqv1'
  have HO2 := Lib.hid hqv2'
  have HO3 := Lib.hid hOv4
  have HH4 := Lib.hid hH4
  clear hBw4 hqv1' hqv2' hOv4 hG4 hH4 hR4 hGy4 hHy4 hO4 hBy4 hqv1 hqv2 HG3 HH3 HBw3 HR3 hs3'
  go_wp2_with fail
  have hF : ((((((((y4.setCell ⟨g, 6, none⟩ (.slice B3 n3 d3)).setCell ⟨g + 1, 0, none⟩ (.string x)).setCell ⟨g + 1, 1, none⟩ (.int .u16 k)).setCell ⟨g + 1, 2, none⟩ (.int .u16 l)).setCell ⟨g + 1, 3, none⟩ (.int .u32 t)).setCell ⟨g + 1, 4, none⟩ (.slice B1 n1 d1)).setCell ⟨g + 1, 5, none⟩ (.slice B2 n2 d2)).setCell ⟨g + 1, 6, none⟩ (.slice B3 n3 d3)).heap[g + 1]? = some (.cells #[.string x, .int .u16 k, .int .u16 l, .int .u32 t, .slice B1 n1 d1, .slice B2 n2 d2, .slice B3 n3 d3] 60 (0, 0)) := (set_block (i := 6) (v := .slice B3 n3 d3) (set_block (i := 5) (v := .slice B2 n2 d2) (set_block (i := 4) (v := .slice B1 n1 d1) (set_block (i := 3) (v := .int .u32 t) (set_block (i := 2) (v := .int .u16 l) (set_block (i := 1) (v := .int .u16 k) (set_block (i := 0) (v := .string x) HH4.out rfl) rfl) rfl) rfl) rfl) rfl) rfl)
  have hU1 : ((((((((y4.setCell ⟨g, 6, none⟩ (.slice B3 n3 d3)).setCell ⟨g + 1, 0, none⟩ (.string x)).setCell ⟨g + 1, 1, none⟩ (.int .u16 k)).setCell ⟨g + 1, 2, none⟩ (.int .u16 l)).setCell ⟨g + 1, 3, none⟩ (.int .u32 t)).setCell ⟨g + 1, 4, none⟩ (.slice B1 n1 d1)).setCell ⟨g + 1, 5, none⟩ (.slice B2 n2 d2)).setCell ⟨g + 1, 6, none⟩ (.slice B3 n3 d3)).ownsRow (g + 2) 9 1 (.slice B1 n1 d1) n1 (strCs R.names) := (own_set (p := ⟨g + 1, 6, none⟩) (u := .slice B3 n3 d3) (own_set (p := ⟨g + 1, 5, none⟩) (u := .slice B2 n2 d2) (own_set (p := ⟨g + 1, 4, none⟩) (u := .slice B1 n1 d1) (own_set (p := ⟨g + 1, 3, none⟩) (u := .int .u32 t) (own_set (p := ⟨g + 1, 2, none⟩) (u := .int .u16 l) (own_set (p := ⟨g + 1, 1, none⟩) (u := .int .u16 k) (own_set (p := ⟨g + 1, 0, none⟩) (u := .string x) HO1.out (Nat.lt_succ_self (g + 1))) (Nat.lt_succ_self (g + 1))) (Nat.lt_succ_self (g + 1))) (Nat.lt_succ_self (g + 1))) (Nat.lt_succ_self (g + 1))) (Nat.lt_succ_self (g + 1))) (Nat.lt_succ_self (g + 1)))
  have hU2 : ((((((((y4.setCell ⟨g, 6, none⟩ (.slice B3 n3 d3)).setCell ⟨g + 1, 0, none⟩ (.string x)).setCell ⟨g + 1, 1, none⟩ (.int .u16 k)).setCell ⟨g + 1, 2, none⟩ (.int .u16 l)).setCell ⟨g + 1, 3, none⟩ (.int .u32 t)).setCell ⟨g + 1, 4, none⟩ (.slice B1 n1 d1)).setCell ⟨g + 1, 5, none⟩ (.slice B2 n2 d2)).setCell ⟨g + 1, 6, none⟩ (.slice B3 n3 d3)).ownsRow (g + 2) 50 1 (.slice B2 n2 d2) n2 (numCs R.nums) := (own_set (p := ⟨g + 1, 6, none⟩) (u := .slice B3 n3 d3) (own_set (p := ⟨g + 1, 5, none⟩) (u := .slice B2 n2 d2) (own_set (p := ⟨g + 1, 4, none⟩) (u := .slice B1 n1 d1) (own_set (p := ⟨g + 1, 3, none⟩) (u := .int .u32 t) (own_set (p := ⟨g + 1, 2, none⟩) (u := .int .u16 l) (own_set (p := ⟨g + 1, 1, none⟩) (u := .int .u16 k) (own_set (p := ⟨g + 1, 0, none⟩) (u := .string x) HO2.out (Nat.lt_succ_self (g + 1))) (Nat.lt_succ_self (g + 1))) (Nat.lt_succ_self (g + 1))) (Nat.lt_succ_self (g + 1))) (Nat.lt_succ_self (g + 1))) (Nat.lt_succ_self (g + 1))) (Nat.lt_succ_self (g + 1)))
  have hU3 : ((((((((y4.setCell ⟨g, 6, none⟩ (.slice B3 n3 d3)).setCell ⟨g + 1, 0, none⟩ (.string x)).setCell ⟨g + 1, 1, none⟩ (.int .u16 k)).setCell ⟨g + 1, 2, none⟩ (.int .u16 l)).setCell ⟨g + 1, 3, none⟩ (.int .u32 t)).setCell ⟨g + 1, 4, none⟩ (.slice B1 n1 d1)).setCell ⟨g + 1, 5, none⟩ (.slice B2 n2 d2)).setCell ⟨g + 1, 6, none⟩ (.slice B3 n3 d3)).ownsRow (g + 2) 9 1 (.slice B3 n3 d3) n3 (strCs R.texts) := (own_set (p := ⟨g + 1, 6, none⟩) (u := .slice B3 n3 d3) (own_set (p := ⟨g + 1, 5, none⟩) (u := .slice B2 n2 d2) (own_set (p := ⟨g + 1, 4, none⟩) (u := .slice B1 n1 d1) (own_set (p := ⟨g + 1, 3, none⟩) (u := .int .u32 t) (own_set (p := ⟨g + 1, 2, none⟩) (u := .int .u16 l) (own_set (p := ⟨g + 1, 1, none⟩) (u := .int .u16 k) (own_set (p := ⟨g + 1, 0, none⟩) (u := .string x) HO3.out (Nat.lt_succ_self (g + 1))) (Nat.lt_succ_self (g + 1))) (Nat.lt_succ_self (g + 1))) (Nat.lt_succ_self (g + 1))) (Nat.lt_succ_self (g + 1))) (Nat.lt_succ_self (g + 1))) (Nat.lt_succ_self (g + 1)))
  have hBL : Below g w ((((((((y4.setCell ⟨g, 6, none⟩ (.slice B3 n3 d3)).setCell ⟨g + 1, 0, none⟩ (.string x)).setCell ⟨g + 1, 1, none⟩ (.int .u16 k)).setCell ⟨g + 1, 2, none⟩ (.int .u16 l)).setCell ⟨g + 1, 3, none⟩ (.int .u32 t)).setCell ⟨g + 1, 4, none⟩ (.slice B1 n1 d1)).setCell ⟨g + 1, 5, none⟩ (.slice B2 n2 d2)).setCell ⟨g + 1, 6, none⟩ (.slice B3 n3 d3)) := (((((((HBw4.out.setCell (p := ⟨g + 1, 0, none⟩) (Nat.le_succ g) (.string x)).setCell (p := ⟨g + 1, 1, none⟩) (Nat.le_succ g) (.int .u16 k)).setCell (p := ⟨g + 1, 2, none⟩) (Nat.le_succ g) (.int .u16 l)).setCell (p := ⟨g + 1, 3, none⟩) (Nat.le_succ g) (.int .u32 t)).setCell (p := ⟨g + 1, 4, none⟩) (Nat.le_succ g) (.slice B1 n1 d1)).setCell (p := ⟨g + 1, 5, none⟩) (Nat.le_succ g) (.slice B2 n2 d2)).setCell (p := ⟨g + 1, 6, none⟩) (Nat.le_succ g) (.slice B3 n3 d3))
  generalize ((((((((y4.setCell ⟨g, 6, none⟩ (.slice B3 n3 d3)).setCell ⟨g + 1, 0, none⟩ (.string x)).setCell ⟨g + 1, 1, none⟩ (.int .u16 k)).setCell ⟨g + 1, 2, none⟩ (.int .u16 l)).setCell ⟨g + 1, 3, none⟩ (.int .u32 t)).setCell ⟨g + 1, 4, none⟩ (.slice B1 n1 d1)).setCell ⟨g + 1, 5, none⟩ (.slice B2 n2 d2)).setCell ⟨g + 1, 6, none⟩ (.slice B3 n3 d3)) = w8 at *
  have f0 : w8.cell? ⟨(g + 1), 0, none⟩ = some (.string x) := by rw [Lib.cell_of_heap hF]; rfl
  have f1 : w8.cell? ⟨(g + 1), 1, none⟩ = some (.int .u16 k) := by rw [Lib.cell_of_heap hF]; rfl
  have f2 : w8.cell? ⟨(g + 1), 2, none⟩ = some (.int .u16 l) := by rw [Lib.cell_of_heap hF]; rfl
  have f3 : w8.cell? ⟨(g + 1), 3, none⟩ = some (.int .u32 t) := by rw [Lib.cell_of_heap hF]; rfl
  have f4 : w8.cell? ⟨(g + 1), 4, none⟩ = some (.slice B1 n1 d1) := by rw [Lib.cell_of_heap hF]; rfl
  have f5 : w8.cell? ⟨(g + 1), 5, none⟩ = some (.slice B2 n2 d2) := by rw [Lib.cell_of_heap hF]; rfl
  have f6 : w8.cell? ⟨(g + 1), 6, none⟩ = some (.slice B3 n3 d3) := by rw [Lib.cell_of_heap hF]; rfl
  exact bodyPost_ret (v := .agg #[.string x, .int .u16 k, .int .u16 l, .int .u32 t, .slice B1 n1 d1, .slice B2 n2 d2, .slice B3 n3 d3]) (by simp [results, Try.results110, go_sem, f0, f1, f2, f3, f4, f5, f6]) rfl ⟨_, _, _, _, _, _, rfl, by rw [HGW.out]; exact own_low hU1 (by omega), by rw [HGW.out]; exact own_low hU2 (by omega), by rw [HGW.out]; exact own_low hU3 (by omega), by rw [HGW.out]; exact hBL⟩
end Go.Proofs.Ytpmmjmnleoicjaa

/- The contract of query's aged: copies of records behind some seconds. For lists of at most 1000 records that can be gone through. -/
namespace Go.Proofs.Ytpmmjmnleoicjaa
open Go.RowKit Bytes Strs Nums NameMath MsgMath RecMath QrMath
set_option linter.unusedVariables false

/-- Lists that are nil have no room. -/
def ZNil (Z : List RecZ) : Prop := ∀ z ∈ Z, ∀ n c, (z.2.1 = .slice none n c → c = 0) ∧ (z.2.2.1 = .slice none n c → c = 0) ∧ (z.2.2.2 = .slice none n c → c = 0)
theorem ZNil.app {Z Z' : List RecZ} (h : ZNil Z) (h' : ZNil Z') : ZNil (Z ++ Z') := fun z hz => by
  rcases List.mem_append.1 hz with hz | hz
  · exact h z hz
  · exact h' z hz
theorem own_nil {w : World} {base size n m c : Nat} {e : TypeId} {v : Value} {xs : List Value} (h : w.ownsRow base e size v n xs) (hv : v = .slice none m c) : c = 0 := by
  rcases h.2 with ⟨e1, _⟩ | ⟨b, cap, cur, e1, _⟩
  · rw [e1] at hv; injection hv with _ _ h3; exact h3.symm
  · rw [e1] at hv; injection hv with h1; cases h1
theorem zNil_own {w : World} {g : Nat} {Z : List RecZ} (h : ∀ z ∈ Z, RecIn w g z.1 z.2.1 z.2.2.1 z.2.2.2) : ZNil Z := fun z hz n c => ⟨own_nil (h z hz).o1, own_nil (h z hz).o2, own_nil (h z hz).o3⟩
/-- A record out of a row, its lists' places told. -/
theorem recs_getZ {w : World} {B : Nat} {A : Option Addr} {Z : List RecZ} (h : CellsAt w B A (recCs Z)) (hz : ZAt w B Z) (hn : ZNil Z) {k : Nat} (hk : k < Z.length) : ∃ b off A1 c1 A2 c2 A3 c3, A = some ⟨b, off, none⟩ ∧ b < B ∧ (A1 = none → c1 = 0) ∧ (A2 = none → c2 = 0) ∧ (A3 = none → c3 = 0) ∧ RecAt w B (Z[k]).1 (mk (Z[k]).1.name) (Z[k]).1.kind (Z[k]).1.cls (Z[k]).1.ttl A1 (Z[k]).1.names.length A2 (Z[k]).1.nums.length A3 (Z[k]).1.texts.length ∧
    w.cell? ⟨b, off + k * 7, none⟩ = some (.string (mk (Z[k]).1.name)) ∧ w.cell? ⟨b, off + k * 7 + 1, none⟩ = some (.int .u16 (Z[k]).1.kind) ∧ w.cell? ⟨b, off + k * 7 + 2, none⟩ = some (.int .u16 (Z[k]).1.cls) ∧ w.cell? ⟨b, off + k * 7 + 3, none⟩ = some (.int .u32 (Z[k]).1.ttl) ∧ w.cell? ⟨b, off + k * 7 + 4, none⟩ = some (.slice A1 (Z[k]).1.names.length c1) ∧ w.cell? ⟨b, off + k * 7 + 5, none⟩ = some (.slice A2 (Z[k]).1.nums.length c2) ∧ w.cell? ⟨b, off + k * 7 + 6, none⟩ = some (.slice A3 (Z[k]).1.texts.length c3) := by
  have e := fun j (hj : j < 7) => recCs_at (Z := Z) hk hj
  obtain ⟨A1, c1, A2, c2, A3, c3, e1, e2, e3, hat⟩ := hz (Z[k]) (List.getElem_mem hk)
  have hnn := hn (Z[k]) (List.getElem_mem hk)
  obtain ⟨b, off, rfl, hl, hc⟩ := h.get (e 0 (by decide))
  exact ⟨b, off, A1, c1, A2, c2, A3, c3, rfl, hl, fun a => (hnn _ c1).1 (by rw [e1, a]), fun a => (hnn _ c2).2.1 (by rw [e2, a]), fun a => (hnn _ c3).2.2 (by rw [e3, a]), hat, hc (k * 7) _ (e 0 (by decide)), hc (k * 7 + 1) _ (e 1 (by decide)), hc (k * 7 + 2) _ (e 2 (by decide)), hc (k * 7 + 3) _ (e 3 (by decide)), hc (k * 7 + 4) _ ((e 4 (by decide)).trans (by rw [e1]; rfl)), hc (k * 7 + 5) _ ((e 5 (by decide)).trans (by rw [e2]; rfl)), hc (k * 7 + 6) _ ((e 6 (by decide)).trans (by rw [e3]; rfl))⟩
theorem own_far1 {w : World} {base b i n k : Nat} {e : TypeId} {v u : Value} {xs : List Value} (h : w.ownsRow base e k v n xs) (hb : b < base) : (w.setCell ⟨b, i, none⟩ u).ownsRow base e k v n xs := by
  obtain ⟨hl, h | ⟨bb, cap, cur, e1, hbb, hh, h2⟩⟩ := h
  · exact ⟨hl, .inl h⟩
  · exact ⟨hl, .inr ⟨bb, cap, cur, e1, hbb, set_far hh (by omega), h2⟩⟩
theorem RecIn.far1 {w : World} {g b i : Nat} {R : Rec} {v1 v2 v3 u : Value} (h : RecIn w g R v1 v2 v3) (hb : b < g) : RecIn (w.setCell ⟨b, i, none⟩ u) g R v1 v2 v3 := ⟨own_far1 h.o1 hb, own_far1 h.o2 hb, own_far1 h.o3 hb⟩
theorem RecIn.far7 {w : World} {g b : Nat} {R : Rec} {v1 v2 v3 u0 u1 u2 u3 u4 u5 u6 : Value} (h : RecIn w g R v1 v2 v3) (hb : b < g) : RecIn (((((((w.setCell ⟨b, 0, none⟩ u0).setCell ⟨b, 1, none⟩ u1).setCell ⟨b, 2, none⟩ u2).setCell ⟨b, 3, none⟩ u3).setCell ⟨b, 4, none⟩ u4).setCell ⟨b, 5, none⟩ u5).setCell ⟨b, 6, none⟩ u6) g R v1 v2 v3 :=
  ((((((h.far1 hb).far1 hb).far1 hb).far1 hb).far1 hb).far1 hb).far1 hb
theorem size_seven (w : World) (g : Nat) (v0 v1 v2 v3 v4 v5 v6 : Value) : (((((((w.setCell ⟨g, 0, none⟩ v0).setCell ⟨g, 1, none⟩ v1).setCell ⟨g, 2, none⟩ v2).setCell ⟨g, 3, none⟩ v3).setCell ⟨g, 4, none⟩ v4).setCell ⟨g, 5, none⟩ v5).setCell ⟨g, 6, none⟩ v6).heap.size = w.heap.size := by
  rw [Go.Deep.nblk_setCell, size_six]
theorem age_in {w : World} {g s : Nat} {R : Rec} {v1 v2 v3 : Value} (h : RecIn w g R v1 v2 v3) : RecIn w g (ageR s R) v1 v2 v3 := by
  unfold ageR
  split
  · exact h
  · exact ⟨h.o1, h.o2, h.o3⟩
theorem age_take {L : List Rec} {s j : Nat} (hj : j < L.length) : (L.take (j + 1)).map (ageR s) = (L.take j).map (ageR s) ++ [ageR s (L[j])] := by
  rw [List.take_succ_eq_append_getElem hj, List.map_append]
  rfl
set_option maxHeartbeats 8000000 in
set_option maxRecDepth 100000 in
theorem aged_is (A : Option Addr) (c n s B : Nat) (Z : List RecZ) (L : List Rec) (w : World) (hc : CellsAt w B A (recCs Z)) (hz : ZAt w B Z) (hN : Hid (ZNil Z)) (hL : Hid (Z.map (·.1) = L)) (hn0 : Hid (Z.length = n)) (hn : n ≤ 1000) (hB : B ≤ w.heap.size) (hs : s ≤ 18446744073709551615) (hsm : Hid (∀ R ∈ L, Small R ∧ R.kind ≤ 65535 ∧ R.cls ≤ 65535 ∧ R.ttl ≤ 4294967295)) :
    Calls Try.prog 78 #[.slice A n c, .int .u64 s] w fun e w' => ∃ v, e = .returned v ∧ RowRecs w' w.heap.size v (L.map (ageR s)) ∧ Below w.heap.size w w' := by
  obtain ⟨i0, hi, hz0, hz1, hz2⟩ := info_parts info_rec
  have HI := Lib.hid hi
  have HZ0 := Lib.hid hz0
  have HZ1 := Lib.hid hz1
  have HZ2 := Lib.hid hz2
  have HC := Lib.hid hc
  have HZ := Lib.hid hz
  obtain ⟨g, hg⟩ : ∃ g, w.heap.size = g := ⟨_, rfl⟩
  rw [hg] at hB ⊢
  have HG := Lib.hid hg
  have HLN : Hid (L.length = n) := by show _ = _; rw [← hL.out, List.length_map]; exact hn0.out
  clear hc hz hi hz0 hz1 hz2
  go_enter Try.func78, Try.ntmps78
  go_wp2_with (at_make; refine wpList_make_own _ rfl _ _ 24 rfl g 60 i0 (.agg #[.string ⟨#[]⟩, .int .u16 0, .int .u16 0, .int .u32 0, .slice none 0 0, .slice none 0 0, .slice none 0 0]) 7 Try.underlying24 HI.out HZ0.out HZ1.out _ _ _ n rfl rfl (by omega) ?CMa ?CMb ?CMc ?_)
  case CMa => rw [HZ2.out]; omega
  case CMb => unfold maxLen; omega
  case CMc => omega
  intro w1 hown1 hgrow1
  have HO1 : Hid (RowRecs w1 g (.slice (some ⟨g, 0, none⟩) 0 n) ((L.take 0).map (ageR s))) := ⟨[], rfl, hown1, fun z hz => by cases hz⟩
  have HV1 : Hid (Below g w w1) := (Below.refl g w).grown hgrow1 (by omega) (fun k hk => by cases hk)
  clear hown1 hgrow1
  generalize (Value.slice (some ⟨g, 0, none⟩) 0 n) = u0 at HO1 ⊢
  clear hg
  go_wp2_with fail
  go_loopw [5, 13] (fun u v wr => ∃ (j : Nat) (o : Value), j ≤ n ∧ u = o ∧ v = .int .i64 j ∧ Hid (RowRecs wr g o ((L.take j).map (ageR s))) ∧ Hid (Below g w wr)) (fun _ v _ => n - (intOf v).toNat)
  case atStart => exact ⟨0, u0, Nat.zero_le _, rfl, rfl, HO1, HV1⟩
  case round =>
    obtain ⟨j, o, hj, rfl, rfl, hO, hV⟩ := hrel
    have HS : Hid (g ≤ wr.heap.size) := by have h := hV.out.size; rw [HG.out] at h; exact h
    obtain ⟨oA, om, oc, rfl⟩ := hO.out.slice
    by_cases hlt : j < n
    · have hkz : j < Z.length := by rw [hn0.out]; exact hlt
      obtain ⟨b, off, A1, c1, A2, c2, A3, c3, rfl, hbr, f1, f2, f3, hat, p0, p1, p2, p3, p4, p5, p6⟩ := recs_getZ (HC.out.on (hV.out.mono hB) (Nat.le_refl _)) (HZ.out.on (hV.out.mono hB) (Nat.le_refl _)) hN.out hkz
      obtain ⟨hkL, hkR⟩ := zmap hL.out hkz
      have hsr := hsm.out _ (List.getElem_mem hkL)
      have htk := age_take (s := s) hkL
      rw [hkR] at hsr htk
      obtain ⟨R, hR⟩ : ∃ R, (Z[j]'hkz).1 = R := ⟨_, rfl⟩
      rw [hR] at p0 p1 p2 p3 p4 p5 p6 hat hsr htk
      have HTK := Lib.hid htk
      obtain ⟨x, hx⟩ : ∃ x, mk R.name = x := ⟨_, rfl⟩
      obtain ⟨rk, hrk⟩ : ∃ k, R.kind = k := ⟨_, rfl⟩
      obtain ⟨rc, hrc⟩ : ∃ k, R.cls = k := ⟨_, rfl⟩
      obtain ⟨rt, hrt⟩ : ∃ k, R.ttl = k := ⟨_, rfl⟩
      obtain ⟨l1, hl1⟩ : ∃ k, R.names.length = k := ⟨_, rfl⟩
      obtain ⟨l2, hl2⟩ : ∃ k, R.nums.length = k := ⟨_, rfl⟩
      obtain ⟨l3, hl3⟩ : ∃ k, R.texts.length = k := ⟨_, rfl⟩
      rw [hx] at p0
      rw [hrk] at p1
      rw [hrc] at p2
      rw [hrt] at p3
      rw [hl1] at p4
      rw [hl2] at p5
      rw [hl3] at p6
      rw [hx, hrk, hrc, hrt, hl1, hl2, hl3] at hat
      have hrt2 := hsr.2.2.2
      rw [hrt] at hrt2
      have HSR := Lib.hid hsr.1
      obtain ⟨dd, hdd⟩ : ∃ d, wr.heap.size = d := ⟨_, rfl⟩
      have gd : g ≤ dd := by rw [← hdd]; exact HS.out
      obtain ⟨w2, hw2⟩ : ∃ v, wr.alloc (.cells #[.string x, .int .u16 rk, .int .u16 rc, .int .u32 rt, .slice A1 l1 c1, .slice A2 l2 c2, .slice A3 l3 c3] 60) = v := ⟨_, rfl⟩
      have n2 : Below dd wr w2 := by rw [← hw2, ← hdd]; exact (Below.refl _ _).alloc (Nat.le_refl _) _
      have hy : w2.heap[dd]? = some (.cells #[.string x, .int .u16 rk, .int .u16 rc, .int .u32 rt, .slice A1 l1 c1, .slice A2 l2 c2, .slice A3 l3 c3] 60 (0, 0)) := by rw [← hw2, ← hdd]; exact heap_alloc_new wr _
      have S2 : Hid (w2.heap.size = dd + 1) := by show _ = _; rw [← hw2, ← hdd]; simp
      have NB2 := Lib.hid n2
      have HY := Lib.hid hy
      have V2 : Hid (Below g w w2) := hV.out.trans (n2.mono gd)
      have HCP := Lib.hid (copy_is R x rk rc rt A1 l1 c1 A2 l2 c2 A3 l3 c3 w2 (hat.on (n2.mono (by omega)) (by have := S2.out; omega)) HSR f1 f2 f3)
      have HAG1 : Hid (∀ v1 v2 v3, recV R v1 v2 v3 = [.string x, .int .u16 rk, .int .u16 rc, .int .u32 rt, v1, v2, v3]) := fun v1 v2 v3 => by unfold recV; rw [hx, hrk, hrc, hrt]
      have HAG2 : Hid (rk = 41 → ageR s R = R) := fun h => by unfold ageR; rw [if_pos (hrk.trans h)]
      have HAG3 : Hid (rk ≠ 41 → ∀ v1 v2 v3, recV (ageR s R) v1 v2 v3 = [.string x, .int .u16 rk, .int .u16 rc, .int .u32 ((rt - s : Nat) : Int), v1, v2, v3]) := fun h v1 v2 v3 => by unfold ageR; rw [if_neg (by rw [hrk]; exact h)]; unfold recV; simp only [hx, hrk, hrc, hrt]
      have HL1 := Lib.hid hl1
      have HL2 := Lib.hid hl2
      have HL3 := Lib.hid hl3
      have HW2 := Lib.hid hw2
      clear hx hrk hrc hrt hl1 hl2 hl3 hat hsr htk hR hkR hkL hkz n2 hy hw2 f1 f2 f3
      go_upto_region 5 with fail
      rw [HW2.out]
      clear hdd p0 p1 p2 p3 p4 p5 p6
      have y0 := cell_of_row _ _ 0 _ _ _ HY.out
      have y1 := cell_of_row _ _ 1 _ _ _ HY.out
      have y2 := cell_of_row _ _ 2 _ _ _ HY.out
      have y3 := cell_of_row _ _ 3 _ _ _ HY.out
      have y4 := cell_of_row _ _ 4 _ _ _ HY.out
      have y5 := cell_of_row _ _ 5 _ _ _ HY.out
      have y6 := cell_of_row _ _ 6 _ _ _ HY.out
      go_wp2_with fail
      refine HCP.out.mono ?_
      rintro e w3 ⟨B1, d1, B2, d2, B3, d3, rfl, o1, o2, o3, n3⟩
      have hy3 := (n3.block dd (by rw [S2.out]; omega)).trans HY.out
      rw [S2.out] at o1 o2 o3 n3
      have HIN3 : Hid (RecIn w3 (dd + 1) R (.slice B1 l1 d1) (.slice B2 l2 d2) (.slice B3 l3 d3)) := ⟨by rw [HL1.out]; exact o1, by rw [HL2.out]; exact o2, by rw [HL3.out]; exact o3⟩
      obtain ⟨w4, hw4⟩ : ∃ v, (((((((w3.setCell ⟨dd, 0, none⟩ (.string x)).setCell ⟨dd, 1, none⟩ (.int .u16 rk)).setCell ⟨dd, 2, none⟩ (.int .u16 rc)).setCell ⟨dd, 3, none⟩ (.int .u32 rt)).setCell ⟨dd, 4, none⟩ (.slice B1 l1 d1)).setCell ⟨dd, 5, none⟩ (.slice B2 l2 d2)).setCell ⟨dd, 6, none⟩ (.slice B3 l3 d3)) = v := ⟨_, rfl⟩
      have hy4 : w4.heap[dd]? = some (.cells #[.string x, .int .u16 rk, .int .u16 rc, .int .u32 rt, .slice B1 l1 d1, .slice B2 l2 d2, .slice B3 l3 d3] 60 (0, 0)) := by rw [← hw4]; exact set7_at hy3
      have HIN4 : Hid (RecIn w4 (dd + 1) R (.slice B1 l1 d1) (.slice B2 l2 d2) (.slice B3 l3 d3)) := by rw [← hw4]; exact HIN3.out.far7 (Nat.lt_succ_self _)
      have NB4 : Hid (Below wr.heap.size wr w4) := by
        have h : Below dd wr w4 := by rw [← hw4]; exact below_set7 (NB2.out.trans (n3.mono (Nat.le_succ _))) (Nat.le_refl _) _ _ _ _ _ _ _
        have e : w2.heap.size = wr.heap.size + 1 := by rw [← HW2.out]; simp
        have : wr.heap.size = dd := by have := S2.out; omega
        rw [this]; exact h
      have S4 : Hid (dd + 1 ≤ w4.heap.size) := by show _ ≤ _; rw [← hw4, size_seven]; have := n3.size; rw [S2.out] at this; exact this
      have V4 : Hid (Below g w w4) := hV.out.trans (NB4.out.mono HS.out)
      have ys := hy3
      have q0 := cell_of_row _ _ 0 _ _ _ hy3
      have q1 := cell_of_row _ _ 1 _ _ _ hy3
      have q2 := cell_of_row _ _ 2 _ _ _ hy3
      have q3 := cell_of_row _ _ 3 _ _ _ hy3
      have q4 := cell_of_row _ _ 4 _ _ _ hy3
      have q5 := cell_of_row _ _ 5 _ _ _ hy3
      have q6 := cell_of_row _ _ 6 _ _ _ hy3
      have qf : ∀ i, w3.frozen? ⟨dd, i, none⟩ = false := Lib.frozen_of_heap hy3
      have HY4 := Lib.hid hy4
      have HW4 := Lib.hid hw4
      clear n3 o1 o2 o3 hy3 hy4 hw4 ys y0 y1 y2 y3 y4 y5 y6 HCP
      go_upto_region 6 with fail
      rw [HW4.out]
      clear q0 q1 q2 q3 q4 q5 q6 qf
      have y0 := cell_of_row _ _ 0 _ _ _ HY4.out
      have y1 := cell_of_row _ _ 1 _ _ _ HY4.out
      have y2 := cell_of_row _ _ 2 _ _ _ HY4.out
      have y3 := cell_of_row _ _ 3 _ _ _ HY4.out
      have y4 := cell_of_row _ _ 4 _ _ _ HY4.out
      have y5 := cell_of_row _ _ 5 _ _ _ HY4.out
      have y6 := cell_of_row _ _ 6 _ _ _ HY4.out
      by_cases h41 : rk = 41
      · have f41 : ((rk : Int) != 41) = false := bne_eq_false_iff_eq.2 (by omega)
        have HAG0 : Hid (recV (ageR s R) (.slice B1 l1 d1) (.slice B2 l2 d2) (.slice B3 l3 d3) = [.string x, .int .u16 rk, .int .u16 rc, .int .u32 rt, .slice B1 l1 d1, .slice B2 l2 d2, .slice B3 l3 d3]) := by show _ = _; rw [HAG2.out h41]; exact HAG1.out _ _ _
        clear h41
        have hO4 := hO.out.below NB4.out
        obtain ⟨Z1, hZ1, hZ2, hZ3⟩ := hO4
        have hlen1 : ((L.take j).map (ageR s)).length = j := by rw [List.length_map, List.length_take, HLN.out]; omega
        rw [hlen1] at hZ2
        have hO1 := Lib.hid hZ2
        have hOW := Lib.hid (hO.out.below NB4.out)
        have hIL := Lib.hid (age_in (s := s) (HIN4.out.low (show g ≤ dd + 1 by omega)))
        have HZA := Lib.hid hZ1
        have HZB := Lib.hid hZ3
        have HLN1 := Lib.hid hlen1
        have HAGE : Hid (recV (ageR s R) (.slice B1 l1 d1) (.slice B2 l2 d2) (.slice B3 l3 d3) = [.string x, .int .u16 rk, .int .u16 rc, .int .u32 rt, .slice B1 l1 d1, .slice B2 l2 d2, .slice B3 l3 d3]) := HAG0.out
        clear hZ1 hZ2 hZ3 hlen1
        go_wp2_with (at_builtin; refine wpList_append_own _ rfl _ _ 24 rfl g 60 i0 (.agg #[.string ⟨#[]⟩, .int .u16 0, .int .u16 0, .int .u32 0, .slice none 0 0, .slice none 0 0, .slice none 0 0]) 7 96 Try.underlying24 HI.out HZ0.out HZ1.out HZ2.out rfl (by decide) _ _ _ rfl (hO1.out.alloc _) ⟨w4.heap.size, 0, none⟩ 1 1 (recV (ageR s R) (.slice B1 l1 d1) (.slice B2 l2 d2) (.slice B3 l3 d3)) rfl rfl ?CAa ?CAb ?CAc ?CAd ?CAe ?_)
        case CAa =>
          intro j u hj
          rw [HAGE.out] at hj
          match j, hj with
          | 0, hj => simp at hj; subst hj; simp [Addr.add]
          | 1, hj => simp at hj; subst hj; simp [Addr.add]
          | 2, hj => simp at hj; subst hj; simp [Addr.add]
          | 3, hj => simp at hj; subst hj; simp [Addr.add]
          | 4, hj => simp at hj; subst hj; simp [Addr.add]
          | 5, hj => simp at hj; subst hj; simp [Addr.add]
          | 6, hj => simp at hj; subst hj; simp [Addr.add]
        case CAb =>
          intro u hu
          rw [HAGE.out] at hu
          have e1 := own_one hIL.out.o1
          have e2 := own_one hIL.out.o2
          have e3 := own_one hIL.out.o3
          simp at hu
          rcases hu with rfl | rfl | rfl | rfl | rfl | rfl | rfl <;> first | rfl | assumption
        case CAc => unfold maxLen; omega
        case CAd => omega
        case CAe => have := S4.out; simp; omega
        intro v' w9 hown hgrow _
        have E1 : Hid (RowRecs w9 g v' ((L.take (j + 1)).map (ageR s))) := by
          show RowRecs _ _ _ _
          rw [HTK.out]
          refine hOW.out.snoc hIL.out Z1 HZA.out (by rw [HLN1.out]; exact hO1.out) HZB.out ?_ hgrow
          rw [HLN1.out]
          exact hown
        have E3 : Hid (Below g w w9) := (V4.out.alloc (by have := S4.out; omega) _).grown hgrow (by have := S4.out; simp; omega) (fun k hk => (hO1.out.lt k hk).1)
        clear hown hgrow
        go_wp2_with fail
        go_roundw
        case rel => exact ⟨j + 1, v', by omega, rfl, by go_num, E1, E3⟩
        case measure => simp [intOf]; omega
      · have f41 : ((rk : Int) != 41) = true := bne_iff_ne.2 (by omega)
        have HAG0 := Lib.hid (HAG3.out h41 (.slice B1 l1 d1) (.slice B2 l2 d2) (.slice B3 l3 d3))
        obtain ⟨T, hT⟩ : ∃ T, rt - s = T := ⟨_, rfl⟩
        rw [hT] at HAG0
        obtain ⟨m, hm⟩ : ∃ m, min s rt = m := ⟨_, rfl⟩
        have hm1 : min (s : Int) (rt : Int) = (m : Int) := by omega
        have hmb : m ≤ rt := by omega
        have hmT : (rt : Int) - (m : Int) = (T : Int) := by omega
        have hTb : T ≤ 4294967295 := by omega
        have yf : ∀ i, w4.frozen? ⟨dd, i, none⟩ = false := Lib.frozen_of_heap HY4.out
        clear h41 hT hm
        obtain ⟨w5, hw5⟩ : ∃ v, w4.setCell ⟨dd, 3, none⟩ (.int .u32 T) = v := ⟨_, rfl⟩
        have hy5 : w5.heap[dd]? = some (.cells #[.string x, .int .u16 rk, .int .u16 rc, .int .u32 T, .slice B1 l1 d1, .slice B2 l2 d2, .slice B3 l3 d3] 60 (0, 0)) := by rw [← hw5]; exact set_at HY4.out (by simp)
        have HIN5 : Hid (RecIn w5 (dd + 1) R (.slice B1 l1 d1) (.slice B2 l2 d2) (.slice B3 l3 d3)) := by rw [← hw5]; exact HIN4.out.far1 (Nat.lt_succ_self _)
        have hde : wr.heap.size = dd := by
          have e : w2.heap.size = wr.heap.size + 1 := by rw [← HW2.out]; simp
          have := S2.out
          omega
        have NB5 : Hid (Below wr.heap.size wr w5) := by rw [← hw5]; exact NB4.out.setCell (p := ⟨dd, 3, none⟩) (by rw [hde]; exact Nat.le_refl _) _
        have S5 : Hid (dd + 1 ≤ w5.heap.size) := by show _ ≤ _; rw [← hw5, Go.Deep.nblk_setCell]; exact S4.out
        have V5 : Hid (Below g w w5) := hV.out.trans (NB5.out.mono HS.out)
        have HW5 := Lib.hid hw5
        have HY5 := Lib.hid hy5
        clear hw5 hy5 hde
        go_upto_region 8 with fail
        rw [HW5.out]
        clear y0 y1 y2 y3 y4 y5 y6 yf
        have y0 := cell_of_row _ _ 0 _ _ _ HY5.out
        have y1 := cell_of_row _ _ 1 _ _ _ HY5.out
        have y2 := cell_of_row _ _ 2 _ _ _ HY5.out
        have y3 := cell_of_row _ _ 3 _ _ _ HY5.out
        have y4 := cell_of_row _ _ 4 _ _ _ HY5.out
        have y5 := cell_of_row _ _ 5 _ _ _ HY5.out
        have y6 := cell_of_row _ _ 6 _ _ _ HY5.out
        have hO4 := hO.out.below NB5.out
        obtain ⟨Z1, hZ1, hZ2, hZ3⟩ := hO4
        have hlen1 : ((L.take j).map (ageR s)).length = j := by rw [List.length_map, List.length_take, HLN.out]; omega
        rw [hlen1] at hZ2
        have hO1 := Lib.hid hZ2
        have hOW := Lib.hid (hO.out.below NB5.out)
        have hIL := Lib.hid (age_in (s := s) (HIN5.out.low (show g ≤ dd + 1 by omega)))
        have HZA := Lib.hid hZ1
        have HZB := Lib.hid hZ3
        have HLN1 := Lib.hid hlen1
        have HAGE : Hid (recV (ageR s R) (.slice B1 l1 d1) (.slice B2 l2 d2) (.slice B3 l3 d3) = [.string x, .int .u16 rk, .int .u16 rc, .int .u32 T, .slice B1 l1 d1, .slice B2 l2 d2, .slice B3 l3 d3]) := HAG0.out
        clear hZ1 hZ2 hZ3 hlen1
        go_wp2_with (at_builtin; refine wpList_append_own _ rfl _ _ 24 rfl g 60 i0 (.agg #[.string ⟨#[]⟩, .int .u16 0, .int .u16 0, .int .u32 0, .slice none 0 0, .slice none 0 0, .slice none 0 0]) 7 96 Try.underlying24 HI.out HZ0.out HZ1.out HZ2.out rfl (by decide) _ _ _ rfl (hO1.out.alloc _) ⟨w5.heap.size, 0, none⟩ 1 1 (recV (ageR s R) (.slice B1 l1 d1) (.slice B2 l2 d2) (.slice B3 l3 d3)) rfl rfl ?CAa ?CAb ?CAc ?CAd ?CAe ?_)
        case CAa =>
          intro j u hj
          rw [HAGE.out] at hj
          match j, hj with
          | 0, hj => simp at hj; subst hj; simp [Addr.add]
          | 1, hj => simp at hj; subst hj; simp [Addr.add]
          | 2, hj => simp at hj; subst hj; simp [Addr.add]
          | 3, hj => simp at hj; subst hj; simp [Addr.add]
          | 4, hj => simp at hj; subst hj; simp [Addr.add]
          | 5, hj => simp at hj; subst hj; simp [Addr.add]
          | 6, hj => simp at hj; subst hj; simp [Addr.add]
        case CAb =>
          intro u hu
          rw [HAGE.out] at hu
          have e1 := own_one hIL.out.o1
          have e2 := own_one hIL.out.o2
          have e3 := own_one hIL.out.o3
          simp at hu
          rcases hu with rfl | rfl | rfl | rfl | rfl | rfl | rfl <;> first | rfl | assumption
        case CAc => unfold maxLen; omega
        case CAd => omega
        case CAe => have := S5.out; simp; omega
        intro v' w9 hown hgrow _
        have E1 : Hid (RowRecs w9 g v' ((L.take (j + 1)).map (ageR s))) := by
          show RowRecs _ _ _ _
          rw [HTK.out]
          refine hOW.out.snoc hIL.out Z1 HZA.out (by rw [HLN1.out]; exact hO1.out) HZB.out ?_ hgrow
          rw [HLN1.out]
          exact hown
        have E3 : Hid (Below g w w9) := (V5.out.alloc (by have := S5.out; omega) _).grown hgrow (by have := S5.out; simp; omega) (fun k hk => (hO1.out.lt k hk).1)
        clear hown hgrow
        go_wp2_with fail
        go_roundw
        case rel => exact ⟨j + 1, v', by omega, rfl, by go_num, E1, E3⟩
        case measure => simp [intOf]; omega
    · have hjn : ¬ ((j : Int) < (n : Int)) := by omega
      have hO2 := hO.out
      rw [List.take_of_length_le (by rw [HLN.out]; omega)] at hO2
      have HO2 := Lib.hid hO2
      clear hlt hO2 hO
      go_wp2_with fail
      go_ret
      exact ⟨_, rfl, HO2.out, hV.out⟩
end Go.Proofs.Ytpmmjmnleoicjaa

/- The contract of query's Age. For messages that can be gone through, whose questions' names are no longer than a text may be that is copied. -/
namespace Go.Proofs.Ytpmmjmnleoicjaa
open Go.RowKit Bytes Strs Nums NameMath MsgMath RecMath WrMath QrMath

theorem RowRecs.far1 {w : World} {g b i : Nat} {v u : Value} {L : List Rec} (h : RowRecs w g v L) (hb : b < g) : RowRecs (w.setCell ⟨b, i, none⟩ u) g v L := by
  obtain ⟨Z, h1, h2, h3⟩ := h
  exact ⟨Z, h1, own_far1 h2 hb, fun z hz => (h3 z hz).far1 hb⟩
theorem RowRecs.far6 {w : World} {g b : Nat} {v v0 v1 v2 v3 v4 v5 : Value} {L : List Rec} (h : RowRecs w g v L) (hb : b < g) : RowRecs ((((((w.setCell ⟨b, 0, none⟩ v0).setCell ⟨b, 1, none⟩ v1).setCell ⟨b, 2, none⟩ v2).setCell ⟨b, 3, none⟩ v3).setCell ⟨b, 4, none⟩ v4).setCell ⟨b, 5, none⟩ v5) g v L :=
  (((((h.far1 hb).far1 hb).far1 hb).far1 hb).far1 hb).far1 hb
def AgeRet (s : Nat) (M : Msg) (w : World) (e : Ending) (w' : World) : Prop :=
  ∃ vq va vn vx, e = .returned (.agg #[.int .u16 M.id, .int .u16 M.flags, vq, va, vn, vx]) ∧ MsgRows w' w.heap.size (ageM s M) vq va vn vx ∧ Below w.heap.size w w'
set_option maxHeartbeats 8000000 in
set_option maxRecDepth 100000 in
theorem age_w (s : Nat) (M : Msg) (Aq Aa An Ax : Option Addr) (nq na nn nx cq ca cn cx B : Nat) (Za Zn Zx : List RecZ) (w : World) (hv : Hid (MsgV w B M Aq Aa An Ax nq na nn nx ca cn cx Za Zn Zx)) (hB : B ≤ w.heap.size) (hf : Hid (QM M)) (hs : s ≤ 18446744073709551615) (hm : Hid (∀ q ∈ M.qs, q.name.length ≤ cloneMost)) (hna : Hid (ZNil Za)) (hnn : Hid (ZNil Zn)) (hnx : Hid (ZNil Zx)) :
    Calls Try.prog 33 #[.agg (msgA M.id M.flags Aq nq cq Aa na ca An nn cn Ax nx cx), .int .u64 s] w (AgeRet s M w) := by
  obtain ⟨id, hid⟩ : ∃ n, M.id = n := ⟨_, rfl⟩
  obtain ⟨fl, hfl⟩ : ∃ n, M.flags = n := ⟨_, rfl⟩
  obtain ⟨g, hg⟩ : ∃ g, w.heap.size = g := ⟨_, rfl⟩
  have HG := Lib.hid hg
  unfold AgeRet
  rw [hid, hfl, hg]
  rw [hg] at hB
  obtain ⟨wa, hwa⟩ : ∃ wa, w.alloc (.cells (msgA id fl Aq nq cq Aa na ca An nn cn Ax nx cx) 26) = wa := ⟨_, rfl⟩
  obtain ⟨wb, hwb⟩ : ∃ wb, wa.alloc (.cells #[.int .u16 0, .int .u16 0, .slice none 0 0, .slice none 0 0, .slice none 0 0, .slice none 0 0] 26) = wb := ⟨_, rfl⟩
  have hsa : wa.heap.size = g + 1 := by rw [← hwa, ← hg]; simp
  have hsb : wb.heap.size = g + 2 := by rw [← hwb]; simp [hsa]
  have hba : Below g w wa := by rw [← hwa, ← hg]; exact (Below.refl _ _).alloc (Nat.le_refl _) _
  have HBB : Hid (Below g w wb) := by rw [← hwb]; exact hba.alloc (by omega) _
  have hx0 : wa.heap[g]? = some (.cells (msgA id fl Aq nq cq Aa na ca An nn cn Ax nx cx) 26 (0, 0)) := by rw [← hwa, ← hg]; exact heap_alloc_new w _
  have hx : wb.heap[g]? = some (.cells (msgA id fl Aq nq cq Aa na ca An nn cn Ax nx cx) 26 (0, 0)) := by rw [← hwb]; exact old_at hx0
  have hy : wb.heap[g + 1]? = some (.cells #[.int .u16 0, .int .u16 0, .slice none 0 0, .slice none 0 0, .slice none 0 0, .slice none 0 0] 26 (0, 0)) := by rw [← hwb, ← hsa]; exact heap_alloc_new wa _
  have HX := Lib.hid hx
  have HY := Lib.hid hy
  have k2 := cell_of_row _ _ 2 _ _ _ hx
  have HCO := Lib.hid (copiedQ_is Aq cq nq M.qs wb (hv.out.at_.q.on (HBB.out.mono hB) (by omega)) hv.out.eq (by have := hf.out.few.nq; have := hv.out.eq; omega) hm)
  have hrows := hv.out.rows
  have hfew := hf.out.few
  have hbd : na ≤ 1000 ∧ nn ≤ 1000 ∧ nx ≤ 1000 := ⟨by rw [← hv.out.ea]; exact hfew.na, by rw [← hv.out.en]; exact hfew.nn, by rw [← hv.out.ex]; exact hfew.nx⟩
  have HRS := Lib.hid hf.out.recs
  have HAGA := Lib.hid (fun W (h : Below g w W) (hW : g ≤ W.heap.size) => aged_is Aa ca na s B Za M.an W (hrows.1.1.on (h.mono hB) (Nat.le_refl _)) ((hv.out.at_.za).on (h.mono hB) (Nat.le_refl _)) hna hv.out.at_.ea hrows.1.2.1 (by omega) (by omega) hs (fun R hR => HRS.out R (by unfold recsM; exact List.mem_append_left _ (List.mem_append_left _ hR))))
  have HAGN := Lib.hid (fun W (h : Below g w W) (hW : g ≤ W.heap.size) => aged_is An cn nn s B Zn M.ns W (hrows.2.1.1.on (h.mono hB) (Nat.le_refl _)) ((hv.out.at_.zn).on (h.mono hB) (Nat.le_refl _)) hnn hv.out.at_.en hrows.2.1.2.1 (by omega) (by omega) hs (fun R hR => HRS.out R (by unfold recsM; exact List.mem_append_left _ (List.mem_append_right _ hR))))
  have HAGX := Lib.hid (fun W (h : Below g w W) (hW : g ≤ W.heap.size) => aged_is Ax cx nx s B Zx M.ad W (hrows.2.2.1.on (h.mono hB) (Nat.le_refl _)) ((hv.out.at_.zx).on (h.mono hB) (Nat.le_refl _)) hnx hv.out.at_.ex hrows.2.2.2.1 (by omega) (by omega) hs (fun R hR => HRS.out R (by unfold recsM; exact List.mem_append_right _ hR)))
  clear hba hx0 hx hy hrows hfew
  go_enter Try.func33, Try.ntmps33
  go_wp2_with fail
  refine HCO.out.mono ?_
  rintro e w1 ⟨vq, rfl, hO, n1⟩
  rw [hsb] at hO n1
  obtain ⟨qA, qc, rfl, _⟩ := cells_own hO
  have s1 : g + 2 ≤ w1.heap.size := by have h := n1.size; rw [hsb] at h; exact h
  have hx1 := (n1.block g (by omega)).trans HX.out
  have hy1 := (n1.block (g + 1) (by omega)).trans HY.out
  rw [hv.out.eq] at hO ⊢
  have HQE := Lib.hid hv.out.eq
  obtain ⟨w2, hw2⟩ : ∃ v, w1.setCell ⟨g, 2, none⟩ (.slice qA nq qc) = v := ⟨_, rfl⟩
  have hx2 : w2.heap[g]? = some (.cells #[.int .u16 id, .int .u16 fl, .slice qA nq qc, .slice Aa na ca, .slice An nn cn, .slice Ax nx cx] 26 (0, 0)) := by rw [← hw2]; exact set_at hx1 (by simp)
  have hy2 := by have h := set_far (i := 2) (v := .slice qA nq qc) hy1 (show g + 1 ≠ g by omega); rw [hw2] at h; exact h
  have s2 : w2.heap.size = w1.heap.size := by rw [← hw2, Go.Deep.nblk_setCell]
  have HO2 : Hid (w2.ownsRow (g + 2) 62 3 (.slice qA nq qc) nq (qnCs M.qs)) := by rw [← hw2]; exact own_far1 hO (by omega)
  have V2 : Hid (Below g w w2) := by rw [← hw2]; exact (HBB.out.trans (n1.mono (by omega))).setCell (p := ⟨g, 2, none⟩) (Nat.le_refl _) _
  obtain ⟨d, hd⟩ : ∃ d, w2.heap.size = d := ⟨_, rfl⟩
  obtain ⟨w3, hw3⟩ : ∃ v, w2.alloc (.cells #[.pointer (some ⟨g, 3, none⟩), .pointer (some ⟨g, 4, none⟩), .pointer (some ⟨g, 5, none⟩)] 107) = v := ⟨_, rfl⟩
  have n3 : Below d w2 w3 := by rw [← hw3, ← hd]; exact (Below.refl _ _).alloc (Nat.le_refl _) _
  have gd : g + 2 ≤ d := by omega
  have HD3 : Hid (w3.heap[d]? = some (.cells #[.pointer (some ⟨g, 3, none⟩), .pointer (some ⟨g, 4, none⟩), .pointer (some ⟨g, 5, none⟩)] 107 (0, 0))) := by rw [← hw3, ← hd]; exact heap_alloc_new w2 _
  have S3 : Hid (w3.heap.size = d + 1) := by show _ = _; rw [← hw3, ← hd]; simp
  have HX3 : Hid (w3.heap[g]? = some (.cells #[.int .u16 id, .int .u16 fl, .slice qA nq qc, .slice Aa na ca, .slice An nn cn, .slice Ax nx cx] 26 (0, 0))) := (n3.block g (by omega)).trans hx2
  have HY3 := Lib.hid ((n3.block (g + 1) (by omega)).trans hy2)
  have HO3 : Hid (w3.ownsRow (g + 2) 62 3 (.slice qA nq qc) nq (qnCs M.qs)) := row_below HO2.out (by rw [hd]; exact n3)
  have V3 : Hid (Below g w w3) := V2.out.trans (n3.mono (by omega))
  have HW2 := Lib.hid hw2
  have HW3 := Lib.hid hw3
  have k2 := cell_of_row _ _ 2 _ _ _ hx1
  have kf : ∀ i, w1.frozen? ⟨g, i, none⟩ = false := Lib.frozen_of_heap hx1
  clear hO n1 hx1 hy1 hx2 hy2 s2 n3 hw2 hw3 hwa hwb hsa hsb HO2 hv
  go_upto_region 2 with fail
  rw [HW2.out]
  clear k2 kf
  go_upto_region 3 with fail
  rw [HW3.out]
  clear hd
  go_wp2_with fail
  go_loopw [16] (fun v wr => ∃ (j : Nat) (va vn vx : Value), j ≤ 3 ∧ v = .int .i64 j ∧ Hid (wr.heap[g]? = some (.cells #[.int .u16 id, .int .u16 fl, .slice qA nq qc, va, vn, vx] 26 (0, 0))) ∧ Hid (if 0 < j then RowRecs wr (g + 2) va (M.an.map (ageR s)) else va = .slice Aa na ca) ∧ Hid (if 1 < j then RowRecs wr (g + 2) vn (M.ns.map (ageR s)) else vn = .slice An nn cn) ∧ Hid (if 2 < j then RowRecs wr (g + 2) vx (M.ad.map (ageR s)) else vx = .slice Ax nx cx) ∧ Hid (wr.heap[d]? = some (.cells #[.pointer (some ⟨g, 3, none⟩), .pointer (some ⟨g, 4, none⟩), .pointer (some ⟨g, 5, none⟩)] 107 (0, 0))) ∧ Hid (wr.heap[g + 1]? = some (.cells #[.int .u16 0, .int .u16 0, .slice none 0 0, .slice none 0 0, .slice none 0 0, .slice none 0 0] 26 (0, 0))) ∧ Hid (wr.ownsRow (g + 2) 62 3 (.slice qA nq qc) nq (qnCs M.qs)) ∧ Hid (Below g w wr) ∧ Hid (g + 2 ≤ wr.heap.size)) (fun v _ => 3 - (intOf v).toNat)
  case atStart => exact ⟨0, _, _, _, by decide, rfl, HX3, by (rw [if_neg (by decide)]; exact Lib.hid rfl), by (rw [if_neg (by decide)]; exact Lib.hid rfl), by (rw [if_neg (by decide)]; exact Lib.hid rfl), HD3, HY3, HO3, V3, by (show _ ≤ _; rw [S3.out]; omega)⟩
  case round =>
    obtain ⟨j, va, vn, vx, hj, rfl, hX, hA, hN, hW, hD, hY, hO, hV, hS⟩ := hrel
    have hj4 : j = 0 ∨ j = 1 ∨ j = 2 ∨ j = 3 := by omega
    rcases hj4 with rfl | rfl | rfl | rfl
    · have e_va : va = .slice Aa na ca := by have h := hA.out; rw [if_neg (by decide)] at h; exact h
      have e_vn := by have h := hN.out; rw [if_neg (by decide)] at h; exact h
      have e_vx := by have h := hW.out; rw [if_neg (by decide)] at h; exact h
      subst e_va
      have p0 := cell_of_row _ _ 0 _ _ _ hD.out
      have p1 := cell_of_row _ _ 1 _ _ _ hD.out
      have p2 := cell_of_row _ _ 2 _ _ _ hD.out
      have k3 := cell_of_row _ _ 3 _ _ _ hX.out
      clear hA hN hW
      go_wp2_with fail
      refine (HAGA.out wr hV.out (by have := hS.out; omega)).mono ?_
      rintro e w5 ⟨u5, rfl, hR5, n5⟩
      have n5' := n5
      obtain ⟨uA, um, uc, rfl⟩ := hR5.slice
      have hX5 := (n5.block g (by have := hS.out; omega)).trans hX.out
      have k3 := cell_of_row _ _ 3 _ _ _ hX5
      have kf : ∀ i, w5.frozen? ⟨g, i, none⟩ = false := Lib.frozen_of_heap hX5
      have HX6 := Lib.hid (set_at (i := 3) (v := .slice uA um uc) hX5 rfl)
      have hR6 := (hR5.low hS.out).far1 (b := g) (i := 3) (u := .slice uA um uc) (by omega)
      have HD6 := Lib.hid (set_far (i := 3) (v := .slice uA um uc) ((n5.block d (Array.getElem?_eq_some_iff.1 hD.out).1).trans hD.out) (show d ≠ g by omega))
      have HY6 := Lib.hid (set_far (i := 3) (v := .slice uA um uc) ((n5.block (g + 1) (Array.getElem?_eq_some_iff.1 hY.out).1).trans hY.out) (show g + 1 ≠ g by omega))
      have HO6 := Lib.hid (own_far1 (b := g) (i := 3) (u := .slice uA um uc) (row_below hO.out n5) (by omega))
      have HV6 : Hid (Below g w (w5.setCell ⟨g, 3, none⟩ (.slice uA um uc))) := (hV.out.trans (n5.mono (by have := hS.out; omega))).setCell (p := ⟨g, 3, none⟩) (Nat.le_refl _) _
      have HS6 : Hid (g + 2 ≤ (w5.setCell ⟨g, 3, none⟩ (.slice uA um uc)).heap.size) := by show _ ≤ _; rw [Go.Deep.nblk_setCell]; exact Nat.le_trans hS.out n5.size
      clear n5 hX5 p0 p1 p2
      go_wp2_with fail
      go_roundw
      case rel => exact ⟨1, _, _, _, by decide, by go_num, HX6, by (show _; rw [if_pos (by decide)]; exact hR6), by (show _; rw [if_neg (by decide)]; exact e_vn), by (show _; rw [if_neg (by decide)]; exact e_vx), HD6, HY6, HO6, HV6, HS6⟩
      case measure => simp [intOf]
    · have e_vn : vn = .slice An nn cn := by have h := hN.out; rw [if_neg (by decide)] at h; exact h
      have hB_va := by have h := hA.out; rw [if_pos (by decide)] at h; exact h
      have e_vx := by have h := hW.out; rw [if_neg (by decide)] at h; exact h
      subst e_vn
      have p0 := cell_of_row _ _ 0 _ _ _ hD.out
      have p1 := cell_of_row _ _ 1 _ _ _ hD.out
      have p2 := cell_of_row _ _ 2 _ _ _ hD.out
      have k4 := cell_of_row _ _ 4 _ _ _ hX.out
      clear hA hN hW
      go_wp2_with fail
      refine (HAGN.out wr hV.out (by have := hS.out; omega)).mono ?_
      rintro e w5 ⟨u5, rfl, hR5, n5⟩
      have n5' := n5
      obtain ⟨uA, um, uc, rfl⟩ := hR5.slice
      have hX5 := (n5.block g (by have := hS.out; omega)).trans hX.out
      have k4 := cell_of_row _ _ 4 _ _ _ hX5
      have kf : ∀ i, w5.frozen? ⟨g, i, none⟩ = false := Lib.frozen_of_heap hX5
      have HX6 := Lib.hid (set_at (i := 4) (v := .slice uA um uc) hX5 rfl)
      have hR6 := (hR5.low hS.out).far1 (b := g) (i := 4) (u := .slice uA um uc) (by omega)
      have HD6 := Lib.hid (set_far (i := 4) (v := .slice uA um uc) ((n5.block d (Array.getElem?_eq_some_iff.1 hD.out).1).trans hD.out) (show d ≠ g by omega))
      have HY6 := Lib.hid (set_far (i := 4) (v := .slice uA um uc) ((n5.block (g + 1) (Array.getElem?_eq_some_iff.1 hY.out).1).trans hY.out) (show g + 1 ≠ g by omega))
      have HO6 := Lib.hid (own_far1 (b := g) (i := 4) (u := .slice uA um uc) (row_below hO.out n5) (by omega))
      have HV6 : Hid (Below g w (w5.setCell ⟨g, 4, none⟩ (.slice uA um uc))) := (hV.out.trans (n5.mono (by have := hS.out; omega))).setCell (p := ⟨g, 4, none⟩) (Nat.le_refl _) _
      have HS6 : Hid (g + 2 ≤ (w5.setCell ⟨g, 4, none⟩ (.slice uA um uc)).heap.size) := by show _ ≤ _; rw [Go.Deep.nblk_setCell]; exact Nat.le_trans hS.out n5.size
      clear n5 hX5 p0 p1 p2
      go_wp2_with fail
      go_roundw
      case rel => exact ⟨2, _, _, _, by decide, by go_num, HX6, by (show _; rw [if_pos (by decide)]; exact (hB_va.below n5').far1 (by omega)), by (show _; rw [if_pos (by decide)]; exact hR6), by (show _; rw [if_neg (by decide)]; exact e_vx), HD6, HY6, HO6, HV6, HS6⟩
      case measure => simp [intOf]
    · have e_vx : vx = .slice Ax nx cx := by have h := hW.out; rw [if_neg (by decide)] at h; exact h
      have hB_va := by have h := hA.out; rw [if_pos (by decide)] at h; exact h
      have hB_vn := by have h := hN.out; rw [if_pos (by decide)] at h; exact h
      subst e_vx
      have p0 := cell_of_row _ _ 0 _ _ _ hD.out
      have p1 := cell_of_row _ _ 1 _ _ _ hD.out
      have p2 := cell_of_row _ _ 2 _ _ _ hD.out
      have k5 := cell_of_row _ _ 5 _ _ _ hX.out
      clear hA hN hW
      go_wp2_with fail
      refine (HAGX.out wr hV.out (by have := hS.out; omega)).mono ?_
      rintro e w5 ⟨u5, rfl, hR5, n5⟩
      have n5' := n5
      obtain ⟨uA, um, uc, rfl⟩ := hR5.slice
      have hX5 := (n5.block g (by have := hS.out; omega)).trans hX.out
      have k5 := cell_of_row _ _ 5 _ _ _ hX5
      have kf : ∀ i, w5.frozen? ⟨g, i, none⟩ = false := Lib.frozen_of_heap hX5
      have HX6 := Lib.hid (set_at (i := 5) (v := .slice uA um uc) hX5 rfl)
      have hR6 := (hR5.low hS.out).far1 (b := g) (i := 5) (u := .slice uA um uc) (by omega)
      have HD6 := Lib.hid (set_far (i := 5) (v := .slice uA um uc) ((n5.block d (Array.getElem?_eq_some_iff.1 hD.out).1).trans hD.out) (show d ≠ g by omega))
      have HY6 := Lib.hid (set_far (i := 5) (v := .slice uA um uc) ((n5.block (g + 1) (Array.getElem?_eq_some_iff.1 hY.out).1).trans hY.out) (show g + 1 ≠ g by omega))
      have HO6 := Lib.hid (own_far1 (b := g) (i := 5) (u := .slice uA um uc) (row_below hO.out n5) (by omega))
      have HV6 : Hid (Below g w (w5.setCell ⟨g, 5, none⟩ (.slice uA um uc))) := (hV.out.trans (n5.mono (by have := hS.out; omega))).setCell (p := ⟨g, 5, none⟩) (Nat.le_refl _) _
      have HS6 : Hid (g + 2 ≤ (w5.setCell ⟨g, 5, none⟩ (.slice uA um uc)).heap.size) := by show _ ≤ _; rw [Go.Deep.nblk_setCell]; exact Nat.le_trans hS.out n5.size
      clear n5 hX5 p0 p1 p2
      go_wp2_with fail
      go_roundw
      case rel => exact ⟨3, _, _, _, by decide, by go_num, HX6, by (show _; rw [if_pos (by decide)]; exact (hB_va.below n5').far1 (by omega)), by (show _; rw [if_pos (by decide)]; exact (hB_vn.below n5').far1 (by omega)), by (show _; rw [if_pos (by decide)]; exact hR6), HD6, HY6, HO6, HV6, HS6⟩
      case measure => simp [intOf]
    · have r1 := by have h := hA.out; rw [if_pos (by decide)] at h; exact h
      have r2 := by have h := hN.out; rw [if_pos (by decide)] at h; exact h
      have r3 := by have h := hW.out; rw [if_pos (by decide)] at h; exact h
      obtain ⟨A1, m1, c1, rfl⟩ := r1.slice
      obtain ⟨A2, m2, c2, rfl⟩ := r2.slice
      obtain ⟨A3, m3, c3, rfl⟩ := r3.slice
      have k0 := cell_of_row _ _ 0 _ _ _ hX.out
      have k1 := cell_of_row _ _ 1 _ _ _ hX.out
      have k2 := cell_of_row _ _ 2 _ _ _ hX.out
      have k3 := cell_of_row _ _ 3 _ _ _ hX.out
      have k4 := cell_of_row _ _ 4 _ _ _ hX.out
      have k5 := cell_of_row _ _ 5 _ _ _ hX.out
      have j0 := cell_of_row _ _ 0 _ _ _ hY.out
      have j1 := cell_of_row _ _ 1 _ _ _ hY.out
      have j2 := cell_of_row _ _ 2 _ _ _ hY.out
      have j3 := cell_of_row _ _ 3 _ _ _ hY.out
      have j4 := cell_of_row _ _ 4 _ _ _ hY.out
      have j5 := cell_of_row _ _ 5 _ _ _ hY.out
      have jf : ∀ i, wr.frozen? ⟨g + 1, i, none⟩ = false := Lib.frozen_of_heap hY.out
      have HR1 := Lib.hid r1
      have HR2 := Lib.hid r2
      have HR3 := Lib.hid r3
      clear hA hN hW r1 r2 r3
      go_wp2_with fail
      refine bodyPost_ret (v := .agg #[.int .u16 id, .int .u16 fl, .slice qA nq qc, .slice A1 m1 c1, .slice A2 m2 c2, .slice A3 m3 c3]) (by simp [results, Try.results33, go_sem, j0, j1, j2, j3, j4, j5]) rfl ⟨_, _, _, _, rfl, MsgRows.low ⟨by show World.ownsRow _ _ _ _ _ _ _; rw [show (ageM s M).qs = M.qs from rfl, HQE.out]; exact own_six hO.out (by omega), HR1.out.far6 (by omega), HR2.out.far6 (by omega), HR3.out.far6 (by omega)⟩ (show g ≤ g + 2 by omega), below_set6 hV.out (Nat.le_succ _) _ _ _ _ _ _⟩
end Go.Proofs.Ytpmmjmnleoicjaa

/- The laws' awake of stage 8: answers that the document fixes. No condition. -/
namespace Go.Proofs.Ytpmmjmnleoicjaa
open Go.RowKit Bytes Strs Nums NameMath MsgMath RecMath WrMath QrMath

set_option linter.unusedVariables false
def nmE : List UInt8 := [2, 101, 120, 0]
def kyAw : Ky := ⟨nmE, 1, 1, true⟩
def qnAw8 : Qn := ⟨nmE, 1, 1⟩
def rA8 : Rec := ⟨[], 1, 0, 300, [], [], []⟩
def rC8 : Rec := ⟨[], 5, 0, 60, [], [], []⟩
def msgAw8 : Msg := ⟨7, 32768, [qnAw8], [rA8, rC8], [], []⟩
def zAw8 : List RecZ := [(rA8, .slice none 0 0, .slice none 0 0, .slice none 0 0), (rC8, .slice none 0 0, .slice none 0 0, .slice none 0 0)]
theorem aw8_ask : askM (makeM 7 kyAw) = some kyAw := by kernel_rfl
theorem aw8_fit : fitsM kyAw 7 msgAw8 = true := by kernel_rfl
theorem aw8_not : fitsM kyAw 8 msgAw8 = false := by kernel_rfl
theorem aw8_neg : negM msgAw8 = false := by kernel_rfl
theorem aw8_least : leastM msgAw8 = 60 := by kernel_rfl
theorem small_none (k l t : Nat) : Small ⟨[], k, l, t, [], [], []⟩ := ⟨Nat.zero_le _, Nat.zero_le _, fun k h => absurd h (Nat.not_lt_zero _), Nat.zero_le _, fun k h => absurd h (Nat.not_lt_zero _), Nat.zero_le _, fun k h => absurd h (Nat.not_lt_zero _)⟩
theorem small_opt : Small optR := by
  refine ⟨by decide, by decide, fun k h => absurd h (Nat.not_lt_zero _), by decide, fun k h => absurd h (Nat.not_lt_zero _), by decide, fun k h => ?_⟩
  have h' : k < 1 := h
  obtain rfl : k = 0 := by omega
  decide
/-- A query that was made can be gone through. -/
theorem qm_make {id : Nat} {k : Ky} (hid : id ≤ 65535) (hn : k.name.length ≤ maxLen) (hk : k.kind ≤ 65535) (hc : k.cls ≤ 65535) : QM (makeM id k) := by
  have hrec : ∀ R ∈ recsM (makeM id k), Small R ∧ R.kind ≤ 65535 ∧ R.cls ≤ 65535 ∧ R.ttl ≤ 4294967295 := fun R hR => by
    unfold recsM makeM at hR
    simp only [List.nil_append] at hR
    split at hR
    · rw [List.mem_singleton] at hR
      subst hR
      exact ⟨small_opt, by decide, by decide, by decide⟩
    · cases hR
  refine ⟨⟨hid, by show 256 ≤ 65535; decide, by show 1 ≤ 1000; decide, by show 0 ≤ 1000; decide, by show 0 ≤ 1000; decide, ?_, fun q hq => ?_, fun _ => hrec⟩, hrec⟩
  · unfold makeM
    simp only
    split <;> decide
  · have e := List.mem_singleton.1 hq
    subst e
    exact ⟨hn, hk, hc⟩
theorem qm_aw : QM msgAw8 := by
  have hrec : ∀ R ∈ recsM msgAw8, Small R ∧ R.kind ≤ 65535 ∧ R.cls ≤ 65535 ∧ R.ttl ≤ 4294967295 := fun R hR => by
    have h : R = rA8 ∨ R = rC8 := by
      unfold recsM msgAw8 at hR
      simpa using hR
    rcases h with rfl | rfl
    · exact ⟨small_none _ _ _, by decide, by decide, by decide⟩
    · exact ⟨small_none _ _ _, by decide, by decide, by decide⟩
  refine ⟨⟨by decide, by decide, by decide, by decide, by decide, by decide, fun q hq => ?_, fun _ => hrec⟩, hrec⟩
  have e := List.mem_singleton.1 hq
  subst e
  exact ⟨by unfold maxLen; decide, by decide, by decide⟩
theorem zNil_aw : ZNil zAw8 := fun z hz n c => by
  have h : z = (rA8, .slice none 0 0, .slice none 0 0, .slice none 0 0) ∨ z = (rC8, .slice none 0 0, .slice none 0 0, .slice none 0 0) := by
    unfold zAw8 at hz
    simpa using hz
  rcases h with rfl | rfl <;> exact ⟨fun e => by injection e with _ _ e3; exact e3.symm, fun e => by injection e with _ _ e3; exact e3.symm, fun e => by injection e with _ _ e3; exact e3.symm⟩
theorem zAt_aw (w : World) (B : Nat) : ZAt w B zAw8 := fun z hz => by
  have h : z = (rA8, .slice none 0 0, .slice none 0 0, .slice none 0 0) ∨ z = (rC8, .slice none 0 0, .slice none 0 0, .slice none 0 0) := by
    unfold zAw8 at hz
    simpa using hz
  rcases h with rfl | rfl <;> exact ⟨none, 0, none, 0, none, 0, rfl, rfl, rfl, ⟨rfl, rfl, rfl, rfl, rfl, rfl, rfl, RdS.void _ _ _, RdN.void _ _ _, RdS.void _ _ _⟩⟩
theorem field_an (id fl : Nat) (vq va vn vx : Value) (A : Option Addr) (n c : Nat) (w : World) (hq : ∃ A n c, vq = .slice A n c) (hn : ∃ A n c, vn = .slice A n c) (hx : ∃ A n c, vx = .slice A n c) (ha : va = .slice A n c) : (Instr.field 26 (.agg #[.int .u16 id, .int .u16 fl, vq, va, vn, vx]) 3).run Try.prog w = .ok (.slice A n c) w := by
  obtain ⟨_, _, _, rfl⟩ := hq
  obtain ⟨_, _, _, rfl⟩ := hn
  obtain ⟨_, _, _, rfl⟩ := hx
  subst ha
  kernel_rfl
theorem field_fl (id fl : Nat) (A : Option Addr) (n c : Nat) (w : World) : (Instr.field 26 (.agg (msgA id fl A n c none 0 0 none 0 0 none 0 0)) 1).run Try.prog w = .ok (.int .u16 fl) w := by kernel_rfl
set_option linter.unusedVariables false
set_option maxHeartbeats 16000000 in
set_option maxRecDepth 100000 in
theorem awake8_any (w : World) : Calls Try.prog 22 #[] w fun e w' => e = .returned (.bool true) ∧ Below w.heap.size w w' := by
  obtain ⟨g, hg⟩ : ∃ g, w.heap.size = g := ⟨_, rfl⟩
  rw [hg]
  obtain ⟨wa, hwa⟩ : ∃ v, w.alloc (.cells #[.string ⟨#[2, 101, 120, 0]⟩, .int .u16 1, .int .u16 1, .bool true] 42) = v := ⟨_, rfl⟩
  have hsa : wa.heap.size = g + 1 := by rw [← hwa, ← hg]; simp
  have HA : Hid (Below g w wa) := by rw [← hwa, ← hg]; exact (Below.refl _ _).alloc (Nat.le_refl _) _
  have HK : Hid (wa.heap[g]? = some (.cells #[.string ⟨#[2, 101, 120, 0]⟩, .int .u16 1, .int .u16 1, .bool true] 42 (0, 0))) := by rw [← hwa, ← hg]; exact heap_alloc_new w _
  have k0 := cell_of_row _ _ 0 _ _ _ HK.out
  have k1 := cell_of_row _ _ 1 _ _ _ HK.out
  have k2 := cell_of_row _ _ 2 _ _ _ HK.out
  have k3 := cell_of_row _ _ 3 _ _ _ HK.out
  have HMK := Lib.hid (make_is 7 ⟨#[2, 101, 120, 0]⟩ 1 1 true wa (by decide))
  have HWA := Lib.hid hwa
  go_enter Try.func22, Try.ntmps22
  go_upto_region 2 with fail
  go_wp2_with fail
  refine HMK.out.mono ?_
  rintro e w1 ⟨Aq, Ax, nx, cx, Zx, he, hmv, hnx, n1⟩
  obtain rfl : 1 = nx := hmv.ex
  have he' : e = .returned (.agg #[.int .u16 7, .int .u16 256, .slice Aq 1 1, .slice none 0 0, .slice none 0 0, .slice Ax 1 cx]) := he
  subst he'
  rw [hsa] at n1
  have s1 : g + 1 ≤ w1.heap.size := by have h := n1.size; rw [hsa] at h; exact h
  obtain ⟨b1, hb1⟩ : ∃ b, w1.heap.size = b := ⟨_, rfl⟩
  obtain ⟨w2, hw2⟩ : ∃ v, w1.alloc (.cells #[.int .u16 7, .int .u16 256, .slice Aq 1 1, .slice none 0 0, .slice none 0 0, .slice Ax 1 cx] 26) = v := ⟨_, rfl⟩
  have n2 : Below b1 w1 w2 := by rw [← hw2, ← hb1]; exact (Below.refl _ _).alloc (Nat.le_refl _) _
  have HM2 : Hid (w2.heap[b1]? = some (.cells #[.int .u16 7, .int .u16 256, .slice Aq 1 1, .slice none 0 0, .slice none 0 0, .slice Ax 1 cx] 26 (0, 0))) := by rw [← hw2, ← hb1]; exact heap_alloc_new w1 _
  have S2 : Hid (w2.heap.size = b1 + 1) := by show _ = _; rw [← hw2, ← hb1]; simp
  rw [hb1] at hmv
  have gb1 : g + 1 ≤ b1 := by omega
  have K2 : Hid (Below (g + 1) wa w2) := n1.trans (n2.mono gb1)
  have HMV : Hid (MsgV w2 b1 (makeM 7 kyAw) Aq none none Ax 1 0 0 1 0 0 cx [] [] Zx) := hmv.on n2 (Nat.le_refl _)
  have HW2 := Lib.hid hw2
  clear hmv n1 n2 hw2 k0 k1 k2 k3 hwa hsa HMK
  go_upto_region 3 with fail
  rw [HW2.out]
  clear hb1
  have m0 := cell_of_row _ _ 0 _ _ _ HM2.out
  have m1 := cell_of_row _ _ 1 _ _ _ HM2.out
  have m2 := cell_of_row _ _ 2 _ _ _ HM2.out
  have m3 := cell_of_row _ _ 3 _ _ _ HM2.out
  have m4 := cell_of_row _ _ 4 _ _ _ HM2.out
  have m5 := cell_of_row _ _ 5 _ _ _ HM2.out
  have HAK := Lib.hid (ask_w (makeM 7 kyAw) Aq none none Ax 1 0 0 1 1 0 0 cx b1 [] [] Zx (some kyAw) w2 HMV.out (by have := S2.out; omega) (qm_make (by decide) (by unfold maxLen; decide) (by decide) (by decide)) aw8_ask)
  go_wp2_with fail
  refine HAK.out.mono ?_
  rintro e w3 ⟨hret, n3⟩
  have hret' : e = .returned (.tuple #[.agg #[.string ⟨#[2, 101, 120, 0]⟩, .int .u16 1, .int .u16 1, .bool true], .int .i64 0]) := hret
  subst hret'
  rw [S2.out] at n3
  have s3 : b1 + 1 ≤ w3.heap.size := by have h := n3.size; rw [S2.out] at h; exact h
  have K3 : Hid (Below (g + 1) wa w3) := K2.out.trans (n3.mono (by omega))
  obtain ⟨b2, hb2⟩ : ∃ b, w3.heap.size = b := ⟨_, rfl⟩
  obtain ⟨w4, hw4⟩ : ∃ v, w3.alloc (.cells #[.string ⟨#[2, 101, 120, 0]⟩, .int .u16 1, .int .u16 1, .bool true] 42) = v := ⟨_, rfl⟩
  have n4 : Below b2 w3 w4 := by rw [← hw4, ← hb2]; exact (Below.refl _ _).alloc (Nat.le_refl _) _
  have hx4 : w4.heap[b2]? = some (.cells #[.string ⟨#[2, 101, 120, 0]⟩, .int .u16 1, .int .u16 1, .bool true] 42 (0, 0)) := by rw [← hw4, ← hb2]; exact heap_alloc_new w3 _
  have s4 : w4.heap.size = b2 + 1 := by rw [← hw4, ← hb2]; simp
  have gb2 : b1 + 1 ≤ b2 := by omega
  have hm4 := (n4.block b1 (by omega)).trans ((n3.block b1 (Nat.lt_succ_self b1)).trans HM2.out)
  have HW4 := Lib.hid hw4
  have HN34 := Lib.hid (n3.trans (n4.mono gb2))
  have HX4 := Lib.hid hx4
  have HM4 := Lib.hid hm4
  have K4 : Hid (Below (g + 1) wa w4) := K3.out.trans (n4.mono (by omega))
  clear n3 n4 hw4 hret m0 m1 m2 m3 m4 m5 hx4 hm4 HAK
  go_upto_region 4 with fail
  rw [HW4.out]
  clear hb2
  have m0 := cell_of_row _ _ 0 _ _ _ HM4.out
  have m1 := cell_of_row _ _ 1 _ _ _ HM4.out
  have m2 := cell_of_row _ _ 2 _ _ _ HM4.out
  have m3 := cell_of_row _ _ 3 _ _ _ HM4.out
  have m4 := cell_of_row _ _ 4 _ _ _ HM4.out
  have m5 := cell_of_row _ _ 5 _ _ _ HM4.out
  obtain ⟨w5, hw5⟩ : ∃ v, w4.alloc (.cells #[.string ⟨#[]⟩, .int .u16 1, .int .u16 0, .int .u32 300, .slice none 0 0, .slice none 0 0, .slice none 0 0, .string ⟨#[]⟩, .int .u16 5, .int .u16 0, .int .u32 60, .slice none 0 0, .slice none 0 0, .slice none 0 0] 60) = v := ⟨_, rfl⟩
  have s5 : w5.heap.size = b2 + 2 := by rw [← hw5]; simp [s4]
  have n5 : Below (b2 + 1) w4 w5 := by rw [← hw5, ← s4]; exact (Below.refl _ _).alloc (Nat.le_refl _) _
  have hr5 : w5.heap[b2 + 1]? = some (.cells #[.string ⟨#[]⟩, .int .u16 1, .int .u16 0, .int .u32 300, .slice none 0 0, .slice none 0 0, .slice none 0 0, .string ⟨#[]⟩, .int .u16 5, .int .u16 0, .int .u32 60, .slice none 0 0, .slice none 0 0, .slice none 0 0] 60 (0, 0)) := by rw [← hw5, ← s4]; exact heap_alloc_new w4 _
  obtain ⟨w6, hw6⟩ : ∃ v, w5.alloc (.cells #[.int .u16 7, .int .u16 32768, .slice Aq 1 1, .slice (some ⟨b2 + 1, 0, none⟩) 2 2, .slice none 0 0, .slice none 0 0] 26) = v := ⟨_, rfl⟩
  have s6 : w6.heap.size = b2 + 3 := by rw [← hw6]; simp [s5]
  have n6 : Below (b2 + 2) w5 w6 := by rw [← hw6, ← s5]; exact (Below.refl _ _).alloc (Nat.le_refl _) _
  have HA6 : Hid (w6.heap[b2 + 2]? = some (.cells #[.int .u16 7, .int .u16 32768, .slice Aq 1 1, .slice (some ⟨b2 + 1, 0, none⟩) 2 2, .slice none 0 0, .slice none 0 0] 26 (0, 0))) := by rw [← hw6, ← s5]; exact heap_alloc_new w5 _
  have HR6 := Lib.hid ((n6.block (b2 + 1) (by omega)).trans hr5)
  have n46 : Below (b2 + 1) w4 w6 := n5.trans (n6.mono (by omega))
  have HX6 := Lib.hid ((n46.block b2 (by omega)).trans HX4.out)
  have HM6 := Lib.hid ((n46.block b1 (by omega)).trans HM4.out)
  have K6 : Hid (Below (g + 1) wa w6) := K4.out.trans (n46.mono (by omega))
  have HK6 := Lib.hid ((K6.out.block g (Nat.lt_succ_self g)).trans HK.out)
  have S6 := Lib.hid s6
  have HQ6 : Hid (CellsAt w6 (b2 + 3) Aq (qnCs [qnAw8])) := HMV.out.at_.q.on ((HN34.out.mono (Nat.le_succ _)).trans (n46.mono (by omega))) (by omega)
  have HV6 : Hid (MsgV w6 (b2 + 3) msgAw8 Aq (some ⟨b2 + 1, 0, none⟩) none none 1 2 0 0 2 0 0 zAw8 [] []) :=
    ⟨⟨HQ6.out, cells_one HR6.out rfl (by omega), cells_nil _ _ _, cells_nil _ _ _, zAt_aw _ _, zAt_nil _ _, zAt_nil _ _, rfl, rfl, rfl⟩, rfl, rfl, rfl, rfl, fun h => (by cases h), fun _ => rfl, fun _ => rfl⟩
  have HW5 := Lib.hid hw5
  have HW6 := Lib.hid hw6
  clear n5 n6 n46 hr5 hw6
  go_upto_region 5 with fail
  rw [HW6.out]
  clear hw5 s4 s5 s6 m0 m1 m2 m3 m4 m5
  have x0 := cell_of_row _ _ 0 _ _ _ HX6.out
  have x1 := cell_of_row _ _ 1 _ _ _ HX6.out
  have x2 := cell_of_row _ _ 2 _ _ _ HX6.out
  have x3 := cell_of_row _ _ 3 _ _ _ HX6.out
  have k0 := cell_of_row _ _ 0 _ _ _ HK6.out
  have k1 := cell_of_row _ _ 1 _ _ _ HK6.out
  have k2 := cell_of_row _ _ 2 _ _ _ HK6.out
  have k3 := cell_of_row _ _ 3 _ _ _ HK6.out
  have m0 := cell_of_row _ _ 0 _ _ _ HM6.out
  have m1 := cell_of_row _ _ 1 _ _ _ HM6.out
  have m2 := cell_of_row _ _ 2 _ _ _ HM6.out
  have m3 := cell_of_row _ _ 3 _ _ _ HM6.out
  have m4 := cell_of_row _ _ 4 _ _ _ HM6.out
  have m5 := cell_of_row _ _ 5 _ _ _ HM6.out
  have a0 := cell_of_row _ _ 0 _ _ _ HA6.out
  have a1 := cell_of_row _ _ 1 _ _ _ HA6.out
  have a2 := cell_of_row _ _ 2 _ _ _ HA6.out
  have a3 := cell_of_row _ _ 3 _ _ _ HA6.out
  have a4 := cell_of_row _ _ 4 _ _ _ HA6.out
  have a5 := cell_of_row _ _ 5 _ _ _ HA6.out
  have E6 : Hid (Below g w w6) := HA.out.trans (K6.out.mono (Nat.le_succ _))
  have HV : Hid (∀ W, Below (b2 + 3) w6 W → MsgV W (b2 + 3) msgAw8 Aq (some ⟨b2 + 1, 0, none⟩) none none 1 2 0 0 2 0 0 zAw8 [] []) := fun W h => HV6.out.on h (Nat.le_refl _)
  have hg3 : g + 1 ≤ b2 + 3 := by omega
  go_wp2_with fail
  have HC6 := Lib.hid (fits_w ⟨#[2, 101, 120, 0]⟩ 1 1 true 7 msgAw8 Aq (some ⟨b2 + 1, 0, none⟩) none none 1 2 0 0 1 2 0 0 (b2 + 3) zAw8 [] [] true w6 (HV.out w6 (Below.refl _ _)) (by have := S6.out; omega) qm_aw.few aw8_fit)
  refine HC6.out.mono ?_
  rintro e w7 ⟨rfl, n7⟩
  have n7' : Below (b2 + 3) w6 w7 := by have h := n7; rw [S6.out] at h; exact h
  have N7 := Lib.hid n7'
  have L7 : Hid (b2 + 3 ≤ w7.heap.size) := by have h := n7'.size; rw [S6.out] at h; exact h
  have hk7 := (n7'.block g (by omega)).trans HK6.out
  have ha7 := (n7'.block (b2 + 2) (by omega)).trans HA6.out
  clear n7 n7' k0 k1 k2 k3 a0 a1 a2 a3 a4 a5
  have k0 := cell_of_row _ _ 0 _ _ _ hk7
  have k1 := cell_of_row _ _ 1 _ _ _ hk7
  have k2 := cell_of_row _ _ 2 _ _ _ hk7
  have k3 := cell_of_row _ _ 3 _ _ _ hk7
  have a0 := cell_of_row _ _ 0 _ _ _ ha7
  have a1 := cell_of_row _ _ 1 _ _ _ ha7
  have a2 := cell_of_row _ _ 2 _ _ _ ha7
  have a3 := cell_of_row _ _ 3 _ _ _ ha7
  have a4 := cell_of_row _ _ 4 _ _ _ ha7
  have a5 := cell_of_row _ _ 5 _ _ _ ha7
  clear hk7 ha7
  go_wp2_with fail
  have HC7 := Lib.hid (fits_w ⟨#[2, 101, 120, 0]⟩ 1 1 true 8 msgAw8 Aq (some ⟨b2 + 1, 0, none⟩) none none 1 2 0 0 1 2 0 0 (b2 + 3) zAw8 [] [] false w7 (HV.out w7 N7.out) L7.out qm_aw.few aw8_not)
  refine HC7.out.mono ?_
  rintro e w8 ⟨rfl, n8⟩
  have n8' : Below (b2 + 3) w6 w8 := N7.out.trans (n8.mono L7.out)
  have N8 := Lib.hid n8'
  have L8 : Hid (b2 + 3 ≤ w8.heap.size) := by have h := n8'.size; rw [S6.out] at h; exact h
  have hk8 := (n8'.block g (by omega)).trans HK6.out
  have ha8 := (n8'.block (b2 + 2) (by omega)).trans HA6.out
  clear n8 n8' k0 k1 k2 k3 a0 a1 a2 a3 a4 a5
  have k0 := cell_of_row _ _ 0 _ _ _ hk8
  have k1 := cell_of_row _ _ 1 _ _ _ hk8
  have k2 := cell_of_row _ _ 2 _ _ _ hk8
  have k3 := cell_of_row _ _ 3 _ _ _ hk8
  have a0 := cell_of_row _ _ 0 _ _ _ ha8
  have a1 := cell_of_row _ _ 1 _ _ _ ha8
  have a2 := cell_of_row _ _ 2 _ _ _ ha8
  have a3 := cell_of_row _ _ 3 _ _ _ ha8
  have a4 := cell_of_row _ _ 4 _ _ _ ha8
  have a5 := cell_of_row _ _ 5 _ _ _ ha8
  clear hk8 ha8
  go_wp2_with fail
  have HC8 := Lib.hid (negative_w msgAw8 Aq (some ⟨b2 + 1, 0, none⟩) none none 1 2 0 0 1 2 0 0 (b2 + 3) zAw8 [] [] false w8 (HV.out w8 N8.out) L8.out qm_aw.few aw8_neg)
  refine HC8.out.mono ?_
  rintro e w9 ⟨rfl, n9⟩
  have n9' : Below (b2 + 3) w6 w9 := N8.out.trans (n9.mono L8.out)
  have N9 := Lib.hid n9'
  have L9 : Hid (b2 + 3 ≤ w9.heap.size) := by have h := n9'.size; rw [S6.out] at h; exact h
  have hk9 := (n9'.block g (by omega)).trans HK6.out
  have ha9 := (n9'.block (b2 + 2) (by omega)).trans HA6.out
  clear n9 n9' k0 k1 k2 k3 a0 a1 a2 a3 a4 a5
  have k0 := cell_of_row _ _ 0 _ _ _ hk9
  have k1 := cell_of_row _ _ 1 _ _ _ hk9
  have k2 := cell_of_row _ _ 2 _ _ _ hk9
  have k3 := cell_of_row _ _ 3 _ _ _ hk9
  have a0 := cell_of_row _ _ 0 _ _ _ ha9
  have a1 := cell_of_row _ _ 1 _ _ _ ha9
  have a2 := cell_of_row _ _ 2 _ _ _ ha9
  have a3 := cell_of_row _ _ 3 _ _ _ ha9
  have a4 := cell_of_row _ _ 4 _ _ _ ha9
  have a5 := cell_of_row _ _ 5 _ _ _ ha9
  clear hk9 ha9
  go_wp2_with fail
  have HC9 := Lib.hid (least_w msgAw8 Aq (some ⟨b2 + 1, 0, none⟩) none none 1 2 0 0 1 2 0 0 (b2 + 3) zAw8 [] [] 60 w9 (HV.out w9 N9.out) L9.out qm_aw aw8_least)
  refine HC9.out.mono ?_
  rintro e w10 ⟨rfl, n10⟩
  have n10' : Below (b2 + 3) w6 w10 := N9.out.trans (n10.mono L9.out)
  have N10 := Lib.hid n10'
  have L10 : Hid (b2 + 3 ≤ w10.heap.size) := by have h := n10'.size; rw [S6.out] at h; exact h
  have hk10 := (n10'.block g (by omega)).trans HK6.out
  have ha10 := (n10'.block (b2 + 2) (by omega)).trans HA6.out
  clear n10 n10' k0 k1 k2 k3 a0 a1 a2 a3 a4 a5
  have k0 := cell_of_row _ _ 0 _ _ _ hk10
  have k1 := cell_of_row _ _ 1 _ _ _ hk10
  have k2 := cell_of_row _ _ 2 _ _ _ hk10
  have k3 := cell_of_row _ _ 3 _ _ _ hk10
  have a0 := cell_of_row _ _ 0 _ _ _ ha10
  have a1 := cell_of_row _ _ 1 _ _ _ ha10
  have a2 := cell_of_row _ _ 2 _ _ _ ha10
  have a3 := cell_of_row _ _ 3 _ _ _ ha10
  have a4 := cell_of_row _ _ 4 _ _ _ ha10
  have a5 := cell_of_row _ _ 5 _ _ _ ha10
  clear hk10 ha10
  go_wp2_with fail
  have HC10 := Lib.hid (age_w 100 msgAw8 Aq (some ⟨b2 + 1, 0, none⟩) none none 1 2 0 0 1 2 0 0 (b2 + 3) zAw8 [] [] w10 (HV.out w10 N10.out) L10.out qm_aw (by decide) (fun q hq => (by have e := List.mem_singleton.1 hq; subst e; decide)) zNil_aw (fun z hz => (by cases hz)) (fun z hz => (by cases hz)))
  refine HC10.out.mono ?_
  rintro e w11 ⟨vq, va, vn, vx, he, hmr, n11⟩
  obtain ⟨Zr, hz1, hz2, _⟩ := hmr.a
  obtain ⟨rA, rc, rfl, hcr⟩ := cells_own hz2
  have hzl : Zr.length = 2 := by rw [← List.length_map (·.1), hz1]; rfl
  have hz0 : 0 < Zr.length := by omega
  have hzt : (Zr[0]).1.ttl = 200 := by
    have h : (Zr.map (·.1))[0]? = some (ageR 100 rA8) := by rw [hz1]; rfl
    rw [List.getElem?_map, List.getElem?_eq_getElem hz0] at h
    injection h with h
    have h' : (Zr[0]).1 = ageR 100 rA8 := h
    rw [h']
    decide
  obtain ⟨rb, ro, rfl, hrb, hrc⟩ := hcr.get (recCs_at hz0 (show 0 < 7 by decide))
  have hr3 : w11.cell? ⟨rb, ro + 3, none⟩ = some (.int .u32 200) := by
    have h := hrc (0 * 7 + 3) _ (recCs_at hz0 (show 3 < 7 by decide))
    simp only [Nat.zero_mul, Nat.zero_add] at h
    rw [h]
    show some (Value.int .u32 ((Zr[0]).1.ttl : Int)) = _
    rw [hzt]
    rfl
  obtain ⟨qA, qc, hvq, _⟩ := cells_own hmr.q
  obtain ⟨nA, nm, nc, hvn⟩ := hmr.n.slice
  obtain ⟨xA, xm, xc, hvx⟩ := hmr.x.slice
  subst hvn hvx hvq
  have he' : e = .returned (.agg #[.int .u16 7, .int .u16 32768, .slice qA 1 qc, .slice (some ⟨rb, ro, none⟩) 2 rc, .slice nA nm nc, .slice xA xm xc]) := he
  subst he'
  have hfa : ∀ W, (Instr.field 26 (.agg #[.int .u16 7, .int .u16 32768, .slice qA 1 qc, .slice (some ⟨rb, ro, none⟩) 2 rc, .slice nA nm nc, .slice xA xm xc]) 3).run Try.prog W = .ok (.slice (some ⟨rb, ro, none⟩) 2 rc) W := fun W => field_an 7 32768 _ _ _ _ _ _ _ W ⟨_, _, _, rfl⟩ ⟨_, _, _, rfl⟩ ⟨_, _, _, rfl⟩ rfl
  clear hz1 hz2 hzl hz0 hzt hcr hrc hmr he
  have n11' : Below (b2 + 3) w6 w11 := N10.out.trans (n11.mono L10.out)
  have N11 := Lib.hid n11'
  have L11 : Hid (b2 + 3 ≤ w11.heap.size) := by have h := n11'.size; rw [S6.out] at h; exact h
  have hk11 := (n11'.block g (by omega)).trans HK6.out
  have ha11 := (n11'.block (b2 + 2) (by omega)).trans HA6.out
  clear n11 n11' k0 k1 k2 k3 a0 a1 a2 a3 a4 a5
  have k0 := cell_of_row _ _ 0 _ _ _ hk11
  have k1 := cell_of_row _ _ 1 _ _ _ hk11
  have k2 := cell_of_row _ _ 2 _ _ _ hk11
  have k3 := cell_of_row _ _ 3 _ _ _ hk11
  have a0 := cell_of_row _ _ 0 _ _ _ ha11
  have a1 := cell_of_row _ _ 1 _ _ _ ha11
  have a2 := cell_of_row _ _ 2 _ _ _ ha11
  have a3 := cell_of_row _ _ 3 _ _ _ ha11
  have a4 := cell_of_row _ _ 4 _ _ _ ha11
  have a5 := cell_of_row _ _ 5 _ _ _ ha11
  clear hk11 ha11
  go_wp2_with fail
  have HC11 := Lib.hid (fail_w 1 msgAw8 Aq (some ⟨b2 + 1, 0, none⟩) none none 1 2 0 0 1 2 0 0 (b2 + 3) zAw8 [] [] w11 (HV.out w11 N11.out) L11.out qm_aw.few (fun q hq => (by have e := List.mem_singleton.1 hq; subst e; decide)))
  refine HC11.out.mono ?_
  rintro e w12 ⟨fA, fc, he, _, n12⟩
  have he' : e = .returned (.agg #[.int .u16 1, .int .u16 32898, .slice fA 1 fc, .slice none 0 0, .slice none 0 0, .slice none 0 0]) := he
  subst he'
  have n12' : Below (b2 + 3) w6 w12 := N11.out.trans (n12.mono L11.out)
  have E12 : Hid (Below g w w12) := E6.out.trans (n12'.mono (by omega))
  have hff : ∀ W, (Instr.field 26 (.agg #[.int .u16 1, .int .u16 32898, .slice fA 1 fc, .slice none 0 0, .slice none 0 0, .slice none 0 0]) 1).run Try.prog W = .ok (.int .u16 32898) W := fun W => field_fl 1 32898 fA 1 fc W
  clear n12 n12' k0 k1 k2 k3 a0 a1 a2 a3 a4 a5 he
  go_wp2_with fail
  go_ret
  exact ⟨rfl, E12.out⟩
end Go.Proofs.Ytpmmjmnleoicjaa

/- Messages that Age has made: their rows, and calls of Age and of the document's Same that keep what stood. For messages that can be gone through. -/
namespace Go.Proofs.Ytpmmjmnleoicjaa.QrRows
open Go Go.RowKit
open Bytes Strs Nums NameMath MsgMath RecMath WrMath QrMath
theorem row_z {w : World} {g : Nat} {v : Value} {L : List Rec} (h : RowRecs w g v L) : ∃ (Z : List RecZ) (A : Option Addr) (c : Nat), v = .slice A L.length c ∧ CellsAt w w.heap.size A (recCs Z) ∧ ZAt w w.heap.size Z ∧ Z.map (·.1) = L ∧ (A = none → c = 0) ∧ ZNil Z := by
  obtain ⟨Z, h1, h2, h3⟩ := h
  obtain ⟨A, c, e, hc⟩ := cells_own h2
  refine ⟨Z, A, c, e, hc, zAt_own h3, h1, fun hA => ?_, zNil_own h3⟩
  subst hA
  exact own_nil h2 e
theorem rows_z {w : World} {g : Nat} {M : Msg} {vq va vn vx : Value} (h : MsgRows w g M vq va vn vx) : ∃ Bq Ba Bn Bx dq da dn dx Ya Yn Yx, vq = .slice Bq M.qs.length dq ∧ va = .slice Ba M.an.length da ∧ vn = .slice Bn M.ns.length dn ∧ vx = .slice Bx M.ad.length dx ∧ MsgV w w.heap.size M Bq Ba Bn Bx M.qs.length M.an.length M.ns.length M.ad.length da dn dx Ya Yn Yx ∧ ZNil Ya ∧ ZNil Yn ∧ ZNil Yx := by
  obtain ⟨Bq, dq, e0, hq⟩ := cells_own h.q
  obtain ⟨Ya, Ba, da, e1, ha, za, ma, na, oa⟩ := row_z h.a
  obtain ⟨Yn, Bn, dn, e2, hn, zn, mn, nn, on⟩ := row_z h.n
  obtain ⟨Yx, Bx, dx, e3, hx, zx, mx, nx, ox⟩ := row_z h.x
  exact ⟨Bq, Ba, Bn, Bx, dq, da, dn, dx, Ya, Yn, Yx, e0, e1, e2, e3, ⟨⟨hq, ha, hn, hx, za, zn, zx, ma, mn, mx⟩, rfl, rfl, rfl, rfl, na, nn, nx⟩, oa, on, ox⟩
/-- These cells stand. -/
def Stand (vs : List (Addr × Value)) (w : World) : Prop := ∀ p ∈ vs, w.cell? p.1 = some p.2
theorem Stand.on {vs : List (Addr × Value)} {w w' : World} (h : Stand vs w) (hB : Below w.heap.size w w') : Stand vs w' := fun p hp => (hB.cell (World.block_lt_of_cell? w _ (h p hp))).trans (h p hp)
/-- Age's message, and what stood. -/
def AgedV (b s : Nat) (M : Msg) (nq na nn nx : Nat) (vs : List (Addr × Value)) (w0 : World) (e : Ending) (w' : World) : Prop :=
  ∃ Bq Ba Bn Bx dq da dn dx Ya Yn Yx, e = .returned (.agg (msgA M.id M.flags Bq nq dq Ba na da Bn nn dn Bx nx dx)) ∧ Hid (MsgV w' w'.heap.size (ageM s M) Bq Ba Bn Bx nq na nn nx da dn dx Ya Yn Yx) ∧ Hid (ZNil Ya ∧ ZNil Yn ∧ ZNil Yx) ∧ Stand vs w' ∧ Below b w0 w'
theorem age_held (s : Nat) (M : Msg) (Aq Aa An Ax : Option Addr) (nq na nn nx cq ca cn cx B b : Nat) (Za Zn Zx : List RecZ) (vs : List (Addr × Value)) (w0 w : World) (hv : Hid (MsgV w B M Aq Aa An Ax nq na nn nx ca cn cx Za Zn Zx)) (hB : B ≤ w.heap.size) (hz : Hid (ZNil Za ∧ ZNil Zn ∧ ZNil Zx)) (hf : Hid (QM M)) (hs : s ≤ 18446744073709551615) (hm : Hid (∀ q ∈ M.qs, q.name.length ≤ cloneMost)) (hb : b ≤ w.heap.size) (hc : Stand vs w) (hw : Below b w0 w) :
    Calls Try.prog 33 #[.agg (msgA M.id M.flags Aq nq cq Aa na ca An nn cn Ax nx cx), .int .u64 s] w (AgedV b s M nq na nn nx vs w0) := by
  refine (age_w s M Aq Aa An Ax nq na nn nx cq ca cn cx B Za Zn Zx w hv hB hf hs hm hz.out.1 hz.out.2.1 hz.out.2.2).mono ?_
  rintro e w' ⟨vq, va, vn, vx, rfl, hR, hBl⟩
  obtain ⟨Bq, Ba, Bn, Bx, dq, da, dn, dx, Ya, Yn, Yx, rfl, rfl, rfl, rfl, hV, hZ⟩ := rows_z hR
  have l1 : (ageM s M).an.length = na := by show (M.an.map (ageR s)).length = na; rw [List.length_map]; exact hv.out.ea
  have l2 : (ageM s M).ns.length = nn := by show (M.ns.map (ageR s)).length = nn; rw [List.length_map]; exact hv.out.en
  have l3 : (ageM s M).ad.length = nx := by show (M.ad.map (ageR s)).length = nx; rw [List.length_map]; exact hv.out.ex
  have l0 : (ageM s M).qs.length = nq := hv.out.eq
  rw [l0, l1, l2, l3] at hV ⊢
  exact ⟨Bq, Ba, Bn, Bx, dq, da, dn, dx, Ya, Yn, Yx, rfl, hV, hZ, hc.on hBl, hw.trans (hBl.mono hb)⟩
theorem same_held (M N : Msg) (Aq Aa An Ax Bq Ba Bn Bx : Option Addr) (cq ca cn cx dq da dn dx nq na nn nx mq ma mn mx b : Nat) (Za Ya Zn Yn Zx Yx : List RecZ) (q : Bool) (vs : List (Addr × Value)) (w0 w : World) (hM : Hid (MsgV w w.heap.size M Aq Aa An Ax nq na nn nx ca cn cx Za Zn Zx)) (hN : Hid (MsgV w w.heap.size N Bq Ba Bn Bx mq ma mn mx da dn dx Ya Yn Yx)) (hsM : Hid (SmallM M)) (hsN : Hid (SmallM N)) (hq : Hid (q = true ↔ M = N)) (hb : b ≤ w.heap.size) (hc : Stand vs w) (hw : Below b w0 w) :
    Calls Try.prog 19 #[.agg (msgA M.id M.flags Aq nq cq Aa na ca An nn cn Ax nx cx), .agg (msgA N.id N.flags Bq mq dq Ba ma da Bn mn dn Bx mx dx)] w fun e w' => e = .returned (.bool q) ∧ Stand vs w' ∧ Below b w0 w' := by
  refine (same_any M N Aq Aa An Ax Bq Ba Bn Bx cq ca cn cx dq da dn dx nq na nn nx mq ma mn mx Za Ya Zn Yn Zx Yx q w hM hN hsM hsN hq).mono ?_
  rintro e w' ⟨rfl, hBl⟩
  exact ⟨rfl, hc.on hBl, hw.trans (hBl.mono hb)⟩
theorem MsgV.up {w : World} {B B' : Nat} {M : Msg} {Aq Aa An Ax : Option Addr} {nq na nn nx ca cn cx : Nat} {Za Zn Zx : List RecZ} (h : MsgV w B M Aq Aa An Ax nq na nn nx ca cn cx Za Zn Zx) (hB : B ≤ B') : MsgV w B' M Aq Aa An Ax nq na nn nx ca cn cx Za Zn Zx := h.on (Below.refl _ _) hB
theorem small_of {M : Msg} (h : QM M) : SmallM M := ⟨h.few.nq, h.few.na, h.few.nn, h.few.nx, fun R hR => (h.recs R hR).1⟩
theorem small_ageR {s : Nat} {R : Rec} (h : Small R) : Small (ageR s R) := by
  unfold ageR
  split
  · exact h
  · exact ⟨h.name, h.n1, h.s1, h.n2, h.u2, h.n3, h.s3⟩
theorem ageR_nums {s : Nat} {R : Rec} : (ageR s R).kind = R.kind ∧ (ageR s R).cls = R.cls ∧ (ageR s R).ttl ≤ R.ttl ∧ (ageR s R).name = R.name ∧ (ageR s R).names = R.names ∧ (ageR s R).nums = R.nums ∧ (ageR s R).texts = R.texts := by
  unfold ageR
  split
  · exact ⟨rfl, rfl, Nat.le_refl _, rfl, rfl, rfl, rfl⟩
  · exact ⟨rfl, rfl, Nat.sub_le _ _, rfl, rfl, rfl, rfl⟩
theorem recsM_age {s : Nat} {M : Msg} : recsM (ageM s M) = (recsM M).map (ageR s) := by unfold recsM ageM; simp
theorem qm_age {s : Nat} {M : Msg} (h : QM M) : QM (ageM s M) := by
  have hr : ∀ R ∈ recsM (ageM s M), Small R ∧ R.kind ≤ 65535 ∧ R.cls ≤ 65535 ∧ R.ttl ≤ 4294967295 := fun R hR => by
    rw [recsM_age] at hR
    obtain ⟨S, hS, rfl⟩ := List.mem_map.1 hR
    obtain ⟨h1, h2, h3, h4⟩ := h.recs S hS
    obtain ⟨e1, e2, e3, _⟩ := ageR_nums (s := s) (R := S)
    exact ⟨small_ageR h1, by omega, by omega, by omega⟩
  exact ⟨⟨h.few.id, h.few.flags, h.few.nq, by show (M.an.map (ageR s)).length ≤ 1000; rw [List.length_map]; exact h.few.na, by show (M.ns.map (ageR s)).length ≤ 1000; rw [List.length_map]; exact h.few.nn, by show (M.ad.map (ageR s)).length ≤ 1000; rw [List.length_map]; exact h.few.nx, h.few.qs, fun _ => hr⟩, hr⟩
end Go.Proofs.Ytpmmjmnleoicjaa.QrRows
