/- Texts of one proof, one behind the other: Srcs, SlClone, RecCopied, RecCopy, QrAged, MsgSized, RecLawCopied, QrCopied, QrFail, QrAge, MsgCopied. -/
import Derived.Test.YtpmmjmnleoicjaaProg
import Derived.Test.YtpmmjmnleoicjaaStrs
import Derived.Test.YtpmmjmnleoicjaaNums
import Derived.Test.YtpmmjmnleoicjaaClone
import Derived.Test.YtpmmjmnleoicjaaRecAt
import Derived.Test.YtpmmjmnleoicjaaBytes
import Derived.Test.YtpmmjmnleoicjaaMsgMath
import Derived.Test.YtpmmjmnleoicjaaRecMath
import Derived.Test.YtpmmjmnleoicjaaRecRow
import Derived.Test.YtpmmjmnleoicjaaRecAll
import Derived.Test.YtpmmjmnleoicjaaWriteBytesProofG2
import Derived.Test.YtpmmjmnleoicjaaOwnRow
import Derived.Test.YtpmmjmnleoicjaaWriteBytesProofG8
import Derived.Test.YtpmmjmnleoicjaaRdrAsk
import Derived.Test.YtpmmjmnleoicjaaRecsRow
import Derived.Test.YtpmmjmnleoicjaaWriteBytesProofG3
import Derived.Test.YtpmmjmnleoicjaaRdrRead
import Derived.WalkKit
import Derived.Lib.Hide
import Derived.OwnWalk
import Derived.Below
import Derived.Laws.OwnMore
import Derived.Laws.AppendOwn
import Derived.Laws.AppendOwnNone
import Derived.Laws.MakeOwn
import Derived.Outline
import Derived.IntWalk
import Derived.WalkSpells
import Derived.WalkLawsBesides
import Derived.Deep.Heap
import Derived.Lib.MinMax
import Derived.Laws.Rows
import Derived.SizedLaws
import Derived.Deep.Slices
import Derived.Deep.Fields
import Derived.ChangeSame
import Derived.ChangeSlices
import Derived.SliceStrings
import Derived.ProofKit
import Derived.OpenShut
import Derived.ShutString
import Derived.Deep.AppendLies
import Derived.Deep.RegionLaw
import Derived.Deep.CutRange
import Derived.Deep.DrawnRows
import Derived.Lib.OthersKept
import Derived.Deep.RegionHeld3
import Derived.Deep.Draws
import Derived.RegionTactic

/- Slices of texts and of numbers that are appended whole, nil let in; append and make of rows of one's own. For lists of at most 10^6. -/
namespace Go.Proofs.Ytpmmjmnleoicjaa
open Go.RowKit Bytes Strs Nums

/-- A slice that is appended whole: nil, or at an address. -/
def Srcs (w : World) (v : Value) (n : Nat) (L : List (List UInt8)) : Prop :=
  (v = .slice none 0 0 ∧ n = 0 ∧ L = []) ∨ ∃ ad c, v = .slice (some ad) n c ∧ n = L.length ∧ ∀ k, k < L.length → w.cell? (ad.add k) = some (.string (mk (L.getD k [])))
set_option maxRecDepth 100000 in
theorem strs_of {w : World} {B : Nat} {A : Option Addr} {n c : Nat} {L : List (List UInt8)} (hr : RdS w B A L) (hl : L.length = n) (hc : A = none → c = 0) : Srcs w (.slice A n c) n L := by
  cases A with
  | none =>
    have h0 : L.length = 0 := by
      rcases Nat.eq_zero_or_pos L.length with h | h
      · exact h
      · obtain ⟨a, e, _⟩ := hr h
        cases e
    exact Or.inl ⟨by rw [hc rfl, ← hl, h0], by rw [← hl, h0], List.length_eq_zero_iff.1 h0⟩
  | some ad =>
    refine Or.inr ⟨ad, c, rfl, hl.symm, fun k hk => ?_⟩
    obtain ⟨a, e, _, hcell⟩ := hr.get hk
    injection e with e
    subst e
    exact hcell
set_option maxRecDepth 100000 in
theorem strs_below {w w' : World} {v : Value} {n : Nat} {L : List (List UInt8)} (h : Srcs w v n L) (hb : Below w.heap.size w w') : Srcs w' v n L := by
  rcases h with h | ⟨ad, c, hx, hn, hc⟩
  · exact Or.inl h
  · exact Or.inr ⟨ad, c, hx, hn, fun k hk => (hb.cell (World.block_lt_of_cell? _ _ (hc k hk))).trans (hc k hk)⟩
set_option maxRecDepth 100000 in
theorem run_append_strs {w : World} (ty : TypeId) (base : Nat) (v : Value) (m : Nat) (xs : List Value) (hown : w.ownsRow base 9 1 v m xs) (x : Value) (n : Nat) (L : List (List UInt8)) (hsrc : Srcs w x n L) (hmn : m + n ≤ 1000000) (hbase : base ≤ w.heap.size) :
    ∃ v' w', (Builtin.append_ #[57, 57] ty #[v, x]).run Try.prog w = .ok v' w' ∧ w'.ownsRow base 9 1 v' (m + n) (xs ++ strCs L) ∧ w.grownBy w' v.ownBlock := by
  obtain ⟨i0, hi, hz0, hz1, hz2⟩ := info_parts info9
  rcases hsrc with ⟨rfl, rfl, rfl⟩ | ⟨ad, c, rfl, hn, hc⟩
  · exact ⟨v, w, run_append_owned_none w base 57 ty 9 i0 1 Try.underlying57 hi v m xs hown, by simpa [strCs] using hown, World.grownBy.refl w _⟩
  · obtain ⟨v', w', hr, h2, h3, _⟩ := run_append_own (P := Try.prog) w base 57 ty 9 i0 (.string ⟨#[]⟩) 1 16 Try.underlying57 hi hz0 hz1 hz2 rfl (by decide) v m xs hown ad n c (strCs L) (by rw [strCs_len]; omega) (fun j u hj => by
      have hjl : j < L.length := by
        rcases Nat.lt_or_ge j L.length with h | h
        · exact h
        · rw [List.getElem?_eq_none (by rw [strCs_len]; exact h)] at hj; cases hj
      rw [strCs_at hjl] at hj
      injection hj with hj
      rw [← hj]
      exact hc j hjl) (fun u hu => by
      unfold strCs at hu
      obtain ⟨l, _, rfl⟩ := List.mem_map.1 hu
      rfl) (by unfold maxLen; omega) (by omega) hbase
    exact ⟨v', w', hr, h2, h3⟩
set_option maxRecDepth 100000 in
theorem wpList_append_strs {w : World} {ops : Array Oper} {rest : List Oper} {o : Oper} {a : Act} {Q : Exit → Act → World → Prop} (hgd : o.guard = none) (s x : Operand)
    (ho : o.op = .call { callee := .builtin .append, args := #[s, x], argTypes := #[57, 57] })
    (base : Nat) (v : Value) (m : Nat) (xs : List Value) (hs : a.eval s = v) (hown : w.ownsRow base 9 1 v m xs) (n : Nat) (L : List (List UInt8)) (hsrc : Srcs w (a.eval x) n L)
    (hmn : m + n ≤ 1000000) (hbase : base ≤ w.heap.size)
    (h : ∀ v' w', w'.ownsRow base 9 1 v' (m + n) (xs ++ strCs L) → w.grownBy w' v.ownBlock → wpList Try.prog ops Q rest (a.put o.dst v') w') : wpList Try.prog ops Q (o :: rest) a w := by
  obtain ⟨v', w', hr, h2, h3⟩ := run_append_strs o.type base v m xs hown (a.eval x) n L hsrc hmn hbase
  refine wpList_plain hgd fun K hK => ?_
  unfold Oper.wp
  simp [execOp, ho, resolve, invoke, builtin, hs, hr, Result.andThen]
  exact hK _ _ (h v' w' h2 h3)
set_option maxRecDepth 100000 in
theorem step_append_strs {w : World} {ops : Array Oper} {o : Oper} {a : Act} {K : Act → World → Prop} {Q : Exit → Act → World → Prop} {E : Prop} (hgd : o.guard = none) (s x : Operand)
    (ho : o.op = .call { callee := .builtin .append, args := #[s, x], argTypes := #[57, 57] })
    (base : Nat) (v : Value) (m : Nat) (xs : List Value) (hs : a.eval s = v) (hown : w.ownsRow base 9 1 v m xs) (xv : Value) (hx : a.eval x = xv) (n : Nat) (L : List (List UInt8)) (hsrc : Srcs w xv n L)
    (hmn : m + n ≤ 1000000) (hbase : base ≤ w.heap.size)
    (h : ∀ v' w', w'.ownsRow base 9 1 v' (m + n) (xs ++ strCs L) → w.grownBy w' v.ownBlock → K (a.put o.dst v') w') : if Region.wanted o (yielded ops a.tmps) = true then Oper.wp Try.prog o a w K Q else E := by
  have hw : Region.wanted o (yielded ops a.tmps) = true := by simp [Region.wanted, hgd]
  rw [if_pos hw]
  obtain ⟨v', w', hr, h2, h3⟩ := run_append_strs o.type base v m xs hown xv n L hsrc hmn hbase
  unfold Oper.wp
  simp [execOp, ho, resolve, invoke, builtin, hs, hx, hr, Result.andThen]
  exact h v' w' h2 h3
set_option maxRecDepth 100000 in
/-- make, with a length of 0. -/
theorem make0_strs (c : Nat) (hc : c ≤ 1000000) : ∃ M : Array Value, M.size = c ∧ ∀ W : World, (Instr.makeSlice 57 (.int .i64 0) (.int .i64 (c : Int))).run Try.prog W = .ok (.slice (some ⟨W.heap.size, 0, none⟩) 0 c) (W.alloc (.cells M 9)) := by
  obtain ⟨i0, hi, hz0, hz1, hz2⟩ := info_parts info9
  refine ⟨madeCells (.string ⟨#[]⟩ : Value).cells (((c : Nat) : Int).toNat * i0.size), ?_, fun W => ?_⟩
  · rw [size_madeCells, hz1]; simp
  · have h := run_make (P := Try.prog) W 57 9 i0 (.string ⟨#[]⟩) Try.underlying57 hi hz0 .i64 .i64 0 (c : Int) (by omega) (by omega) (by rw [hz2]; omega) (by omega)
    simpa using h
set_option maxRecDepth 100000 in
theorem made0_strs (W : World) (M : Array Value) (c base : Nat) (hM : M.size = c) (hc : c ≤ 1000000) (hb : base ≤ W.heap.size) : (W.alloc (.cells M 9)).ownsRow base 9 1 (.slice (some ⟨W.heap.size, 0, none⟩) 0 c) 0 [] :=
  World.ownsRow_made W M c hb (by unfold maxLen; omega) (by rw [hM, Nat.mul_one])

/-- A slice that is appended whole: nil, or at an address. -/
def SrcN (w : World) (v : Value) (n : Nat) (L : List Nat) : Prop :=
  (v = .slice none 0 0 ∧ n = 0 ∧ L = []) ∨ ∃ ad c, v = .slice (some ad) n c ∧ n = L.length ∧ ∀ k, k < L.length → w.cell? (ad.add k) = some (.int .u32 ((L.getD k 0 : Nat) : Int))
set_option maxRecDepth 100000 in
theorem nums_of {w : World} {B : Nat} {A : Option Addr} {n c : Nat} {L : List Nat} (hr : RdN w B A L) (hl : L.length = n) (hc : A = none → c = 0) : SrcN w (.slice A n c) n L := by
  cases A with
  | none =>
    have h0 : L.length = 0 := by
      rcases Nat.eq_zero_or_pos L.length with h | h
      · exact h
      · obtain ⟨a, e, _⟩ := hr h
        cases e
    exact Or.inl ⟨by rw [hc rfl, ← hl, h0], by rw [← hl, h0], List.length_eq_zero_iff.1 h0⟩
  | some ad =>
    refine Or.inr ⟨ad, c, rfl, hl.symm, fun k hk => ?_⟩
    obtain ⟨a, e, _, hcell⟩ := hr.get hk
    injection e with e
    subst e
    exact hcell
set_option maxRecDepth 100000 in
theorem nums_below {w w' : World} {v : Value} {n : Nat} {L : List Nat} (h : SrcN w v n L) (hb : Below w.heap.size w w') : SrcN w' v n L := by
  rcases h with h | ⟨ad, c, hx, hn, hc⟩
  · exact Or.inl h
  · exact Or.inr ⟨ad, c, hx, hn, fun k hk => (hb.cell (World.block_lt_of_cell? _ _ (hc k hk))).trans (hc k hk)⟩
set_option maxRecDepth 100000 in
theorem run_append_nums {w : World} (ty : TypeId) (base : Nat) (v : Value) (m : Nat) (xs : List Value) (hown : w.ownsRow base 50 1 v m xs) (x : Value) (n : Nat) (L : List Nat) (hsrc : SrcN w x n L) (hmn : m + n ≤ 1000000) (hbase : base ≤ w.heap.size) :
    ∃ v' w', (Builtin.append_ #[58, 58] ty #[v, x]).run Try.prog w = .ok v' w' ∧ w'.ownsRow base 50 1 v' (m + n) (xs ++ numCs L) ∧ w.grownBy w' v.ownBlock := by
  obtain ⟨i0, hi, hz0, hz1, hz2⟩ := info_parts info23
  rcases hsrc with ⟨rfl, rfl, rfl⟩ | ⟨ad, c, rfl, hn, hc⟩
  · exact ⟨v, w, run_append_owned_none w base 58 ty 50 i0 1 Try.underlying58 hi v m xs hown, by simpa [numCs] using hown, World.grownBy.refl w _⟩
  · obtain ⟨v', w', hr, h2, h3, _⟩ := run_append_own (P := Try.prog) w base 58 ty 50 i0 (.int .u32 0) 1 4 Try.underlying58 hi hz0 hz1 hz2 rfl (by decide) v m xs hown ad n c (numCs L) (by rw [numCs_len]; omega) (fun j u hj => by
      have hjl : j < L.length := by
        rcases Nat.lt_or_ge j L.length with h | h
        · exact h
        · rw [List.getElem?_eq_none (by rw [numCs_len]; exact h)] at hj; cases hj
      rw [numCs_at hjl] at hj
      injection hj with hj
      rw [← hj]
      exact hc j hjl) (fun u hu => by
      unfold numCs at hu
      obtain ⟨l, _, rfl⟩ := List.mem_map.1 hu
      rfl) (by unfold maxLen; omega) (by omega) hbase
    exact ⟨v', w', hr, h2, h3⟩
set_option maxRecDepth 100000 in
theorem wpList_append_nums {w : World} {ops : Array Oper} {rest : List Oper} {o : Oper} {a : Act} {Q : Exit → Act → World → Prop} (hgd : o.guard = none) (s x : Operand)
    (ho : o.op = .call { callee := .builtin .append, args := #[s, x], argTypes := #[58, 58] })
    (base : Nat) (v : Value) (m : Nat) (xs : List Value) (hs : a.eval s = v) (hown : w.ownsRow base 50 1 v m xs) (n : Nat) (L : List Nat) (hsrc : SrcN w (a.eval x) n L)
    (hmn : m + n ≤ 1000000) (hbase : base ≤ w.heap.size)
    (h : ∀ v' w', w'.ownsRow base 50 1 v' (m + n) (xs ++ numCs L) → w.grownBy w' v.ownBlock → wpList Try.prog ops Q rest (a.put o.dst v') w') : wpList Try.prog ops Q (o :: rest) a w := by
  obtain ⟨v', w', hr, h2, h3⟩ := run_append_nums o.type base v m xs hown (a.eval x) n L hsrc hmn hbase
  refine wpList_plain hgd fun K hK => ?_
  unfold Oper.wp
  simp [execOp, ho, resolve, invoke, builtin, hs, hr, Result.andThen]
  exact hK _ _ (h v' w' h2 h3)
set_option maxRecDepth 100000 in
theorem step_append_nums {w : World} {ops : Array Oper} {o : Oper} {a : Act} {K : Act → World → Prop} {Q : Exit → Act → World → Prop} {E : Prop} (hgd : o.guard = none) (s x : Operand)
    (ho : o.op = .call { callee := .builtin .append, args := #[s, x], argTypes := #[58, 58] })
    (base : Nat) (v : Value) (m : Nat) (xs : List Value) (hs : a.eval s = v) (hown : w.ownsRow base 50 1 v m xs) (xv : Value) (hx : a.eval x = xv) (n : Nat) (L : List Nat) (hsrc : SrcN w xv n L)
    (hmn : m + n ≤ 1000000) (hbase : base ≤ w.heap.size)
    (h : ∀ v' w', w'.ownsRow base 50 1 v' (m + n) (xs ++ numCs L) → w.grownBy w' v.ownBlock → K (a.put o.dst v') w') : if Region.wanted o (yielded ops a.tmps) = true then Oper.wp Try.prog o a w K Q else E := by
  have hw : Region.wanted o (yielded ops a.tmps) = true := by simp [Region.wanted, hgd]
  rw [if_pos hw]
  obtain ⟨v', w', hr, h2, h3⟩ := run_append_nums o.type base v m xs hown xv n L hsrc hmn hbase
  unfold Oper.wp
  simp [execOp, ho, resolve, invoke, builtin, hs, hx, hr, Result.andThen]
  exact h v' w' h2 h3
set_option maxRecDepth 100000 in
/-- make, with a length of 0. -/
theorem make0_nums (c : Nat) (hc : c ≤ 1000000) : ∃ M : Array Value, M.size = c ∧ ∀ W : World, (Instr.makeSlice 58 (.int .i64 0) (.int .i64 (c : Int))).run Try.prog W = .ok (.slice (some ⟨W.heap.size, 0, none⟩) 0 c) (W.alloc (.cells M 50)) := by
  obtain ⟨i0, hi, hz0, hz1, hz2⟩ := info_parts info23
  refine ⟨madeCells (.int .u32 0 : Value).cells (((c : Nat) : Int).toNat * i0.size), ?_, fun W => ?_⟩
  · rw [size_madeCells, hz1]; simp
  · have h := run_make (P := Try.prog) W 58 50 i0 (.int .u32 0) Try.underlying58 hi hz0 .i64 .i64 0 (c : Int) (by omega) (by omega) (by rw [hz2]; omega) (by omega)
    simpa using h
set_option maxRecDepth 100000 in
theorem made0_nums (W : World) (M : Array Value) (c base : Nat) (hM : M.size = c) (hc : c ≤ 1000000) (hb : base ≤ W.heap.size) : (W.alloc (.cells M 50)).ownsRow base 50 1 (.slice (some ⟨W.heap.size, 0, none⟩) 0 c) 0 [] :=
  World.ownsRow_made W M c hb (by unfold maxLen; omega) (by rw [hM, Nat.mul_one])
end Go.Proofs.Ytpmmjmnleoicjaa

/- The contracts of slices.Clone over texts and numbers. For lists of at most 10^5. -/
namespace Go.Proofs.Ytpmmjmnleoicjaa
open Go.RowKit Bytes Strs Nums

/-- A row of texts of the call's own came back, and nothing that stood has changed. -/
def RowS (w : World) (n : Nat) (L : List (List UInt8)) (e : Ending) (w' : World) : Prop := ∃ v, e = .returned v ∧ w'.ownsRow w.heap.size 9 1 v n (strCs L) ∧ Below w.heap.size w w'
def RowN (w : World) (n : Nat) (L : List Nat) (e : Ending) (w' : World) : Prop := ∃ v, e = .returned v ∧ w'.ownsRow w.heap.size 50 1 v n (numCs L) ∧ Below w.heap.size w w'

set_option maxHeartbeats 1000000 in
set_option maxRecDepth 100000 in
theorem cloneS_is (A : Option Addr) (c n : Nat) (L : List (List UInt8)) (w : World) (hr : RdS w w.heap.size A L) (hn0 : Hid (L.length = n)) (hn : n ≤ 100000) (hf : A = none → c = 0) :
    Calls Try.prog 145 #[.slice A n c] w (RowS w n L) := by
  have hsrc := strs_of hr hn0.out hf
  have HSRC := Lib.hid hsrc
  have heq : ∀ W : World, (binOp .eql 57 (.slice A n c) (.slice none 0 0)).run Try.prog W = .ok (.bool A.isNone) W := fun W => Lib.run_eql_slice_nil W 57 9 A n c 0 0 Try.underlying57
  clear hsrc hr
  cases A with
  | none =>
    have h0 : n = 0 ∧ L = [] := by
      rcases HSRC.out with ⟨_, h1, h2⟩ | ⟨ad, c', h, _⟩
      · exact ⟨h1, h2⟩
      · cases h
    obtain ⟨rfl, rfl⟩ := h0
    obtain rfl : c = 0 := hf rfl
    have heq0 : ∀ W : World, (binOp .eql 57 (.slice none 0 0) (.slice none 0 0)).run Try.prog W = .ok (.bool true) W := heq
    clear heq
    go_enter Try.func145, Try.ntmps145
    go_wp2_with fail
    go_ret
    exact ⟨_, rfl, World.ownsRow_nil _ _ _ _, Below.refl _ _⟩
  | some ad =>
    have heq0 : ∀ W : World, (binOp .eql 57 (.slice (some ad) n c) (.slice none 0 0)).run Try.prog W = .ok (.bool false) W := heq
    clear heq
    have hown : (w.alloc (.cells #[] 9)).ownsRow w.heap.size 9 1 (.slice (some ⟨w.heap.size, 0, none⟩) 0 0) 0 [] := World.ownsRow_made w #[] 0 (Nat.le_refl _) (by decide) rfl
    have HOWN := Lib.hid hown
    have HS2 := Lib.hid (strs_below HSRC.out ((Below.refl _ w).alloc (Nat.le_refl _) (.cells #[] 9)))
    have HB := Lib.hid ((Below.refl w.heap.size w).alloc (Nat.le_refl _) (.cells #[] 9))
    clear hown
    go_enter Try.func145, Try.ntmps145
    go_wp2_with (at_builtin; refine wpList_append_strs rfl _ _ rfl w.heap.size _ 0 [] rfl HOWN.out n L HS2.out (by omega) (by simp) ?_)
    intro v' w2 hown2 hgrow
    have HO := Lib.hid hown2
    have HB2 := Lib.hid (HB.out.grown hgrow HB.out.size (fun k hk => (HOWN.out.lt k hk).1))
    clear hown2 hgrow
    go_wp2_with fail
    go_ret
    exact ⟨_, rfl, HO.out, HB2.out⟩

set_option maxHeartbeats 1000000 in
set_option maxRecDepth 100000 in
theorem cloneN_is (A : Option Addr) (c n : Nat) (L : List Nat) (w : World) (hr : RdN w w.heap.size A L) (hn0 : Hid (L.length = n)) (hn : n ≤ 100000) (hf : A = none → c = 0) :
    Calls Try.prog 126 #[.slice A n c] w (RowN w n L) := by
  have hsrc := nums_of hr hn0.out hf
  have HSRC := Lib.hid hsrc
  have heq : ∀ W : World, (binOp .eql 58 (.slice A n c) (.slice none 0 0)).run Try.prog W = .ok (.bool A.isNone) W := fun W => Lib.run_eql_slice_nil W 58 50 A n c 0 0 Try.underlying58
  clear hsrc hr
  cases A with
  | none =>
    have h0 : n = 0 ∧ L = [] := by
      rcases HSRC.out with ⟨_, h1, h2⟩ | ⟨ad, c', h, _⟩
      · exact ⟨h1, h2⟩
      · cases h
    obtain ⟨rfl, rfl⟩ := h0
    obtain rfl : c = 0 := hf rfl
    have heq0 : ∀ W : World, (binOp .eql 58 (.slice none 0 0) (.slice none 0 0)).run Try.prog W = .ok (.bool true) W := heq
    clear heq
    go_enter Try.func126, Try.ntmps126
    go_wp2_with fail
    go_ret
    exact ⟨_, rfl, World.ownsRow_nil _ _ _ _, Below.refl _ _⟩
  | some ad =>
    have heq0 : ∀ W : World, (binOp .eql 58 (.slice (some ad) n c) (.slice none 0 0)).run Try.prog W = .ok (.bool false) W := heq
    clear heq
    have hown : (w.alloc (.cells #[] 50)).ownsRow w.heap.size 50 1 (.slice (some ⟨w.heap.size, 0, none⟩) 0 0) 0 [] := World.ownsRow_made w #[] 0 (Nat.le_refl _) (by decide) rfl
    have HOWN := Lib.hid hown
    have HS2 := Lib.hid (nums_below HSRC.out ((Below.refl _ w).alloc (Nat.le_refl _) (.cells #[] 50)))
    have HB := Lib.hid ((Below.refl w.heap.size w).alloc (Nat.le_refl _) (.cells #[] 50))
    clear hown
    go_enter Try.func126, Try.ntmps126
    go_wp2_with (at_builtin; refine wpList_append_nums rfl _ _ rfl w.heap.size _ 0 [] rfl HOWN.out n L HS2.out (by omega) (by simp) ?_)
    intro v' w2 hown2 hgrow
    have HO := Lib.hid hown2
    have HB2 := Lib.hid (HB.out.grown hgrow HB.out.size (fun k hk => (HOWN.out.lt k hk).1))
    clear hown2 hgrow
    go_wp2_with fail
    go_ret
    exact ⟨_, rfl, HO.out, HB2.out⟩
end Go.Proofs.Ytpmmjmnleoicjaa

/- The contract of rdata's copied: texts that are like these, in memory of the call's own. For lists of at most 10^5 texts of at most 10^6 bytes. -/
namespace Go.Proofs.Ytpmmjmnleoicjaa
open Go.RowKit Bytes Strs Nums

set_option maxRecDepth 100000 in
theorem setCell_same {w : World} {a : Addr} {v : Value} (h : w.cell? a = some v) : w.setCell a v = w := by
  have hh : (w.setCell a v).heap = w.heap := by
    apply Array.ext_getElem?
    intro i
    unfold World.setCell
    simp only [Array.getElem?_modify]
    by_cases hi : a.block = i
    · subst hi
      rw [if_pos rfl]
      unfold World.cell? at h
      cases hb : w.heap[a.block]? with
      | none => rfl
      | some o =>
        rw [hb] at h
        cases o with
        | cells c e fz =>
          simp only at h
          by_cases hs : a.spot.isSome = true
          · rw [if_pos hs] at h; cases h
          · rw [if_neg hs] at h
            simp only [Option.map_some, if_neg hs]
            refine congrArg (fun c => some (Obj.cells c e fz)) ?_
            apply Array.ext_getElem?
            intro j
            rw [Array.getElem?_setIfInBounds]
            by_cases hj : a.off = j
            · subst hj
              rw [if_pos rfl, h]
              have hl : a.off < c.size := by
                rcases Nat.lt_or_ge a.off c.size with hl | hl
                · exact hl
                · rw [Array.getElem?_eq_none hl] at h; cases h
              rw [if_pos hl]
            · rw [if_neg hj]
        | _ => rfl
    · rw [if_neg hi]
  have e : w.setCell a v = { w with heap := (w.setCell a v).heap } := rfl
  rw [e, hh]
set_option maxRecDepth 100000 in
/-- What a row of one's own looks like: nil, or a block that may be written. -/
theorem own_look {w : World} {base n : Nat} {e : TypeId} {v : Value} {xs : List Value} (h : w.ownsRow base e 1 v n xs) :
    (v = .slice none 0 0 ∧ n = 0) ∨ ∃ g cap, v = .slice (some ⟨g, 0, none⟩) n cap ∧ base ≤ g ∧ g < w.heap.size ∧ n ≤ cap ∧ (∀ k, w.frozen? ⟨g, k, none⟩ = false) ∧ ∀ k u, xs[k]? = some u → w.cell? ⟨g, k, none⟩ = some u := by
  rcases h.2 with ⟨hv, h0⟩ | ⟨g, cap, cur, hv, hb, hg, hcap, _⟩
  · exact Or.inl ⟨hv, h0⟩
  · refine Or.inr ⟨g, cap, hv, hb, (h.lt g (by rw [hv]; rfl)).2, hcap, fun k => Lib.frozen_of_heap hg k, fun k u hk => ?_⟩
    have := h.cells (g := g) (by rw [hv]; rfl) k u hk
    rwa [show ((⟨g, 0, none⟩ : Addr).add k) = ⟨g, k, none⟩ from by unfold Addr.add; split <;> simp_all] at this

set_option maxHeartbeats 2000000 in
set_option maxRecDepth 100000 in
theorem copied_is (A : Option Addr) (c n : Nat) (L : List (List UInt8)) (w : World) (hr : RdS w w.heap.size A L) (hn0 : Hid (L.length = n)) (hn : n ≤ 100000) (hf : A = none → c = 0) (hs : Hid (∀ j, j < L.length → (L.getD j []).length ≤ 1000000)) :
    Calls Try.prog 125 #[.slice A n c] w (RowS w n L) := by
  have HR := Lib.hid hr
  clear hr
  generalize hg : w.heap.size = g at *
  have G := Lib.hid hg
  clear hg
  go_enter Try.func125, Try.ntmps125
  go_wp2_with fail
  refine (cloneS_is A c n L _ (by rw [G.out]; exact HR.out) hn0 hn hf).mono ?_
  rintro e w1 ⟨v, rfl, hO, hB⟩
  rw [G.out] at hO hB
  have HO := Lib.hid hO
  clear hO
  go_wp2_with fail
  go_loopw [10, 4, 5] (fun i u4 u5 wr => ∃ j : Nat, j ≤ n ∧ i = .int .i64 j ∧ Hid (wr.ownsRow g 9 1 v n (strCs L)) ∧ Below g w wr) (fun i _ _ _ => n - (intOf i).toNat)
  case atStart => exact ⟨0, Nat.zero_le _, rfl, HO, hB⟩
  case round =>
    obtain ⟨j, hj, rfl, hOw, hBw⟩ := hrel
    by_cases hlt : j < n
    · have hkl : j < L.length := by rw [hn0.out]; exact hlt
      obtain ⟨ad, rfl, hab, hcell⟩ := (HR.out.on hBw (Nat.le_refl g)).get hkl
      have hy6 : (mk (L.getD j [])).size ≤ 1000000 := by rw [mk_size]; exact hs.out j hkl
      have hat := strCs_at hkl
      generalize mk (L.getD j []) = y at *
      have HAT := Lib.hid hat
      clear hkl hat
      go_wp2_with fail
      refine (clone_any y _ hy6).mono ?_
      rintro e w3 ⟨rfl, hB3⟩
      have hO3 := own_below hOw.out hB3
      have hBB := hBw.trans (hB3.mono (by have := hBw.size; have := G.out; omega))
      rcases own_look hO3 with ⟨_, h0⟩ | ⟨b, cap, rfl, hb, hbl, hcap, hfz, hcs⟩
      · omega
      · have hcell3 := hcs j _ HAT.out
        have hfz3 := hfz j
        have HSAME := Lib.hid (setCell_same hcell3)
        have HO3 := Lib.hid hO3
        have hji : (j : Int) < n := by omega
        clear hcs hfz hO3 hB3 hBw hOw hcell
        go_wp2_with fail
        rw [HSAME.out]
        go_roundw
        case rel => exact ⟨j + 1, by omega, by go_num, HO3, hBB⟩
        case measure => simp [intOf]; omega
    · go_wp2_with fail
      go_ret
      exact ⟨_, rfl, by rw [G.out]; exact hOw.out, by rw [G.out]; exact hBw⟩
end Go.Proofs.Ytpmmjmnleoicjaa

/- The contract of rdata's Copy. For records of at most 10^5 texts of at most 10^5 bytes. -/
namespace Go.Proofs.Ytpmmjmnleoicjaa
open Go.RowKit Bytes Strs Nums NameMath RecMath

set_option maxRecDepth 100000 in
theorem set_block {w : World} {g i : Nat} {cs ds : Array Value} {t : TypeId} {fz : Nat × Nat} {v : Value} (h : w.heap[g]? = some (.cells cs t fz)) (hd : cs.setIfInBounds i v = ds) : (w.setCell ⟨g, i, none⟩ v).heap[g]? = some (.cells ds t fz) := by
  subst hd
  simp [World.setCell, Array.getElem?_modify, h]
set_option maxRecDepth 100000 in
theorem other_block {w : World} {g j i : Nat} {v : Value} {o : Option Obj} (h : w.heap[g]? = o) (hne : g ≠ j) : (w.setCell ⟨j, i, none⟩ v).heap[g]? = o := by
  rw [Go.Deep.blk_setCell_other _ _ _ _ hne]; exact h
set_option maxRecDepth 100000 in
theorem own_set {w : World} {base n : Nat} {e : TypeId} {v u : Value} {xs : List Value} {p : Addr} (h : w.ownsRow base e 1 v n xs) (hp : p.block < base) : (w.setCell p u).ownsRow base e 1 v n xs := by
  refine h.kept (row := some p.block) ⟨rfl, rfl, rfl, by simp [World.setCell], fun k _ hne => ?_⟩ ?_
  · exact Go.Deep.blk_setCell_other _ _ _ _ (fun e => hne (by rw [e]))
  · refine Or.inr (fun e => ?_)
    have := (h.lt p.block e).1
    omega
set_option maxRecDepth 100000 in
theorem own_low {w : World} {base b n : Nat} {e : TypeId} {v : Value} {xs : List Value} (h : w.ownsRow base e 1 v n xs) (hb : b ≤ base) : w.ownsRow b e 1 v n xs := by
  refine ⟨h.1, ?_⟩
  rcases h.2 with h0 | ⟨g, cap, cur, hv, hg, r⟩
  · exact Or.inl h0
  · exact Or.inr ⟨g, cap, cur, hv, by omega, r⟩
/-- A record came back in memory of the call's own. -/
def RecRes (w : World) (R : Rec) (x : ByteArray) (k l t n1 n2 n3 : Nat) (e : Ending) (w' : World) : Prop :=
  ∃ B1 d1 B2 d2 B3 d3, e = .returned (.agg #[.string x, .int .u16 k, .int .u16 l, .int .u32 t, .slice B1 n1 d1, .slice B2 n2 d2, .slice B3 n3 d3]) ∧ w'.ownsRow w.heap.size 9 1 (.slice B1 n1 d1) n1 (strCs R.names) ∧ w'.ownsRow w.heap.size 50 1 (.slice B2 n2 d2) n2 (numCs R.nums) ∧ w'.ownsRow w.heap.size 9 1 (.slice B3 n3 d3) n3 (strCs R.texts) ∧ Below w.heap.size w w'

set_option maxHeartbeats 4000000 in
set_option maxRecDepth 100000 in
theorem copy_is (R : Rec) (x : ByteArray) (k l t : Nat) (A1 : Option Addr) (n1 c1 : Nat) (A2 : Option Addr) (n2 c2 : Nat) (A3 : Option Addr) (n3 c3 : Nat) (w : World) (hR : Hid (RecAt w w.heap.size R x k l t A1 n1 A2 n2 A3 n3)) (hS : Hid (Small R)) (hf1 : A1 = none → c1 = 0) (hf2 : A2 = none → c2 = 0) (hf3 : A3 = none → c3 = 0) :
    Calls Try.prog 110 #[.agg #[.string x, .int .u16 k, .int .u16 l, .int .u32 t, .slice A1 n1 c1, .slice A2 n2 c2, .slice A3 n3 c3]] w (RecRes w R x k l t n1 n2 n3) := by
  have hx := hR.out.size hS.out
  have hx6 : x.size ≤ 1000000 := by omega
  have hm1 := hR.out.m1 hS.out
  have hm2 := hR.out.m2 hS.out
  have hm3 := hR.out.m3 hS.out
  have HS1 : Hid (∀ j, j < R.names.length → (R.names.getD j []).length ≤ 1000000) := fun j hj => Nat.le_trans (hS.out.s1 j hj) (by decide)
  have HS3 : Hid (∀ j, j < R.texts.length → (R.texts.getD j []).length ≤ 1000000) := fun j hj => Nat.le_trans (hS.out.s3 j hj) (by decide)
  have HF1 := Lib.hid hf1
  have HF2 := Lib.hid hf2
  have HF3 := Lib.hid hf3
  clear hf1 hf2 hf3
  go_enter Try.func110, Try.ntmps110
  go_wp2_with fail
  have hG0 : ((w.alloc (.cells #[.string x, .int .u16 k, .int .u16 l, .int .u32 t, .slice A1 n1 c1, .slice A2 n2 c2, .slice A3 n3 c3] 60)).alloc (.cells #[.string ⟨#[]⟩, .int .u16 0, .int .u16 0, .int .u32 0, .slice none 0 0, .slice none 0 0, .slice none 0 0] 60)).heap[w.heap.size]? = some (.cells #[.string x, .int .u16 k, .int .u16 l, .int .u32 t, .slice A1 n1 c1, .slice A2 n2 c2, .slice A3 n3 c3] 60 (0, 0)) := (heap_alloc_old (w.alloc (.cells #[.string x, .int .u16 k, .int .u16 l, .int .u32 t, .slice A1 n1 c1, .slice A2 n2 c2, .slice A3 n3 c3] 60)) (.cells #[.string ⟨#[]⟩, .int .u16 0, .int .u16 0, .int .u32 0, .slice none 0 0, .slice none 0 0, .slice none 0 0] 60) (by simp)).trans (heap_alloc_new w _)
  have hH0 : ((w.alloc (.cells #[.string x, .int .u16 k, .int .u16 l, .int .u32 t, .slice A1 n1 c1, .slice A2 n2 c2, .slice A3 n3 c3] 60)).alloc (.cells #[.string ⟨#[]⟩, .int .u16 0, .int .u16 0, .int .u32 0, .slice none 0 0, .slice none 0 0, .slice none 0 0] 60)).heap[w.heap.size + 1]? = some (.cells #[.string ⟨#[]⟩, .int .u16 0, .int .u16 0, .int .u32 0, .slice none 0 0, .slice none 0 0, .slice none 0 0] 60 (0, 0)) := by
    have := heap_alloc_new (w.alloc (.cells #[.string x, .int .u16 k, .int .u16 l, .int .u32 t, .slice A1 n1 c1, .slice A2 n2 c2, .slice A3 n3 c3] 60)) (.cells #[.string ⟨#[]⟩, .int .u16 0, .int .u16 0, .int .u32 0, .slice none 0 0, .slice none 0 0, .slice none 0 0] 60)
    simpa using this
  have hB0 : Below w.heap.size w ((w.alloc (.cells #[.string x, .int .u16 k, .int .u16 l, .int .u32 t, .slice A1 n1 c1, .slice A2 n2 c2, .slice A3 n3 c3] 60)).alloc (.cells #[.string ⟨#[]⟩, .int .u16 0, .int .u16 0, .int .u32 0, .slice none 0 0, .slice none 0 0, .slice none 0 0] 60)) := ((Below.refl _ _).alloc (Nat.le_refl _) _).alloc (by simp) _
  have hs0 : w.heap.size + 2 ≤ ((w.alloc (.cells #[.string x, .int .u16 k, .int .u16 l, .int .u32 t, .slice A1 n1 c1, .slice A2 n2 c2, .slice A3 n3 c3] 60)).alloc (.cells #[.string ⟨#[]⟩, .int .u16 0, .int .u16 0, .int .u32 0, .slice none 0 0, .slice none 0 0, .slice none 0 0] 60)).heap.size := by simp
  have HR0 := Lib.hid (hR.out.on hB0 hB0.size)
  have HRg := Lib.hid hR.out
  generalize ((w.alloc (.cells #[.string x, .int .u16 k, .int .u16 l, .int .u32 t, .slice A1 n1 c1, .slice A2 n2 c2, .slice A3 n3 c3] 60)).alloc (.cells #[.string ⟨#[]⟩, .int .u16 0, .int .u16 0, .int .u32 0, .slice none 0 0, .slice none 0 0, .slice none 0 0] 60)) = w0 at *
  have HA := Lib.hid hG0
  have HH := Lib.hid hH0
  have HB := Lib.hid hB0
  clear hG0 hH0 hB0 hR
  generalize hgw : w.heap.size = g at *
  have HGW := Lib.hid hgw
  clear hgw
  refine (clone_any x _ hx6).mono ?_
  rintro e w1 ⟨rfl, hB1⟩
  have hs1 : g + 2 ≤ w1.heap.size := by have := hB1.size; omega
  have hs1b := hB1.size
  have hG1 : w1.heap[g]? = some (.cells #[.string x, .int .u16 k, .int .u16 l, .int .u32 t, .slice A1 n1 c1, .slice A2 n2 c2, .slice A3 n3 c3] 60 (0, 0)) := (hB1.block g (by omega)).trans HA.out
  have hH1 : w1.heap[g + 1]? = some (.cells #[.string ⟨#[]⟩, .int .u16 0, .int .u16 0, .int .u32 0, .slice none 0 0, .slice none 0 0, .slice none 0 0] 60 (0, 0)) := (hB1.block (g + 1) (by omega)).trans HH.out
  have HBw1 : Hid (Below g w w1) := HB.out.trans (hB1.mono (by omega))
  have HR1 := Lib.hid (HR0.out.on (hB1.mono (Nat.le_refl _)) hs1b)
  clear HA HH HB hB1 HR0
  have p0 : w1.cell? ⟨g, 0, none⟩ = some (.string x) := by rw [Lib.cell_of_heap hG1]; rfl
  have p4 : w1.cell? ⟨g, 4, none⟩ = some (.slice A1 n1 c1) := by rw [Lib.cell_of_heap hG1]; rfl
  have pz0 : w1.frozen? ⟨g, 0, none⟩ = false := Lib.frozen_of_heap hG1 0
  have HSAME := Lib.hid (setCell_same p0)
  have HG1 := Lib.hid hG1
  have HH1 := Lib.hid hH1
  clear hG1 hH1
  go_wp2_with fail
  rw [HSAME.out]
  clear p0 p4 pz0 HSAME
  ((with_reducible refine (copied_is A1 c1 n1 R.names w1 HR1.out.rd1 (Lib.hid HR1.out.len1) hm1 HF1.out HS1).mono ?_))
  rintro e y2 ⟨v, rfl, hO2, hBy2⟩
  obtain ⟨B1, d1, rfl, _, _, _⟩ := own_rds hO2 HR1.out.len1.symm
  have hsy2 := hBy2.size
  have hs1' := hs1
  have hg2 : g + 2 ≤ w1.heap.size := by omega
  have hGy2 : y2.heap[g]? = some (.cells #[.string x, .int .u16 k, .int .u16 l, .int .u32 t, .slice A1 n1 c1, .slice A2 n2 c2, .slice A3 n3 c3] 60 (0, 0)) := (hBy2.block g (by omega)).trans HG1.out
  have hHy2 : y2.heap[g + 1]? = some (.cells #[.string ⟨#[]⟩, .int .u16 0, .int .u16 0, .int .u32 0, .slice none 0 0, .slice none 0 0, .slice none 0 0] 60 (0, 0)) := (hBy2.block (g + 1) (by omega)).trans HH1.out
  have p4 : y2.cell? ⟨g, 4, none⟩ = some (.slice A1 n1 c1) := by rw [Lib.cell_of_heap hGy2]; rfl
  have p5 : y2.cell? ⟨g, 5, none⟩ = some (.slice A2 n2 c2) := by rw [Lib.cell_of_heap hGy2]; rfl
  have pz4 : y2.frozen? ⟨g, 4, none⟩ = false := Lib.frozen_of_heap hGy2 4
  have hG2 : (y2.setCell ⟨g, 4, none⟩ (.slice B1 n1 d1)).heap[g]? = some (.cells #[.string x, .int .u16 k, .int .u16 l, .int .u32 t, .slice B1 n1 d1, .slice A2 n2 c2, .slice A3 n3 c3] 60 (0, 0)) := set_block hGy2 (by rfl)
  have hH2 : (y2.setCell ⟨g, 4, none⟩ (.slice B1 n1 d1)).heap[g + 1]? = some (.cells #[.string ⟨#[]⟩, .int .u16 0, .int .u16 0, .int .u32 0, .slice none 0 0, .slice none 0 0, .slice none 0 0] 60 (0, 0)) := other_block hHy2 (by omega)
  have hs2 : g + 2 ≤ (y2.setCell ⟨g, 4, none⟩ (.slice B1 n1 d1)).heap.size := by rw [Go.Deep.nblk_setCell]; omega
  have hBw2 : Below g w (y2.setCell ⟨g, 4, none⟩ (.slice B1 n1 d1)) := (HBw1.out.trans (hBy2.mono (by omega))).setCell (p := ⟨g, 4, none⟩) (Nat.le_refl g) _
  have hOv2 : (y2.setCell ⟨g, 4, none⟩ (.slice B1 n1 d1)).ownsRow (g + 2) 9 1 (.slice B1 n1 d1) n1 (strCs R.names) := own_set (own_low hO2 hg2) (Nat.lt_succ_of_lt (Nat.lt_succ_self g))
  have hR2 : RecAt (y2.setCell ⟨g, 4, none⟩ (.slice B1 n1 d1)) (y2.setCell ⟨g, 4, none⟩ (.slice B1 n1 d1)).heap.size R x k l t A1 n1 A2 n2 A3 n3 := HRg.out.on hBw2 (by rw [Go.Deep.nblk_setCell]; omega)
  have HG2 := Lib.hid hG2
  have HH2 := Lib.hid hH2
  have HBw2 := Lib.hid hBw2
  have HR2 := Lib.hid hR2
  have HOv1 := Lib.hid hOv2
  clear hG2 hH2 hBw2 hR2 hOv2 hGy2 hHy2 hO2 hBy2 hg2  HG1 HH1 HBw1 HR1 hs1'
  go_wp2_with fail
  clear p4 p5 pz4 hsy2
  generalize y2.setCell ⟨g, 4, none⟩ (.slice B1 n1 d1) = w2 at *
  ((with_reducible refine (cloneN_is A2 c2 n2 R.nums w2 HR2.out.rd2 (Lib.hid HR2.out.len2) hm2 HF2.out).mono ?_))
  rintro e y3 ⟨v, rfl, hO3, hBy3⟩
  obtain ⟨B2, d2, rfl, _, _, _⟩ := own_rdn hO3 HR2.out.len2.symm
  have hsy3 := hBy3.size
  have hs2' := hs2
  have hg2 : g + 2 ≤ w2.heap.size := by omega
  have hGy3 : y3.heap[g]? = some (.cells #[.string x, .int .u16 k, .int .u16 l, .int .u32 t, .slice B1 n1 d1, .slice A2 n2 c2, .slice A3 n3 c3] 60 (0, 0)) := (hBy3.block g (by omega)).trans HG2.out
  have hHy3 : y3.heap[g + 1]? = some (.cells #[.string ⟨#[]⟩, .int .u16 0, .int .u16 0, .int .u32 0, .slice none 0 0, .slice none 0 0, .slice none 0 0] 60 (0, 0)) := (hBy3.block (g + 1) (by omega)).trans HH2.out
  have hqv1 := own_below HOv1.out hBy3
  have p5 : y3.cell? ⟨g, 5, none⟩ = some (.slice A2 n2 c2) := by rw [Lib.cell_of_heap hGy3]; rfl
  have p6 : y3.cell? ⟨g, 6, none⟩ = some (.slice A3 n3 c3) := by rw [Lib.cell_of_heap hGy3]; rfl
  have pz5 : y3.frozen? ⟨g, 5, none⟩ = false := Lib.frozen_of_heap hGy3 5
  have hG3 : (y3.setCell ⟨g, 5, none⟩ (.slice B2 n2 d2)).heap[g]? = some (.cells #[.string x, .int .u16 k, .int .u16 l, .int .u32 t, .slice B1 n1 d1, .slice B2 n2 d2, .slice A3 n3 c3] 60 (0, 0)) := set_block hGy3 (by rfl)
  have hH3 : (y3.setCell ⟨g, 5, none⟩ (.slice B2 n2 d2)).heap[g + 1]? = some (.cells #[.string ⟨#[]⟩, .int .u16 0, .int .u16 0, .int .u32 0, .slice none 0 0, .slice none 0 0, .slice none 0 0] 60 (0, 0)) := other_block hHy3 (by omega)
  have hs3 : g + 2 ≤ (y3.setCell ⟨g, 5, none⟩ (.slice B2 n2 d2)).heap.size := by rw [Go.Deep.nblk_setCell]; omega
  have hBw3 : Below g w (y3.setCell ⟨g, 5, none⟩ (.slice B2 n2 d2)) := (HBw2.out.trans (hBy3.mono (by omega))).setCell (p := ⟨g, 5, none⟩) (Nat.le_refl g) _
  have hOv3 : (y3.setCell ⟨g, 5, none⟩ (.slice B2 n2 d2)).ownsRow (g + 2) 50 1 (.slice B2 n2 d2) n2 (numCs R.nums) := own_set (own_low hO3 hg2) (Nat.lt_succ_of_lt (Nat.lt_succ_self g))
  have hqv1' : (y3.setCell ⟨g, 5, none⟩ (.slice B2 n2 d2)).ownsRow (g + 2) 9 1 (.slice B1 n1 d1) n1 (strCs R.names) := own_set hqv1 (Nat.lt_succ_of_lt (Nat.lt_succ_self g))
  have hR3 : RecAt (y3.setCell ⟨g, 5, none⟩ (.slice B2 n2 d2)) (y3.setCell ⟨g, 5, none⟩ (.slice B2 n2 d2)).heap.size R x k l t A1 n1 A2 n2 A3 n3 := HRg.out.on hBw3 (by rw [Go.Deep.nblk_setCell]; omega)
  have HG3 := Lib.hid hG3
  have HH3 := Lib.hid hH3
  have HBw3 := Lib.hid hBw3
  have HR3 := Lib.hid hR3
  have HOv2 := Lib.hid hOv3
  have HOv1 := Lib.hid hqv1'
  clear hG3 hH3 hBw3 hR3 hOv3 hGy3 hHy3 hO3 hBy3 hg2 hqv1 hqv1' HG2 HH2 HBw2 HR2 hs2'
  go_wp2_with fail
  clear p5 p6 pz5 hsy3
  generalize y3.setCell ⟨g, 5, none⟩ (.slice B2 n2 d2) = w3 at *
  ((with_reducible refine (copied_is A3 c3 n3 R.texts w3 HR3.out.rd3 (Lib.hid HR3.out.len3) hm3 HF3.out HS3).mono ?_))
  rintro e y4 ⟨v, rfl, hO4, hBy4⟩
  obtain ⟨B3, d3, rfl, _, _, _⟩ := own_rds hO4 HR3.out.len3.symm
  have hsy4 := hBy4.size
  have hs3' := hs3
  have hg2 : g + 2 ≤ w3.heap.size := by omega
  have hGy4 : y4.heap[g]? = some (.cells #[.string x, .int .u16 k, .int .u16 l, .int .u32 t, .slice B1 n1 d1, .slice B2 n2 d2, .slice A3 n3 c3] 60 (0, 0)) := (hBy4.block g (by omega)).trans HG3.out
  have hHy4 : y4.heap[g + 1]? = some (.cells #[.string ⟨#[]⟩, .int .u16 0, .int .u16 0, .int .u32 0, .slice none 0 0, .slice none 0 0, .slice none 0 0] 60 (0, 0)) := (hBy4.block (g + 1) (by omega)).trans HH3.out
  have hqv1 := own_below HOv1.out hBy4
  have hqv2 := own_below HOv2.out hBy4
  have p0 : y4.cell? ⟨g, 0, none⟩ = some (.string x) := by rw [Lib.cell_of_heap hGy4]; rfl
  have p1 : y4.cell? ⟨g, 1, none⟩ = some (.int .u16 k) := by rw [Lib.cell_of_heap hGy4]; rfl
  have p2 : y4.cell? ⟨g, 2, none⟩ = some (.int .u16 l) := by rw [Lib.cell_of_heap hGy4]; rfl
  have p3 : y4.cell? ⟨g, 3, none⟩ = some (.int .u32 t) := by rw [Lib.cell_of_heap hGy4]; rfl
  have p4 : y4.cell? ⟨g, 4, none⟩ = some (.slice B1 n1 d1) := by rw [Lib.cell_of_heap hGy4]; rfl
  have p5 : y4.cell? ⟨g, 5, none⟩ = some (.slice B2 n2 d2) := by rw [Lib.cell_of_heap hGy4]; rfl
  have p6 : y4.cell? ⟨g, 6, none⟩ = some (.slice A3 n3 c3) := by rw [Lib.cell_of_heap hGy4]; rfl
  have pz6 : y4.frozen? ⟨g, 6, none⟩ = false := Lib.frozen_of_heap hGy4 6
  have r0 : y4.cell? ⟨g + 1, 0, none⟩ = some (.string ⟨#[]⟩) := by rw [Lib.cell_of_heap hHy4]; rfl
  have r1 : y4.cell? ⟨g + 1, 1, none⟩ = some (.int .u16 0) := by rw [Lib.cell_of_heap hHy4]; rfl
  have r2 : y4.cell? ⟨g + 1, 2, none⟩ = some (.int .u16 0) := by rw [Lib.cell_of_heap hHy4]; rfl
  have r3 : y4.cell? ⟨g + 1, 3, none⟩ = some (.int .u32 0) := by rw [Lib.cell_of_heap hHy4]; rfl
  have r4 : y4.cell? ⟨g + 1, 4, none⟩ = some (.slice none 0 0) := by rw [Lib.cell_of_heap hHy4]; rfl
  have r5 : y4.cell? ⟨g + 1, 5, none⟩ = some (.slice none 0 0) := by rw [Lib.cell_of_heap hHy4]; rfl
  have r6 : y4.cell? ⟨g + 1, 6, none⟩ = some (.slice none 0 0) := by rw [Lib.cell_of_heap hHy4]; rfl
  have rz0 : y4.frozen? ⟨g + 1, 0, none⟩ = false := Lib.frozen_of_heap hHy4 0
  have rz1 : y4.frozen? ⟨g + 1, 1, none⟩ = false := Lib.frozen_of_heap hHy4 1
  have rz2 : y4.frozen? ⟨g + 1, 2, none⟩ = false := Lib.frozen_of_heap hHy4 2
  have rz3 : y4.frozen? ⟨g + 1, 3, none⟩ = false := Lib.frozen_of_heap hHy4 3
  have rz4 : y4.frozen? ⟨g + 1, 4, none⟩ = false := Lib.frozen_of_heap hHy4 4
  have rz5 : y4.frozen? ⟨g + 1, 5, none⟩ = false := Lib.frozen_of_heap hHy4 5
  have rz6 : y4.frozen? ⟨g + 1, 6, none⟩ = false := Lib.frozen_of_heap hHy4 6
  have hG4 : (y4.setCell ⟨g, 6, none⟩ (.slice B3 n3 d3)).heap[g]? = some (.cells #[.string x, .int .u16 k, .int .u16 l, .int .u32 t, .slice B1 n1 d1, .slice B2 n2 d2, .slice B3 n3 d3] 60 (0, 0)) := set_block hGy4 (by rfl)
  have hH4 : (y4.setCell ⟨g, 6, none⟩ (.slice B3 n3 d3)).heap[g + 1]? = some (.cells #[.string ⟨#[]⟩, .int .u16 0, .int .u16 0, .int .u32 0, .slice none 0 0, .slice none 0 0, .slice none 0 0] 60 (0, 0)) := other_block hHy4 (by omega)
  have hs4 : g + 2 ≤ (y4.setCell ⟨g, 6, none⟩ (.slice B3 n3 d3)).heap.size := by rw [Go.Deep.nblk_setCell]; omega
  have hBw4 : Below g w (y4.setCell ⟨g, 6, none⟩ (.slice B3 n3 d3)) := (HBw3.out.trans (hBy4.mono (by omega))).setCell (p := ⟨g, 6, none⟩) (Nat.le_refl g) _
  have hOv4 : (y4.setCell ⟨g, 6, none⟩ (.slice B3 n3 d3)).ownsRow (g + 2) 9 1 (.slice B3 n3 d3) n3 (strCs R.texts) := own_set (own_low hO4 hg2) (Nat.lt_succ_of_lt (Nat.lt_succ_self g))
  have hqv1' : (y4.setCell ⟨g, 6, none⟩ (.slice B3 n3 d3)).ownsRow (g + 2) 9 1 (.slice B1 n1 d1) n1 (strCs R.names) := own_set hqv1 (Nat.lt_succ_of_lt (Nat.lt_succ_self g))
  have hqv2' : (y4.setCell ⟨g, 6, none⟩ (.slice B3 n3 d3)).ownsRow (g + 2) 50 1 (.slice B2 n2 d2) n2 (numCs R.nums) := own_set hqv2 (Nat.lt_succ_of_lt (Nat.lt_succ_self g))
  have hR4 : RecAt (y4.setCell ⟨g, 6, none⟩ (.slice B3 n3 d3)) (y4.setCell ⟨g, 6, none⟩ (.slice B3 n3 d3)).heap.size R x k l t A1 n1 A2 n2 A3 n3 := HRg.out.on hBw4 (by rw [Go.Deep.nblk_setCell]; omega)
  have HG4 := Lib.hid hG4
  have HH4 := Lib.hid hH4
  have HBw4 := Lib.hid hBw4
  have HR4 := Lib.hid hR4
  have HOv3 := Lib.hid hOv4
  have HOv1 := Lib.hid hqv1'
  have HOv2 := Lib.hid hqv2'
  have HBw4 := Lib.hid hBw4
  have HO1 := Lib.hid hqv1'
  have HO2 := Lib.hid hqv2'
  have HO3 := Lib.hid hOv4
  have HH4 := Lib.hid hH4
  clear hBw4 hqv1' hqv2' hOv4 hG4 hH4 hR4 hGy4 hHy4 hO4 hBy4 hqv1 hqv2 HG3 HH3 HBw3 HR3 hs3'
  go_wp2_with fail
  have hF : ((((((((y4.setCell ⟨g, 6, none⟩ (.slice B3 n3 d3)).setCell ⟨g + 1, 0, none⟩ (.string x)).setCell ⟨g + 1, 1, none⟩ (.int .u16 k)).setCell ⟨g + 1, 2, none⟩ (.int .u16 l)).setCell ⟨g + 1, 3, none⟩ (.int .u32 t)).setCell ⟨g + 1, 4, none⟩ (.slice B1 n1 d1)).setCell ⟨g + 1, 5, none⟩ (.slice B2 n2 d2)).setCell ⟨g + 1, 6, none⟩ (.slice B3 n3 d3)).heap[g + 1]? = some (.cells #[.string x, .int .u16 k, .int .u16 l, .int .u32 t, .slice B1 n1 d1, .slice B2 n2 d2, .slice B3 n3 d3] 60 (0, 0)) := (set_block (i := 6) (v := .slice B3 n3 d3) (set_block (i := 5) (v := .slice B2 n2 d2) (set_block (i := 4) (v := .slice B1 n1 d1) (set_block (i := 3) (v := .int .u32 t) (set_block (i := 2) (v := .int .u16 l) (set_block (i := 1) (v := .int .u16 k) (set_block (i := 0) (v := .string x) HH4.out rfl) rfl) rfl) rfl) rfl) rfl) rfl)
  have hU1 : ((((((((y4.setCell ⟨g, 6, none⟩ (.slice B3 n3 d3)).setCell ⟨g + 1, 0, none⟩ (.string x)).setCell ⟨g + 1, 1, none⟩ (.int .u16 k)).setCell ⟨g + 1, 2, none⟩ (.int .u16 l)).setCell ⟨g + 1, 3, none⟩ (.int .u32 t)).setCell ⟨g + 1, 4, none⟩ (.slice B1 n1 d1)).setCell ⟨g + 1, 5, none⟩ (.slice B2 n2 d2)).setCell ⟨g + 1, 6, none⟩ (.slice B3 n3 d3)).ownsRow (g + 2) 9 1 (.slice B1 n1 d1) n1 (strCs R.names) := (own_set (p := ⟨g + 1, 6, none⟩) (u := .slice B3 n3 d3) (own_set (p := ⟨g + 1, 5, none⟩) (u := .slice B2 n2 d2) (own_set (p := ⟨g + 1, 4, none⟩) (u := .slice B1 n1 d1) (own_set (p := ⟨g + 1, 3, none⟩) (u := .int .u32 t) (own_set (p := ⟨g + 1, 2, none⟩) (u := .int .u16 l) (own_set (p := ⟨g + 1, 1, none⟩) (u := .int .u16 k) (own_set (p := ⟨g + 1, 0, none⟩) (u := .string x) HO1.out (Nat.lt_succ_self (g + 1))) (Nat.lt_succ_self (g + 1))) (Nat.lt_succ_self (g + 1))) (Nat.lt_succ_self (g + 1))) (Nat.lt_succ_self (g + 1))) (Nat.lt_succ_self (g + 1))) (Nat.lt_succ_self (g + 1)))
  have hU2 : ((((((((y4.setCell ⟨g, 6, none⟩ (.slice B3 n3 d3)).setCell ⟨g + 1, 0, none⟩ (.string x)).setCell ⟨g + 1, 1, none⟩ (.int .u16 k)).setCell ⟨g + 1, 2, none⟩ (.int .u16 l)).setCell ⟨g + 1, 3, none⟩ (.int .u32 t)).setCell ⟨g + 1, 4, none⟩ (.slice B1 n1 d1)).setCell ⟨g + 1, 5, none⟩ (.slice B2 n2 d2)).setCell ⟨g + 1, 6, none⟩ (.slice B3 n3 d3)).ownsRow (g + 2) 50 1 (.slice B2 n2 d2) n2 (numCs R.nums) := (own_set (p := ⟨g + 1, 6, none⟩) (u := .slice B3 n3 d3) (own_set (p := ⟨g + 1, 5, none⟩) (u := .slice B2 n2 d2) (own_set (p := ⟨g + 1, 4, none⟩) (u := .slice B1 n1 d1) (own_set (p := ⟨g + 1, 3, none⟩) (u := .int .u32 t) (own_set (p := ⟨g + 1, 2, none⟩) (u := .int .u16 l) (own_set (p := ⟨g + 1, 1, none⟩) (u := .int .u16 k) (own_set (p := ⟨g + 1, 0, none⟩) (u := .string x) HO2.out (Nat.lt_succ_self (g + 1))) (Nat.lt_succ_self (g + 1))) (Nat.lt_succ_self (g + 1))) (Nat.lt_succ_self (g + 1))) (Nat.lt_succ_self (g + 1))) (Nat.lt_succ_self (g + 1))) (Nat.lt_succ_self (g + 1)))
  have hU3 : ((((((((y4.setCell ⟨g, 6, none⟩ (.slice B3 n3 d3)).setCell ⟨g + 1, 0, none⟩ (.string x)).setCell ⟨g + 1, 1, none⟩ (.int .u16 k)).setCell ⟨g + 1, 2, none⟩ (.int .u16 l)).setCell ⟨g + 1, 3, none⟩ (.int .u32 t)).setCell ⟨g + 1, 4, none⟩ (.slice B1 n1 d1)).setCell ⟨g + 1, 5, none⟩ (.slice B2 n2 d2)).setCell ⟨g + 1, 6, none⟩ (.slice B3 n3 d3)).ownsRow (g + 2) 9 1 (.slice B3 n3 d3) n3 (strCs R.texts) := (own_set (p := ⟨g + 1, 6, none⟩) (u := .slice B3 n3 d3) (own_set (p := ⟨g + 1, 5, none⟩) (u := .slice B2 n2 d2) (own_set (p := ⟨g + 1, 4, none⟩) (u := .slice B1 n1 d1) (own_set (p := ⟨g + 1, 3, none⟩) (u := .int .u32 t) (own_set (p := ⟨g + 1, 2, none⟩) (u := .int .u16 l) (own_set (p := ⟨g + 1, 1, none⟩) (u := .int .u16 k) (own_set (p := ⟨g + 1, 0, none⟩) (u := .string x) HO3.out (Nat.lt_succ_self (g + 1))) (Nat.lt_succ_self (g + 1))) (Nat.lt_succ_self (g + 1))) (Nat.lt_succ_self (g + 1))) (Nat.lt_succ_self (g + 1))) (Nat.lt_succ_self (g + 1))) (Nat.lt_succ_self (g + 1)))
  have hBL : Below g w ((((((((y4.setCell ⟨g, 6, none⟩ (.slice B3 n3 d3)).setCell ⟨g + 1, 0, none⟩ (.string x)).setCell ⟨g + 1, 1, none⟩ (.int .u16 k)).setCell ⟨g + 1, 2, none⟩ (.int .u16 l)).setCell ⟨g + 1, 3, none⟩ (.int .u32 t)).setCell ⟨g + 1, 4, none⟩ (.slice B1 n1 d1)).setCell ⟨g + 1, 5, none⟩ (.slice B2 n2 d2)).setCell ⟨g + 1, 6, none⟩ (.slice B3 n3 d3)) := (((((((HBw4.out.setCell (p := ⟨g + 1, 0, none⟩) (Nat.le_succ g) (.string x)).setCell (p := ⟨g + 1, 1, none⟩) (Nat.le_succ g) (.int .u16 k)).setCell (p := ⟨g + 1, 2, none⟩) (Nat.le_succ g) (.int .u16 l)).setCell (p := ⟨g + 1, 3, none⟩) (Nat.le_succ g) (.int .u32 t)).setCell (p := ⟨g + 1, 4, none⟩) (Nat.le_succ g) (.slice B1 n1 d1)).setCell (p := ⟨g + 1, 5, none⟩) (Nat.le_succ g) (.slice B2 n2 d2)).setCell (p := ⟨g + 1, 6, none⟩) (Nat.le_succ g) (.slice B3 n3 d3))
  generalize ((((((((y4.setCell ⟨g, 6, none⟩ (.slice B3 n3 d3)).setCell ⟨g + 1, 0, none⟩ (.string x)).setCell ⟨g + 1, 1, none⟩ (.int .u16 k)).setCell ⟨g + 1, 2, none⟩ (.int .u16 l)).setCell ⟨g + 1, 3, none⟩ (.int .u32 t)).setCell ⟨g + 1, 4, none⟩ (.slice B1 n1 d1)).setCell ⟨g + 1, 5, none⟩ (.slice B2 n2 d2)).setCell ⟨g + 1, 6, none⟩ (.slice B3 n3 d3)) = w8 at *
  have f0 : w8.cell? ⟨(g + 1), 0, none⟩ = some (.string x) := by rw [Lib.cell_of_heap hF]; rfl
  have f1 : w8.cell? ⟨(g + 1), 1, none⟩ = some (.int .u16 k) := by rw [Lib.cell_of_heap hF]; rfl
  have f2 : w8.cell? ⟨(g + 1), 2, none⟩ = some (.int .u16 l) := by rw [Lib.cell_of_heap hF]; rfl
  have f3 : w8.cell? ⟨(g + 1), 3, none⟩ = some (.int .u32 t) := by rw [Lib.cell_of_heap hF]; rfl
  have f4 : w8.cell? ⟨(g + 1), 4, none⟩ = some (.slice B1 n1 d1) := by rw [Lib.cell_of_heap hF]; rfl
  have f5 : w8.cell? ⟨(g + 1), 5, none⟩ = some (.slice B2 n2 d2) := by rw [Lib.cell_of_heap hF]; rfl
  have f6 : w8.cell? ⟨(g + 1), 6, none⟩ = some (.slice B3 n3 d3) := by rw [Lib.cell_of_heap hF]; rfl
  exact bodyPost_ret (v := .agg #[.string x, .int .u16 k, .int .u16 l, .int .u32 t, .slice B1 n1 d1, .slice B2 n2 d2, .slice B3 n3 d3]) (by simp [results, Try.results110, go_sem, f0, f1, f2, f3, f4, f5, f6]) rfl ⟨_, _, _, _, _, _, rfl, by rw [HGW.out]; exact own_low hU1 (by omega), by rw [HGW.out]; exact own_low hU2 (by omega), by rw [HGW.out]; exact own_low hU3 (by omega), by rw [HGW.out]; exact hBL⟩
end Go.Proofs.Ytpmmjmnleoicjaa

/- The contract of query's aged: copies of records behind some seconds. For lists of at most 1000 records that can be gone through. -/
namespace Go.Proofs.Ytpmmjmnleoicjaa
open Go.RowKit Bytes Strs Nums NameMath MsgMath RecMath QrMath
set_option linter.unusedVariables false

/-- Lists that are nil have no room. -/
def ZNil (Z : List RecZ) : Prop := ∀ z ∈ Z, ∀ n c, (z.2.1 = .slice none n c → c = 0) ∧ (z.2.2.1 = .slice none n c → c = 0) ∧ (z.2.2.2 = .slice none n c → c = 0)
theorem ZNil.app {Z Z' : List RecZ} (h : ZNil Z) (h' : ZNil Z') : ZNil (Z ++ Z') := fun z hz => by
  rcases List.mem_append.1 hz with hz | hz
  · exact h z hz
  · exact h' z hz
theorem own_nil {w : World} {base size n m c : Nat} {e : TypeId} {v : Value} {xs : List Value} (h : w.ownsRow base e size v n xs) (hv : v = .slice none m c) : c = 0 := by
  rcases h.2 with ⟨e1, _⟩ | ⟨b, cap, cur, e1, _⟩
  · rw [e1] at hv; injection hv with _ _ h3; exact h3.symm
  · rw [e1] at hv; injection hv with h1; cases h1
theorem zNil_own {w : World} {g : Nat} {Z : List RecZ} (h : ∀ z ∈ Z, RecIn w g z.1 z.2.1 z.2.2.1 z.2.2.2) : ZNil Z := fun z hz n c => ⟨own_nil (h z hz).o1, own_nil (h z hz).o2, own_nil (h z hz).o3⟩
/-- A record out of a row, its lists' places told. -/
theorem recs_getZ {w : World} {B : Nat} {A : Option Addr} {Z : List RecZ} (h : CellsAt w B A (recCs Z)) (hz : ZAt w B Z) (hn : ZNil Z) {k : Nat} (hk : k < Z.length) : ∃ b off A1 c1 A2 c2 A3 c3, A = some ⟨b, off, none⟩ ∧ b < B ∧ (A1 = none → c1 = 0) ∧ (A2 = none → c2 = 0) ∧ (A3 = none → c3 = 0) ∧ RecAt w B (Z[k]).1 (mk (Z[k]).1.name) (Z[k]).1.kind (Z[k]).1.cls (Z[k]).1.ttl A1 (Z[k]).1.names.length A2 (Z[k]).1.nums.length A3 (Z[k]).1.texts.length ∧
    w.cell? ⟨b, off + k * 7, none⟩ = some (.string (mk (Z[k]).1.name)) ∧ w.cell? ⟨b, off + k * 7 + 1, none⟩ = some (.int .u16 (Z[k]).1.kind) ∧ w.cell? ⟨b, off + k * 7 + 2, none⟩ = some (.int .u16 (Z[k]).1.cls) ∧ w.cell? ⟨b, off + k * 7 + 3, none⟩ = some (.int .u32 (Z[k]).1.ttl) ∧ w.cell? ⟨b, off + k * 7 + 4, none⟩ = some (.slice A1 (Z[k]).1.names.length c1) ∧ w.cell? ⟨b, off + k * 7 + 5, none⟩ = some (.slice A2 (Z[k]).1.nums.length c2) ∧ w.cell? ⟨b, off + k * 7 + 6, none⟩ = some (.slice A3 (Z[k]).1.texts.length c3) := by
  have e := fun j (hj : j < 7) => recCs_at (Z := Z) hk hj
  obtain ⟨A1, c1, A2, c2, A3, c3, e1, e2, e3, hat⟩ := hz (Z[k]) (List.getElem_mem hk)
  have hnn := hn (Z[k]) (List.getElem_mem hk)
  obtain ⟨b, off, rfl, hl, hc⟩ := h.get (e 0 (by decide))
  exact ⟨b, off, A1, c1, A2, c2, A3, c3, rfl, hl, fun a => (hnn _ c1).1 (by rw [e1, a]), fun a => (hnn _ c2).2.1 (by rw [e2, a]), fun a => (hnn _ c3).2.2 (by rw [e3, a]), hat, hc (k * 7) _ (e 0 (by decide)), hc (k * 7 + 1) _ (e 1 (by decide)), hc (k * 7 + 2) _ (e 2 (by decide)), hc (k * 7 + 3) _ (e 3 (by decide)), hc (k * 7 + 4) _ ((e 4 (by decide)).trans (by rw [e1]; rfl)), hc (k * 7 + 5) _ ((e 5 (by decide)).trans (by rw [e2]; rfl)), hc (k * 7 + 6) _ ((e 6 (by decide)).trans (by rw [e3]; rfl))⟩
theorem own_far1 {w : World} {base b i n k : Nat} {e : TypeId} {v u : Value} {xs : List Value} (h : w.ownsRow base e k v n xs) (hb : b < base) : (w.setCell ⟨b, i, none⟩ u).ownsRow base e k v n xs := by
  obtain ⟨hl, h | ⟨bb, cap, cur, e1, hbb, hh, h2⟩⟩ := h
  · exact ⟨hl, .inl h⟩
  · exact ⟨hl, .inr ⟨bb, cap, cur, e1, hbb, set_far hh (by omega), h2⟩⟩
theorem RecIn.far1 {w : World} {g b i : Nat} {R : Rec} {v1 v2 v3 u : Value} (h : RecIn w g R v1 v2 v3) (hb : b < g) : RecIn (w.setCell ⟨b, i, none⟩ u) g R v1 v2 v3 := ⟨own_far1 h.o1 hb, own_far1 h.o2 hb, own_far1 h.o3 hb⟩
theorem RecIn.far7 {w : World} {g b : Nat} {R : Rec} {v1 v2 v3 u0 u1 u2 u3 u4 u5 u6 : Value} (h : RecIn w g R v1 v2 v3) (hb : b < g) : RecIn (((((((w.setCell ⟨b, 0, none⟩ u0).setCell ⟨b, 1, none⟩ u1).setCell ⟨b, 2, none⟩ u2).setCell ⟨b, 3, none⟩ u3).setCell ⟨b, 4, none⟩ u4).setCell ⟨b, 5, none⟩ u5).setCell ⟨b, 6, none⟩ u6) g R v1 v2 v3 :=
  ((((((h.far1 hb).far1 hb).far1 hb).far1 hb).far1 hb).far1 hb).far1 hb
theorem size_seven (w : World) (g : Nat) (v0 v1 v2 v3 v4 v5 v6 : Value) : (((((((w.setCell ⟨g, 0, none⟩ v0).setCell ⟨g, 1, none⟩ v1).setCell ⟨g, 2, none⟩ v2).setCell ⟨g, 3, none⟩ v3).setCell ⟨g, 4, none⟩ v4).setCell ⟨g, 5, none⟩ v5).setCell ⟨g, 6, none⟩ v6).heap.size = w.heap.size := by
  rw [Go.Deep.nblk_setCell, size_six]
theorem age_in {w : World} {g s : Nat} {R : Rec} {v1 v2 v3 : Value} (h : RecIn w g R v1 v2 v3) : RecIn w g (ageR s R) v1 v2 v3 := by
  unfold ageR
  split
  · exact h
  · exact ⟨h.o1, h.o2, h.o3⟩
theorem age_take {L : List Rec} {s j : Nat} (hj : j < L.length) : (L.take (j + 1)).map (ageR s) = (L.take j).map (ageR s) ++ [ageR s (L[j])] := by
  rw [List.take_succ_eq_append_getElem hj, List.map_append]
  rfl
set_option maxHeartbeats 8000000 in
set_option maxRecDepth 100000 in
theorem aged_is (A : Option Addr) (c n s B : Nat) (Z : List RecZ) (L : List Rec) (w : World) (hc : CellsAt w B A (recCs Z)) (hz : ZAt w B Z) (hN : Hid (ZNil Z)) (hL : Hid (Z.map (·.1) = L)) (hn0 : Hid (Z.length = n)) (hn : n ≤ 1000) (hB : B ≤ w.heap.size) (hs : s ≤ 18446744073709551615) (hsm : Hid (∀ R ∈ L, Small R ∧ R.kind ≤ 65535 ∧ R.cls ≤ 65535 ∧ R.ttl ≤ 4294967295)) :
    Calls Try.prog 78 #[.slice A n c, .int .u64 s] w fun e w' => ∃ v, e = .returned v ∧ RowRecs w' w.heap.size v (L.map (ageR s)) ∧ Below w.heap.size w w' := by
  obtain ⟨i0, hi, hz0, hz1, hz2⟩ := info_parts info_rec
  have HI := Lib.hid hi
  have HZ0 := Lib.hid hz0
  have HZ1 := Lib.hid hz1
  have HZ2 := Lib.hid hz2
  have HC := Lib.hid hc
  have HZ := Lib.hid hz
  obtain ⟨g, hg⟩ : ∃ g, w.heap.size = g := ⟨_, rfl⟩
  rw [hg] at hB ⊢
  have HG := Lib.hid hg
  have HLN : Hid (L.length = n) := by show _ = _; rw [← hL.out, List.length_map]; exact hn0.out
  clear hc hz hi hz0 hz1 hz2
  go_enter Try.func78, Try.ntmps78
  go_wp2_with (at_make; refine wpList_make_own _ rfl _ _ 24 rfl g 60 i0 (.agg #[.string ⟨#[]⟩, .int .u16 0, .int .u16 0, .int .u32 0, .slice none 0 0, .slice none 0 0, .slice none 0 0]) 7 Try.underlying24 HI.out HZ0.out HZ1.out _ _ _ n rfl rfl (by omega) ?CMa ?CMb ?CMc ?_)
  case CMa => rw [HZ2.out]; omega
  case CMb => unfold maxLen; omega
  case CMc => omega
  intro w1 hown1 hgrow1
  have HO1 : Hid (RowRecs w1 g (.slice (some ⟨g, 0, none⟩) 0 n) ((L.take 0).map (ageR s))) := ⟨[], rfl, hown1, fun z hz => by cases hz⟩
  have HV1 : Hid (Below g w w1) := (Below.refl g w).grown hgrow1 (by omega) (fun k hk => by cases hk)
  clear hown1 hgrow1
  generalize (Value.slice (some ⟨g, 0, none⟩) 0 n) = u0 at HO1 ⊢
  clear hg
  go_wp2_with fail
  go_loopw [5, 13] (fun u v wr => ∃ (j : Nat) (o : Value), j ≤ n ∧ u = o ∧ v = .int .i64 j ∧ Hid (RowRecs wr g o ((L.take j).map (ageR s))) ∧ Hid (Below g w wr)) (fun _ v _ => n - (intOf v).toNat)
  case atStart => exact ⟨0, u0, Nat.zero_le _, rfl, rfl, HO1, HV1⟩
  case round =>
    obtain ⟨j, o, hj, rfl, rfl, hO, hV⟩ := hrel
    have HS : Hid (g ≤ wr.heap.size) := by have h := hV.out.size; rw [HG.out] at h; exact h
    obtain ⟨oA, om, oc, rfl⟩ := hO.out.slice
    by_cases hlt : j < n
    · have hkz : j < Z.length := by rw [hn0.out]; exact hlt
      obtain ⟨b, off, A1, c1, A2, c2, A3, c3, rfl, hbr, f1, f2, f3, hat, p0, p1, p2, p3, p4, p5, p6⟩ := recs_getZ (HC.out.on (hV.out.mono hB) (Nat.le_refl _)) (HZ.out.on (hV.out.mono hB) (Nat.le_refl _)) hN.out hkz
      obtain ⟨hkL, hkR⟩ := zmap hL.out hkz
      have hsr := hsm.out _ (List.getElem_mem hkL)
      have htk := age_take (s := s) hkL
      rw [hkR] at hsr htk
      obtain ⟨R, hR⟩ : ∃ R, (Z[j]'hkz).1 = R := ⟨_, rfl⟩
      rw [hR] at p0 p1 p2 p3 p4 p5 p6 hat hsr htk
      have HTK := Lib.hid htk
      obtain ⟨x, hx⟩ : ∃ x, mk R.name = x := ⟨_, rfl⟩
      obtain ⟨rk, hrk⟩ : ∃ k, R.kind = k := ⟨_, rfl⟩
      obtain ⟨rc, hrc⟩ : ∃ k, R.cls = k := ⟨_, rfl⟩
      obtain ⟨rt, hrt⟩ : ∃ k, R.ttl = k := ⟨_, rfl⟩
      obtain ⟨l1, hl1⟩ : ∃ k, R.names.length = k := ⟨_, rfl⟩
      obtain ⟨l2, hl2⟩ : ∃ k, R.nums.length = k := ⟨_, rfl⟩
      obtain ⟨l3, hl3⟩ : ∃ k, R.texts.length = k := ⟨_, rfl⟩
      rw [hx] at p0
      rw [hrk] at p1
      rw [hrc] at p2
      rw [hrt] at p3
      rw [hl1] at p4
      rw [hl2] at p5
      rw [hl3] at p6
      rw [hx, hrk, hrc, hrt, hl1, hl2, hl3] at hat
      have hrt2 := hsr.2.2.2
      rw [hrt] at hrt2
      have HSR := Lib.hid hsr.1
      obtain ⟨dd, hdd⟩ : ∃ d, wr.heap.size = d := ⟨_, rfl⟩
      have gd : g ≤ dd := by rw [← hdd]; exact HS.out
      obtain ⟨w2, hw2⟩ : ∃ v, wr.alloc (.cells #[.string x, .int .u16 rk, .int .u16 rc, .int .u32 rt, .slice A1 l1 c1, .slice A2 l2 c2, .slice A3 l3 c3] 60) = v := ⟨_, rfl⟩
      have n2 : Below dd wr w2 := by rw [← hw2, ← hdd]; exact (Below.refl _ _).alloc (Nat.le_refl _) _
      have hy : w2.heap[dd]? = some (.cells #[.string x, .int .u16 rk, .int .u16 rc, .int .u32 rt, .slice A1 l1 c1, .slice A2 l2 c2, .slice A3 l3 c3] 60 (0, 0)) := by rw [← hw2, ← hdd]; exact heap_alloc_new wr _
      have S2 : Hid (w2.heap.size = dd + 1) := by show _ = _; rw [← hw2, ← hdd]; simp
      have NB2 := Lib.hid n2
      have HY := Lib.hid hy
      have V2 : Hid (Below g w w2) := hV.out.trans (n2.mono gd)
      have HCP := Lib.hid (copy_is R x rk rc rt A1 l1 c1 A2 l2 c2 A3 l3 c3 w2 (hat.on (n2.mono (by omega)) (by have := S2.out; omega)) HSR f1 f2 f3)
      have HAG1 : Hid (∀ v1 v2 v3, recV R v1 v2 v3 = [.string x, .int .u16 rk, .int .u16 rc, .int .u32 rt, v1, v2, v3]) := fun v1 v2 v3 => by unfold recV; rw [hx, hrk, hrc, hrt]
      have HAG2 : Hid (rk = 41 → ageR s R = R) := fun h => by unfold ageR; rw [if_pos (hrk.trans h)]
      have HAG3 : Hid (rk ≠ 41 → ∀ v1 v2 v3, recV (ageR s R) v1 v2 v3 = [.string x, .int .u16 rk, .int .u16 rc, .int .u32 ((rt - s : Nat) : Int), v1, v2, v3]) := fun h v1 v2 v3 => by unfold ageR; rw [if_neg (by rw [hrk]; exact h)]; unfold recV; simp only [hx, hrk, hrc, hrt]
      have HL1 := Lib.hid hl1
      have HL2 := Lib.hid hl2
      have HL3 := Lib.hid hl3
      have HW2 := Lib.hid hw2
      clear hx hrk hrc hrt hl1 hl2 hl3 hat hsr htk hR hkR hkL hkz n2 hy hw2 f1 f2 f3
      go_upto_region 5 with fail
      rw [HW2.out]
      clear hdd p0 p1 p2 p3 p4 p5 p6
      have y0 := cell_of_row _ _ 0 _ _ _ HY.out
      have y1 := cell_of_row _ _ 1 _ _ _ HY.out
      have y2 := cell_of_row _ _ 2 _ _ _ HY.out
      have y3 := cell_of_row _ _ 3 _ _ _ HY.out
      have y4 := cell_of_row _ _ 4 _ _ _ HY.out
      have y5 := cell_of_row _ _ 5 _ _ _ HY.out
      have y6 := cell_of_row _ _ 6 _ _ _ HY.out
      go_wp2_with fail
      refine HCP.out.mono ?_
      rintro e w3 ⟨B1, d1, B2, d2, B3, d3, rfl, o1, o2, o3, n3⟩
      have hy3 := (n3.block dd (by rw [S2.out]; omega)).trans HY.out
      rw [S2.out] at o1 o2 o3 n3
      have HIN3 : Hid (RecIn w3 (dd + 1) R (.slice B1 l1 d1) (.slice B2 l2 d2) (.slice B3 l3 d3)) := ⟨by rw [HL1.out]; exact o1, by rw [HL2.out]; exact o2, by rw [HL3.out]; exact o3⟩
      obtain ⟨w4, hw4⟩ : ∃ v, (((((((w3.setCell ⟨dd, 0, none⟩ (.string x)).setCell ⟨dd, 1, none⟩ (.int .u16 rk)).setCell ⟨dd, 2, none⟩ (.int .u16 rc)).setCell ⟨dd, 3, none⟩ (.int .u32 rt)).setCell ⟨dd, 4, none⟩ (.slice B1 l1 d1)).setCell ⟨dd, 5, none⟩ (.slice B2 l2 d2)).setCell ⟨dd, 6, none⟩ (.slice B3 l3 d3)) = v := ⟨_, rfl⟩
      have hy4 : w4.heap[dd]? = some (.cells #[.string x, .int .u16 rk, .int .u16 rc, .int .u32 rt, .slice B1 l1 d1, .slice B2 l2 d2, .slice B3 l3 d3] 60 (0, 0)) := by rw [← hw4]; exact set7_at hy3
      have HIN4 : Hid (RecIn w4 (dd + 1) R (.slice B1 l1 d1) (.slice B2 l2 d2) (.slice B3 l3 d3)) := by rw [← hw4]; exact HIN3.out.far7 (Nat.lt_succ_self _)
      have NB4 : Hid (Below wr.heap.size wr w4) := by
        have h : Below dd wr w4 := by rw [← hw4]; exact below_set7 (NB2.out.trans (n3.mono (Nat.le_succ _))) (Nat.le_refl _) _ _ _ _ _ _ _
        have e : w2.heap.size = wr.heap.size + 1 := by rw [← HW2.out]; simp
        have : wr.heap.size = dd := by have := S2.out; omega
        rw [this]; exact h
      have S4 : Hid (dd + 1 ≤ w4.heap.size) := by show _ ≤ _; rw [← hw4, size_seven]; have := n3.size; rw [S2.out] at this; exact this
      have V4 : Hid (Below g w w4) := hV.out.trans (NB4.out.mono HS.out)
      have ys := hy3
      have q0 := cell_of_row _ _ 0 _ _ _ hy3
      have q1 := cell_of_row _ _ 1 _ _ _ hy3
      have q2 := cell_of_row _ _ 2 _ _ _ hy3
      have q3 := cell_of_row _ _ 3 _ _ _ hy3
      have q4 := cell_of_row _ _ 4 _ _ _ hy3
      have q5 := cell_of_row _ _ 5 _ _ _ hy3
      have q6 := cell_of_row _ _ 6 _ _ _ hy3
      have qf : ∀ i, w3.frozen? ⟨dd, i, none⟩ = false := Lib.frozen_of_heap hy3
      have HY4 := Lib.hid hy4
      have HW4 := Lib.hid hw4
      clear n3 o1 o2 o3 hy3 hy4 hw4 ys y0 y1 y2 y3 y4 y5 y6 HCP
      go_upto_region 6 with fail
      rw [HW4.out]
      clear q0 q1 q2 q3 q4 q5 q6 qf
      have y0 := cell_of_row _ _ 0 _ _ _ HY4.out
      have y1 := cell_of_row _ _ 1 _ _ _ HY4.out
      have y2 := cell_of_row _ _ 2 _ _ _ HY4.out
      have y3 := cell_of_row _ _ 3 _ _ _ HY4.out
      have y4 := cell_of_row _ _ 4 _ _ _ HY4.out
      have y5 := cell_of_row _ _ 5 _ _ _ HY4.out
      have y6 := cell_of_row _ _ 6 _ _ _ HY4.out
      by_cases h41 : rk = 41
      · have f41 : ((rk : Int) != 41) = false := bne_eq_false_iff_eq.2 (by omega)
        have HAG0 : Hid (recV (ageR s R) (.slice B1 l1 d1) (.slice B2 l2 d2) (.slice B3 l3 d3) = [.string x, .int .u16 rk, .int .u16 rc, .int .u32 rt, .slice B1 l1 d1, .slice B2 l2 d2, .slice B3 l3 d3]) := by show _ = _; rw [HAG2.out h41]; exact HAG1.out _ _ _
        clear h41
        have hO4 := hO.out.below NB4.out
        obtain ⟨Z1, hZ1, hZ2, hZ3⟩ := hO4
        have hlen1 : ((L.take j).map (ageR s)).length = j := by rw [List.length_map, List.length_take, HLN.out]; omega
        rw [hlen1] at hZ2
        have hO1 := Lib.hid hZ2
        have hOW := Lib.hid (hO.out.below NB4.out)
        have hIL := Lib.hid (age_in (s := s) (HIN4.out.low (show g ≤ dd + 1 by omega)))
        have HZA := Lib.hid hZ1
        have HZB := Lib.hid hZ3
        have HLN1 := Lib.hid hlen1
        have HAGE : Hid (recV (ageR s R) (.slice B1 l1 d1) (.slice B2 l2 d2) (.slice B3 l3 d3) = [.string x, .int .u16 rk, .int .u16 rc, .int .u32 rt, .slice B1 l1 d1, .slice B2 l2 d2, .slice B3 l3 d3]) := HAG0.out
        clear hZ1 hZ2 hZ3 hlen1
        go_wp2_with (at_builtin; refine wpList_append_own _ rfl _ _ 24 rfl g 60 i0 (.agg #[.string ⟨#[]⟩, .int .u16 0, .int .u16 0, .int .u32 0, .slice none 0 0, .slice none 0 0, .slice none 0 0]) 7 96 Try.underlying24 HI.out HZ0.out HZ1.out HZ2.out rfl (by decide) _ _ _ rfl (hO1.out.alloc _) ⟨w4.heap.size, 0, none⟩ 1 1 (recV (ageR s R) (.slice B1 l1 d1) (.slice B2 l2 d2) (.slice B3 l3 d3)) rfl rfl ?CAa ?CAb ?CAc ?CAd ?CAe ?_)
        case CAa =>
          intro j u hj
          rw [HAGE.out] at hj
          match j, hj with
          | 0, hj => simp at hj; subst hj; simp [Addr.add]
          | 1, hj => simp at hj; subst hj; simp [Addr.add]
          | 2, hj => simp at hj; subst hj; simp [Addr.add]
          | 3, hj => simp at hj; subst hj; simp [Addr.add]
          | 4, hj => simp at hj; subst hj; simp [Addr.add]
          | 5, hj => simp at hj; subst hj; simp [Addr.add]
          | 6, hj => simp at hj; subst hj; simp [Addr.add]
        case CAb =>
          intro u hu
          rw [HAGE.out] at hu
          have e1 := own_one hIL.out.o1
          have e2 := own_one hIL.out.o2
          have e3 := own_one hIL.out.o3
          simp at hu
          rcases hu with rfl | rfl | rfl | rfl | rfl | rfl | rfl <;> first | rfl | assumption
        case CAc => unfold maxLen; omega
        case CAd => omega
        case CAe => have := S4.out; simp; omega
        intro v' w9 hown hgrow _
        have E1 : Hid (RowRecs w9 g v' ((L.take (j + 1)).map (ageR s))) := by
          show RowRecs _ _ _ _
          rw [HTK.out]
          refine hOW.out.snoc hIL.out Z1 HZA.out (by rw [HLN1.out]; exact hO1.out) HZB.out ?_ hgrow
          rw [HLN1.out]
          exact hown
        have E3 : Hid (Below g w w9) := (V4.out.alloc (by have := S4.out; omega) _).grown hgrow (by have := S4.out; simp; omega) (fun k hk => (hO1.out.lt k hk).1)
        clear hown hgrow
        go_wp2_with fail
        go_roundw
        case rel => exact ⟨j + 1, v', by omega, rfl, by go_num, E1, E3⟩
        case measure => simp [intOf]; omega
      · have f41 : ((rk : Int) != 41) = true := bne_iff_ne.2 (by omega)
        have HAG0 := Lib.hid (HAG3.out h41 (.slice B1 l1 d1) (.slice B2 l2 d2) (.slice B3 l3 d3))
        obtain ⟨T, hT⟩ : ∃ T, rt - s = T := ⟨_, rfl⟩
        rw [hT] at HAG0
        obtain ⟨m, hm⟩ : ∃ m, min s rt = m := ⟨_, rfl⟩
        have hm1 : min (s : Int) (rt : Int) = (m : Int) := by omega
        have hmb : m ≤ rt := by omega
        have hmT : (rt : Int) - (m : Int) = (T : Int) := by omega
        have hTb : T ≤ 4294967295 := by omega
        have yf : ∀ i, w4.frozen? ⟨dd, i, none⟩ = false := Lib.frozen_of_heap HY4.out
        clear h41 hT hm
        obtain ⟨w5, hw5⟩ : ∃ v, w4.setCell ⟨dd, 3, none⟩ (.int .u32 T) = v := ⟨_, rfl⟩
        have hy5 : w5.heap[dd]? = some (.cells #[.string x, .int .u16 rk, .int .u16 rc, .int .u32 T, .slice B1 l1 d1, .slice B2 l2 d2, .slice B3 l3 d3] 60 (0, 0)) := by rw [← hw5]; exact set_at HY4.out (by simp)
        have HIN5 : Hid (RecIn w5 (dd + 1) R (.slice B1 l1 d1) (.slice B2 l2 d2) (.slice B3 l3 d3)) := by rw [← hw5]; exact HIN4.out.far1 (Nat.lt_succ_self _)
        have hde : wr.heap.size = dd := by
          have e : w2.heap.size = wr.heap.size + 1 := by rw [← HW2.out]; simp
          have := S2.out
          omega
        have NB5 : Hid (Below wr.heap.size wr w5) := by rw [← hw5]; exact NB4.out.setCell (p := ⟨dd, 3, none⟩) (by rw [hde]; exact Nat.le_refl _) _
        have S5 : Hid (dd + 1 ≤ w5.heap.size) := by show _ ≤ _; rw [← hw5, Go.Deep.nblk_setCell]; exact S4.out
        have V5 : Hid (Below g w w5) := hV.out.trans (NB5.out.mono HS.out)
        have HW5 := Lib.hid hw5
        have HY5 := Lib.hid hy5
        clear hw5 hy5 hde
        go_upto_region 8 with fail
        rw [HW5.out]
        clear y0 y1 y2 y3 y4 y5 y6 yf
        have y0 := cell_of_row _ _ 0 _ _ _ HY5.out
        have y1 := cell_of_row _ _ 1 _ _ _ HY5.out
        have y2 := cell_of_row _ _ 2 _ _ _ HY5.out
        have y3 := cell_of_row _ _ 3 _ _ _ HY5.out
        have y4 := cell_of_row _ _ 4 _ _ _ HY5.out
        have y5 := cell_of_row _ _ 5 _ _ _ HY5.out
        have y6 := cell_of_row _ _ 6 _ _ _ HY5.out
        have hO4 := hO.out.below NB5.out
        obtain ⟨Z1, hZ1, hZ2, hZ3⟩ := hO4
        have hlen1 : ((L.take j).map (ageR s)).length = j := by rw [List.length_map, List.length_take, HLN.out]; omega
        rw [hlen1] at hZ2
        have hO1 := Lib.hid hZ2
        have hOW := Lib.hid (hO.out.below NB5.out)
        have hIL := Lib.hid (age_in (s := s) (HIN5.out.low (show g ≤ dd + 1 by omega)))
        have HZA := Lib.hid hZ1
        have HZB := Lib.hid hZ3
        have HLN1 := Lib.hid hlen1
        have HAGE : Hid (recV (ageR s R) (.slice B1 l1 d1) (.slice B2 l2 d2) (.slice B3 l3 d3) = [.string x, .int .u16 rk, .int .u16 rc, .int .u32 T, .slice B1 l1 d1, .slice B2 l2 d2, .slice B3 l3 d3]) := HAG0.out
        clear hZ1 hZ2 hZ3 hlen1
        go_wp2_with (at_builtin; refine wpList_append_own _ rfl _ _ 24 rfl g 60 i0 (.agg #[.string ⟨#[]⟩, .int .u16 0, .int .u16 0, .int .u32 0, .slice none 0 0, .slice none 0 0, .slice none 0 0]) 7 96 Try.underlying24 HI.out HZ0.out HZ1.out HZ2.out rfl (by decide) _ _ _ rfl (hO1.out.alloc _) ⟨w5.heap.size, 0, none⟩ 1 1 (recV (ageR s R) (.slice B1 l1 d1) (.slice B2 l2 d2) (.slice B3 l3 d3)) rfl rfl ?CAa ?CAb ?CAc ?CAd ?CAe ?_)
        case CAa =>
          intro j u hj
          rw [HAGE.out] at hj
          match j, hj with
          | 0, hj => simp at hj; subst hj; simp [Addr.add]
          | 1, hj => simp at hj; subst hj; simp [Addr.add]
          | 2, hj => simp at hj; subst hj; simp [Addr.add]
          | 3, hj => simp at hj; subst hj; simp [Addr.add]
          | 4, hj => simp at hj; subst hj; simp [Addr.add]
          | 5, hj => simp at hj; subst hj; simp [Addr.add]
          | 6, hj => simp at hj; subst hj; simp [Addr.add]
        case CAb =>
          intro u hu
          rw [HAGE.out] at hu
          have e1 := own_one hIL.out.o1
          have e2 := own_one hIL.out.o2
          have e3 := own_one hIL.out.o3
          simp at hu
          rcases hu with rfl | rfl | rfl | rfl | rfl | rfl | rfl <;> first | rfl | assumption
        case CAc => unfold maxLen; omega
        case CAd => omega
        case CAe => have := S5.out; simp; omega
        intro v' w9 hown hgrow _
        have E1 : Hid (RowRecs w9 g v' ((L.take (j + 1)).map (ageR s))) := by
          show RowRecs _ _ _ _
          rw [HTK.out]
          refine hOW.out.snoc hIL.out Z1 HZA.out (by rw [HLN1.out]; exact hO1.out) HZB.out ?_ hgrow
          rw [HLN1.out]
          exact hown
        have E3 : Hid (Below g w w9) := (V5.out.alloc (by have := S5.out; omega) _).grown hgrow (by have := S5.out; simp; omega) (fun k hk => (hO1.out.lt k hk).1)
        clear hown hgrow
        go_wp2_with fail
        go_roundw
        case rel => exact ⟨j + 1, v', by omega, rfl, by go_num, E1, E3⟩
        case measure => simp [intOf]; omega
    · have hjn : ¬ ((j : Int) < (n : Int)) := by omega
      have hO2 := hO.out
      rw [List.take_of_length_le (by rw [HLN.out]; omega)] at hO2
      have HO2 := Lib.hid hO2
      clear hlt hO2 hO
      go_wp2_with fail
      go_ret
      exact ⟨_, rfl, HO2.out, hV.out⟩
end Go.Proofs.Ytpmmjmnleoicjaa

/- Messages that came in: their questions' names are no longer than any text that came in; lists that are nil have no room. No condition. -/
namespace Go.Proofs.Ytpmmjmnleoicjaa
open Go.ChangeShapes Go.WideShapes Go.Deep Go.RowKit
open Bytes Strs Nums MsgMath RecMath
set_option linter.unusedVariables false
section
variable {H : Type} {enc : TypeId × Value → H} {P : Program} {w : World} {base : Nat} {spare : Nat → Bool} {held : Bool}
theorem weights_all {t : TypeId} {d : DataW H} : ∀ {ds : List (DataW H)}, d ∈ ds → ∀ n ∈ d.weights P t, n ∈ DataW.weightsAll P t ds
  | d0 :: ds, h, n, hn => by
    simp only [DataW.weightsAll, List.mem_append]
    rcases List.mem_cons.1 h with rfl | h
    · exact .inl hn
    · exact .inr (weights_all h n hn)
/-- A row's element's field, as it lies, and its data. -/
theorem row_field {t e : TypeId} {fs : Array Field} {fuel : Nat} {v : Value} {x : DataW H × List MemPlace} (ht : P.underlying t = some (.slice e)) (he : P.underlying e = some (.struct fs))
    (hone : oneCellFields P fs = true) (hC : P.cellsOf e = fs.size) (h : DataW.trod enc P w base spare held fuel t [v] = some x) {a : Addr} {len cap : Nat} (hv : v = .slice (some a) len cap) {i : Nat} (hi : i < len) :
    ∃ n : Nat, ∀ (j : Nat) (f : Field), fs[j]? = some f → ∃ (u : Value) (y : DataW H × List MemPlace), w.cell? (a.add (i * fs.size + j)) = some u ∧ DataW.trod enc P w base spare held n f.type [u] = some y ∧ ∀ n ∈ y.1.weights P f.type, n ∈ x.1.weights P t := by
  rcases open_slice ht h with h0 | ⟨a', len', cap', m, n, D, Pl, hcs, hb, hl, hm, hmm, hx, hi'⟩
  · rw [hv] at h0; exact absurd h0.1 (by simp)
  · rw [hv] at hcs
    simp only [List.cons.injEq, Value.slice.injEq, Option.some.injEq, and_true] at hcs
    obtain ⟨rfl, rfl, rfl⟩ := hcs
    have him : i < m := by rw [hmm]; split <;> omega
    obtain ⟨cs', hc, ht'⟩ := hi' i him
    rw [hC] at hc
    obtain ⟨ys, n', hn', hy, hlen, hyl, hf⟩ := DataW.trod_struct he ht'
    obtain ⟨_, hcl, hat⟩ := World.cells?_some hc
    refine ⟨n', fun j f hj => ?_⟩
    obtain ⟨ho, hk⟩ := hone_of hone j f hj
    have hjl : j < fs.size := (Array.getElem?_eq_some_iff.1 hj).1
    have hcell := hat j hjl
    have hv : cs'[j]? = some (cs'[j]'(by omega)) := List.getElem?_eq_getElem (by omega)
    have h1 := hf j f hj
    rw [ho, hk] at h1
    have hone' : (cs'.drop j).take 1 = [cs'[j]'(by omega)] := by
      rw [List.drop_eq_getElem_cons (by omega)]
      rfl
    rw [hone'] at h1
    have hys : ys[j]? = some (ys[j]'(by omega)) := List.getElem?_eq_getElem (by omega)
    refine ⟨_, _, ?_, h1.trans hys, fun k hk2 => ?_⟩
    · rw [← Go.Deep.add_add, hcell, hv]
    · have e1 : (D i).weights P e = DataW.weightsEach P (fs.toList.map (·.type)) (ys.map (·.1)) := by
        have e2 : D i = (DataW.agg (ys.map (·.1)) : DataW H) := congrArg Prod.fst hy
        rw [e2]
        simp only [DataW.weights, he]
      have h3 : k ∈ (D i).weights P e := by
        rw [e1]
        exact DataW.weights_mem_each (j := j) (t := f.type) (d := (ys[j]'(by omega)).1) (by rw [List.getElem?_map]; simp only [Array.getElem?_toList]; rw [hj]; rfl) (by rw [List.getElem?_map, hys]; rfl) k hk2
      rw [hx]
      simp only [DataW.weights, ht, List.mem_cons, List.mem_append]
      exact .inr (.inl (weights_all (List.mem_map.2 ⟨i, List.mem_range.2 hi, rfl⟩) k h3))
end
section
variable {H : Type} {enc : TypeId × Value → H} {w : World} {base : Nat} {spare : Nat → Bool} {held : Bool}
/-- The six parts of a message that came in, and their data. -/
theorem msg_parts {v0 v1 v2 v3 v4 v5 : Value} {d : DataW H} {p : List MemPlace} (h : DataW.Trod enc Try.prog w base spare held 26 (.agg #[v0, v1, v2, v3, v4, v5]) d p) :
    ∃ (n : Nat) (y2 y3 y4 y5 : DataW H × List MemPlace), DataW.trod enc Try.prog w base spare held n 23 [v2] = some y2 ∧ DataW.trod enc Try.prog w base spare held n 24 [v3] = some y3 ∧ DataW.trod enc Try.prog w base spare held n 24 [v4] = some y4 ∧ DataW.trod enc Try.prog w base spare held n 24 [v5] = some y5 ∧ ∀ n ∈ y2.1.weights Try.prog 23, n ∈ d.weights Try.prog 26 := by
  obtain ⟨fuel, hf⟩ := h
  obtain ⟨xs, n, _, hx, _, hlen, hg⟩ := DataW.trod_struct Try.underlying26 hf
  match xs, hlen with
  | [y0, y1, y2, y3, y4, y5], _ =>
    have cs1 : Try.prog.cellsOf 22 = 1 := by kernel_rfl
    have cs2 : Try.prog.cellsOf 23 = 1 := by kernel_rfl
    have cs3 : Try.prog.cellsOf 24 = 1 := by kernel_rfl
    have g2 : DataW.trod enc Try.prog w base spare held n 23 [v2] = some y2 := by simpa [Value.cells, cs2] using hg 2 _ rfl
    have g3 : DataW.trod enc Try.prog w base spare held n 24 [v3] = some y3 := by simpa [Value.cells, cs3] using hg 3 _ rfl
    have g4 : DataW.trod enc Try.prog w base spare held n 24 [v4] = some y4 := by simpa [Value.cells, cs3] using hg 4 _ rfl
    have g5 : DataW.trod enc Try.prog w base spare held n 24 [v5] = some y5 := by simpa [Value.cells, cs3] using hg 5 _ rfl
    refine ⟨n, y2, y3, y4, y5, g2, g3, g4, g5, fun k hk => ?_⟩
    have e : d = (DataW.agg [y0.1, y1.1, y2.1, y3.1, y4.1, y5.1] : DataW H) := congrArg Prod.fst hx
    rw [e]
    simp only [DataW.weights, Try.underlying26]
    exact DataW.weights_mem_each (j := 2) (t := 23) (d := y2.1) rfl rfl k hk
set_option maxRecDepth 100000 in
theorem came_sized {M : Msg} {Aq Aa An Ax : Option Addr} {nq na nn nx cq ca cn cx : Nat} {v0 v1 : Value} {Za Zn Zx : List RecZ} {d : DataW H} {p : List MemPlace} (h : DataW.Trod enc Try.prog w base spare held 26 (.agg #[v0, v1, .slice Aq nq cq, .slice Aa na ca, .slice An nn cn, .slice Ax nx cx]) d p) (hv : MsgAt w w.heap.size M Aq Aa An Ax Za Zn Zx) (hq : M.qs.length = nq) {r : Nat} (hr : ∀ n ∈ d.weights Try.prog 26, n ≤ r) : ∀ q ∈ M.qs, q.name.length ≤ r := by
  obtain ⟨n, y2, y3, y4, y5, g2, g3, g4, g5, hw⟩ := msg_parts h
  intro q hqm
  obtain ⟨k, hk, rfl⟩ := List.getElem_of_mem hqm
  obtain ⟨b, off, rfl, hb, c0, c1, c2⟩ := hv.q.qn hk
  obtain ⟨m, hf⟩ := row_field Try.underlying23 Try.underlying62 (by kernel_rfl) (by kernel_rfl) g2 rfl (show k < nq by omega)
  obtain ⟨u, y, hc, ht, hwt⟩ := hf 0 _ rfl
  obtain ⟨s, e0, hy, hs⟩ := DataW.trod_string Try.underlying9 ht
  injection e0 with e0
  subst e0
  have hc2 : w.cell? ((⟨b, off, none⟩ : Addr).add (k * 3 + 0)) = some (.string s) := hc
  rw [add_plain] at hc2
  have e2 : (Value.string s : Value) = .string (mk (M.qs[k]).name) := Option.some.inj (hc2.symm.trans c0)
  injection e2 with e2
  refine hr _ (hw _ (hwt _ ?_))
  rw [hy, e2]
  simp [DataW.weights, mk]
set_option maxRecDepth 100000 in
theorem list_znil {Z : List RecZ} {A : Option Addr} {m c n : Nat} {y : DataW H × List MemPlace} (g : DataW.trod enc Try.prog w base spare held n 24 [.slice A m c] = some y) (hc : CellsAt w w.heap.size A (recCs Z)) (hz : ZAt w w.heap.size Z) (hm : Z.length = m) : ZNil Z := fun z hz' k c' => by
  obtain ⟨i, hi, rfl⟩ := List.getElem_of_mem hz'
  have e := fun j (hj : j < 7) => recCs_at (Z := Z) hi hj
  obtain ⟨b, off, rfl, hl, hcc⟩ := hc.get (e 0 (by decide))
  have p4 := hcc (i * 7 + 4) _ (e 4 (by decide))
  have p5 := hcc (i * 7 + 5) _ (e 5 (by decide))
  have p6 := hcc (i * 7 + 6) _ (e 6 (by decide))
  obtain ⟨m', hf⟩ := row_field Try.underlying24 Try.underlying60 (by kernel_rfl) (by kernel_rfl) g rfl (show i < m by omega)
  obtain ⟨u4, y4, h4, t4, _⟩ := hf 4 _ rfl
  obtain ⟨u5, y5, h5, t5, _⟩ := hf 5 _ rfl
  obtain ⟨u6, y6, h6, t6, _⟩ := hf 6 _ rfl
  have h4 : w.cell? ((⟨b, off, none⟩ : Addr).add (i * 7 + 4)) = some u4 := h4
  have h5 : w.cell? ((⟨b, off, none⟩ : Addr).add (i * 7 + 5)) = some u5 := h5
  have h6 : w.cell? ((⟨b, off, none⟩ : Addr).add (i * 7 + 6)) = some u6 := h6
  rw [add_plain] at h4 h5 h6
  have q4 : u4 = (Z[i]).2.1 := Option.some.inj (h4.symm.trans p4)
  have q5 : u5 = (Z[i]).2.2.1 := Option.some.inj (h5.symm.trans p5)
  have q6 : u6 = (Z[i]).2.2.2 := Option.some.inj (h6.symm.trans p6)
  subst q4 q5 q6
  refine ⟨fun e => ?_, fun e => ?_, fun e => ?_⟩
  · obtain ⟨A1, n1, c1, L1, e1, _, _, _, hn⟩ := came_texts t4
    rw [e] at e1; injection e1 with a1 _ a3; rw [a3]; exact hn a1.symm
  · obtain ⟨A1, n1, c1, L1, e1, _, _, _, hn, _⟩ := came_nums t5
    rw [e] at e1; injection e1 with a1 _ a3; rw [a3]; exact hn a1.symm
  · obtain ⟨A1, n1, c1, L1, e1, _, _, _, hn⟩ := came_texts t6
    rw [e] at e1; injection e1 with a1 _ a3; rw [a3]; exact hn a1.symm
theorem came_znil {M : Msg} {Aq Aa An Ax : Option Addr} {nq na nn nx cq ca cn cx : Nat} {v0 v1 : Value} {Za Zn Zx : List RecZ} {d : DataW H} {p : List MemPlace} (h : DataW.Trod enc Try.prog w base spare held 26 (.agg #[v0, v1, .slice Aq nq cq, .slice Aa na ca, .slice An nn cn, .slice Ax nx cx]) d p) (hv : MsgAt w w.heap.size M Aq Aa An Ax Za Zn Zx) (ha : Za.length = na) (hn : Zn.length = nn) (hx : Zx.length = nx) : ZNil Za ∧ ZNil Zn ∧ ZNil Zx := by
  obtain ⟨n, y2, y3, y4, y5, g2, g3, g4, g5, hw⟩ := msg_parts h
  exact ⟨list_znil g3 hv.a hv.za ha, list_znil g4 hv.n hv.zn hn, list_znil g5 hv.x hv.zx hx⟩
end
end Go.Proofs.Ytpmmjmnleoicjaa

/- The contract of the law's own Copied: a record in memory of its own, its lists with spare room. For records of at most 10^5 texts of at most 10^5 bytes. -/
namespace Go.Proofs.Ytpmmjmnleoicjaa
open Go.RowKit Bytes Strs Nums NameMath RecMath

theorem grown_block2 {w0 w2 : World} {o O : Obj} {g : Nat} (h : w0.heap[g]? = some O) (hgrow : (w0.alloc o).drew.grownBy w2 (some w0.heap.size)) : w2.heap[g]? = some O := by
  have hl : g < w0.heap.size := by
    rcases Nat.lt_or_ge g w0.heap.size with hl | hl
    · exact hl
    · rw [Array.getElem?_eq_none hl] at h; cases h
  have e : (w0.alloc o).drew.heap[g]? = some O := (heap_alloc_old w0 o hl).trans h
  rw [hgrow.block g (by simp; omega) (by intro e; injection e with e; omega)]
  exact e
/-- The two blocks of a call that hands back a record: the parameter's, and the result's; nothing below has changed. -/
def CutInv (w : World) (g : Nat) (vals zero : Array Value) (wx : World) : Prop :=
  wx.heap[g]? = some (.cells vals 60 (0, 0)) ∧ wx.heap[g + 1]? = some (.cells zero 60 (0, 0)) ∧ g + 2 ≤ wx.heap.size ∧ Below g w wx
theorem cut_step {w w0 w2 : World} {g i : Nat} {vals ds zero : Array Value} {o : Obj} {u : Value} (h : CutInv w g vals zero w0) (hgrow : (w0.alloc o).drew.grownBy w2 (some w0.heap.size)) (hd : vals.setIfInBounds i u = ds) : CutInv w g ds zero (w2.setCell ⟨g, i, none⟩ u) := by
  obtain ⟨h1, h2, h3, h4⟩ := h
  have hs : w0.heap.size ≤ w2.heap.size := by have := hgrow.size; simp at this; omega
  refine ⟨set_block (grown_block2 h1 hgrow) hd, other_block (grown_block2 h2 hgrow) (by omega), by rw [Go.Deep.nblk_setCell]; omega, ?_⟩
  have hb : Below g w (w0.alloc o).drew := (h4.alloc (by omega) o).drew
  exact (hb.grown hgrow (by simp; omega) (fun k hk => by injection hk with hk; omega)).setCell (p := ⟨g, i, none⟩) (Nat.le_refl g) u
theorem own_step2 {w0 w2 : World} {g i n b : Nat} {e : TypeId} {v u : Value} {xs : List Value} {o : Obj} (h : w0.ownsRow (g + 2) e 1 v n xs) (hgrow : (w0.alloc o).drew.grownBy w2 (some b)) (hb : b = w0.heap.size) : (w2.setCell ⟨g, i, none⟩ u).ownsRow (g + 2) e 1 v n xs := by
  subst hb
  have h1 : (w0.alloc o).drew.ownsRow (g + 2) e 1 v n xs := own_below h ⟨rfl, rfl, rfl, by simp, fun k hk => heap_alloc_old w0 o hk⟩
  have h2 := h1.kept hgrow (by
    rcases hv : v.ownBlock with _ | k
    · exact Or.inl rfl
    · refine Or.inr (fun e => ?_)
      injection e with e
      have := (h.lt k hv).2
      omega)
  exact own_set h2 (by show g < g + 2; omega)

/-- A record came back in memory of the call's own, its names and its texts apart. -/
def RecRes2 (w : World) (R : Rec) (x : ByteArray) (k l t n1 n2 n3 : Nat) (e : Ending) (w' : World) : Prop :=
  ∃ B1 d1 B2 d2 B3 d3, e = .returned (.agg #[.string x, .int .u16 k, .int .u16 l, .int .u32 t, .slice B1 n1 d1, .slice B2 n2 d2, .slice B3 n3 d3]) ∧ w'.ownsRow w.heap.size 9 1 (.slice B1 n1 d1) n1 (strCs R.names) ∧ w'.ownsRow w.heap.size 50 1 (.slice B2 n2 d2) n2 (numCs R.nums) ∧ w'.ownsRow w.heap.size 9 1 (.slice B3 n3 d3) n3 (strCs R.texts) ∧ Below w.heap.size w w' ∧ (∀ a b, B1 = some a → B3 = some b → a.block ≠ b.block)
theorem apart_of {w w2 : World} {b n m c d base : Nat} {e : TypeId} {A B : Option Addr} {xs ys : List Value} (h : w.ownsRow base e 1 (.slice A n c) n xs) (h2 : w2.ownsRow b e 1 (.slice B m d) m ys) (hb : b = w.heap.size) : ∀ p q, A = some p → B = some q → p.block ≠ q.block := fun p q hp hq hpq => by
  subst hp hq hb
  have h1 := (h.lt p.block rfl).2
  have h3 := (h2.lt q.block rfl).1
  omega

attribute [local go_sem ↓] Go.wp_at_zero Go.wp_at_succ

set_option maxHeartbeats 8000000 in
set_option maxRecDepth 100000 in
theorem lawCopied_is (R : Rec) (x : ByteArray) (k l t : Nat) (A1 : Option Addr) (n1 c1 : Nat) (A2 : Option Addr) (n2 c2 : Nat) (A3 : Option Addr) (n3 c3 : Nat) (w : World) (hR : Hid (RecAt w w.heap.size R x k l t A1 n1 A2 n2 A3 n3)) (hS : Hid (Small R)) (hf1 : A1 = none → c1 = 0) (hf2 : A2 = none → c2 = 0) (hf3 : A3 = none → c3 = 0) :
    Calls Try.prog 43 #[.agg #[.string x, .int .u16 k, .int .u16 l, .int .u32 t, .slice A1 n1 c1, .slice A2 n2 c2, .slice A3 n3 c3]] w (RecRes2 w R x k l t n1 n2 n3) := by
  have hm1 := hR.out.m1 hS.out
  have hm2 := hR.out.m2 hS.out
  have hm3 := hR.out.m3 hS.out
  have HF1 := Lib.hid hf1
  have HF2 := Lib.hid hf2
  have HF3 := Lib.hid hf3
  clear hf1 hf2 hf3
  have HL1 := Lib.hid hR.out.len1
  have HL2 := Lib.hid hR.out.len2
  have HL3 := Lib.hid hR.out.len3
  obtain ⟨m1, hm10⟩ : ∃ m, n1 + 1 = m := ⟨_, rfl⟩
  have hw1 : IntKind.i64.wrap ((n1 : Int) + 1) = (m1 : Int) := by rw [IntWalk.i64_in _ (by omega)]; omega
  obtain ⟨M1, hM1, hmk1⟩ := make0_strs m1 (by omega)
  have HM1 := Lib.hid hM1
  have hm1le : m1 ≤ 1000000 := by omega
  clear hM1 hm10
  obtain ⟨m2, hm20⟩ : ∃ m, n2 + 1 = m := ⟨_, rfl⟩
  have hw2 : IntKind.i64.wrap ((n2 : Int) + 1) = (m2 : Int) := by rw [IntWalk.i64_in _ (by omega)]; omega
  obtain ⟨M2, hM2, hmk2⟩ := make0_nums m2 (by omega)
  have HM2 := Lib.hid hM2
  have hm2le : m2 ≤ 1000000 := by omega
  clear hM2 hm20
  obtain ⟨m3, hm30⟩ : ∃ m, n3 + 1 = m := ⟨_, rfl⟩
  have hw3 : IntKind.i64.wrap ((n3 : Int) + 1) = (m3 : Int) := by rw [IntWalk.i64_in _ (by omega)]; omega
  obtain ⟨M3, hM3, hmk3⟩ := make0_strs m3 (by omega)
  have HM3 := Lib.hid hM3
  have hm3le : m3 ≤ 1000000 := by omega
  clear hM3 hm30
  go_enter Try.func43, Try.ntmps43
  go_wp2_with fail
  have hG0 : ((w.alloc (.cells #[.string x, .int .u16 k, .int .u16 l, .int .u32 t, .slice A1 n1 c1, .slice A2 n2 c2, .slice A3 n3 c3] 60)).alloc (.cells #[.string ⟨#[]⟩, .int .u16 0, .int .u16 0, .int .u32 0, .slice none 0 0, .slice none 0 0, .slice none 0 0] 60)).heap[w.heap.size]? = some (.cells #[.string x, .int .u16 k, .int .u16 l, .int .u32 t, .slice A1 n1 c1, .slice A2 n2 c2, .slice A3 n3 c3] 60 (0, 0)) := (heap_alloc_old (w.alloc (.cells #[.string x, .int .u16 k, .int .u16 l, .int .u32 t, .slice A1 n1 c1, .slice A2 n2 c2, .slice A3 n3 c3] 60)) (.cells #[.string ⟨#[]⟩, .int .u16 0, .int .u16 0, .int .u32 0, .slice none 0 0, .slice none 0 0, .slice none 0 0] 60) (by simp)).trans (heap_alloc_new w _)
  have hH0 : ((w.alloc (.cells #[.string x, .int .u16 k, .int .u16 l, .int .u32 t, .slice A1 n1 c1, .slice A2 n2 c2, .slice A3 n3 c3] 60)).alloc (.cells #[.string ⟨#[]⟩, .int .u16 0, .int .u16 0, .int .u32 0, .slice none 0 0, .slice none 0 0, .slice none 0 0] 60)).heap[w.heap.size + 1]? = some (.cells #[.string ⟨#[]⟩, .int .u16 0, .int .u16 0, .int .u32 0, .slice none 0 0, .slice none 0 0, .slice none 0 0] 60 (0, 0)) := by
    have := heap_alloc_new (w.alloc (.cells #[.string x, .int .u16 k, .int .u16 l, .int .u32 t, .slice A1 n1 c1, .slice A2 n2 c2, .slice A3 n3 c3] 60)) (.cells #[.string ⟨#[]⟩, .int .u16 0, .int .u16 0, .int .u32 0, .slice none 0 0, .slice none 0 0, .slice none 0 0] 60)
    simpa using this
  have hB0 : Below w.heap.size w ((w.alloc (.cells #[.string x, .int .u16 k, .int .u16 l, .int .u32 t, .slice A1 n1 c1, .slice A2 n2 c2, .slice A3 n3 c3] 60)).alloc (.cells #[.string ⟨#[]⟩, .int .u16 0, .int .u16 0, .int .u32 0, .slice none 0 0, .slice none 0 0, .slice none 0 0] 60)) := ((Below.refl _ _).alloc (Nat.le_refl _) _).alloc (by simp) _
  have hs0 : w.heap.size + 2 ≤ ((w.alloc (.cells #[.string x, .int .u16 k, .int .u16 l, .int .u32 t, .slice A1 n1 c1, .slice A2 n2 c2, .slice A3 n3 c3] 60)).alloc (.cells #[.string ⟨#[]⟩, .int .u16 0, .int .u16 0, .int .u32 0, .slice none 0 0, .slice none 0 0, .slice none 0 0] 60)).heap.size := by simp
  have HRg := Lib.hid hR.out
  have HC : Hid (CutInv w w.heap.size #[.string x, .int .u16 k, .int .u16 l, .int .u32 t, .slice A1 n1 c1, .slice A2 n2 c2, .slice A3 n3 c3] #[.string ⟨#[]⟩, .int .u16 0, .int .u16 0, .int .u32 0, .slice none 0 0, .slice none 0 0, .slice none 0 0] ((w.alloc (.cells #[.string x, .int .u16 k, .int .u16 l, .int .u32 t, .slice A1 n1 c1, .slice A2 n2 c2, .slice A3 n3 c3] 60)).alloc (.cells #[.string ⟨#[]⟩, .int .u16 0, .int .u16 0, .int .u32 0, .slice none 0 0, .slice none 0 0, .slice none 0 0] 60))) := ⟨hG0, hH0, hs0, hB0⟩
  clear hG0 hH0 hB0 hs0 hR
  generalize ((w.alloc (.cells #[.string x, .int .u16 k, .int .u16 l, .int .u32 t, .slice A1 n1 c1, .slice A2 n2 c2, .slice A3 n3 c3] 60)).alloc (.cells #[.string ⟨#[]⟩, .int .u16 0, .int .u16 0, .int .u32 0, .slice none 0 0, .slice none 0 0, .slice none 0 0] 60)) = w0 at *
  generalize hgw : w.heap.size = g at *
  have HGW := Lib.hid hgw
  clear hgw
  have hcut0 := HC.out
  have hgl : g < w0.heap.size := by have := hcut0.2.2.1; omega
  have hg2 : g + 2 ≤ w0.heap.size := hcut0.2.2.1
  have p4 : w0.cell? ⟨g, 4, none⟩ = some (.slice A1 n1 c1) := by rw [Lib.cell_of_heap hcut0.1]; rfl
  have HSRC := Lib.hid (strs_below (strs_of (HRg.out.on (hcut0.2.2.2) (Nat.le_of_lt hgl)).rd1 HL1.out HF1.out) (w' := (w0.alloc (.cells M1 9)).drew) ((Below.refl _ w0).alloc (Nat.le_refl _) _).drew)
  have hown0 : (w0.alloc (.cells M1 9)).drew.ownsRow w0.heap.size 9 1 (.slice (some ⟨w0.heap.size, 0, none⟩) 0 m1) 0 [] := made0_strs w0 M1 m1 w0.heap.size HM1.out hm1le (Nat.le_refl _)
  have HOWN := Lib.hid hown0
  clear hcut0 hown0
  go_upto_region 1 with fail
  go_cut [] from 3 to 30 (fun wx => ∃ B1 d1, Hid (CutInv w g #[.string x, .int .u16 k, .int .u16 l, .int .u32 t, .slice B1 n1 d1, .slice A2 n2 c2, .slice A3 n3 c3] #[.string ⟨#[]⟩, .int .u16 0, .int .u16 0, .int .u32 0, .slice none 0 0, .slice none 0 0, .slice none 0 0] wx) ∧ Hid (wx.ownsRow (g + 2) 9 1 (.slice B1 n1 d1) n1 (strCs R.names)))
  case first =>
    go_region_law (first
      | (refine step_append_strs (by rfl) _ _ (by rfl) w0.heap.size (.slice (some ⟨w0.heap.size, 0, none⟩) 0 m1) 0 [] (by rfl) HOWN.out (.slice A1 n1 c1) (by rfl) n1 R.names HSRC.out (by omega) (by simp) ?_; intro v' w2 hown2 hgrow; rw [Nat.zero_add, List.nil_append] at hown2; obtain ⟨B1, d1, rfl, _, _, _⟩ := own_rds hown2 HL1.out.symm; have hb2 := grown_block2 HC.out.1 hgrow; have q4 : w2.cell? ⟨g, 4, none⟩ = some (.slice A1 n1 c1) := (by rw [Lib.cell_of_heap hb2]; rfl); have z4 : w2.frozen? ⟨g, 4, none⟩ = false := Lib.frozen_of_heap hb2 4))
    all_goals
      go_wp2_with fail
      go_meet
      exact ⟨B1, d1, Lib.hid (cut_step HC.out hgrow (by rfl)), Lib.hid (own_set (own_low hown2 hg2) (by show g < g + 2; omega))⟩
  case rest =>
    clear HSRC HOWN p4 hgl hg2  HC
    obtain ⟨B1, d1, HC, HO1⟩ := hcut
    generalize wc = w1 at *
    have hcut0 := HC.out
    have hgl : g < w1.heap.size := by have := hcut0.2.2.1; omega
    have hg2 : g + 2 ≤ w1.heap.size := hcut0.2.2.1
    have p5 : w1.cell? ⟨g, 5, none⟩ = some (.slice A2 n2 c2) := by rw [Lib.cell_of_heap hcut0.1]; rfl
    have HSRC := Lib.hid (nums_below (nums_of (HRg.out.on (hcut0.2.2.2) (Nat.le_of_lt hgl)).rd2 HL2.out HF2.out) (w' := (w1.alloc (.cells M2 50)).drew) ((Below.refl _ w1).alloc (Nat.le_refl _) _).drew)
    have hown0 : (w1.alloc (.cells M2 50)).drew.ownsRow w1.heap.size 50 1 (.slice (some ⟨w1.heap.size, 0, none⟩) 0 m2) 0 [] := made0_nums w1 M2 m2 w1.heap.size HM2.out hm2le (Nat.le_refl _)
    have HOWN := Lib.hid hown0
    clear hcut0 hown0
    go_upto_region 2 with fail
    go_cut [] from 3 to 30 (fun wx => ∃ B2 d2, Hid (CutInv w g #[.string x, .int .u16 k, .int .u16 l, .int .u32 t, .slice B1 n1 d1, .slice B2 n2 d2, .slice A3 n3 c3] #[.string ⟨#[]⟩, .int .u16 0, .int .u16 0, .int .u32 0, .slice none 0 0, .slice none 0 0, .slice none 0 0] wx) ∧ Hid (wx.ownsRow (g + 2) 9 1 (.slice B1 n1 d1) n1 (strCs R.names)) ∧ Hid (wx.ownsRow (g + 2) 50 1 (.slice B2 n2 d2) n2 (numCs R.nums)))
    case first =>
      go_region_law (first
        | (refine step_append_nums (by rfl) _ _ (by rfl) w1.heap.size (.slice (some ⟨w1.heap.size, 0, none⟩) 0 m2) 0 [] (by rfl) HOWN.out (.slice A2 n2 c2) (by rfl) n2 R.nums HSRC.out (by omega) (by simp) ?_; intro v' w2 hown2 hgrow; rw [Nat.zero_add, List.nil_append] at hown2; obtain ⟨B2, d2, rfl, _, _, _⟩ := own_rdn hown2 HL2.out.symm; have hb2 := grown_block2 HC.out.1 hgrow; have q4 : w2.cell? ⟨g, 5, none⟩ = some (.slice A2 n2 c2) := (by rw [Lib.cell_of_heap hb2]; rfl); have z4 : w2.frozen? ⟨g, 5, none⟩ = false := Lib.frozen_of_heap hb2 5))
      all_goals
        go_wp2_with fail
        go_meet
        exact ⟨B2, d2, Lib.hid (cut_step HC.out hgrow (by rfl)), Lib.hid (own_step2 HO1.out hgrow rfl), Lib.hid (own_set (own_low hown2 hg2) (by show g < g + 2; omega))⟩
    case rest =>
      clear HSRC HOWN p5 hgl hg2 HO1 HC
      obtain ⟨B2, d2, HC, HO1, HO2⟩ := hcut
      generalize wc = w2 at *
      have hcut0 := HC.out
      have hgl : g < w2.heap.size := by have := hcut0.2.2.1; omega
      have hg2 : g + 2 ≤ w2.heap.size := hcut0.2.2.1
      have p6 : w2.cell? ⟨g, 6, none⟩ = some (.slice A3 n3 c3) := by rw [Lib.cell_of_heap hcut0.1]; rfl
      have HSRC := Lib.hid (strs_below (strs_of (HRg.out.on (hcut0.2.2.2) (Nat.le_of_lt hgl)).rd3 HL3.out HF3.out) (w' := (w2.alloc (.cells M3 9)).drew) ((Below.refl _ w2).alloc (Nat.le_refl _) _).drew)
      have hown0 : (w2.alloc (.cells M3 9)).drew.ownsRow w2.heap.size 9 1 (.slice (some ⟨w2.heap.size, 0, none⟩) 0 m3) 0 [] := made0_strs w2 M3 m3 w2.heap.size HM3.out hm3le (Nat.le_refl _)
      have HOWN := Lib.hid hown0
      clear hcut0 hown0
      go_upto_region 3 with fail
      go_cut [] from 3 to 30 (fun wx => ∃ B3 d3, Hid (CutInv w g #[.string x, .int .u16 k, .int .u16 l, .int .u32 t, .slice B1 n1 d1, .slice B2 n2 d2, .slice B3 n3 d3] #[.string ⟨#[]⟩, .int .u16 0, .int .u16 0, .int .u32 0, .slice none 0 0, .slice none 0 0, .slice none 0 0] wx) ∧ Hid (wx.ownsRow (g + 2) 9 1 (.slice B1 n1 d1) n1 (strCs R.names)) ∧ Hid (wx.ownsRow (g + 2) 50 1 (.slice B2 n2 d2) n2 (numCs R.nums)) ∧ Hid (wx.ownsRow (g + 2) 9 1 (.slice B3 n3 d3) n3 (strCs R.texts)) ∧ Hid (∀ a b, B1 = some a → B3 = some b → a.block ≠ b.block))
      case first =>
        go_region_law (first
          | (refine step_append_strs (by rfl) _ _ (by rfl) w2.heap.size (.slice (some ⟨w2.heap.size, 0, none⟩) 0 m3) 0 [] (by rfl) HOWN.out (.slice A3 n3 c3) (by rfl) n3 R.texts HSRC.out (by omega) (by simp) ?_; intro v' w2 hown2 hgrow; rw [Nat.zero_add, List.nil_append] at hown2; obtain ⟨B3, d3, rfl, _, _, _⟩ := own_rds hown2 HL3.out.symm; have hb2 := grown_block2 HC.out.1 hgrow; have q4 : w2.cell? ⟨g, 6, none⟩ = some (.slice A3 n3 c3) := (by rw [Lib.cell_of_heap hb2]; rfl); have z4 : w2.frozen? ⟨g, 6, none⟩ = false := Lib.frozen_of_heap hb2 6))
        all_goals
          go_wp2_with fail
          go_meet
          exact ⟨B3, d3, Lib.hid (cut_step HC.out hgrow (by rfl)), Lib.hid (own_step2 HO1.out hgrow rfl), Lib.hid (own_step2 HO2.out hgrow rfl), Lib.hid (own_set (own_low hown2 hg2) (by show g < g + 2; omega)), Lib.hid (apart_of HO1.out hown2 rfl)⟩
      case rest =>
        clear HSRC HOWN p6 hgl hg2 HO1 HO2 HC
        obtain ⟨B3, d3, HC, HO1, HO2, HO3, HAP⟩ := hcut
        generalize wc = w3 at *
        have hcut0 := HC.out
        have hh0 := hcut0.2.1
        have p0 : w3.cell? ⟨g, 0, none⟩ = some (.string x) := by rw [Lib.cell_of_heap hcut0.1]; rfl
        have p1 : w3.cell? ⟨g, 1, none⟩ = some (.int .u16 k) := by rw [Lib.cell_of_heap hcut0.1]; rfl
        have p2 : w3.cell? ⟨g, 2, none⟩ = some (.int .u16 l) := by rw [Lib.cell_of_heap hcut0.1]; rfl
        have p3 : w3.cell? ⟨g, 3, none⟩ = some (.int .u32 t) := by rw [Lib.cell_of_heap hcut0.1]; rfl
        have p4 : w3.cell? ⟨g, 4, none⟩ = some (.slice B1 n1 d1) := by rw [Lib.cell_of_heap hcut0.1]; rfl
        have p5 : w3.cell? ⟨g, 5, none⟩ = some (.slice B2 n2 d2) := by rw [Lib.cell_of_heap hcut0.1]; rfl
        have p6 : w3.cell? ⟨g, 6, none⟩ = some (.slice B3 n3 d3) := by rw [Lib.cell_of_heap hcut0.1]; rfl
        have r0 : w3.cell? ⟨(g + 1), 0, none⟩ = some (.string ⟨#[]⟩) := by rw [Lib.cell_of_heap hh0]; rfl
        have r1 : w3.cell? ⟨(g + 1), 1, none⟩ = some (.int .u16 0) := by rw [Lib.cell_of_heap hh0]; rfl
        have r2 : w3.cell? ⟨(g + 1), 2, none⟩ = some (.int .u16 0) := by rw [Lib.cell_of_heap hh0]; rfl
        have r3 : w3.cell? ⟨(g + 1), 3, none⟩ = some (.int .u32 0) := by rw [Lib.cell_of_heap hh0]; rfl
        have r4 : w3.cell? ⟨(g + 1), 4, none⟩ = some (.slice none 0 0) := by rw [Lib.cell_of_heap hh0]; rfl
        have r5 : w3.cell? ⟨(g + 1), 5, none⟩ = some (.slice none 0 0) := by rw [Lib.cell_of_heap hh0]; rfl
        have r6 : w3.cell? ⟨(g + 1), 6, none⟩ = some (.slice none 0 0) := by rw [Lib.cell_of_heap hh0]; rfl
        have rz0 : w3.frozen? ⟨(g + 1), 0, none⟩ = false := Lib.frozen_of_heap hh0 0
        have rz1 : w3.frozen? ⟨(g + 1), 1, none⟩ = false := Lib.frozen_of_heap hh0 1
        have rz2 : w3.frozen? ⟨(g + 1), 2, none⟩ = false := Lib.frozen_of_heap hh0 2
        have rz3 : w3.frozen? ⟨(g + 1), 3, none⟩ = false := Lib.frozen_of_heap hh0 3
        have rz4 : w3.frozen? ⟨(g + 1), 4, none⟩ = false := Lib.frozen_of_heap hh0 4
        have rz5 : w3.frozen? ⟨(g + 1), 5, none⟩ = false := Lib.frozen_of_heap hh0 5
        have rz6 : w3.frozen? ⟨(g + 1), 6, none⟩ = false := Lib.frozen_of_heap hh0 6
        have HH4 := Lib.hid hh0
        have HBw4 := Lib.hid hcut0.2.2.2
        clear hcut0 hh0 HC
        go_wp2_with fail
        have hF : (((((((w3.setCell ⟨g + 1, 0, none⟩ (.string x)).setCell ⟨g + 1, 1, none⟩ (.int .u16 k)).setCell ⟨g + 1, 2, none⟩ (.int .u16 l)).setCell ⟨g + 1, 3, none⟩ (.int .u32 t)).setCell ⟨g + 1, 4, none⟩ (.slice B1 n1 d1)).setCell ⟨g + 1, 5, none⟩ (.slice B2 n2 d2)).setCell ⟨g + 1, 6, none⟩ (.slice B3 n3 d3)).heap[g + 1]? = some (.cells #[.string x, .int .u16 k, .int .u16 l, .int .u32 t, .slice B1 n1 d1, .slice B2 n2 d2, .slice B3 n3 d3] 60 (0, 0)) := (set_block (i := 6) (v := .slice B3 n3 d3) (set_block (i := 5) (v := .slice B2 n2 d2) (set_block (i := 4) (v := .slice B1 n1 d1) (set_block (i := 3) (v := .int .u32 t) (set_block (i := 2) (v := .int .u16 l) (set_block (i := 1) (v := .int .u16 k) (set_block (i := 0) (v := .string x) HH4.out rfl) rfl) rfl) rfl) rfl) rfl) rfl)
        have hU1 : (((((((w3.setCell ⟨g + 1, 0, none⟩ (.string x)).setCell ⟨g + 1, 1, none⟩ (.int .u16 k)).setCell ⟨g + 1, 2, none⟩ (.int .u16 l)).setCell ⟨g + 1, 3, none⟩ (.int .u32 t)).setCell ⟨g + 1, 4, none⟩ (.slice B1 n1 d1)).setCell ⟨g + 1, 5, none⟩ (.slice B2 n2 d2)).setCell ⟨g + 1, 6, none⟩ (.slice B3 n3 d3)).ownsRow (g + 2) 9 1 (.slice B1 n1 d1) n1 (strCs R.names) := (own_set (p := ⟨g + 1, 6, none⟩) (u := .slice B3 n3 d3) (own_set (p := ⟨g + 1, 5, none⟩) (u := .slice B2 n2 d2) (own_set (p := ⟨g + 1, 4, none⟩) (u := .slice B1 n1 d1) (own_set (p := ⟨g + 1, 3, none⟩) (u := .int .u32 t) (own_set (p := ⟨g + 1, 2, none⟩) (u := .int .u16 l) (own_set (p := ⟨g + 1, 1, none⟩) (u := .int .u16 k) (own_set (p := ⟨g + 1, 0, none⟩) (u := .string x) HO1.out (Nat.lt_succ_self (g + 1))) (Nat.lt_succ_self (g + 1))) (Nat.lt_succ_self (g + 1))) (Nat.lt_succ_self (g + 1))) (Nat.lt_succ_self (g + 1))) (Nat.lt_succ_self (g + 1))) (Nat.lt_succ_self (g + 1)))
        have hU2 : (((((((w3.setCell ⟨g + 1, 0, none⟩ (.string x)).setCell ⟨g + 1, 1, none⟩ (.int .u16 k)).setCell ⟨g + 1, 2, none⟩ (.int .u16 l)).setCell ⟨g + 1, 3, none⟩ (.int .u32 t)).setCell ⟨g + 1, 4, none⟩ (.slice B1 n1 d1)).setCell ⟨g + 1, 5, none⟩ (.slice B2 n2 d2)).setCell ⟨g + 1, 6, none⟩ (.slice B3 n3 d3)).ownsRow (g + 2) 50 1 (.slice B2 n2 d2) n2 (numCs R.nums) := (own_set (p := ⟨g + 1, 6, none⟩) (u := .slice B3 n3 d3) (own_set (p := ⟨g + 1, 5, none⟩) (u := .slice B2 n2 d2) (own_set (p := ⟨g + 1, 4, none⟩) (u := .slice B1 n1 d1) (own_set (p := ⟨g + 1, 3, none⟩) (u := .int .u32 t) (own_set (p := ⟨g + 1, 2, none⟩) (u := .int .u16 l) (own_set (p := ⟨g + 1, 1, none⟩) (u := .int .u16 k) (own_set (p := ⟨g + 1, 0, none⟩) (u := .string x) HO2.out (Nat.lt_succ_self (g + 1))) (Nat.lt_succ_self (g + 1))) (Nat.lt_succ_self (g + 1))) (Nat.lt_succ_self (g + 1))) (Nat.lt_succ_self (g + 1))) (Nat.lt_succ_self (g + 1))) (Nat.lt_succ_self (g + 1)))
        have hU3 : (((((((w3.setCell ⟨g + 1, 0, none⟩ (.string x)).setCell ⟨g + 1, 1, none⟩ (.int .u16 k)).setCell ⟨g + 1, 2, none⟩ (.int .u16 l)).setCell ⟨g + 1, 3, none⟩ (.int .u32 t)).setCell ⟨g + 1, 4, none⟩ (.slice B1 n1 d1)).setCell ⟨g + 1, 5, none⟩ (.slice B2 n2 d2)).setCell ⟨g + 1, 6, none⟩ (.slice B3 n3 d3)).ownsRow (g + 2) 9 1 (.slice B3 n3 d3) n3 (strCs R.texts) := (own_set (p := ⟨g + 1, 6, none⟩) (u := .slice B3 n3 d3) (own_set (p := ⟨g + 1, 5, none⟩) (u := .slice B2 n2 d2) (own_set (p := ⟨g + 1, 4, none⟩) (u := .slice B1 n1 d1) (own_set (p := ⟨g + 1, 3, none⟩) (u := .int .u32 t) (own_set (p := ⟨g + 1, 2, none⟩) (u := .int .u16 l) (own_set (p := ⟨g + 1, 1, none⟩) (u := .int .u16 k) (own_set (p := ⟨g + 1, 0, none⟩) (u := .string x) HO3.out (Nat.lt_succ_self (g + 1))) (Nat.lt_succ_self (g + 1))) (Nat.lt_succ_self (g + 1))) (Nat.lt_succ_self (g + 1))) (Nat.lt_succ_self (g + 1))) (Nat.lt_succ_self (g + 1))) (Nat.lt_succ_self (g + 1)))
        have hBL : Below g w (((((((w3.setCell ⟨g + 1, 0, none⟩ (.string x)).setCell ⟨g + 1, 1, none⟩ (.int .u16 k)).setCell ⟨g + 1, 2, none⟩ (.int .u16 l)).setCell ⟨g + 1, 3, none⟩ (.int .u32 t)).setCell ⟨g + 1, 4, none⟩ (.slice B1 n1 d1)).setCell ⟨g + 1, 5, none⟩ (.slice B2 n2 d2)).setCell ⟨g + 1, 6, none⟩ (.slice B3 n3 d3)) := (((((((HBw4.out.setCell (p := ⟨g + 1, 0, none⟩) (Nat.le_succ g) (.string x)).setCell (p := ⟨g + 1, 1, none⟩) (Nat.le_succ g) (.int .u16 k)).setCell (p := ⟨g + 1, 2, none⟩) (Nat.le_succ g) (.int .u16 l)).setCell (p := ⟨g + 1, 3, none⟩) (Nat.le_succ g) (.int .u32 t)).setCell (p := ⟨g + 1, 4, none⟩) (Nat.le_succ g) (.slice B1 n1 d1)).setCell (p := ⟨g + 1, 5, none⟩) (Nat.le_succ g) (.slice B2 n2 d2)).setCell (p := ⟨g + 1, 6, none⟩) (Nat.le_succ g) (.slice B3 n3 d3))
        generalize (((((((w3.setCell ⟨g + 1, 0, none⟩ (.string x)).setCell ⟨g + 1, 1, none⟩ (.int .u16 k)).setCell ⟨g + 1, 2, none⟩ (.int .u16 l)).setCell ⟨g + 1, 3, none⟩ (.int .u32 t)).setCell ⟨g + 1, 4, none⟩ (.slice B1 n1 d1)).setCell ⟨g + 1, 5, none⟩ (.slice B2 n2 d2)).setCell ⟨g + 1, 6, none⟩ (.slice B3 n3 d3)) = w8 at *
        have f0 : w8.cell? ⟨(g + 1), 0, none⟩ = some (.string x) := by rw [Lib.cell_of_heap hF]; rfl
        have f1 : w8.cell? ⟨(g + 1), 1, none⟩ = some (.int .u16 k) := by rw [Lib.cell_of_heap hF]; rfl
        have f2 : w8.cell? ⟨(g + 1), 2, none⟩ = some (.int .u16 l) := by rw [Lib.cell_of_heap hF]; rfl
        have f3 : w8.cell? ⟨(g + 1), 3, none⟩ = some (.int .u32 t) := by rw [Lib.cell_of_heap hF]; rfl
        have f4 : w8.cell? ⟨(g + 1), 4, none⟩ = some (.slice B1 n1 d1) := by rw [Lib.cell_of_heap hF]; rfl
        have f5 : w8.cell? ⟨(g + 1), 5, none⟩ = some (.slice B2 n2 d2) := by rw [Lib.cell_of_heap hF]; rfl
        have f6 : w8.cell? ⟨(g + 1), 6, none⟩ = some (.slice B3 n3 d3) := by rw [Lib.cell_of_heap hF]; rfl
        exact bodyPost_ret (v := .agg #[.string x, .int .u16 k, .int .u16 l, .int .u32 t, .slice B1 n1 d1, .slice B2 n2 d2, .slice B3 n3 d3]) (by simp [results, Try.results43, go_sem, f0, f1, f2, f3, f4, f5, f6]) rfl ⟨_, _, _, _, _, _, rfl, by rw [HGW.out]; exact own_low hU1 (by omega), by rw [HGW.out]; exact own_low hU2 (by omega), by rw [HGW.out]; exact own_low hU3 (by omega), by rw [HGW.out]; exact hBL, HAP.out⟩
end Go.Proofs.Ytpmmjmnleoicjaa

/- The contracts of slices.Clone over questions and of query's copied. For lists of at most 1000 questions, whose names are no longer than a text may be that is copied. -/
namespace Go.Proofs.Ytpmmjmnleoicjaa
open Go.RowKit Bytes MsgMath NameMath RecMath QrMath

/-- A text no longer than the library copies. -/
def cloneMost : Nat := 281474976710656
theorem clone_w (s : ByteArray) (w : World) (hs : s.size ≤ cloneMost) :
    Calls Try.prog 65 #[.string s] w fun e w' => e = .returned (.string s) ∧ Below w.heap.size w w' := by
  go_enter Try.func65, Try.ntmps65
  go_wp2_with fail
  refine (Try.stringslite_Clone s _ hs).mono ?_
  rintro e w1 ⟨rfl, hB⟩
  go_wp2_with fail
  go_ret
  exact ⟨rfl, hB⟩
theorem qnCs_len (L : List Qn) : (qnCs L).length = L.length * 3 := by
  unfold qnCs
  rw [List.length_flatMap]
  induction L with
  | nil => rfl
  | cons q L ih => simp only [List.map_cons, List.sum_cons, List.length_cons, ih]; unfold qnV; simp; omega
theorem qnCs_one (L : List Qn) : ∀ u ∈ qnCs L, u.oneCell' = true := by
  intro u hu
  unfold qnCs at hu
  obtain ⟨q, _, hu⟩ := List.mem_flatMap.1 hu
  unfold qnV at hu
  simp only [List.mem_cons, List.not_mem_nil, or_false] at hu
  rcases hu with rfl | rfl | rfl <;> rfl
set_option maxRecDepth 100000 in
theorem run_append_qns (w : World) (ty : TypeId) (g : Nat) (v : Value) (m : Nat) (xs : List Value) (hown : w.ownsRow g 62 3 v m xs) (B : Nat) (ad : Addr) (n c : Nat) (L : List Qn) (hn : L.length = n) (hsrc : CellsAt w B (some ad) (qnCs L)) (hmn : m + n ≤ 1000000) (hg : g ≤ w.heap.size) :
    ∃ v' w', (Builtin.append_ #[23, 23] ty #[v, .slice (some ad) n c]).run Try.prog w = .ok v' w' ∧ w'.ownsRow g 62 3 v' (m + n) (xs ++ qnCs L) ∧ w.grownBy w' v.ownBlock := by
  obtain ⟨i0, hi, hz0, hz1, hz2⟩ := info_parts info_qn
  obtain ⟨v', w', hr, h2, h3, _⟩ := run_append_own (P := Try.prog) w g 23 ty 62 i0 (.agg #[.string ⟨#[]⟩, .int .u16 0, .int .u16 0]) 3 24 Try.underlying23 hi hz0 hz1 hz2 rfl (by decide) v m xs hown ad n c (qnCs L) (by rw [qnCs_len, hn]) (fun j u hj => by
      obtain ⟨b, off, e, _, hc⟩ := hsrc.get hj
      injection e with e
      subst e
      rw [Go.WideShapes.add_plain]
      exact hc j u hj) (qnCs_one L) (by unfold maxLen; omega) (by omega) hg
  exact ⟨v', w', hr, h2, h3⟩
/-- A row of questions of the call's own. -/
def RowQ (w : World) (L : List Qn) (e : Ending) (w' : World) : Prop := ∃ v, e = .returned v ∧ w'.ownsRow w.heap.size 62 3 v L.length (qnCs L) ∧ Below w.heap.size w w'
set_option maxHeartbeats 1000000 in
set_option maxRecDepth 100000 in
theorem cloneQ_is (A : Option Addr) (c n : Nat) (L : List Qn) (w : World) (hr : CellsAt w w.heap.size A (qnCs L)) (hn0 : Hid (L.length = n)) (hn : n ≤ 1000) :
    Calls Try.prog 109 #[.slice A n c] w (RowQ w L) := by
  have HSRC := Lib.hid hr
  have heq : ∀ W : World, (binOp .eql 23 (.slice A n c) (.slice none 0 0)).run Try.prog W = .ok (.bool A.isNone) W := fun W => Lib.run_eql_slice_nil W 23 62 A n c 0 0 Try.underlying23
  clear hr
  cases A with
  | none =>
    have h0 : L = [] := by
      rcases HSRC.out with h | ⟨b, off, e, _⟩
      · have := congrArg List.length h
        rw [qnCs_len, List.length_nil] at this
        exact List.length_eq_zero_iff.1 (by omega)
      · cases e
    subst h0
    have heq0 : ∀ W : World, (binOp .eql 23 (.slice none n c) (.slice none 0 0)).run Try.prog W = .ok (.bool true) W := heq
    clear heq
    go_enter Try.func109, Try.ntmps109
    go_wp2_with fail
    go_ret
    exact ⟨_, rfl, World.ownsRow_nil _ _ _ _, Below.refl _ _⟩
  | some ad =>
    have heq0 : ∀ W : World, (binOp .eql 23 (.slice (some ad) n c) (.slice none 0 0)).run Try.prog W = .ok (.bool false) W := heq
    clear heq
    have hown : (w.alloc (.cells #[] 62)).ownsRow w.heap.size 62 3 (.slice (some ⟨w.heap.size, 0, none⟩) 0 0) 0 [] := World.ownsRow_made w #[] 0 (Nat.le_refl _) (by decide) rfl
    have HB := Lib.hid ((Below.refl w.heap.size w).alloc (Nat.le_refl _) (.cells #[] 62))
    have HOWN := Lib.hid hown
    obtain ⟨wa, hwa⟩ : ∃ v, w.alloc (.cells #[] 62) = v := ⟨_, rfl⟩
    rw [hwa] at HOWN HB
    obtain ⟨v', w2, hrun, hown2, hgrow⟩ := run_append_qns wa 23 w.heap.size _ 0 [] HOWN.out wa.heap.size ad n c L hn0.out (HSRC.out.on HB.out HB.out.size) (by omega) HB.out.size
    rw [Nat.zero_add, List.nil_append] at hown2
    have HO := Lib.hid hown2
    have HB2 := Lib.hid (HB.out.grown hgrow HB.out.size (fun k hk => (HOWN.out.lt k hk).1))
    clear hown hown2 hgrow
    go_enter Try.func109, Try.ntmps109
    go_wp2_with (at_builtin; refine wpList_append_run rfl _ _ 23 23 rfl _ _ rfl rfl _ _ hrun ?_)
    go_ret
    exact ⟨_, rfl, by rw [hn0.out]; exact HO.out, HB2.out⟩
theorem ownsQ_cases {w : World} {base n : Nat} {v : Value} {xs : List Value} (h : w.ownsRow base 62 3 v n xs) : ∃ A c, v = .slice A n c ∧ CellsAt w w.heap.size A xs := cells_own h
theorem set_same {cur : Array Value} {k : Nat} {v : Value} (h : cur[k]? = some v) : cur.setIfInBounds k v = cur := by
  apply Array.ext_getElem?
  intro u
  rw [Array.getElem?_setIfInBounds]
  by_cases e : k = u
  · subst e
    rw [if_pos rfl, if_pos (Array.getElem?_eq_some_iff.1 h).1, h]
  · rw [if_neg e]
set_option maxHeartbeats 4000000 in
set_option maxRecDepth 100000 in
theorem copiedQ_is (A : Option Addr) (c n : Nat) (L : List Qn) (w : World) (hr : CellsAt w w.heap.size A (qnCs L)) (hn0 : Hid (L.length = n)) (hn : n ≤ 1000) (hs : Hid (∀ q ∈ L, q.name.length ≤ cloneMost)) :
    Calls Try.prog 77 #[.slice A n c] w (RowQ w L) := by
  have HR := Lib.hid hr
  have HCL := Lib.hid (cloneQ_is A c n L w hr hn0 hn)
  obtain ⟨g, hg⟩ : ∃ g, w.heap.size = g := ⟨_, rfl⟩
  have HG := Lib.hid hg
  clear hr
  go_enter Try.func77, Try.ntmps77
  go_wp2_with fail
  refine HCL.out.mono ?_
  rintro e w1 ⟨v, rfl, hO, n1⟩
  have n1' : Below g w w1 := by rw [← hg]; exact n1
  rw [hg] at hO
  have HV1 := Lib.hid n1'
  have HS1 : Hid (g ≤ w1.heap.size) := by have h := n1.size; rw [hg] at h; exact h
  obtain ⟨B, d, rfl, hcb⟩ := cells_own hO
  have HO := Lib.hid hO
  clear n1 n1' hO hcb HCL
  rw [hn0.out] at HO ⊢
  go_wp2_with fail
  go_loopw [10] (fun v wr => ∃ j : Nat, j ≤ n ∧ v = .int .i64 j ∧ Hid (wr.ownsRow g 62 3 (.slice B n d) n (qnCs L)) ∧ Hid (Below g w wr)) (fun v _ => n - (intOf v).toNat)
  case atStart => exact ⟨0, Nat.zero_le _, rfl, HO, HV1⟩
  case round =>
    obtain ⟨j, hj, rfl, hO, hV⟩ := hrel
    have HS : Hid (g ≤ wr.heap.size) := by have h := hV.out.size; rw [HG.out] at h; exact h
    by_cases hlt : j < n
    · have hjl : j < L.length := by rw [hn0.out]; exact hlt
      obtain ⟨b, off, rfl, hb, p0, p1, p2⟩ := (HR.out.on (by rw [HG.out]; exact hV.out) (Nat.le_refl _)).qn hjl
      have hcs := hs.out _ (List.getElem_mem hjl)
      rw [← mk_size] at hcs
      rcases hO.out with ⟨hl, ⟨e, h0⟩ | ⟨bb, cap, cur, e, hbb, hh, hc1, hc2, hc3, hc4⟩⟩
      · omega
      · injection e with e1 e2 e3
        subst e1 e3
        have hq0 : cur[j * 3]? = some (.string (mk (L[j]).name)) := by
          have h1 := qnCs_at hjl
          rw [← hc4, List.getElem?_take_of_lt (by omega), Array.getElem?_toList] at h1
          exact h1
        have HSAME := Lib.hid (set_same hq0)
        obtain ⟨x, hx⟩ : ∃ x, mk (L[j]).name = x := ⟨_, rfl⟩
        obtain ⟨qk, hqk⟩ : ∃ k, (L[j]).kind = k := ⟨_, rfl⟩
        obtain ⟨qc, hqc⟩ : ∃ k, (L[j]).cls = k := ⟨_, rfl⟩
        rw [hx] at p0 hcs hq0 HSAME
        rw [hqk] at p1
        rw [hqc] at p2
        obtain ⟨d2, hd2⟩ : ∃ d, wr.heap.size = d := ⟨_, rfl⟩
        obtain ⟨w2, hw2⟩ : ∃ v, wr.alloc (.cells #[.string x, .int .u16 qk, .int .u16 qc] 62) = v := ⟨_, rfl⟩
        have n2 : Below wr.heap.size wr w2 := by rw [← hw2]; exact (Below.refl _ _).alloc (Nat.le_refl _) _
        have hy : w2.heap[d2]? = some (.cells #[.string x, .int .u16 qk, .int .u16 qc] 62 (0, 0)) := by rw [← hw2, ← hd2]; exact heap_alloc_new wr _
        have y0 := cell_of_row _ _ 0 _ _ _ hy
        have hbb2 := (n2.block bb (Array.getElem?_eq_some_iff.1 hh).1).trans hh
        have HBB2 := Lib.hid hbb2
        have HV2 : Hid (Below g w w2) := hV.out.trans (n2.mono HS.out)
        have HS2 : Hid (g ≤ w2.heap.size) := Nat.le_trans HS.out n2.size
        have HW2 := Lib.hid hw2
        have HC2 := Lib.hid hc2
        have HCS := Lib.hid hcs
        clear hqk hqc hx hcs n2 hy hbb2 hw2 hO hV hh
        go_upto_region 5 with fail
        rw [HW2.out]
        clear hd2 p0 p1 p2
        go_wp2_with fail
        refine (clone_w x w2 HCS.out).mono ?_
        rintro e w3 ⟨rfl, n3⟩
        have hbb3 := (n3.block bb (Array.getElem?_eq_some_iff.1 HBB2.out).1).trans HBB2.out
        have HV3 : Hid (Below g w w3) := HV2.out.trans (n3.mono HS2.out)
        have hbn := set_at (i := j * 3) (v := .string x) hbb3 HSAME.out
        have HON : Hid ((w3.setCell ⟨bb, j * 3, none⟩ (.string x)).ownsRow g 62 3 (.slice (some ⟨bb, 0, none⟩) n d) n (qnCs L)) := ⟨hl, .inr ⟨bb, d, cur, rfl, hbb, hbn, hc1, HC2.out, hc3, hc4⟩⟩
        have z0 : w3.cell? ⟨bb, j * 3, none⟩ = some (.string x) := (cell_of_row _ _ _ _ _ _ hbb3).trans hq0
        have zf : ∀ i, w3.frozen? ⟨bb, i, none⟩ = false := Lib.frozen_of_heap hbb3
        have HVN : Hid (Below g w (w3.setCell ⟨bb, j * 3, none⟩ (.string x))) := HV3.out.setCell (p := ⟨bb, j * 3, none⟩) hbb _
        clear n3 hbb3 hbn y0 hq0 hl hc4
        go_wp2_with fail
        go_roundw
        case rel => exact ⟨j + 1, by omega, by go_num, HON, HVN⟩
        case measure => simp [intOf]; omega
    · have hjn : ¬ ((j : Int) < (n : Int)) := by omega
      clear hlt
      go_wp2_with fail
      go_ret
      exact ⟨_, rfl, by rw [hn0.out, HG.out]; exact hO.out, by rw [HG.out]; exact hV.out⟩
end Go.Proofs.Ytpmmjmnleoicjaa

/- The contract of query's Fail. For messages that can be gone through, whose names are no longer than a text may be that is copied. -/
namespace Go.Proofs.Ytpmmjmnleoicjaa
open Go.RowKit Bytes MsgMath NameMath RecMath WrMath QrMath QrBits

theorem own_low' {w : World} {base b n k : Nat} {e : TypeId} {v : Value} {xs : List Value} (h : w.ownsRow base e k v n xs) (hb : b ≤ base) : w.ownsRow b e k v n xs := by
  obtain ⟨hl, h | ⟨bb, cap, cur, e1, hbb, h2⟩⟩ := h
  · exact ⟨hl, .inl h⟩
  · exact ⟨hl, .inr ⟨bb, cap, cur, e1, Nat.le_trans hb hbb, h2⟩⟩
theorem own_six {w : World} {base b n k : Nat} {e : TypeId} {v : Value} {xs : List Value} {v0 v1 v2 v3 v4 v5 : Value} (h : w.ownsRow base e k v n xs) (hb : b < base) : ((((((w.setCell ⟨b, 0, none⟩ v0).setCell ⟨b, 1, none⟩ v1).setCell ⟨b, 2, none⟩ v2).setCell ⟨b, 3, none⟩ v3).setCell ⟨b, 4, none⟩ v4).setCell ⟨b, 5, none⟩ v5).ownsRow base e k v n xs := by
  obtain ⟨hl, h | ⟨bb, cap, cur, e1, hbb, hh, h2⟩⟩ := h
  · exact ⟨hl, .inl h⟩
  · exact ⟨hl, .inr ⟨bb, cap, cur, e1, hbb, far_six hh (by omega), h2⟩⟩
theorem far_six_cell {w : World} {a : Addr} {b : Nat} {v u0 u1 u2 u3 u4 u5 : Value} (h : w.cell? a = some v) (hb : a.block ≠ b) : ((((((w.setCell ⟨b, 0, none⟩ u0).setCell ⟨b, 1, none⟩ u1).setCell ⟨b, 2, none⟩ u2).setCell ⟨b, 3, none⟩ u3).setCell ⟨b, 4, none⟩ u4).setCell ⟨b, 5, none⟩ u5).cell? a = some v := by
  have ne : ∀ i, (⟨b, i, none⟩ : Addr) ≠ a := fun i e => hb (by rw [← e])
  rw [World.cell?_setCell_other _ _ _ _ (ne 5), World.cell?_setCell_other _ _ _ _ (ne 4), World.cell?_setCell_other _ _ _ _ (ne 3), World.cell?_setCell_other _ _ _ _ (ne 2), World.cell?_setCell_other _ _ _ _ (ne 1), World.cell?_setCell_other _ _ _ _ (ne 0)]
  exact h
theorem ResAt.six {w : World} {b : Nat} (h : ResAt w b 6) : (∃ v0, w.cell? ⟨b, 0, none⟩ = some v0) ∧ (∃ v1, w.cell? ⟨b, 1, none⟩ = some v1) ∧ (∃ v2, w.cell? ⟨b, 2, none⟩ = some v2) ∧ (∃ v3, w.cell? ⟨b, 3, none⟩ = some v3) ∧ (∃ v4, w.cell? ⟨b, 4, none⟩ = some v4) ∧ (∃ v5, w.cell? ⟨b, 5, none⟩ = some v5) ∧ ∀ i, w.frozen? ⟨b, i, none⟩ = false := by
  obtain ⟨c, t, hb, hn⟩ := h
  exact ⟨⟨c[0]'(by omega), (cell_of_row _ _ 0 _ _ _ hb).trans (Array.getElem?_eq_getElem (by omega))⟩, ⟨c[1]'(by omega), (cell_of_row _ _ 1 _ _ _ hb).trans (Array.getElem?_eq_getElem (by omega))⟩, ⟨c[2]'(by omega), (cell_of_row _ _ 2 _ _ _ hb).trans (Array.getElem?_eq_getElem (by omega))⟩, ⟨c[3]'(by omega), (cell_of_row _ _ 3 _ _ _ hb).trans (Array.getElem?_eq_getElem (by omega))⟩, ⟨c[4]'(by omega), (cell_of_row _ _ 4 _ _ _ hb).trans (Array.getElem?_eq_getElem (by omega))⟩, ⟨c[5]'(by omega), (cell_of_row _ _ 5 _ _ _ hb).trans (Array.getElem?_eq_getElem (by omega))⟩, Lib.frozen_of_heap hb⟩
theorem copiedQ_held (A : Option Addr) (c n : Nat) (L : List Qn) (B : Nat) (a0 a1 : Addr) (v0 v1 : Value) (g b : Nat) (w0 w : World) (hr : CellsAt w0 B A (qnCs L)) (hBg : B ≤ g) (hn0 : Hid (L.length = n)) (hn : n ≤ 1000) (hs : Hid (∀ q ∈ L, q.name.length ≤ cloneMost)) (h : Nat) (hgh : g ≤ h) (hh : h ≤ w.heap.size) (hc : w.cell? a0 = some v0 ∧ w.cell? a1 = some v1 ∧ Below g w0 w ∧ ResAt w b 6) :
    Calls Try.prog 77 #[.slice A n c] w fun e w' => ∃ A' c', e = .returned (.slice A' n c') ∧ w'.ownsRow h 62 3 (.slice A' n c') n (qnCs L) ∧ w'.cell? a0 = some v0 ∧ w'.cell? a1 = some v1 ∧ Below g w0 w' ∧ ResAt w' b 6 := by
  obtain ⟨c0, c1, hH, cc, ty, hrr, hnn⟩ := hc
  have hg : g ≤ w.heap.size := Nat.le_trans hgh hh
  have hr' : CellsAt w w.heap.size A (qnCs L) := hr.on (hH.mono hBg) (by omega)
  refine (copiedQ_is A c n L w hr' hn0 hn hs).mono ?_
  rintro e w' ⟨v, rfl, hO, hB⟩
  obtain ⟨A', c', rfl, _⟩ := cells_own hO
  rw [hn0.out] at hO ⊢
  exact ⟨A', c', rfl, own_low' hO hh, (hB.cell (World.block_lt_of_cell? w _ c0)).trans c0, (hB.cell (World.block_lt_of_cell? w _ c1)).trans c1, hH.trans (hB.mono hg), cc, ty, (hB.block b (Array.getElem?_eq_some_iff.1 hrr).1).trans hrr, hnn⟩
theorem fail_keep {w w0 : World} {a0 a1 : Addr} {v0 v1 : Value} {g b : Nat} (c0 : w.cell? a0 = some v0) (c1 : w.cell? a1 = some v1) (hG : Below g w0 w) (hR : ResAt w b 6) (n0 : a0.block ≠ b) (n1 : a1.block ≠ b) (hb : g ≤ b) (u0 u1 u2 u3 u4 u5 : Value) :
    ((((((w.setCell ⟨b, 0, none⟩ u0).setCell ⟨b, 1, none⟩ u1).setCell ⟨b, 2, none⟩ u2).setCell ⟨b, 3, none⟩ u3).setCell ⟨b, 4, none⟩ u4).setCell ⟨b, 5, none⟩ u5).cell? a0 = some v0 ∧ ((((((w.setCell ⟨b, 0, none⟩ u0).setCell ⟨b, 1, none⟩ u1).setCell ⟨b, 2, none⟩ u2).setCell ⟨b, 3, none⟩ u3).setCell ⟨b, 4, none⟩ u4).setCell ⟨b, 5, none⟩ u5).cell? a1 = some v1 ∧ Below g w0 ((((((w.setCell ⟨b, 0, none⟩ u0).setCell ⟨b, 1, none⟩ u1).setCell ⟨b, 2, none⟩ u2).setCell ⟨b, 3, none⟩ u3).setCell ⟨b, 4, none⟩ u4).setCell ⟨b, 5, none⟩ u5) ∧ ResAt ((((((w.setCell ⟨b, 0, none⟩ u0).setCell ⟨b, 1, none⟩ u1).setCell ⟨b, 2, none⟩ u2).setCell ⟨b, 3, none⟩ u3).setCell ⟨b, 4, none⟩ u4).setCell ⟨b, 5, none⟩ u5) b 6 :=
  ⟨far_six_cell c0 n0, far_six_cell c1 n1, below_set6 hG hb _ _ _ _ _ _, (((((hR.set _).set _).set _).set _).set _).set _⟩
/-- A failure that was made. -/
def FailRet (no : Nat) (M : Msg) (nq : Nat) (w : World) (e : Ending) (w' : World) : Prop :=
  ∃ A c, e = .returned (.agg (msgA no (failF M.flags) A nq c none 0 0 none 0 0 none 0 0)) ∧ w'.ownsRow w.heap.size 62 3 (.slice A nq c) nq (qnCs M.qs) ∧ Below w.heap.size w w'
set_option maxHeartbeats 4000000 in
set_option maxRecDepth 100000 in
theorem fail_w (no : Nat) (M : Msg) (Aq Aa An Ax : Option Addr) (nq na nn nx cq ca cn cx B : Nat) (Za Zn Zx : List RecZ) (w : World) (hv : Hid (MsgV w B M Aq Aa An Ax nq na nn nx ca cn cx Za Zn Zx)) (hB : B ≤ w.heap.size) (hf : Hid (FewM M)) (hs : Hid (∀ q ∈ M.qs, q.name.length ≤ cloneMost)) :
    Calls Try.prog 34 #[.int .u16 no, .agg (msgA M.id M.flags Aq nq cq Aa na ca An nn cn Ax nx cx)] w (FailRet no M nq w) := by
  obtain ⟨id, hid⟩ : ∃ n, M.id = n := ⟨_, rfl⟩
  obtain ⟨fl, hfl⟩ : ∃ n, M.flags = n := ⟨_, rfl⟩
  obtain ⟨g, hg⟩ : ∃ g, w.heap.size = g := ⟨_, rfl⟩
  have hfb := hf.out.flags
  rw [hfl] at hfb
  unfold FailRet
  rw [hid, hfl, hg]
  rw [hg] at hB
  obtain ⟨wa, hwa⟩ : ∃ wa, w.alloc (.cells (msgA id fl Aq nq cq Aa na ca An nn cn Ax nx cx) 26) = wa := ⟨_, rfl⟩
  obtain ⟨wb, hwb⟩ : ∃ wb, wa.alloc (.cells #[.int .u16 0, .int .u16 0, .slice none 0 0, .slice none 0 0, .slice none 0 0, .slice none 0 0] 26) = wb := ⟨_, rfl⟩
  have hsa : wa.heap.size = g + 1 := by rw [← hwa, ← hg]; simp
  have hsb : wb.heap.size = g + 2 := by rw [← hwb]; simp [hsa]
  have hba : Below g w wa := by rw [← hwa, ← hg]; exact (Below.refl _ _).alloc (Nat.le_refl _) _
  have HBB : Hid (Below g w wb) := by rw [← hwb]; exact hba.alloc (by omega) _
  have hx0 : wa.heap[g]? = some (.cells (msgA id fl Aq nq cq Aa na ca An nn cn Ax nx cx) 26 (0, 0)) := by rw [← hwa, ← hg]; exact heap_alloc_new w _
  have hx : wb.heap[g]? = some (.cells (msgA id fl Aq nq cq Aa na ca An nn cn Ax nx cx) 26 (0, 0)) := by rw [← hwb]; exact old_at hx0
  have hy : wb.heap[g + 1]? = some (.cells #[.int .u16 0, .int .u16 0, .slice none 0 0, .slice none 0 0, .slice none 0 0, .slice none 0 0] 26 (0, 0)) := by rw [← hwb, ← hsa]; exact heap_alloc_new wa _
  have k1 := cell_of_row _ _ 1 _ _ _ hx
  have k2 := cell_of_row _ _ 2 _ _ _ hx
  obtain ⟨F, hF⟩ : ∃ F, failF fl = F := ⟨_, rfl⟩
  have ff := fail_flags hfb
  rw [hF] at ff
  have HFF := Lib.hid hF
  have h0 : Below g w wb.drew := HBB.out.drew
  have h1 : ResAt wb.drew (g + 1) 6 := ⟨_, _, hy, rfl⟩
  have n0 : g ≠ g + 1 := by omega
  have HCO := Lib.hid (fun W hs' h => copiedQ_held Aq cq nq M.qs B ⟨g, 1, none⟩ ⟨g, 2, none⟩ (.int .u16 fl) (.slice Aq nq cq) g (g + 1) w W hv.out.at_.q hB hv.out.eq (by have := hf.out.nq; have := hv.out.eq; omega) hs (g + 2) (by omega) hs' h)
  have HGR : Hid (∀ W : World, ResAt W (g + 1) 6 → g + 2 ≤ W.heap.size) := fun W h => by
    obtain ⟨_, _, hh, _⟩ := h
    have h2 : g + 1 < W.heap.size := (Array.getElem?_eq_some_iff.1 hh).1
    omega
  have HY := Lib.hid hy
  clear hba hx0 hx hy hF
  go_enter Try.func34, Try.ntmps34
  go_wp2_with fail
  go_region_held3 (fun w' => w'.cell? ⟨g, 1, none⟩ = some (.int .u16 fl) ∧ w'.cell? ⟨g, 2, none⟩ = some (.slice Aq nq cq) ∧ Below g w w' ∧ ResAt w' (g + 1) 6) (first | (go_keep; done) | exact fail_keep c0 c1 hG5 hR5 n0 n0 (Nat.le_succ g) _ _ _ _ _ _) (first | (go_at_call 77; (with_reducible refine (HCO.out _ (HGR.out _ ?_) ?_).mono ?_); (simp [*]); (simp [*]); rintro e w5 ⟨A', c', rfl, hO5, c0, c1, hG5, hR5⟩; obtain ⟨⟨y0, j0⟩, ⟨y1, j1⟩, ⟨y2, j2⟩, ⟨y3, j3⟩, ⟨y4, j4⟩, ⟨y5, j5⟩, jf⟩ := hR5.six))
  go_wp2_with fail
  refine bodyPost_ret (v := .agg (msgA no F A' nq c' none 0 0 none 0 0 none 0 0)) (by simp [results, Try.results34, go_sem, j0, j1, j2, j3, j4, j5]) rfl ⟨A', c', by rw [HFF.out], own_low' (own_six hO5 (by omega)) (by omega), below_set6 hG5 (Nat.le_succ _) _ _ _ _ _ _⟩
end Go.Proofs.Ytpmmjmnleoicjaa

/- The contract of query's Age. For messages that can be gone through, whose questions' names are no longer than a text may be that is copied. -/
namespace Go.Proofs.Ytpmmjmnleoicjaa
open Go.RowKit Bytes Strs Nums NameMath MsgMath RecMath WrMath QrMath

theorem RowRecs.far1 {w : World} {g b i : Nat} {v u : Value} {L : List Rec} (h : RowRecs w g v L) (hb : b < g) : RowRecs (w.setCell ⟨b, i, none⟩ u) g v L := by
  obtain ⟨Z, h1, h2, h3⟩ := h
  exact ⟨Z, h1, own_far1 h2 hb, fun z hz => (h3 z hz).far1 hb⟩
theorem RowRecs.far6 {w : World} {g b : Nat} {v v0 v1 v2 v3 v4 v5 : Value} {L : List Rec} (h : RowRecs w g v L) (hb : b < g) : RowRecs ((((((w.setCell ⟨b, 0, none⟩ v0).setCell ⟨b, 1, none⟩ v1).setCell ⟨b, 2, none⟩ v2).setCell ⟨b, 3, none⟩ v3).setCell ⟨b, 4, none⟩ v4).setCell ⟨b, 5, none⟩ v5) g v L :=
  (((((h.far1 hb).far1 hb).far1 hb).far1 hb).far1 hb).far1 hb
def AgeRet (s : Nat) (M : Msg) (w : World) (e : Ending) (w' : World) : Prop :=
  ∃ vq va vn vx, e = .returned (.agg #[.int .u16 M.id, .int .u16 M.flags, vq, va, vn, vx]) ∧ MsgRows w' w.heap.size (ageM s M) vq va vn vx ∧ Below w.heap.size w w'
set_option maxHeartbeats 8000000 in
set_option maxRecDepth 100000 in
theorem age_w (s : Nat) (M : Msg) (Aq Aa An Ax : Option Addr) (nq na nn nx cq ca cn cx B : Nat) (Za Zn Zx : List RecZ) (w : World) (hv : Hid (MsgV w B M Aq Aa An Ax nq na nn nx ca cn cx Za Zn Zx)) (hB : B ≤ w.heap.size) (hf : Hid (QM M)) (hs : s ≤ 18446744073709551615) (hm : Hid (∀ q ∈ M.qs, q.name.length ≤ cloneMost)) (hna : Hid (ZNil Za)) (hnn : Hid (ZNil Zn)) (hnx : Hid (ZNil Zx)) :
    Calls Try.prog 33 #[.agg (msgA M.id M.flags Aq nq cq Aa na ca An nn cn Ax nx cx), .int .u64 s] w (AgeRet s M w) := by
  obtain ⟨id, hid⟩ : ∃ n, M.id = n := ⟨_, rfl⟩
  obtain ⟨fl, hfl⟩ : ∃ n, M.flags = n := ⟨_, rfl⟩
  obtain ⟨g, hg⟩ : ∃ g, w.heap.size = g := ⟨_, rfl⟩
  have HG := Lib.hid hg
  unfold AgeRet
  rw [hid, hfl, hg]
  rw [hg] at hB
  obtain ⟨wa, hwa⟩ : ∃ wa, w.alloc (.cells (msgA id fl Aq nq cq Aa na ca An nn cn Ax nx cx) 26) = wa := ⟨_, rfl⟩
  obtain ⟨wb, hwb⟩ : ∃ wb, wa.alloc (.cells #[.int .u16 0, .int .u16 0, .slice none 0 0, .slice none 0 0, .slice none 0 0, .slice none 0 0] 26) = wb := ⟨_, rfl⟩
  have hsa : wa.heap.size = g + 1 := by rw [← hwa, ← hg]; simp
  have hsb : wb.heap.size = g + 2 := by rw [← hwb]; simp [hsa]
  have hba : Below g w wa := by rw [← hwa, ← hg]; exact (Below.refl _ _).alloc (Nat.le_refl _) _
  have HBB : Hid (Below g w wb) := by rw [← hwb]; exact hba.alloc (by omega) _
  have hx0 : wa.heap[g]? = some (.cells (msgA id fl Aq nq cq Aa na ca An nn cn Ax nx cx) 26 (0, 0)) := by rw [← hwa, ← hg]; exact heap_alloc_new w _
  have hx : wb.heap[g]? = some (.cells (msgA id fl Aq nq cq Aa na ca An nn cn Ax nx cx) 26 (0, 0)) := by rw [← hwb]; exact old_at hx0
  have hy : wb.heap[g + 1]? = some (.cells #[.int .u16 0, .int .u16 0, .slice none 0 0, .slice none 0 0, .slice none 0 0, .slice none 0 0] 26 (0, 0)) := by rw [← hwb, ← hsa]; exact heap_alloc_new wa _
  have HX := Lib.hid hx
  have HY := Lib.hid hy
  have k2 := cell_of_row _ _ 2 _ _ _ hx
  have HCO := Lib.hid (copiedQ_is Aq cq nq M.qs wb (hv.out.at_.q.on (HBB.out.mono hB) (by omega)) hv.out.eq (by have := hf.out.few.nq; have := hv.out.eq; omega) hm)
  have hrows := hv.out.rows
  have hfew := hf.out.few
  have hbd : na ≤ 1000 ∧ nn ≤ 1000 ∧ nx ≤ 1000 := ⟨by rw [← hv.out.ea]; exact hfew.na, by rw [← hv.out.en]; exact hfew.nn, by rw [← hv.out.ex]; exact hfew.nx⟩
  have HRS := Lib.hid hf.out.recs
  have HAGA := Lib.hid (fun W (h : Below g w W) (hW : g ≤ W.heap.size) => aged_is Aa ca na s B Za M.an W (hrows.1.1.on (h.mono hB) (Nat.le_refl _)) ((hv.out.at_.za).on (h.mono hB) (Nat.le_refl _)) hna hv.out.at_.ea hrows.1.2.1 (by omega) (by omega) hs (fun R hR => HRS.out R (by unfold recsM; exact List.mem_append_left _ (List.mem_append_left _ hR))))
  have HAGN := Lib.hid (fun W (h : Below g w W) (hW : g ≤ W.heap.size) => aged_is An cn nn s B Zn M.ns W (hrows.2.1.1.on (h.mono hB) (Nat.le_refl _)) ((hv.out.at_.zn).on (h.mono hB) (Nat.le_refl _)) hnn hv.out.at_.en hrows.2.1.2.1 (by omega) (by omega) hs (fun R hR => HRS.out R (by unfold recsM; exact List.mem_append_left _ (List.mem_append_right _ hR))))
  have HAGX := Lib.hid (fun W (h : Below g w W) (hW : g ≤ W.heap.size) => aged_is Ax cx nx s B Zx M.ad W (hrows.2.2.1.on (h.mono hB) (Nat.le_refl _)) ((hv.out.at_.zx).on (h.mono hB) (Nat.le_refl _)) hnx hv.out.at_.ex hrows.2.2.2.1 (by omega) (by omega) hs (fun R hR => HRS.out R (by unfold recsM; exact List.mem_append_right _ hR)))
  clear hba hx0 hx hy hrows hfew
  go_enter Try.func33, Try.ntmps33
  go_wp2_with fail
  refine HCO.out.mono ?_
  rintro e w1 ⟨vq, rfl, hO, n1⟩
  rw [hsb] at hO n1
  obtain ⟨qA, qc, rfl, _⟩ := cells_own hO
  have s1 : g + 2 ≤ w1.heap.size := by have h := n1.size; rw [hsb] at h; exact h
  have hx1 := (n1.block g (by omega)).trans HX.out
  have hy1 := (n1.block (g + 1) (by omega)).trans HY.out
  rw [hv.out.eq] at hO ⊢
  have HQE := Lib.hid hv.out.eq
  obtain ⟨w2, hw2⟩ : ∃ v, w1.setCell ⟨g, 2, none⟩ (.slice qA nq qc) = v := ⟨_, rfl⟩
  have hx2 : w2.heap[g]? = some (.cells #[.int .u16 id, .int .u16 fl, .slice qA nq qc, .slice Aa na ca, .slice An nn cn, .slice Ax nx cx] 26 (0, 0)) := by rw [← hw2]; exact set_at hx1 (by simp)
  have hy2 := by have h := set_far (i := 2) (v := .slice qA nq qc) hy1 (show g + 1 ≠ g by omega); rw [hw2] at h; exact h
  have s2 : w2.heap.size = w1.heap.size := by rw [← hw2, Go.Deep.nblk_setCell]
  have HO2 : Hid (w2.ownsRow (g + 2) 62 3 (.slice qA nq qc) nq (qnCs M.qs)) := by rw [← hw2]; exact own_far1 hO (by omega)
  have V2 : Hid (Below g w w2) := by rw [← hw2]; exact (HBB.out.trans (n1.mono (by omega))).setCell (p := ⟨g, 2, none⟩) (Nat.le_refl _) _
  obtain ⟨d, hd⟩ : ∃ d, w2.heap.size = d := ⟨_, rfl⟩
  obtain ⟨w3, hw3⟩ : ∃ v, w2.alloc (.cells #[.pointer (some ⟨g, 3, none⟩), .pointer (some ⟨g, 4, none⟩), .pointer (some ⟨g, 5, none⟩)] 107) = v := ⟨_, rfl⟩
  have n3 : Below d w2 w3 := by rw [← hw3, ← hd]; exact (Below.refl _ _).alloc (Nat.le_refl _) _
  have gd : g + 2 ≤ d := by omega
  have HD3 : Hid (w3.heap[d]? = some (.cells #[.pointer (some ⟨g, 3, none⟩), .pointer (some ⟨g, 4, none⟩), .pointer (some ⟨g, 5, none⟩)] 107 (0, 0))) := by rw [← hw3, ← hd]; exact heap_alloc_new w2 _
  have S3 : Hid (w3.heap.size = d + 1) := by show _ = _; rw [← hw3, ← hd]; simp
  have HX3 : Hid (w3.heap[g]? = some (.cells #[.int .u16 id, .int .u16 fl, .slice qA nq qc, .slice Aa na ca, .slice An nn cn, .slice Ax nx cx] 26 (0, 0))) := (n3.block g (by omega)).trans hx2
  have HY3 := Lib.hid ((n3.block (g + 1) (by omega)).trans hy2)
  have HO3 : Hid (w3.ownsRow (g + 2) 62 3 (.slice qA nq qc) nq (qnCs M.qs)) := row_below HO2.out (by rw [hd]; exact n3)
  have V3 : Hid (Below g w w3) := V2.out.trans (n3.mono (by omega))
  have HW2 := Lib.hid hw2
  have HW3 := Lib.hid hw3
  have k2 := cell_of_row _ _ 2 _ _ _ hx1
  have kf : ∀ i, w1.frozen? ⟨g, i, none⟩ = false := Lib.frozen_of_heap hx1
  clear hO n1 hx1 hy1 hx2 hy2 s2 n3 hw2 hw3 hwa hwb hsa hsb HO2 hv
  go_upto_region 2 with fail
  rw [HW2.out]
  clear k2 kf
  go_upto_region 3 with fail
  rw [HW3.out]
  clear hd
  go_wp2_with fail
  go_loopw [16] (fun v wr => ∃ (j : Nat) (va vn vx : Value), j ≤ 3 ∧ v = .int .i64 j ∧ Hid (wr.heap[g]? = some (.cells #[.int .u16 id, .int .u16 fl, .slice qA nq qc, va, vn, vx] 26 (0, 0))) ∧ Hid (if 0 < j then RowRecs wr (g + 2) va (M.an.map (ageR s)) else va = .slice Aa na ca) ∧ Hid (if 1 < j then RowRecs wr (g + 2) vn (M.ns.map (ageR s)) else vn = .slice An nn cn) ∧ Hid (if 2 < j then RowRecs wr (g + 2) vx (M.ad.map (ageR s)) else vx = .slice Ax nx cx) ∧ Hid (wr.heap[d]? = some (.cells #[.pointer (some ⟨g, 3, none⟩), .pointer (some ⟨g, 4, none⟩), .pointer (some ⟨g, 5, none⟩)] 107 (0, 0))) ∧ Hid (wr.heap[g + 1]? = some (.cells #[.int .u16 0, .int .u16 0, .slice none 0 0, .slice none 0 0, .slice none 0 0, .slice none 0 0] 26 (0, 0))) ∧ Hid (wr.ownsRow (g + 2) 62 3 (.slice qA nq qc) nq (qnCs M.qs)) ∧ Hid (Below g w wr) ∧ Hid (g + 2 ≤ wr.heap.size)) (fun v _ => 3 - (intOf v).toNat)
  case atStart => exact ⟨0, _, _, _, by decide, rfl, HX3, by (rw [if_neg (by decide)]; exact Lib.hid rfl), by (rw [if_neg (by decide)]; exact Lib.hid rfl), by (rw [if_neg (by decide)]; exact Lib.hid rfl), HD3, HY3, HO3, V3, by (show _ ≤ _; rw [S3.out]; omega)⟩
  case round =>
    obtain ⟨j, va, vn, vx, hj, rfl, hX, hA, hN, hW, hD, hY, hO, hV, hS⟩ := hrel
    have hj4 : j = 0 ∨ j = 1 ∨ j = 2 ∨ j = 3 := by omega
    rcases hj4 with rfl | rfl | rfl | rfl
    · have e_va : va = .slice Aa na ca := by have h := hA.out; rw [if_neg (by decide)] at h; exact h
      have e_vn := by have h := hN.out; rw [if_neg (by decide)] at h; exact h
      have e_vx := by have h := hW.out; rw [if_neg (by decide)] at h; exact h
      subst e_va
      have p0 := cell_of_row _ _ 0 _ _ _ hD.out
      have p1 := cell_of_row _ _ 1 _ _ _ hD.out
      have p2 := cell_of_row _ _ 2 _ _ _ hD.out
      have k3 := cell_of_row _ _ 3 _ _ _ hX.out
      clear hA hN hW
      go_wp2_with fail
      refine (HAGA.out wr hV.out (by have := hS.out; omega)).mono ?_
      rintro e w5 ⟨u5, rfl, hR5, n5⟩
      have n5' := n5
      obtain ⟨uA, um, uc, rfl⟩ := hR5.slice
      have hX5 := (n5.block g (by have := hS.out; omega)).trans hX.out
      have k3 := cell_of_row _ _ 3 _ _ _ hX5
      have kf : ∀ i, w5.frozen? ⟨g, i, none⟩ = false := Lib.frozen_of_heap hX5
      have HX6 := Lib.hid (set_at (i := 3) (v := .slice uA um uc) hX5 rfl)
      have hR6 := (hR5.low hS.out).far1 (b := g) (i := 3) (u := .slice uA um uc) (by omega)
      have HD6 := Lib.hid (set_far (i := 3) (v := .slice uA um uc) ((n5.block d (Array.getElem?_eq_some_iff.1 hD.out).1).trans hD.out) (show d ≠ g by omega))
      have HY6 := Lib.hid (set_far (i := 3) (v := .slice uA um uc) ((n5.block (g + 1) (Array.getElem?_eq_some_iff.1 hY.out).1).trans hY.out) (show g + 1 ≠ g by omega))
      have HO6 := Lib.hid (own_far1 (b := g) (i := 3) (u := .slice uA um uc) (row_below hO.out n5) (by omega))
      have HV6 : Hid (Below g w (w5.setCell ⟨g, 3, none⟩ (.slice uA um uc))) := (hV.out.trans (n5.mono (by have := hS.out; omega))).setCell (p := ⟨g, 3, none⟩) (Nat.le_refl _) _
      have HS6 : Hid (g + 2 ≤ (w5.setCell ⟨g, 3, none⟩ (.slice uA um uc)).heap.size) := by show _ ≤ _; rw [Go.Deep.nblk_setCell]; exact Nat.le_trans hS.out n5.size
      clear n5 hX5 p0 p1 p2
      go_wp2_with fail
      go_roundw
      case rel => exact ⟨1, _, _, _, by decide, by go_num, HX6, by (show _; rw [if_pos (by decide)]; exact hR6), by (show _; rw [if_neg (by decide)]; exact e_vn), by (show _; rw [if_neg (by decide)]; exact e_vx), HD6, HY6, HO6, HV6, HS6⟩
      case measure => simp [intOf]
    · have e_vn : vn = .slice An nn cn := by have h := hN.out; rw [if_neg (by decide)] at h; exact h
      have hB_va := by have h := hA.out; rw [if_pos (by decide)] at h; exact h
      have e_vx := by have h := hW.out; rw [if_neg (by decide)] at h; exact h
      subst e_vn
      have p0 := cell_of_row _ _ 0 _ _ _ hD.out
      have p1 := cell_of_row _ _ 1 _ _ _ hD.out
      have p2 := cell_of_row _ _ 2 _ _ _ hD.out
      have k4 := cell_of_row _ _ 4 _ _ _ hX.out
      clear hA hN hW
      go_wp2_with fail
      refine (HAGN.out wr hV.out (by have := hS.out; omega)).mono ?_
      rintro e w5 ⟨u5, rfl, hR5, n5⟩
      have n5' := n5
      obtain ⟨uA, um, uc, rfl⟩ := hR5.slice
      have hX5 := (n5.block g (by have := hS.out; omega)).trans hX.out
      have k4 := cell_of_row _ _ 4 _ _ _ hX5
      have kf : ∀ i, w5.frozen? ⟨g, i, none⟩ = false := Lib.frozen_of_heap hX5
      have HX6 := Lib.hid (set_at (i := 4) (v := .slice uA um uc) hX5 rfl)
      have hR6 := (hR5.low hS.out).far1 (b := g) (i := 4) (u := .slice uA um uc) (by omega)
      have HD6 := Lib.hid (set_far (i := 4) (v := .slice uA um uc) ((n5.block d (Array.getElem?_eq_some_iff.1 hD.out).1).trans hD.out) (show d ≠ g by omega))
      have HY6 := Lib.hid (set_far (i := 4) (v := .slice uA um uc) ((n5.block (g + 1) (Array.getElem?_eq_some_iff.1 hY.out).1).trans hY.out) (show g + 1 ≠ g by omega))
      have HO6 := Lib.hid (own_far1 (b := g) (i := 4) (u := .slice uA um uc) (row_below hO.out n5) (by omega))
      have HV6 : Hid (Below g w (w5.setCell ⟨g, 4, none⟩ (.slice uA um uc))) := (hV.out.trans (n5.mono (by have := hS.out; omega))).setCell (p := ⟨g, 4, none⟩) (Nat.le_refl _) _
      have HS6 : Hid (g + 2 ≤ (w5.setCell ⟨g, 4, none⟩ (.slice uA um uc)).heap.size) := by show _ ≤ _; rw [Go.Deep.nblk_setCell]; exact Nat.le_trans hS.out n5.size
      clear n5 hX5 p0 p1 p2
      go_wp2_with fail
      go_roundw
      case rel => exact ⟨2, _, _, _, by decide, by go_num, HX6, by (show _; rw [if_pos (by decide)]; exact (hB_va.below n5').far1 (by omega)), by (show _; rw [if_pos (by decide)]; exact hR6), by (show _; rw [if_neg (by decide)]; exact e_vx), HD6, HY6, HO6, HV6, HS6⟩
      case measure => simp [intOf]
    · have e_vx : vx = .slice Ax nx cx := by have h := hW.out; rw [if_neg (by decide)] at h; exact h
      have hB_va := by have h := hA.out; rw [if_pos (by decide)] at h; exact h
      have hB_vn := by have h := hN.out; rw [if_pos (by decide)] at h; exact h
      subst e_vx
      have p0 := cell_of_row _ _ 0 _ _ _ hD.out
      have p1 := cell_of_row _ _ 1 _ _ _ hD.out
      have p2 := cell_of_row _ _ 2 _ _ _ hD.out
      have k5 := cell_of_row _ _ 5 _ _ _ hX.out
      clear hA hN hW
      go_wp2_with fail
      refine (HAGX.out wr hV.out (by have := hS.out; omega)).mono ?_
      rintro e w5 ⟨u5, rfl, hR5, n5⟩
      have n5' := n5
      obtain ⟨uA, um, uc, rfl⟩ := hR5.slice
      have hX5 := (n5.block g (by have := hS.out; omega)).trans hX.out
      have k5 := cell_of_row _ _ 5 _ _ _ hX5
      have kf : ∀ i, w5.frozen? ⟨g, i, none⟩ = false := Lib.frozen_of_heap hX5
      have HX6 := Lib.hid (set_at (i := 5) (v := .slice uA um uc) hX5 rfl)
      have hR6 := (hR5.low hS.out).far1 (b := g) (i := 5) (u := .slice uA um uc) (by omega)
      have HD6 := Lib.hid (set_far (i := 5) (v := .slice uA um uc) ((n5.block d (Array.getElem?_eq_some_iff.1 hD.out).1).trans hD.out) (show d ≠ g by omega))
      have HY6 := Lib.hid (set_far (i := 5) (v := .slice uA um uc) ((n5.block (g + 1) (Array.getElem?_eq_some_iff.1 hY.out).1).trans hY.out) (show g + 1 ≠ g by omega))
      have HO6 := Lib.hid (own_far1 (b := g) (i := 5) (u := .slice uA um uc) (row_below hO.out n5) (by omega))
      have HV6 : Hid (Below g w (w5.setCell ⟨g, 5, none⟩ (.slice uA um uc))) := (hV.out.trans (n5.mono (by have := hS.out; omega))).setCell (p := ⟨g, 5, none⟩) (Nat.le_refl _) _
      have HS6 : Hid (g + 2 ≤ (w5.setCell ⟨g, 5, none⟩ (.slice uA um uc)).heap.size) := by show _ ≤ _; rw [Go.Deep.nblk_setCell]; exact Nat.le_trans hS.out n5.size
      clear n5 hX5 p0 p1 p2
      go_wp2_with fail
      go_roundw
      case rel => exact ⟨3, _, _, _, by decide, by go_num, HX6, by (show _; rw [if_pos (by decide)]; exact (hB_va.below n5').far1 (by omega)), by (show _; rw [if_pos (by decide)]; exact (hB_vn.below n5').far1 (by omega)), by (show _; rw [if_pos (by decide)]; exact hR6), HD6, HY6, HO6, HV6, HS6⟩
      case measure => simp [intOf]
    · have r1 := by have h := hA.out; rw [if_pos (by decide)] at h; exact h
      have r2 := by have h := hN.out; rw [if_pos (by decide)] at h; exact h
      have r3 := by have h := hW.out; rw [if_pos (by decide)] at h; exact h
      obtain ⟨A1, m1, c1, rfl⟩ := r1.slice
      obtain ⟨A2, m2, c2, rfl⟩ := r2.slice
      obtain ⟨A3, m3, c3, rfl⟩ := r3.slice
      have k0 := cell_of_row _ _ 0 _ _ _ hX.out
      have k1 := cell_of_row _ _ 1 _ _ _ hX.out
      have k2 := cell_of_row _ _ 2 _ _ _ hX.out
      have k3 := cell_of_row _ _ 3 _ _ _ hX.out
      have k4 := cell_of_row _ _ 4 _ _ _ hX.out
      have k5 := cell_of_row _ _ 5 _ _ _ hX.out
      have j0 := cell_of_row _ _ 0 _ _ _ hY.out
      have j1 := cell_of_row _ _ 1 _ _ _ hY.out
      have j2 := cell_of_row _ _ 2 _ _ _ hY.out
      have j3 := cell_of_row _ _ 3 _ _ _ hY.out
      have j4 := cell_of_row _ _ 4 _ _ _ hY.out
      have j5 := cell_of_row _ _ 5 _ _ _ hY.out
      have jf : ∀ i, wr.frozen? ⟨g + 1, i, none⟩ = false := Lib.frozen_of_heap hY.out
      have HR1 := Lib.hid r1
      have HR2 := Lib.hid r2
      have HR3 := Lib.hid r3
      clear hA hN hW r1 r2 r3
      go_wp2_with fail
      refine bodyPost_ret (v := .agg #[.int .u16 id, .int .u16 fl, .slice qA nq qc, .slice A1 m1 c1, .slice A2 m2 c2, .slice A3 m3 c3]) (by simp [results, Try.results33, go_sem, j0, j1, j2, j3, j4, j5]) rfl ⟨_, _, _, _, rfl, MsgRows.low ⟨by show World.ownsRow _ _ _ _ _ _ _; rw [show (ageM s M).qs = M.qs from rfl, HQE.out]; exact own_six hO.out (by omega), HR1.out.far6 (by omega), HR2.out.far6 (by omega), HR3.out.far6 (by omega)⟩ (show g ≤ g + 2 by omega), below_set6 hV.out (Nat.le_succ _) _ _ _ _ _ _⟩
end Go.Proofs.Ytpmmjmnleoicjaa

/- The contract of the laws' Copied: a message in memory of the call's own. For messages that can be gone through. -/
namespace Go.Proofs.Ytpmmjmnleoicjaa
open Go.RowKit Bytes Strs Nums NameMath MsgMath RecMath WrMath QrMath
set_option linter.unusedVariables false
set_option linter.unusedSimpArgs false

theorem run_append_nil {P : Program} {w : World} (base : Nat) (t ty e : TypeId) (i : TypeInfo) (size : Nat) (ht : P.underlying t = some (.slice e)) (hi : P.info? e = some i) (v : Value) (n c : Nat) (xs : List Value) (hown : w.ownsRow base e size v n xs) :
    (Builtin.append_ #[t, t] ty #[v, .slice none 0 c]).run P w = .ok v w := by
  rcases hown.2 with ⟨rfl, rfl⟩ | ⟨g, cap, cur, rfl, _, _, hnc, _⟩
  · simp [Builtin.append_, run_underlying ht, sizeOf, typeInfo, hi, Builtin.lenOf, Builtin.firstCells]
  · simp [Builtin.append_, run_underlying ht, sizeOf, typeInfo, hi, Builtin.lenOf, Builtin.firstCells, hnc, storeCells]
set_option maxRecDepth 100000 in
theorem run_append_qnsC (w : World) (ty : TypeId) (g : Nat) (v : Value) (m : Nat) (xs : List Value) (hown : w.ownsRow g 62 3 v m xs) (B : Nat) (A : Option Addr) (n c : Nat) (L : List Qn) (hn : L.length = n) (hsrc : CellsAt w B A (qnCs L)) (hmn : m + n ≤ 1000000) (hg : g ≤ w.heap.size) :
    ∃ v' w', (Builtin.append_ #[23, 23] ty #[v, .slice A n c]).run Try.prog w = .ok v' w' ∧ w'.ownsRow g 62 3 v' (m + n) (xs ++ qnCs L) ∧ w.grownBy w' v.ownBlock := by
  cases A with
  | none =>
    obtain ⟨i0, hi, hz0, hz1, hz2⟩ := info_parts info_qn
    have hL : L = [] := by
      rcases hsrc with h | ⟨b, off, e, _⟩
      · have := congrArg List.length h
        rw [qnCs_len, List.length_nil] at this
        exact List.length_eq_zero_iff.1 (by omega)
      · cases e
    subst hL
    subst hn
    exact ⟨v, w, run_append_nil g 23 ty 62 i0 3 Try.underlying23 hi v m c xs hown, by simpa [qnCs] using hown, World.grownBy.refl w _⟩
  | some ad => exact run_append_qns w ty g v m xs hown B ad n c L hn hsrc hmn hg
/-- A message in memory of the call's own. -/
def CopRet (M : Msg) (w : World) (e : Ending) (w' : World) : Prop :=
  ∃ vq va vn vx, e = .returned (.agg #[.int .u16 M.id, .int .u16 M.flags, vq, va, vn, vx]) ∧ MsgRows w' w.heap.size M vq va vn vx ∧ Below w.heap.size w w'
theorem take_snocR {L : List Rec} {j : Nat} (hj : j < L.length) : L.take (j + 1) = L.take j ++ [L[j]] := List.take_succ_eq_append_getElem hj
theorem own_other' {w : World} {base b i n k : Nat} {e : TypeId} {v u : Value} {xs : List Value} (h : w.ownsRow base e k v n xs) (hb : ∀ j, v.ownBlock = some j → j ≠ b) : (w.setCell ⟨b, i, none⟩ u).ownsRow base e k v n xs := by
  obtain ⟨hl, h | ⟨bb, cap, cur, e1, hbb, hh, h2⟩⟩ := h
  · exact ⟨hl, .inl h⟩
  · exact ⟨hl, .inr ⟨bb, cap, cur, e1, hbb, set_far hh (hb bb (by rw [e1]; rfl)), h2⟩⟩
/-- A row never lies in a block of another element type. -/
theorem row_ne' {w : World} {base n k d j : Nat} {e t : TypeId} {v : Value} {xs : List Value} {cs : Array Value} {fz : Nat × Nat} (h : w.ownsRow base e k v n xs) (hj : v.ownBlock = some j) (hd : w.heap[d]? = some (.cells cs t fz)) (hne : t ≠ e) : j ≠ d := fun e1 => by
  subst e1
  obtain ⟨hl, ⟨h0, _⟩ | ⟨bb, cap, cur, e2, hbb, hh, h2⟩⟩ := h
  · rw [h0] at hj; cases hj
  · rw [e2] at hj
    injection hj with hj
    subst hj
    rw [hh] at hd
    injection hd with hd
    injection hd with _ hd _
    exact hne hd.symm
theorem recIn_other {w : World} {g d i : Nat} {R : Rec} {v1 v2 v3 u : Value} {cs : Array Value} {fz : Nat × Nat} (h : RecIn w g R v1 v2 v3) (hd : w.heap[d]? = some (.cells cs 70 fz)) : RecIn (w.setCell ⟨d, i, none⟩ u) g R v1 v2 v3 :=
  ⟨own_other' h.o1 fun _ hj => row_ne' h.o1 hj hd (by decide), own_other' h.o2 fun _ hj => row_ne' h.o2 hj hd (by decide), own_other' h.o3 fun _ hj => row_ne' h.o3 hj hd (by decide)⟩
theorem recs_other {w : World} {g d i : Nat} {L : List Rec} {v u : Value} {cs : Array Value} {fz : Nat × Nat} (h : RowRecs w g v L) (hd : w.heap[d]? = some (.cells cs 70 fz)) : RowRecs (w.setCell ⟨d, i, none⟩ u) g v L := by
  obtain ⟨Z, h1, h2, h3⟩ := h
  exact ⟨Z, h1, own_other' h2 fun _ hj => row_ne' h2 hj hd (by decide), fun z hz => recIn_other (h3 z hz) hd⟩
theorem recs_drew {w : World} {g : Nat} {v : Value} {L : List Rec} (h : RowRecs w g v L) : RowRecs w.drew g v L := by
  obtain ⟨Z, h1, h2, h3⟩ := h
  exact ⟨Z, h1, h2, fun z hz => ⟨(h3 z hz).o1, (h3 z hz).o2, (h3 z hz).o3⟩⟩
set_option maxHeartbeats 16000000 in
set_option maxRecDepth 100000 in
theorem copiedM_w (M : Msg) (Aq Aa An Ax : Option Addr) (nq na nn nx cq ca cn cx B : Nat) (Za Zn Zx : List RecZ) (w : World) (hv : Hid (MsgV w B M Aq Aa An Ax nq na nn nx ca cn cx Za Zn Zx)) (hB : B ≤ w.heap.size) (hf : Hid (QM M)) (hzn : Hid (ZNil Za ∧ ZNil Zn ∧ ZNil Zx)) :
    Calls Try.prog 14 #[.agg (msgA M.id M.flags Aq nq cq Aa na ca An nn cn Ax nx cx)] w (CopRet M w) := by
  obtain ⟨i0, hi, hz0, hz1, hz2⟩ := info_parts info_rec
  have HI := Lib.hid hi
  have HZ0 := Lib.hid hz0
  have HZ1 := Lib.hid hz1
  have HZ2 := Lib.hid hz2
  clear hi hz0 hz1 hz2
  obtain ⟨id, hid⟩ : ∃ n, M.id = n := ⟨_, rfl⟩
  obtain ⟨fl, hfl⟩ : ∃ n, M.flags = n := ⟨_, rfl⟩
  obtain ⟨g, hg⟩ : ∃ g, w.heap.size = g := ⟨_, rfl⟩
  unfold CopRet
  rw [hid, hfl, hg]
  rw [hg] at hB
  obtain ⟨wa, hwa⟩ : ∃ wa, w.alloc (.cells (msgA id fl Aq nq cq Aa na ca An nn cn Ax nx cx) 26) = wa := ⟨_, rfl⟩
  obtain ⟨wb, hwb⟩ : ∃ wb, wa.alloc (.cells #[.int .u16 0, .int .u16 0, .slice none 0 0, .slice none 0 0, .slice none 0 0, .slice none 0 0] 26) = wb := ⟨_, rfl⟩
  obtain ⟨wc, hwc⟩ : ∃ wc, wb.alloc (.cells #[] 62) = wc := ⟨_, rfl⟩
  have hsa : wa.heap.size = g + 1 := by rw [← hwa, ← hg]; simp
  have hsb : wb.heap.size = g + 2 := by rw [← hwb]; simp [hsa]
  have hba : Below g w wa := by rw [← hwa, ← hg]; exact (Below.refl _ _).alloc (Nat.le_refl _) _
  have hbb : Below g w wb := by rw [← hwb]; exact hba.alloc (by omega) _
  have HBC : Hid (Below g w wc) := by rw [← hwc]; exact hbb.alloc (by omega) _
  have hx0 : wa.heap[g]? = some (.cells (msgA id fl Aq nq cq Aa na ca An nn cn Ax nx cx) 26 (0, 0)) := by rw [← hwa, ← hg]; exact heap_alloc_new w _
  have hx1 : wb.heap[g]? = some (.cells (msgA id fl Aq nq cq Aa na ca An nn cn Ax nx cx) 26 (0, 0)) := by rw [← hwb]; exact old_at hx0
  have hx : wc.heap[g]? = some (.cells (msgA id fl Aq nq cq Aa na ca An nn cn Ax nx cx) 26 (0, 0)) := by rw [← hwc]; exact old_at hx1
  have hy1 : wb.heap[g + 1]? = some (.cells #[.int .u16 0, .int .u16 0, .slice none 0 0, .slice none 0 0, .slice none 0 0, .slice none 0 0] 26 (0, 0)) := by rw [← hwb, ← hsa]; exact heap_alloc_new wa _
  have hy : wc.heap[g + 1]? = some (.cells #[.int .u16 0, .int .u16 0, .slice none 0 0, .slice none 0 0, .slice none 0 0, .slice none 0 0] 26 (0, 0)) := by rw [← hwc]; exact old_at hy1
  have hown : wc.ownsRow (g + 2) 62 3 (.slice (some ⟨g + 2, 0, none⟩) 0 0) 0 [] := by rw [← hwc, ← hsb]; exact World.ownsRow_made wb #[] 0 (Nat.le_refl _) (by decide) rfl
  have hsc : wc.heap.size = g + 3 := by rw [← hwc]; simp [hsb]
  have hnq : nq ≤ 1000 := by rw [← hv.out.eq]; exact hf.out.few.nq
  obtain ⟨v0, w1, hrun, hown1, hgrow⟩ := run_append_qnsC wc 23 (g + 2) _ 0 [] hown B Aq nq cq M.qs hv.out.eq (hv.out.at_.q.on (HBC.out.mono hB) (Nat.le_refl _)) (by omega) (by omega)
  rw [Nat.zero_add, List.nil_append] at hown1
  obtain ⟨qA, qc, e0, _⟩ := cells_own hown1
  subst e0
  have kk : ∀ k, (Value.slice (some (⟨g + 2, 0, none⟩ : Addr)) 0 0).ownBlock = some k → g + 2 ≤ k := fun k hk => by have h : g + 2 = k := Option.some.inj hk; omega
  have n1 : Below (g + 2) wc w1 := (Below.refl _ _).grown hgrow (by omega) kk
  have hx2 := (n1.block g (by omega)).trans hx
  have hy2 := (n1.block (g + 1) (by omega)).trans hy
  have s1 : g + 3 ≤ w1.heap.size := by have h := n1.size; rw [hsc] at h; exact h
  obtain ⟨w2, hw2⟩ : ∃ v, w1.setCell ⟨g, 2, none⟩ (.slice qA nq qc) = v := ⟨_, rfl⟩
  have hx3 : w2.heap[g]? = some (.cells #[.int .u16 id, .int .u16 fl, .slice qA nq qc, .slice Aa na ca, .slice An nn cn, .slice Ax nx cx] 26 (0, 0)) := by rw [← hw2]; exact set_at hx2 rfl
  have hy3 : w2.heap[g + 1]? = some (.cells #[.int .u16 0, .int .u16 0, .slice none 0 0, .slice none 0 0, .slice none 0 0, .slice none 0 0] 26 (0, 0)) := by rw [← hw2]; exact set_far hy2 (by omega)
  have hq3 : w2.ownsRow (g + 2) 62 3 (.slice qA nq qc) nq (qnCs M.qs) := by rw [← hw2]; exact own_far1 hown1 (by omega)
  have s2 : g + 3 ≤ w2.heap.size := by rw [← hw2, Go.Deep.nblk_setCell]; exact s1
  have v2 : Below g w w2 := by rw [← hw2]; exact (HBC.out.trans (n1.mono (by omega))).setCell (p := ⟨g, 2, none⟩) (Nat.le_refl _) _
  obtain ⟨d, hd⟩ : ∃ d, w2.heap.size = d := ⟨_, rfl⟩
  obtain ⟨w3, hw3⟩ : ∃ v, w2.alloc (.cells #[.slice Aa na ca, .slice An nn cn, .slice Ax nx cx] 70) = v := ⟨_, rfl⟩
  have n3 : Below d w2 w3 := by rw [← hw3, ← hd]; exact (Below.refl _ _).alloc (Nat.le_refl _) _
  have gd : g + 3 ≤ d := by omega
  have HGD := Lib.hid gd
  have HD3 : Hid (w3.heap[d]? = some (.cells #[.slice Aa na ca, .slice An nn cn, .slice Ax nx cx] 70 (0, 0))) := by rw [← hw3, ← hd]; exact heap_alloc_new w2 _
  have S3 : Hid (w3.heap.size = d + 1) := by show _ = _; rw [← hw3, ← hd]; simp
  have HX2 := Lib.hid hx3
  have HX3 : Hid (w3.heap[g]? = some (.cells #[.int .u16 id, .int .u16 fl, .slice qA nq qc, .slice Aa na ca, .slice An nn cn, .slice Ax nx cx] 26 (0, 0))) := (n3.block g (by omega)).trans hx3
  have HY3 : Hid (w3.heap[g + 1]? = some (.cells #[.int .u16 0, .int .u16 0, .slice none 0 0, .slice none 0 0, .slice none 0 0, .slice none 0 0] 26 (0, 0))) := (n3.block (g + 1) (by omega)).trans hy3
  have HO3 : Hid (w3.ownsRow (g + 2) 62 3 (.slice qA nq qc) nq (qnCs M.qs)) := row_below hq3 (by rw [hd]; exact n3)
  have V3 : Hid (Below g w w3) := v2.trans (n3.mono (by omega))
  have HX1 := Lib.hid hx2
  have k2 := cell_of_row _ _ 2 _ _ _ hx
  have j2 := cell_of_row _ _ 2 _ _ _ hx2
  have jf : ∀ i, w1.frozen? ⟨g, i, none⟩ = false := Lib.frozen_of_heap hx2
  have HW2 := Lib.hid hw2
  have HW3 := Lib.hid hw3
  have HRUN := Lib.hid hrun
  have HROWS := Lib.hid hv.out.rows
  have hna : na ≤ 1000 := by rw [← hv.out.ea]; exact hf.out.few.na
  have hnn : nn ≤ 1000 := by rw [← hv.out.en]; exact hf.out.few.nn
  have hnx : nx ≤ 1000 := by rw [← hv.out.ex]; exact hf.out.few.nx
  have HZA := Lib.hid hv.out.at_.za
  have HZN := Lib.hid hv.out.at_.zn
  have HZX := Lib.hid hv.out.at_.zx
  have HEA := Lib.hid hv.out.at_.ea
  have HEN := Lib.hid hv.out.at_.en
  have HEX := Lib.hid hv.out.at_.ex
  have HLA := Lib.hid hv.out.ea
  have HLN := Lib.hid hv.out.en
  have HLX := Lib.hid hv.out.ex
  have HLQ := Lib.hid hv.out.eq
  have HID := Lib.hid hid
  have HFL := Lib.hid hfl
  have HG := Lib.hid hg
  clear hba hbb hx0 hx1 hx hy1 hy hown hown1 hgrow kk n1 hx2 hy2 s1 hx3 hy3 hq3 s2 v2 n3 hw2 hw3 hv hid hfl
  go_enter Try.func14, Try.ntmps14
  go_upto_region 2 with (at_builtin; refine wpList_append_run rfl _ _ 23 23 rfl _ _ rfl rfl _ _ hrun ?_)
  rw [HW2.out]
  clear hrun k2 j2 jf hwa hwb hwc hsa hsb hsc hg HX1 HRUN
  have k3 := cell_of_row _ _ 3 _ _ _ HX2.out
  have k4 := cell_of_row _ _ 4 _ _ _ HX2.out
  have k5 := cell_of_row _ _ 5 _ _ _ HX2.out
  go_upto_region 3 with fail
  rw [HW3.out]
  clear hd k3 k4 k5 HX2
  go_wp2_with fail
  go_loopw [4] (fun v wr => ∃ (j : Nat) (va vn vx : Value), j ≤ 3 ∧ v = .int .i64 j ∧ Hid (wr.heap[g]? = some (.cells #[.int .u16 id, .int .u16 fl, .slice qA nq qc, .slice Aa na ca, .slice An nn cn, .slice Ax nx cx] 26 (0, 0))) ∧ Hid (if 0 < j then RowRecs wr (g + 2) va M.an else va = .slice Aa na ca) ∧ Hid (if 1 < j then RowRecs wr (g + 2) vn M.ns else vn = .slice An nn cn) ∧ Hid (if 2 < j then RowRecs wr (g + 2) vx M.ad else vx = .slice Ax nx cx) ∧ Hid (wr.heap[d]? = some (.cells #[va, vn, vx] 70 (0, 0))) ∧ Hid (wr.heap[g + 1]? = some (.cells #[.int .u16 0, .int .u16 0, .slice none 0 0, .slice none 0 0, .slice none 0 0, .slice none 0 0] 26 (0, 0))) ∧ Hid (wr.ownsRow (g + 2) 62 3 (.slice qA nq qc) nq (qnCs M.qs)) ∧ Hid (Below g w wr) ∧ Hid (d + 1 ≤ wr.heap.size)) (fun v _ => 3 - (intOf v).toNat)
  case atStart => exact ⟨0, _, _, _, by decide, rfl, HX3, by (rw [if_neg (by decide)]; exact Lib.hid rfl), by (rw [if_neg (by decide)]; exact Lib.hid rfl), by (rw [if_neg (by decide)]; exact Lib.hid rfl), HD3, HY3, HO3, V3, by (show _ ≤ _; rw [S3.out]; omega)⟩
  case round =>
    obtain ⟨j, va, vn, vx, hj, rfl, hX, hA, hN, hW, hD, hY, hO, hV, hS⟩ := hrel
    obtain ⟨wo, rfl⟩ : ∃ wo : World, wo = wr := ⟨_, rfl⟩
    have hj4 : j = 0 ∨ j = 1 ∨ j = 2 ∨ j = 3 := by omega
    rcases hj4 with rfl | rfl | rfl | rfl
    · have e_va := by have h := hA.out; rw [if_neg (by decide)] at h; exact h
      subst e_va
      have e_vn := by have h := hN.out; rw [if_neg (by decide)] at h; exact h
      subst e_vn
      have e_vx := by have h := hW.out; rw [if_neg (by decide)] at h; exact h
      subst e_vx
      clear hA hN hW
      have HRN : Hid (RowRecs wo wo.heap.size (.slice none 0 0) (M.an.take 0)) := RowRecs.nil _ _
      have HBO : Hid (Below wo.heap.size wo wo) := Below.refl _ _
      obtain ⟨G, hG⟩ : ∃ G, wo.heap.size = G := ⟨_, rfl⟩
      rw [hG] at HRN HBO
      have HGG := Lib.hid hG
      have HGS : Hid (d + 1 ≤ G) := by show _ ≤ _; rw [← hG]; exact hS.out
      clear hG
      go_wp2_with fail
      go_loopw [5, 6] (fun u v wr => ∃ (k : Nat) (o : Value), k ≤ na ∧ u = o ∧ v = .int .i64 k ∧ Hid (RowRecs wr G o (M.an.take k)) ∧ Hid (Below G wo wr)) (fun _ v _ => na - (intOf v).toNat)
      case atStart => exact ⟨0, _, Nat.zero_le _, rfl, rfl, HRN, HBO⟩
      case round =>
        obtain ⟨k, o, hk, rfl, rfl, hO1, hB1⟩ := hrel
        have HSZ : Hid (G ≤ wr.heap.size) := by have h := hB1.out.size; rw [HGG.out] at h; exact h
        have HVR : Hid (Below g w wr) := hV.out.trans (hB1.out.mono (by have := HGS.out; have := HGD.out; omega))
        have hd1 := (hB1.out.block d (by have := HGS.out; omega)).trans hD.out
        have x0 := cell_of_row _ _ 0 _ _ _ hd1
        obtain ⟨oA, om, oc, rfl⟩ := hO1.out.slice
        by_cases hlt : k < na
        · have hkz : k < Za.length := by rw [HROWS.out.1.2.1]; exact hlt
          obtain ⟨b, off, A1, c1, A2, c2, A3, c3, rfl, hbr, f1, f2, f3, hat, p0, p1, p2, p3, p4, p5, p6⟩ := recs_getZ (HROWS.out.1.1.on (HVR.out.mono hB) (Nat.le_refl _)) (HZA.out.on (HVR.out.mono hB) (Nat.le_refl _)) hzn.out.1 hkz
          obtain ⟨hkL, hkR⟩ := zmap HEA.out hkz
          have hsr := (hf.out.recs _ (show (M.an[k]'hkL) ∈ recsM M by unfold recsM; exact List.mem_append_left _ (List.mem_append_left _ (List.getElem_mem hkL)))).1
          have htk := take_snocR hkL
          rw [hkR] at hsr htk
          obtain ⟨R, hR⟩ : ∃ R, (Za[k]'hkz).1 = R := ⟨_, rfl⟩
          rw [hR] at p0 p1 p2 p3 p4 p5 p6 hat hsr htk
          have HTK := Lib.hid htk
          obtain ⟨x, hx⟩ : ∃ k, mk R.name = k := ⟨_, rfl⟩
          obtain ⟨rk, hrk⟩ : ∃ k, R.kind = k := ⟨_, rfl⟩
          obtain ⟨rc, hrc⟩ : ∃ k, R.cls = k := ⟨_, rfl⟩
          obtain ⟨rt, hrt⟩ : ∃ k, R.ttl = k := ⟨_, rfl⟩
          obtain ⟨l1, hl1⟩ : ∃ k, R.names.length = k := ⟨_, rfl⟩
          obtain ⟨l2, hl2⟩ : ∃ k, R.nums.length = k := ⟨_, rfl⟩
          obtain ⟨l3, hl3⟩ : ∃ k, R.texts.length = k := ⟨_, rfl⟩
          rw [hx] at p0
          rw [hrk] at p1
          rw [hrc] at p2
          rw [hrt] at p3
          rw [hl1] at p4
          rw [hl2] at p5
          rw [hl3] at p6
          rw [hx, hrk, hrc, hrt, hl1, hl2, hl3] at hat
          have HSR := Lib.hid hsr
          have HCP := Lib.hid (lawCopied_is R x rk rc rt A1 l1 c1 A2 l2 c2 A3 l3 c3 wr (hat.on (Below.refl _ _) (by have := HVR.out.size; rw [HG.out] at this; omega)) HSR f1 f2 f3)
          have HAG : Hid (∀ v1 v2 v3, recV R v1 v2 v3 = [.string x, .int .u16 rk, .int .u16 rc, .int .u32 rt, v1, v2, v3]) := fun v1 v2 v3 => by unfold recV; rw [hx, hrk, hrc, hrt]
          have HL1 := Lib.hid hl1
          have HL2 := Lib.hid hl2
          have HL3 := Lib.hid hl3
          have HIC := hd1
          have hki : (k : Int) < (na : Int) := by omega
          clear hx hrk hrc hrt hl1 hl2 hl3 hat hsr htk hR hkR hkL hkz f1 f2 f3 hd1 HIC
          go_wp2_with fail
          refine HCP.out.mono ?_
          rintro e w5 ⟨B1, d1, B2, d2, B3, d3, rfl, o1, o2, o3, n5, _⟩
          have S5 : Hid (G ≤ w5.heap.size) := Nat.le_trans HSZ.out n5.size
          have HIN : Hid (RecIn w5 G R (.slice B1 l1 d1) (.slice B2 l2 d2) (.slice B3 l3 d3)) := RecIn.low ⟨by rw [HL1.out]; exact o1, by rw [HL2.out]; exact o2, by rw [HL3.out]; exact o3⟩ HSZ.out
          have V5 : Hid (Below G wo w5) := hB1.out.trans (n5.mono HSZ.out)
          have hOW := Lib.hid (hO1.out.below n5)
          obtain ⟨Z1, hZ1, hZ2, hZ3⟩ := hOW.out
          have hlen1 : (M.an.take k).length = k := by rw [List.length_take, HLA.out]; omega
          rw [hlen1] at hZ2
          have hO5 := Lib.hid hZ2
          have HZA1 := Lib.hid hZ1
          have HZB1 := Lib.hid hZ3
          have HLN1 := Lib.hid hlen1
          have HAGE := Lib.hid (HAG.out (.slice B1 l1 d1) (.slice B2 l2 d2) (.slice B3 l3 d3))
          clear hZ1 hZ2 hZ3 hlen1 o1 o2 o3 n5 HCP p0 p1 p2 p3 p4 p5 p6 x0
          go_wp2_with (at_builtin; refine wpList_append_own _ rfl _ _ 24 rfl G 60 i0 (.agg #[.string ⟨#[]⟩, .int .u16 0, .int .u16 0, .int .u32 0, .slice none 0 0, .slice none 0 0, .slice none 0 0]) 7 96 Try.underlying24 HI.out HZ0.out HZ1.out HZ2.out rfl (by decide) _ _ _ rfl (hO5.out.alloc _) ⟨w5.heap.size, 0, none⟩ 1 1 (recV R (.slice B1 l1 d1) (.slice B2 l2 d2) (.slice B3 l3 d3)) rfl rfl ?CAa ?CAb ?CAc ?CAd ?CAe ?_)
          case CAa =>
            intro j u hj
            rw [HAGE.out] at hj
            match j, hj with
            | 0, hj => simp at hj; subst hj; simp [Addr.add]
            | 1, hj => simp at hj; subst hj; simp [Addr.add]
            | 2, hj => simp at hj; subst hj; simp [Addr.add]
            | 3, hj => simp at hj; subst hj; simp [Addr.add]
            | 4, hj => simp at hj; subst hj; simp [Addr.add]
            | 5, hj => simp at hj; subst hj; simp [Addr.add]
            | 6, hj => simp at hj; subst hj; simp [Addr.add]
          case CAb =>
            intro u hu
            rw [HAGE.out] at hu
            simp at hu
            rcases hu with rfl | rfl | rfl | rfl | rfl | rfl | rfl <;> rfl
          case CAc => unfold maxLen; omega
          case CAd => omega
          case CAe => have := S5.out; simp; omega
          intro v' w9 hown hgrow _
          have E1 : Hid (RowRecs w9 G v' (M.an.take (k + 1))) := by
            show RowRecs _ _ _ _
            rw [HTK.out]
            refine hOW.out.snoc HIN.out Z1 HZA1.out (by rw [HLN1.out]; exact hO5.out) HZB1.out ?_ hgrow
            rw [HLN1.out]
            exact hown
          have E3 : Hid (Below G wo w9) := (V5.out.alloc (by have := S5.out; omega) _).grown hgrow (by have := S5.out; simp; omega) (fun k hk => (hO5.out.lt k hk).1)
          clear hown hgrow
          go_wp2_with fail
          go_roundw
          case rel => exact ⟨_, _, _, _, _, _, _, _, _, _, _, _, _, _, _, _, _, _, _, _, ⟨k + 1, v', by omega, rfl, by go_num, E1, E3⟩, rfl⟩
          case measure => simp [intOf]; omega
        · have hkn : ¬ ((k : Int) < (na : Int)) := by omega
          have hke : k = na := by omega
          have hLn : M.an.take k = M.an := List.take_of_length_le (by rw [HLA.out, hke]; exact Nat.le_refl _)
          have hO' := hO1.out
          rw [hLn] at hO'
          obtain ⟨u, hu⟩ : ∃ u, Value.slice oA om oc = u := ⟨_, rfl⟩
          obtain ⟨w6, hw6⟩ : ∃ v, wr.setCell ⟨d, 0, none⟩ (.slice oA om oc) = v := ⟨_, rfl⟩
          have nwo : Below wo.heap.size wo wr := by rw [HGG.out]; exact hB1.out
          have HD6 : Hid (w6.heap[d]? = some (.cells #[u, .slice An nn cn, .slice Ax nx cx] 70 (0, 0))) := by rw [← hw6, hu]; exact set_at hd1 rfl
          have HX6 : Hid (w6.heap[g]? = some (.cells #[.int .u16 id, .int .u16 fl, .slice qA nq qc, .slice Aa na ca, .slice An nn cn, .slice Ax nx cx] 26 (0, 0))) := by rw [← hw6]; exact set_far ((hB1.out.block g (by have := HGS.out; have := HGD.out; omega)).trans hX.out) (by have := HGD.out; omega)
          have HY6 : Hid (w6.heap[g + 1]? = some (.cells #[.int .u16 0, .int .u16 0, .slice none 0 0, .slice none 0 0, .slice none 0 0, .slice none 0 0] 26 (0, 0))) := by rw [← hw6]; exact set_far ((hB1.out.block (g + 1) (by have := HGS.out; have := HGD.out; omega)).trans hY.out) (by have := HGD.out; omega)
          have HU6 : Hid (RowRecs w6 (g + 2) u M.an) := by rw [← hw6, ← hu]; exact (hO'.far1 (by have := HGS.out; omega)).low (by have := HGS.out; have := HGD.out; omega)
          have HO6 : Hid (w6.ownsRow (g + 2) 62 3 (.slice qA nq qc) nq (qnCs M.qs)) := by rw [← hw6]; exact own_other' (row_below hO.out nwo) (fun j hj => row_ne' (row_below hO.out nwo) hj hd1 (by decide))
          have HV6 : Hid (Below g w w6) := by rw [← hw6]; exact HVR.out.setCell (p := ⟨d, 0, none⟩) (by have := HGD.out; show g ≤ d; omega) _
          have HS6 : Hid (d + 1 ≤ w6.heap.size) := by show _ ≤ _; rw [← hw6, Go.Deep.nblk_setCell]; have := HSZ.out; have := HGS.out; omega
          have HW6 := Lib.hid hw6
          have HU := Lib.hid hu
          have yf : ∀ i, wr.frozen? ⟨d, i, none⟩ = false := Lib.frozen_of_heap hd1
          clear hd1 hu hw6 hO' hLn nwo
          go_upto_region 5 with fail
          rw [HW6.out]
          clear x0 yf
          go_wp2_with fail
          go_roundw
          case rel => exact ⟨1, _, _, _, by decide, by go_num, HX6, by (show _; rw [if_pos (by decide)]; exact HU6.out), by (rw [if_neg (by decide)]; exact Lib.hid rfl), by (rw [if_neg (by decide)]; exact Lib.hid rfl), HD6, HY6, HO6, HV6, HS6⟩
          case measure => simp [intOf]
    · have rBa := by have h := hA.out; rw [if_pos (by decide)] at h; exact h
      obtain ⟨Ea, ma, fa, rfl⟩ := rBa.slice
      have e_vn := by have h := hN.out; rw [if_neg (by decide)] at h; exact h
      subst e_vn
      have e_vx := by have h := hW.out; rw [if_neg (by decide)] at h; exact h
      subst e_vx
      clear hA hN hW
      have RBa := Lib.hid rBa
      clear rBa
      have HRN : Hid (RowRecs wo wo.heap.size (.slice none 0 0) (M.ns.take 0)) := RowRecs.nil _ _
      have HBO : Hid (Below wo.heap.size wo wo) := Below.refl _ _
      obtain ⟨G, hG⟩ : ∃ G, wo.heap.size = G := ⟨_, rfl⟩
      rw [hG] at HRN HBO
      have HGG := Lib.hid hG
      have HGS : Hid (d + 1 ≤ G) := by show _ ≤ _; rw [← hG]; exact hS.out
      clear hG
      go_wp2_with fail
      go_loopw [5, 6] (fun u v wr => ∃ (k : Nat) (o : Value), k ≤ nn ∧ u = o ∧ v = .int .i64 k ∧ Hid (RowRecs wr G o (M.ns.take k)) ∧ Hid (Below G wo wr)) (fun _ v _ => nn - (intOf v).toNat)
      case atStart => exact ⟨0, _, Nat.zero_le _, rfl, rfl, HRN, HBO⟩
      case round =>
        obtain ⟨k, o, hk, rfl, rfl, hO1, hB1⟩ := hrel
        have HSZ : Hid (G ≤ wr.heap.size) := by have h := hB1.out.size; rw [HGG.out] at h; exact h
        have HVR : Hid (Below g w wr) := hV.out.trans (hB1.out.mono (by have := HGS.out; have := HGD.out; omega))
        have hd1 := (hB1.out.block d (by have := HGS.out; omega)).trans hD.out
        have x1 := cell_of_row _ _ 1 _ _ _ hd1
        obtain ⟨oA, om, oc, rfl⟩ := hO1.out.slice
        by_cases hlt : k < nn
        · have hkz : k < Zn.length := by rw [HROWS.out.2.1.2.1]; exact hlt
          obtain ⟨b, off, A1, c1, A2, c2, A3, c3, rfl, hbr, f1, f2, f3, hat, p0, p1, p2, p3, p4, p5, p6⟩ := recs_getZ (HROWS.out.2.1.1.on (HVR.out.mono hB) (Nat.le_refl _)) (HZN.out.on (HVR.out.mono hB) (Nat.le_refl _)) hzn.out.2.1 hkz
          obtain ⟨hkL, hkR⟩ := zmap HEN.out hkz
          have hsr := (hf.out.recs _ (show (M.ns[k]'hkL) ∈ recsM M by unfold recsM; exact List.mem_append_left _ (List.mem_append_right _ (List.getElem_mem hkL)))).1
          have htk := take_snocR hkL
          rw [hkR] at hsr htk
          obtain ⟨R, hR⟩ : ∃ R, (Zn[k]'hkz).1 = R := ⟨_, rfl⟩
          rw [hR] at p0 p1 p2 p3 p4 p5 p6 hat hsr htk
          have HTK := Lib.hid htk
          obtain ⟨x, hx⟩ : ∃ k, mk R.name = k := ⟨_, rfl⟩
          obtain ⟨rk, hrk⟩ : ∃ k, R.kind = k := ⟨_, rfl⟩
          obtain ⟨rc, hrc⟩ : ∃ k, R.cls = k := ⟨_, rfl⟩
          obtain ⟨rt, hrt⟩ : ∃ k, R.ttl = k := ⟨_, rfl⟩
          obtain ⟨l1, hl1⟩ : ∃ k, R.names.length = k := ⟨_, rfl⟩
          obtain ⟨l2, hl2⟩ : ∃ k, R.nums.length = k := ⟨_, rfl⟩
          obtain ⟨l3, hl3⟩ : ∃ k, R.texts.length = k := ⟨_, rfl⟩
          rw [hx] at p0
          rw [hrk] at p1
          rw [hrc] at p2
          rw [hrt] at p3
          rw [hl1] at p4
          rw [hl2] at p5
          rw [hl3] at p6
          rw [hx, hrk, hrc, hrt, hl1, hl2, hl3] at hat
          have HSR := Lib.hid hsr
          have HCP := Lib.hid (lawCopied_is R x rk rc rt A1 l1 c1 A2 l2 c2 A3 l3 c3 wr (hat.on (Below.refl _ _) (by have := HVR.out.size; rw [HG.out] at this; omega)) HSR f1 f2 f3)
          have HAG : Hid (∀ v1 v2 v3, recV R v1 v2 v3 = [.string x, .int .u16 rk, .int .u16 rc, .int .u32 rt, v1, v2, v3]) := fun v1 v2 v3 => by unfold recV; rw [hx, hrk, hrc, hrt]
          have HL1 := Lib.hid hl1
          have HL2 := Lib.hid hl2
          have HL3 := Lib.hid hl3
          have HIC := hd1
          have hki : (k : Int) < (nn : Int) := by omega
          clear hx hrk hrc hrt hl1 hl2 hl3 hat hsr htk hR hkR hkL hkz f1 f2 f3 hd1 HIC
          go_wp2_with fail
          refine HCP.out.mono ?_
          rintro e w5 ⟨B1, d1, B2, d2, B3, d3, rfl, o1, o2, o3, n5, _⟩
          have S5 : Hid (G ≤ w5.heap.size) := Nat.le_trans HSZ.out n5.size
          have HIN : Hid (RecIn w5 G R (.slice B1 l1 d1) (.slice B2 l2 d2) (.slice B3 l3 d3)) := RecIn.low ⟨by rw [HL1.out]; exact o1, by rw [HL2.out]; exact o2, by rw [HL3.out]; exact o3⟩ HSZ.out
          have V5 : Hid (Below G wo w5) := hB1.out.trans (n5.mono HSZ.out)
          have hOW := Lib.hid (hO1.out.below n5)
          obtain ⟨Z1, hZ1, hZ2, hZ3⟩ := hOW.out
          have hlen1 : (M.ns.take k).length = k := by rw [List.length_take, HLN.out]; omega
          rw [hlen1] at hZ2
          have hO5 := Lib.hid hZ2
          have HZA1 := Lib.hid hZ1
          have HZB1 := Lib.hid hZ3
          have HLN1 := Lib.hid hlen1
          have HAGE := Lib.hid (HAG.out (.slice B1 l1 d1) (.slice B2 l2 d2) (.slice B3 l3 d3))
          clear hZ1 hZ2 hZ3 hlen1 o1 o2 o3 n5 HCP p0 p1 p2 p3 p4 p5 p6 x1
          go_wp2_with (at_builtin; refine wpList_append_own _ rfl _ _ 24 rfl G 60 i0 (.agg #[.string ⟨#[]⟩, .int .u16 0, .int .u16 0, .int .u32 0, .slice none 0 0, .slice none 0 0, .slice none 0 0]) 7 96 Try.underlying24 HI.out HZ0.out HZ1.out HZ2.out rfl (by decide) _ _ _ rfl (hO5.out.alloc _) ⟨w5.heap.size, 0, none⟩ 1 1 (recV R (.slice B1 l1 d1) (.slice B2 l2 d2) (.slice B3 l3 d3)) rfl rfl ?CAa ?CAb ?CAc ?CAd ?CAe ?_)
          case CAa =>
            intro j u hj
            rw [HAGE.out] at hj
            match j, hj with
            | 0, hj => simp at hj; subst hj; simp [Addr.add]
            | 1, hj => simp at hj; subst hj; simp [Addr.add]
            | 2, hj => simp at hj; subst hj; simp [Addr.add]
            | 3, hj => simp at hj; subst hj; simp [Addr.add]
            | 4, hj => simp at hj; subst hj; simp [Addr.add]
            | 5, hj => simp at hj; subst hj; simp [Addr.add]
            | 6, hj => simp at hj; subst hj; simp [Addr.add]
          case CAb =>
            intro u hu
            rw [HAGE.out] at hu
            simp at hu
            rcases hu with rfl | rfl | rfl | rfl | rfl | rfl | rfl <;> rfl
          case CAc => unfold maxLen; omega
          case CAd => omega
          case CAe => have := S5.out; simp; omega
          intro v' w9 hown hgrow _
          have E1 : Hid (RowRecs w9 G v' (M.ns.take (k + 1))) := by
            show RowRecs _ _ _ _
            rw [HTK.out]
            refine hOW.out.snoc HIN.out Z1 HZA1.out (by rw [HLN1.out]; exact hO5.out) HZB1.out ?_ hgrow
            rw [HLN1.out]
            exact hown
          have E3 : Hid (Below G wo w9) := (V5.out.alloc (by have := S5.out; omega) _).grown hgrow (by have := S5.out; simp; omega) (fun k hk => (hO5.out.lt k hk).1)
          clear hown hgrow
          go_wp2_with fail
          go_roundw
          case rel => exact ⟨_, _, _, _, _, _, _, _, _, _, _, _, _, _, _, _, _, _, _, _, ⟨k + 1, v', by omega, rfl, by go_num, E1, E3⟩, rfl⟩
          case measure => simp [intOf]; omega
        · have hkn : ¬ ((k : Int) < (nn : Int)) := by omega
          have hke : k = nn := by omega
          have hLn : M.ns.take k = M.ns := List.take_of_length_le (by rw [HLN.out, hke]; exact Nat.le_refl _)
          have hO' := hO1.out
          rw [hLn] at hO'
          obtain ⟨u, hu⟩ : ∃ u, Value.slice oA om oc = u := ⟨_, rfl⟩
          obtain ⟨w6, hw6⟩ : ∃ v, wr.setCell ⟨d, 1, none⟩ (.slice oA om oc) = v := ⟨_, rfl⟩
          have nwo : Below wo.heap.size wo wr := by rw [HGG.out]; exact hB1.out
          have HD6 : Hid (w6.heap[d]? = some (.cells #[.slice Ea ma fa, u, .slice Ax nx cx] 70 (0, 0))) := by rw [← hw6, hu]; exact set_at hd1 rfl
          have HX6 : Hid (w6.heap[g]? = some (.cells #[.int .u16 id, .int .u16 fl, .slice qA nq qc, .slice Aa na ca, .slice An nn cn, .slice Ax nx cx] 26 (0, 0))) := by rw [← hw6]; exact set_far ((hB1.out.block g (by have := HGS.out; have := HGD.out; omega)).trans hX.out) (by have := HGD.out; omega)
          have HY6 : Hid (w6.heap[g + 1]? = some (.cells #[.int .u16 0, .int .u16 0, .slice none 0 0, .slice none 0 0, .slice none 0 0, .slice none 0 0] 26 (0, 0))) := by rw [← hw6]; exact set_far ((hB1.out.block (g + 1) (by have := HGS.out; have := HGD.out; omega)).trans hY.out) (by have := HGD.out; omega)
          have HU6 : Hid (RowRecs w6 (g + 2) u M.ns) := by rw [← hw6, ← hu]; exact (hO'.far1 (by have := HGS.out; omega)).low (by have := HGS.out; have := HGD.out; omega)
          have RCa : Hid (RowRecs w6 (g + 2) (.slice Ea ma fa) M.an) := by rw [← hw6]; exact recs_other (RBa.out.below nwo) hd1
          have HO6 : Hid (w6.ownsRow (g + 2) 62 3 (.slice qA nq qc) nq (qnCs M.qs)) := by rw [← hw6]; exact own_other' (row_below hO.out nwo) (fun j hj => row_ne' (row_below hO.out nwo) hj hd1 (by decide))
          have HV6 : Hid (Below g w w6) := by rw [← hw6]; exact HVR.out.setCell (p := ⟨d, 1, none⟩) (by have := HGD.out; show g ≤ d; omega) _
          have HS6 : Hid (d + 1 ≤ w6.heap.size) := by show _ ≤ _; rw [← hw6, Go.Deep.nblk_setCell]; have := HSZ.out; have := HGS.out; omega
          have HW6 := Lib.hid hw6
          have HU := Lib.hid hu
          have yf : ∀ i, wr.frozen? ⟨d, i, none⟩ = false := Lib.frozen_of_heap hd1
          clear hd1 hu hw6 hO' hLn nwo
          go_upto_region 5 with fail
          rw [HW6.out]
          clear x1 yf
          go_wp2_with fail
          go_roundw
          case rel => exact ⟨2, _, _, _, by decide, by go_num, HX6, by (show _; rw [if_pos (by decide)]; exact RCa.out), by (show _; rw [if_pos (by decide)]; exact HU6.out), by (rw [if_neg (by decide)]; exact Lib.hid rfl), HD6, HY6, HO6, HV6, HS6⟩
          case measure => simp [intOf]
    · have rBa := by have h := hA.out; rw [if_pos (by decide)] at h; exact h
      obtain ⟨Ea, ma, fa, rfl⟩ := rBa.slice
      have rBn := by have h := hN.out; rw [if_pos (by decide)] at h; exact h
      obtain ⟨En, mn, fn, rfl⟩ := rBn.slice
      have e_vx := by have h := hW.out; rw [if_neg (by decide)] at h; exact h
      subst e_vx
      clear hA hN hW
      have RBa := Lib.hid rBa
      clear rBa
      have RBn := Lib.hid rBn
      clear rBn
      have HRN : Hid (RowRecs wo wo.heap.size (.slice none 0 0) (M.ad.take 0)) := RowRecs.nil _ _
      have HBO : Hid (Below wo.heap.size wo wo) := Below.refl _ _
      obtain ⟨G, hG⟩ : ∃ G, wo.heap.size = G := ⟨_, rfl⟩
      rw [hG] at HRN HBO
      have HGG := Lib.hid hG
      have HGS : Hid (d + 1 ≤ G) := by show _ ≤ _; rw [← hG]; exact hS.out
      clear hG
      go_wp2_with fail
      go_loopw [5, 6] (fun u v wr => ∃ (k : Nat) (o : Value), k ≤ nx ∧ u = o ∧ v = .int .i64 k ∧ Hid (RowRecs wr G o (M.ad.take k)) ∧ Hid (Below G wo wr)) (fun _ v _ => nx - (intOf v).toNat)
      case atStart => exact ⟨0, _, Nat.zero_le _, rfl, rfl, HRN, HBO⟩
      case round =>
        obtain ⟨k, o, hk, rfl, rfl, hO1, hB1⟩ := hrel
        have HSZ : Hid (G ≤ wr.heap.size) := by have h := hB1.out.size; rw [HGG.out] at h; exact h
        have HVR : Hid (Below g w wr) := hV.out.trans (hB1.out.mono (by have := HGS.out; have := HGD.out; omega))
        have hd1 := (hB1.out.block d (by have := HGS.out; omega)).trans hD.out
        have x2 := cell_of_row _ _ 2 _ _ _ hd1
        obtain ⟨oA, om, oc, rfl⟩ := hO1.out.slice
        by_cases hlt : k < nx
        · have hkz : k < Zx.length := by rw [HROWS.out.2.2.2.1]; exact hlt
          obtain ⟨b, off, A1, c1, A2, c2, A3, c3, rfl, hbr, f1, f2, f3, hat, p0, p1, p2, p3, p4, p5, p6⟩ := recs_getZ (HROWS.out.2.2.1.on (HVR.out.mono hB) (Nat.le_refl _)) (HZX.out.on (HVR.out.mono hB) (Nat.le_refl _)) hzn.out.2.2 hkz
          obtain ⟨hkL, hkR⟩ := zmap HEX.out hkz
          have hsr := (hf.out.recs _ (show (M.ad[k]'hkL) ∈ recsM M by unfold recsM; exact List.mem_append_right _ (List.getElem_mem hkL))).1
          have htk := take_snocR hkL
          rw [hkR] at hsr htk
          obtain ⟨R, hR⟩ : ∃ R, (Zx[k]'hkz).1 = R := ⟨_, rfl⟩
          rw [hR] at p0 p1 p2 p3 p4 p5 p6 hat hsr htk
          have HTK := Lib.hid htk
          obtain ⟨x, hx⟩ : ∃ k, mk R.name = k := ⟨_, rfl⟩
          obtain ⟨rk, hrk⟩ : ∃ k, R.kind = k := ⟨_, rfl⟩
          obtain ⟨rc, hrc⟩ : ∃ k, R.cls = k := ⟨_, rfl⟩
          obtain ⟨rt, hrt⟩ : ∃ k, R.ttl = k := ⟨_, rfl⟩
          obtain ⟨l1, hl1⟩ : ∃ k, R.names.length = k := ⟨_, rfl⟩
          obtain ⟨l2, hl2⟩ : ∃ k, R.nums.length = k := ⟨_, rfl⟩
          obtain ⟨l3, hl3⟩ : ∃ k, R.texts.length = k := ⟨_, rfl⟩
          rw [hx] at p0
          rw [hrk] at p1
          rw [hrc] at p2
          rw [hrt] at p3
          rw [hl1] at p4
          rw [hl2] at p5
          rw [hl3] at p6
          rw [hx, hrk, hrc, hrt, hl1, hl2, hl3] at hat
          have HSR := Lib.hid hsr
          have HCP := Lib.hid (lawCopied_is R x rk rc rt A1 l1 c1 A2 l2 c2 A3 l3 c3 wr (hat.on (Below.refl _ _) (by have := HVR.out.size; rw [HG.out] at this; omega)) HSR f1 f2 f3)
          have HAG : Hid (∀ v1 v2 v3, recV R v1 v2 v3 = [.string x, .int .u16 rk, .int .u16 rc, .int .u32 rt, v1, v2, v3]) := fun v1 v2 v3 => by unfold recV; rw [hx, hrk, hrc, hrt]
          have HL1 := Lib.hid hl1
          have HL2 := Lib.hid hl2
          have HL3 := Lib.hid hl3
          have HIC := hd1
          have hki : (k : Int) < (nx : Int) := by omega
          clear hx hrk hrc hrt hl1 hl2 hl3 hat hsr htk hR hkR hkL hkz f1 f2 f3 hd1 HIC
          go_wp2_with fail
          refine HCP.out.mono ?_
          rintro e w5 ⟨B1, d1, B2, d2, B3, d3, rfl, o1, o2, o3, n5, _⟩
          have S5 : Hid (G ≤ w5.heap.size) := Nat.le_trans HSZ.out n5.size
          have HIN : Hid (RecIn w5 G R (.slice B1 l1 d1) (.slice B2 l2 d2) (.slice B3 l3 d3)) := RecIn.low ⟨by rw [HL1.out]; exact o1, by rw [HL2.out]; exact o2, by rw [HL3.out]; exact o3⟩ HSZ.out
          have V5 : Hid (Below G wo w5) := hB1.out.trans (n5.mono HSZ.out)
          have hOW := Lib.hid (hO1.out.below n5)
          obtain ⟨Z1, hZ1, hZ2, hZ3⟩ := hOW.out
          have hlen1 : (M.ad.take k).length = k := by rw [List.length_take, HLX.out]; omega
          rw [hlen1] at hZ2
          have hO5 := Lib.hid hZ2
          have HZA1 := Lib.hid hZ1
          have HZB1 := Lib.hid hZ3
          have HLN1 := Lib.hid hlen1
          have HAGE := Lib.hid (HAG.out (.slice B1 l1 d1) (.slice B2 l2 d2) (.slice B3 l3 d3))
          clear hZ1 hZ2 hZ3 hlen1 o1 o2 o3 n5 HCP p0 p1 p2 p3 p4 p5 p6 x2
          go_wp2_with (at_builtin; refine wpList_append_own _ rfl _ _ 24 rfl G 60 i0 (.agg #[.string ⟨#[]⟩, .int .u16 0, .int .u16 0, .int .u32 0, .slice none 0 0, .slice none 0 0, .slice none 0 0]) 7 96 Try.underlying24 HI.out HZ0.out HZ1.out HZ2.out rfl (by decide) _ _ _ rfl (hO5.out.alloc _) ⟨w5.heap.size, 0, none⟩ 1 1 (recV R (.slice B1 l1 d1) (.slice B2 l2 d2) (.slice B3 l3 d3)) rfl rfl ?CAa ?CAb ?CAc ?CAd ?CAe ?_)
          case CAa =>
            intro j u hj
            rw [HAGE.out] at hj
            match j, hj with
            | 0, hj => simp at hj; subst hj; simp [Addr.add]
            | 1, hj => simp at hj; subst hj; simp [Addr.add]
            | 2, hj => simp at hj; subst hj; simp [Addr.add]
            | 3, hj => simp at hj; subst hj; simp [Addr.add]
            | 4, hj => simp at hj; subst hj; simp [Addr.add]
            | 5, hj => simp at hj; subst hj; simp [Addr.add]
            | 6, hj => simp at hj; subst hj; simp [Addr.add]
          case CAb =>
            intro u hu
            rw [HAGE.out] at hu
            simp at hu
            rcases hu with rfl | rfl | rfl | rfl | rfl | rfl | rfl <;> rfl
          case CAc => unfold maxLen; omega
          case CAd => omega
          case CAe => have := S5.out; simp; omega
          intro v' w9 hown hgrow _
          have E1 : Hid (RowRecs w9 G v' (M.ad.take (k + 1))) := by
            show RowRecs _ _ _ _
            rw [HTK.out]
            refine hOW.out.snoc HIN.out Z1 HZA1.out (by rw [HLN1.out]; exact hO5.out) HZB1.out ?_ hgrow
            rw [HLN1.out]
            exact hown
          have E3 : Hid (Below G wo w9) := (V5.out.alloc (by have := S5.out; omega) _).grown hgrow (by have := S5.out; simp; omega) (fun k hk => (hO5.out.lt k hk).1)
          clear hown hgrow
          go_wp2_with fail
          go_roundw
          case rel => exact ⟨_, _, _, _, _, _, _, _, _, _, _, _, _, _, _, _, _, _, _, _, ⟨k + 1, v', by omega, rfl, by go_num, E1, E3⟩, rfl⟩
          case measure => simp [intOf]; omega
        · have hkn : ¬ ((k : Int) < (nx : Int)) := by omega
          have hke : k = nx := by omega
          have hLn : M.ad.take k = M.ad := List.take_of_length_le (by rw [HLX.out, hke]; exact Nat.le_refl _)
          have hO' := hO1.out
          rw [hLn] at hO'
          obtain ⟨u, hu⟩ : ∃ u, Value.slice oA om oc = u := ⟨_, rfl⟩
          obtain ⟨w6, hw6⟩ : ∃ v, wr.setCell ⟨d, 2, none⟩ (.slice oA om oc) = v := ⟨_, rfl⟩
          have nwo : Below wo.heap.size wo wr := by rw [HGG.out]; exact hB1.out
          have HD6 : Hid (w6.heap[d]? = some (.cells #[.slice Ea ma fa, .slice En mn fn, u] 70 (0, 0))) := by rw [← hw6, hu]; exact set_at hd1 rfl
          have HX6 : Hid (w6.heap[g]? = some (.cells #[.int .u16 id, .int .u16 fl, .slice qA nq qc, .slice Aa na ca, .slice An nn cn, .slice Ax nx cx] 26 (0, 0))) := by rw [← hw6]; exact set_far ((hB1.out.block g (by have := HGS.out; have := HGD.out; omega)).trans hX.out) (by have := HGD.out; omega)
          have HY6 : Hid (w6.heap[g + 1]? = some (.cells #[.int .u16 0, .int .u16 0, .slice none 0 0, .slice none 0 0, .slice none 0 0, .slice none 0 0] 26 (0, 0))) := by rw [← hw6]; exact set_far ((hB1.out.block (g + 1) (by have := HGS.out; have := HGD.out; omega)).trans hY.out) (by have := HGD.out; omega)
          have HU6 : Hid (RowRecs w6 (g + 2) u M.ad) := by rw [← hw6, ← hu]; exact (hO'.far1 (by have := HGS.out; omega)).low (by have := HGS.out; have := HGD.out; omega)
          have RCa : Hid (RowRecs w6 (g + 2) (.slice Ea ma fa) M.an) := by rw [← hw6]; exact recs_other (RBa.out.below nwo) hd1
          have RCn : Hid (RowRecs w6 (g + 2) (.slice En mn fn) M.ns) := by rw [← hw6]; exact recs_other (RBn.out.below nwo) hd1
          have HO6 : Hid (w6.ownsRow (g + 2) 62 3 (.slice qA nq qc) nq (qnCs M.qs)) := by rw [← hw6]; exact own_other' (row_below hO.out nwo) (fun j hj => row_ne' (row_below hO.out nwo) hj hd1 (by decide))
          have HV6 : Hid (Below g w w6) := by rw [← hw6]; exact HVR.out.setCell (p := ⟨d, 2, none⟩) (by have := HGD.out; show g ≤ d; omega) _
          have HS6 : Hid (d + 1 ≤ w6.heap.size) := by show _ ≤ _; rw [← hw6, Go.Deep.nblk_setCell]; have := HSZ.out; have := HGS.out; omega
          have HW6 := Lib.hid hw6
          have HU := Lib.hid hu
          have yf : ∀ i, wr.frozen? ⟨d, i, none⟩ = false := Lib.frozen_of_heap hd1
          clear hd1 hu hw6 hO' hLn nwo
          go_upto_region 5 with fail
          rw [HW6.out]
          clear x2 yf
          go_wp2_with fail
          go_roundw
          case rel => exact ⟨3, _, _, _, by decide, by go_num, HX6, by (show _; rw [if_pos (by decide)]; exact RCa.out), by (show _; rw [if_pos (by decide)]; exact RCn.out), by (show _; rw [if_pos (by decide)]; exact HU6.out), HD6, HY6, HO6, HV6, HS6⟩
          case measure => simp [intOf]
    · have rBa := by have h := hA.out; rw [if_pos (by decide)] at h; exact h
      have rBn := by have h := hN.out; rw [if_pos (by decide)] at h; exact h
      have rBx := by have h := hW.out; rw [if_pos (by decide)] at h; exact h
      obtain ⟨A1, m1, c1, rfl⟩ := rBa.slice
      obtain ⟨A2, m2, c2, rfl⟩ := rBn.slice
      obtain ⟨A3, m3, c3, rfl⟩ := rBx.slice
      have HR1 := Lib.hid rBa
      have HR2 := Lib.hid rBn
      have HR3 := Lib.hid rBx
      clear hA hN hW rBa rBn rBx
      have xx0 := cell_of_row _ _ 0 _ _ _ hD.out
      have xx1 := cell_of_row _ _ 1 _ _ _ hD.out
      have xx2 := cell_of_row _ _ 2 _ _ _ hD.out
      have k0 := cell_of_row _ _ 0 _ _ _ hX.out
      have k1 := cell_of_row _ _ 1 _ _ _ hX.out
      have k2 := cell_of_row _ _ 2 _ _ _ hX.out
      have k3 := cell_of_row _ _ 3 _ _ _ hX.out
      have k4 := cell_of_row _ _ 4 _ _ _ hX.out
      have k5 := cell_of_row _ _ 5 _ _ _ hX.out
      have kf : ∀ i, wo.frozen? ⟨g, i, none⟩ = false := Lib.frozen_of_heap hX.out
      have hgdn : g ≠ d := by have := HGD.out; omega
      go_upto_region 12 with fail
      go_region
      obtain ⟨w7, hw7⟩ : ∃ v, (((wo.setCell ⟨g, 3, none⟩ (.slice A1 m1 c1)).setCell ⟨g, 4, none⟩ (.slice A2 m2 c2)).setCell ⟨g, 5, none⟩ (.slice A3 m3 c3)).drew = v := ⟨_, rfl⟩
      rw [hw7]
      have hx3 : (wo.setCell ⟨g, 3, none⟩ (.slice A1 m1 c1)).heap[g]? = some (.cells #[.int .u16 id, .int .u16 fl, .slice qA nq qc, .slice A1 m1 c1, .slice An nn cn, .slice Ax nx cx] 26 (0, 0)) := set_at (w := wo) hX.out rfl
      have hx4 : ((wo.setCell ⟨g, 3, none⟩ (.slice A1 m1 c1)).setCell ⟨g, 4, none⟩ (.slice A2 m2 c2)).heap[g]? = some (.cells #[.int .u16 id, .int .u16 fl, .slice qA nq qc, .slice A1 m1 c1, .slice A2 m2 c2, .slice Ax nx cx] 26 (0, 0)) := set_at hx3 rfl
      have HX7 : Hid (w7.heap[g]? = some (.cells #[.int .u16 id, .int .u16 fl, .slice qA nq qc, .slice A1 m1 c1, .slice A2 m2 c2, .slice A3 m3 c3] 26 (0, 0))) := by rw [← hw7]; exact set_at hx4 rfl
      have HY7 : Hid (w7.heap[g + 1]? = some (.cells #[.int .u16 0, .int .u16 0, .slice none 0 0, .slice none 0 0, .slice none 0 0, .slice none 0 0] 26 (0, 0))) := by rw [← hw7]; exact set_far (set_far (set_far (w := wo) hY.out (by omega)) (by omega)) (by omega)
      have HQ7 : Hid (w7.ownsRow (g + 2) 62 3 (.slice qA nq qc) nq (qnCs M.qs)) := by rw [← hw7]; exact own_far1 (own_far1 (own_far1 (w := wo) hO.out (by omega)) (by omega)) (by omega)
      have H71 : Hid (RowRecs w7 (g + 2) (.slice A1 m1 c1) M.an) := by rw [← hw7]; exact recs_drew (((RowRecs.far1 (w := wo) (b := g) HR1.out (by omega)).far1 (b := g) (by omega)).far1 (b := g) (by omega))
      have H72 : Hid (RowRecs w7 (g + 2) (.slice A2 m2 c2) M.ns) := by rw [← hw7]; exact recs_drew (((RowRecs.far1 (w := wo) (b := g) HR2.out (by omega)).far1 (b := g) (by omega)).far1 (b := g) (by omega))
      have H73 : Hid (RowRecs w7 (g + 2) (.slice A3 m3 c3) M.ad) := by rw [← hw7]; exact recs_drew (((RowRecs.far1 (w := wo) (b := g) HR3.out (by omega)).far1 (b := g) (by omega)).far1 (b := g) (by omega))
      have HV7 : Hid (Below g w w7) := by rw [← hw7]; exact (((hV.out.setCell (p := ⟨g, 3, none⟩) (Nat.le_refl _) _).setCell (p := ⟨g, 4, none⟩) (Nat.le_refl _) _).setCell (p := ⟨g, 5, none⟩) (Nat.le_refl _) _).drew
      clear hx3 hx4 hw7 xx0 xx1 xx2 k0 k1 k2 k3 k4 k5 kf hX hY hO hD hV
      have k0 := cell_of_row _ _ 0 _ _ _ HX7.out
      have k1 := cell_of_row _ _ 1 _ _ _ HX7.out
      have k2 := cell_of_row _ _ 2 _ _ _ HX7.out
      have k3 := cell_of_row _ _ 3 _ _ _ HX7.out
      have k4 := cell_of_row _ _ 4 _ _ _ HX7.out
      have k5 := cell_of_row _ _ 5 _ _ _ HX7.out
      have j0 := cell_of_row _ _ 0 _ _ _ HY7.out
      have j1 := cell_of_row _ _ 1 _ _ _ HY7.out
      have j2 := cell_of_row _ _ 2 _ _ _ HY7.out
      have j3 := cell_of_row _ _ 3 _ _ _ HY7.out
      have j4 := cell_of_row _ _ 4 _ _ _ HY7.out
      have j5 := cell_of_row _ _ 5 _ _ _ HY7.out
      have jf : ∀ i, w7.frozen? ⟨g + 1, i, none⟩ = false := Lib.frozen_of_heap HY7.out
      go_wp2_with fail
      refine bodyPost_ret (v := .agg #[.int .u16 id, .int .u16 fl, .slice qA nq qc, .slice A1 m1 c1, .slice A2 m2 c2, .slice A3 m3 c3]) (by simp [results, Try.results14, go_sem, j0, j1, j2, j3, j4, j5]) rfl ⟨_, _, _, _, rfl, MsgRows.low ⟨by show World.ownsRow _ _ _ _ _ _ _; rw [HLQ.out]; exact own_six HQ7.out (by omega), H71.out.far6 (by omega), H72.out.far6 (by omega), H73.out.far6 (by omega)⟩ (show g ≤ g + 2 by omega), below_set6 HV7.out (Nat.le_succ _) _ _ _ _ _ _⟩
end Go.Proofs.Ytpmmjmnleoicjaa
