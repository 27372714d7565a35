/- Texts of one proof, one behind the other: MsgMath, Grown, Shelf, Clone, NumPart, Quiet, Rdr, Kept, OwnRow, Strs, Nums, RecRow, RdrText. -/
import Derived.Test.YtihkmdojakalbaaReadMessagesProofG1
import Derived.Test.YtihkmdojakalbaaProg
import Derived.WalkKit
import Derived.Lib.Hide
import Derived.Laws.Rows
import Derived.Laws.AppendOwn
import Derived.Deep.QuietTactic
import Derived.Deep.Draws
import Derived.Shelf.Strings.Builder1
import Derived.Shelf.Strings.BuilderF
import Derived.Shelf.Strings.BuilderK
import Derived.Shelf.LaysM
import Derived.Shelf.Strconv.Clone
import Derived.Outline
import Derived.IntWalk
import Derived.WalkSpells
import Derived.WalkLawsBesides
import Derived.BigQuiet
import Derived.Deep.RegionHeld3
import Derived.Defers
import Derived.Recover
import Derived.OwnWalk
import Derived.Below
import Derived.Laws.OwnMore

/- Messages as lists of bytes: questions, rows of things, the whole. No program, no condition. -/
namespace Go.Proofs.Ytihkmdojakalbaa.MsgMath
open Go Bytes NmMath RecMath

structure Qn where
  name : List UInt8
  kind : Nat
  cls : Nat
structure Msg where
  id : Nat
  flags : Nat
  qs : List Qn
  an : List Rec
  ns : List Rec
  ad : List Rec

/-- The number in n bytes at a place. -/
def nu (l : List UInt8) (p n : Nat) : Nat := be (cut l p n)
theorem nu2_lt (l : List UInt8) (p : Nat) : nu l p 2 < 65536 := by
  have h := be_lt (cut l p 2)
  have h2 : (cut l p 2).length ≤ 2 := by unfold cut; rw [List.length_take]; omega
  have h3 : 256 ^ (cut l p 2).length ≤ 256 ^ 2 := Nat.pow_le_pow_right (by omega) h2
  unfold nu
  omega
theorem nu4_lt (l : List UInt8) (p : Nat) : nu l p 4 < 4294967296 := by
  have h := be_lt (cut l p 4)
  have h2 : (cut l p 4).length ≤ 4 := by unfold cut; rw [List.length_take]; omega
  have h3 : 256 ^ (cut l p 4).length ≤ 256 ^ 4 := Nat.pow_le_pow_right (by omega) h2
  unfold nu
  omega
/-- The question at a place. -/
def qn (l : List UInt8) (p : Nat) : Except Nat (Qn × Nat) :=
  match nm l l.length 2 p p none [] with
  | .error k => .error k
  | .ok (o, q) => if q + 4 ≤ l.length then .ok (⟨o, nu l q 2, nu l (q + 2) 2⟩, q + 4) else .error 2
theorem qn_err {l : List UInt8} {p k : Nat} (h : nm l l.length 2 p p none [] = .error k) : qn l p = .error k := by unfold qn; rw [h]
theorem qn_ok {l o : List UInt8} {p q : Nat} (h : nm l l.length 2 p p none [] = .ok (o, q)) (h2 : q + 4 ≤ l.length) : qn l p = .ok (⟨o, nu l q 2, nu l (q + 2) 2⟩, q + 4) := by unfold qn; rw [h]; exact if_pos h2
theorem qn_short {l o : List UInt8} {p q : Nat} (h : nm l l.length 2 p p none [] = .ok (o, q)) (h2 : l.length < q + 4) : qn l p = .error 2 := by unfold qn; rw [h]; exact if_neg (by omega)
section
variable {α : Type}
/-- So many things, one behind the other. -/
def many (f : Nat → Except Nat (α × Nat)) : Nat → Nat → Except Nat (List α × Nat)
  | 0, p => .ok ([], p)
  | n + 1, p =>
    match f p with
    | .error k => .error k
    | .ok (x, q) =>
      match many f n q with
      | .error k => .error k
      | .ok (xs, r) => .ok (x :: xs, r)
/-- Behind some that were read. -/
def more (f : Nat → Except Nat (α × Nat)) (A : List α) (n p : Nat) : Except Nat (List α × Nat) :=
  match many f n p with
  | .error k => .error k
  | .ok (xs, r) => .ok (A ++ xs, r)
theorem more_none (f : Nat → Except Nat (α × Nat)) (n p : Nat) : more f [] n p = many f n p := by
  unfold more
  cases many f n p with
  | error k => rfl
  | ok x => rfl
theorem more_end (f : Nat → Except Nat (α × Nat)) (A : List α) (p : Nat) : more f A 0 p = .ok (A, p) := by
  simp [more, many]
theorem more_err {f : Nat → Except Nat (α × Nat)} {A : List α} {n p k : Nat} (h : f p = .error k) : more f A (n + 1) p = .error k := by
  unfold more many
  rw [h]
theorem more_one {f : Nat → Except Nat (α × Nat)} {A : List α} {n p q : Nat} {x : α} (h : f p = .ok (x, q)) : more f A (n + 1) p = more f (A ++ [x]) n q := by
  unfold more
  rw [many, h]
  simp only
  cases many f n q with
  | error k => rfl
  | ok y => simp
theorem many_len {f : Nat → Except Nat (α × Nat)} : ∀ {n p r : Nat} {xs : List α}, many f n p = .ok (xs, r) → xs.length = n := by
  intro n
  induction n with
  | zero =>
    intro p r xs h
    injection h with h
    injection h with h1 h2
    subst h1
    rfl
  | succ n ih =>
    intro p r xs h
    rw [many] at h
    cases hf : f p with
    | error k => rw [hf] at h; cases h
    | ok y =>
      obtain ⟨x, q⟩ := y
      rw [hf] at h
      simp only at h
      cases hm : many f n q with
      | error k => rw [hm] at h; cases h
      | ok z =>
        obtain ⟨ys, s⟩ := z
        rw [hm] at h
        simp only at h
        injection h with h
        injection h with h1 h2
        subst h1
        rw [List.length_cons, ih hm]
end
theorem many_le {α : Type} {f : Nat → Except Nat (α × Nat)} {N : Nat} : ∀ {n p r : Nat} {xs : List α}, (0 < n → ∀ a x b, f a = .ok (x, b) → b ≤ N) → p ≤ N → many f n p = .ok (xs, r) → r ≤ N := by
  intro n
  induction n with
  | zero =>
    intro p r xs _ hp h
    injection h with h
    injection h with h1 h2
    omega
  | succ n ih =>
    intro p r xs hf hp h
    rw [many] at h
    cases h1 : f p with
    | error k => rw [h1] at h; cases h
    | ok y =>
      obtain ⟨x, q⟩ := y
      rw [h1] at h
      simp only at h
      cases hm : many f n q with
      | error k => rw [hm] at h; cases h
      | ok z =>
        obtain ⟨ys, s⟩ := z
        rw [hm] at h
        simp only at h
        injection h with h
        injection h with _ h2
        subst h2
        exact ih (fun _ => hf (by omega)) (hf (by omega) _ _ _ h1) hm
/-- The last records, and what is behind them. -/
def msg4 (rec : Nat → Except Nat (Rec × Nat)) (l : List UInt8) (qs : List Qn) (an ns : List Rec) (p : Nat) : Except Nat Msg :=
  match many rec (nu l 10 2) p with
  | .error k => .error k
  | .ok (ad, q) => if q < l.length then .error 7 else .ok ⟨nu l 0 2, nu l 2 2, qs, an, ns, ad⟩
def msg3 (rec : Nat → Except Nat (Rec × Nat)) (l : List UInt8) (qs : List Qn) (an : List Rec) (p : Nat) : Except Nat Msg :=
  match many rec (nu l 8 2) p with
  | .error k => .error k
  | .ok (ns, q) => msg4 rec l qs an ns q
def msg2 (rec : Nat → Except Nat (Rec × Nat)) (l : List UInt8) (qs : List Qn) (p : Nat) : Except Nat Msg :=
  match many rec (nu l 6 2) p with
  | .error k => .error k
  | .ok (an, q) => msg3 rec l qs an q
def msg1 (rec : Nat → Except Nat (Rec × Nat)) (l : List UInt8) : Except Nat Msg :=
  match many (qn l) (nu l 4 2) 12 with
  | .error k => .error k
  | .ok (qs, q) => msg2 rec l qs q
/-- The message of bytes (no more than may be), whose records are read by 'rec'. -/
def msg (rec : Nat → Except Nat (Rec × Nat)) (l : List UInt8) : Except Nat Msg :=
  if l.length < 12 then .error 2 else if 256 < nu l 4 2 + nu l 6 2 + nu l 8 2 + nu l 10 2 then .error 6 else msg1 rec l
section
variable {rec : Nat → Except Nat (Rec × Nat)} {l : List UInt8} {qs : List Qn} {an ns ad : List Rec} {p q k : Nat}
theorem msg_short (h : l.length < 12) : msg rec l = .error 2 := if_pos h
theorem msg_full (h : 12 ≤ l.length) (h2 : 256 < nu l 4 2 + nu l 6 2 + nu l 8 2 + nu l 10 2) : msg rec l = .error 6 := by unfold msg; rw [if_neg (by omega), if_pos h2]
theorem msg_some (h : 12 ≤ l.length) (h2 : nu l 4 2 + nu l 6 2 + nu l 8 2 + nu l 10 2 ≤ 256) : msg rec l = msg1 rec l := by unfold msg; rw [if_neg (by omega), if_neg (by omega)]
theorem msg1_err (h : many (qn l) (nu l 4 2) 12 = .error k) : msg1 rec l = .error k := by unfold msg1; rw [h]
theorem msg1_ok (h : many (qn l) (nu l 4 2) 12 = .ok (qs, q)) : msg1 rec l = msg2 rec l qs q := by unfold msg1; rw [h]
theorem msg2_err (h : many rec (nu l 6 2) p = .error k) : msg2 rec l qs p = .error k := by unfold msg2; rw [h]
theorem msg2_ok (h : many rec (nu l 6 2) p = .ok (an, q)) : msg2 rec l qs p = msg3 rec l qs an q := by unfold msg2; rw [h]
theorem msg3_err (h : many rec (nu l 8 2) p = .error k) : msg3 rec l qs an p = .error k := by unfold msg3; rw [h]
theorem msg3_ok (h : many rec (nu l 8 2) p = .ok (ns, q)) : msg3 rec l qs an p = msg4 rec l qs an ns q := by unfold msg3; rw [h]
theorem msg4_err (h : many rec (nu l 10 2) p = .error k) : msg4 rec l qs an ns p = .error k := by unfold msg4; rw [h]
theorem msg4_more (h : many rec (nu l 10 2) p = .ok (ad, q)) (h2 : q < l.length) : msg4 rec l qs an ns p = .error 7 := by unfold msg4; rw [h]; exact if_pos h2
theorem msg4_ok (h : many rec (nu l 10 2) p = .ok (ad, q)) (h2 : l.length ≤ q) : msg4 rec l qs an ns p = .ok ⟨nu l 0 2, nu l 2 2, qs, an, ns, ad⟩ := by unfold msg4; rw [h]; exact if_neg (by omega)
end
end Go.Proofs.Ytihkmdojakalbaa.MsgMath

/- What a call may have written: one block that stood, and new ones. No condition. -/
namespace Go.Proofs.Ytihkmdojakalbaa
open Go Go.RowKit

theorem only_setCell {a w : World} {g : Nat} (h : a.grownBy w (some g)) {p : Addr} (hp : p.block = g ∨ a.heap.size ≤ p.block) (u : Value) : a.grownBy (w.setCell p u) (some g) :=
  ⟨h.os, h.tape, h.output, by simpa [World.setCell] using h.size, fun i hi hne => (Below.heap_setCell w p u i (by
    rintro rfl
    rcases hp with hp | hp
    · exact hne (by rw [hp])
    · omega)).trans (h.block i hi hne)⟩
theorem only_of_below {a w : World} (h : Below a.heap.size a w) (row : Option Nat) : a.grownBy w row := ⟨h.os, h.tape, h.output, h.size, fun i hi _ => h.block i hi⟩
theorem grown_block {a b : World} {r k : Nat} (h : a.grownBy b (some r)) (hk : k < a.heap.size) (hne : k ≠ r) : b.heap[k]? = a.heap[k]? :=
  h.block k hk (fun e => by injection e with e; exact hne e)
theorem grown_drewN {a w : World} {row : Option Nat} (h : a.grownBy w row) (n : Nat) : a.grownBy (w.drewN n) row := ⟨h.os, h.tape, h.output, h.size, h.block⟩
theorem grown_refl (a : World) (row : Option Nat) : a.grownBy a row := ⟨rfl, rfl, rfl, Nat.le_refl _, fun _ _ _ => rfl⟩
theorem grown_trans {a b c : World} {r : Nat} (h : a.grownBy b (some r)) (k : b.grownBy c (some r)) : a.grownBy c (some r) :=
  ⟨k.os.trans h.os, k.tape.trans h.tape, k.output.trans h.output, Nat.le_trans h.size k.size, fun i hi hne => (k.block i (Nat.lt_of_lt_of_le hi h.size) hne).trans (h.block i hi hne)⟩
/-- What wrote a block that is new, behind what wrote one that stood. -/
theorem grown_new {a b c : World} {r q : Nat} (h : a.grownBy b (some r)) (k : b.grownBy c (some q)) (hq : a.heap.size ≤ q) : a.grownBy c (some r) :=
  ⟨k.os.trans h.os, k.tape.trans h.tape, k.output.trans h.output, Nat.le_trans h.size k.size, fun i hi hne => (k.block i (Nat.lt_of_lt_of_le hi h.size) (by intro e; injection e with e; omega)).trans (h.block i hi hne)⟩
/-- The written block is a new one: nothing that stood has changed. -/
theorem below_of_grown {a b c : World} {q B : Nat} (h : Below B a b) (k : b.grownBy c (some q)) (hq : B ≤ q) (hB : B ≤ b.heap.size) : Below B a c :=
  h.grown k (by omega) (fun x hx => by injection hx with hx; omega)
theorem new_at (W : World) (o : Obj) (k : Nat) (hk : k = W.heap.size) : (W.alloc o).heap[k]? = some o := by rw [hk]; exact heap_alloc_new W o
theorem old_at {W : World} {o x : Obj} {k : Nat} (h : W.heap[k]? = some x) : (W.alloc o).heap[k]? = some x := by
  have hk : k < W.heap.size := by
    rcases Nat.lt_or_ge k W.heap.size with hlt | hge
    · exact hlt
    · rw [Array.getElem?_eq_none hge] at h; cases h
  rw [Below.heap_alloc W o k hk]
  exact h
end Go.Proofs.Ytihkmdojakalbaa

/-
  DERIVED: THE SHELF's CONTRACTS AT THIS DUMP, IN PLAIN WORDS (tools/lay-plain.mjs out of 'TryShelf.lean', which tools/lay-shelf.mjs wrote): THE SAME DECLARATIONS UNDER THE SAME NAMES: 'import', 'namespace', 'open', 'def', 'theorem' AND NOTHING ELSE: no command of the shelf's: FOR A HAND-IN. Each laying: the table of numbers ('.._ren') and one theorem, a field a fact of the dump's own or the kernel's comparison; each contract: ONE APPLICATION.
-/
namespace Go.Proofs
open Go.Shelf
def Try.lays169_ren : Go.Shelf.Ren := ⟨fun | 169 => 112 | n => n, fun | 70 => 145 | 9 => 9 | 0 => 0 | 72 => 147 | 37 => 71 | 127 => 153 | 3 => 3 | 5 => 5 | n => n, fun | n => n⟩
theorem Try.lays169 : Go.Proofs.Lays.n169 Try.prog Try.lays169_ren := {
  mixed := by kernel_rfl
  f169 := Try.func112.trans (congrArg some (by kernel_rfl))
  t0 := Try.underlying0
  a0 := Try.isAgg0
  z0 := Try.sizeOf0
  v0 := Try.zeroValue0
  t3 := Try.underlying3
  a3 := Try.isAgg3
  z3 := Try.sizeOf3
  v3 := Try.zeroValue3
  t9 := Try.underlying9
  a9 := Try.isAgg9
  z9 := Try.sizeOf9
  v9 := Try.zeroValue9
  t37 := Try.underlying71
  a37 := Try.isAgg71
  z37 := Try.sizeOf71
  v37 := Try.zeroValue71
  t70 := Try.underlying145
  a70 := Try.isAgg145
  z70 := Try.sizeOf145
  v70 := Try.zeroValue145
  t72 := Try.underlying147
  a72 := Try.isAgg147
  z72 := Try.sizeOf147
  v72 := Try.zeroValue147
  t127 := Try.underlying153
  a127 := Try.isAgg153
  z127 := Try.sizeOf153
  v127 := Try.zeroValue153 }
theorem Try.Builder_Extra_169 : Builder.Extra Try.prog Try.lays169_ren := {
  sizeBuilder := by kernel_rfl
  liesBuilder := by kernel_rfl
  t5 := Try.underlying5
  a5 := Try.isAgg5
  z5 := Try.sizeOf5
  v5 := Try.zeroValue5
  infoByte := by kernel_rfl
  cellsByte := by kernel_rfl
  sizeByte := by kernel_rfl
  neB5 := by decide }
open Go.RowKit in
/-- (*strings.Builder).String: "String returns the accumulated string.": OF A BUILDER THAT HOLDS AT LEAST ONE BYTE. ✋ THE MODEL FREEZES THOSE BYTES IN THE BUFFER (unsafe.String): a later write INTO them ends the model's run without an answer; a later append BEHIND them goes on. The statement's order of evaluation is drawn: one draw. (LAID: no walk: one application.) -/
theorem Try.Builder_String (B b : Nat) (l : List UInt8) (w : World) (h : Lib.IsBuilder 147 5 B b (Lib.byteCells l) w) (h0 : l ≠ []) :
    Calls Try.prog 112 #[.pointer (some ⟨b, 0, none⟩)] w fun e w' => e = .returned (.string ⟨l.toArray⟩) ∧ Below B w w' := Any.Builder_String Try.lays169 Try.Builder_Extra_169 B b l w h h0
open Go.RowKit in
/-- (*strings.Builder).String OF A BUILDER THAT HOLDS NO BYTE: the empty string. (Its buffer is nil, or a row of which it has taken nothing yet; where that row has NO capacity the model lays one new block for unsafe.SliceData's 'some address'.) One draw. (LAID: no walk: one application.) -/
theorem Try.Builder_String_empty (B b : Nat) (w : World) (h : Lib.IsBuilder 147 5 B b [] w) (hBw : B ≤ w.heap.size) :
    Calls Try.prog 112 #[.pointer (some ⟨b, 0, none⟩)] w fun e w' => e = .returned (.string ⟨#[]⟩) ∧ Below B w w' := Any.Builder_String_empty Try.lays169 Try.Builder_Extra_169 B b w h hBw
open Go.RowKit in
/-- (*strings.Builder).String: "String returns the accumulated string.": WHATEVER THE BUILDER HOLDS. (LAID: no walk: one application.) -/
theorem Try.Builder_String_any (B b : Nat) (l : List UInt8) (w : World) (h : Lib.IsBuilder 147 5 B b (Lib.byteCells l) w) (hBw : B ≤ w.heap.size) :
    Calls Try.prog 112 #[.pointer (some ⟨b, 0, none⟩)] w fun e w' => e = .returned (.string ⟨l.toArray⟩) ∧ Below B w w' := Any.Builder_String_any Try.lays169 Try.Builder_Extra_169 B b l w h hBw
open Go.RowKit in
/-- (*strings.Builder).String: "String returns the accumulated string.": OF A BUILDER THAT HOLDS AT LEAST ONE BYTE. ✋ THE MODEL FREEZES THOSE BYTES IN THE BUFFER (unsafe.String): a later write INTO them ends the model's run without an answer; a later append BEHIND them goes on. The statement's order of evaluation is drawn: one draw. THE FORM '_f': IT SAYS BESIDES THAT THE BUILDER IS A BUILDER STILL ('Lib.IsBuilderF', the same bytes): SO IT CAN BE WRITTEN ON: 'b.WriteString(b.String()[:k])'. (LAID: no walk: one application.) -/
theorem Try.Builder_String_f (B b : Nat) (l : List UInt8) (w : World) (h : Lib.IsBuilderF 147 5 B b (Lib.byteCells l) w) (h0 : l ≠ []) :
    Calls Try.prog 112 #[.pointer (some ⟨b, 0, none⟩)] w fun e w' => e = .returned (.string ⟨l.toArray⟩) ∧ (Lib.IsBuilderF 147 5 B b (Lib.byteCells l) w' ∧ Below B w w') := Any.Builder_String_f Try.lays169 Try.Builder_Extra_169 B b l w h h0
open Go.RowKit in
/-- (*strings.Builder).String OF A BUILDER THAT HOLDS NO BYTE: the empty string; THE FORM '_f': a builder still. (LAID: no walk: one application.) -/
theorem Try.Builder_String_empty_f (B b : Nat) (w : World) (h : Lib.IsBuilderF 147 5 B b [] w) (hBw : B ≤ w.heap.size) :
    Calls Try.prog 112 #[.pointer (some ⟨b, 0, none⟩)] w fun e w' => e = .returned (.string ⟨#[]⟩) ∧ (Lib.IsBuilderF 147 5 B b [] w' ∧ Below B w w') := Any.Builder_String_empty_f Try.lays169 Try.Builder_Extra_169 B b w h hBw
open Go.RowKit in
/-- (*strings.Builder).String: "String returns the accumulated string.": WHATEVER THE BUILDER HOLDS; THE FORM '_f': OF A BUILDER THAT MAY HAVE BEEN READ BEFORE; AND IT IS A BUILDER STILL, holding the same bytes: it can be written on. (LAID: no walk: one application.) -/
theorem Try.Builder_String_any_f (B b : Nat) (l : List UInt8) (w : World) (h : Lib.IsBuilderF 147 5 B b (Lib.byteCells l) w) (hBw : B ≤ w.heap.size) :
    Calls Try.prog 112 #[.pointer (some ⟨b, 0, none⟩)] w fun e w' => e = .returned (.string ⟨l.toArray⟩) ∧ (Lib.IsBuilderF 147 5 B b (Lib.byteCells l) w' ∧ Below B w w') := Any.Builder_String_any_f Try.lays169 Try.Builder_Extra_169 B b l w h hBw
open Go.RowKit in
/-- (*strings.Builder).String: "String returns the accumulated string.": OF A BUILDER THAT HOLDS AT LEAST ONE BYTE. ✋ THE MODEL FREEZES THOSE BYTES IN THE BUFFER (unsafe.String): a later write INTO them ends the model's run without an answer; a later append BEHIND them goes on. The statement's order of evaluation is drawn: one draw. THE FORM '_k': OVER 'Lib.IsBuilderF' (a builder that 'String()' may have read), AND WITH THE FRAME THAT REACHES ABOVE THE BUILDER: 'Lib.OthersKept': every block that is not b and is no row of uint8's stands as it stood: the iterator of a range among them. (LAID: no walk: one application.) -/
theorem Try.Builder_String_k (B b : Nat) (l : List UInt8) (w : World) (h : Lib.IsBuilderF 147 5 B b (Lib.byteCells l) w) (h0 : l ≠ []) :
    Calls Try.prog 112 #[.pointer (some ⟨b, 0, none⟩)] w fun e w' => e = .returned (.string ⟨l.toArray⟩) ∧ (Lib.IsBuilderF 147 5 B b (Lib.byteCells l) w' ∧ Below B w w' ∧ Lib.OthersKept 5 (some b) w w') := Any.Builder_String_k Try.lays169 Try.Builder_Extra_169 B b l w h h0
open Go.RowKit in
/-- (*strings.Builder).String OF A BUILDER THAT HOLDS NO BYTE: the empty string; THE FORM '_k': OVER 'Lib.IsBuilderF' (a builder that 'String()' may have read), AND WITH THE FRAME THAT REACHES ABOVE THE BUILDER: 'Lib.OthersKept': every block that is not b and is no row of uint8's stands as it stood: the iterator of a range among them. (LAID: no walk: one application.) -/
theorem Try.Builder_String_empty_k (B b : Nat) (w : World) (h : Lib.IsBuilderF 147 5 B b [] w) (hBw : B ≤ w.heap.size) :
    Calls Try.prog 112 #[.pointer (some ⟨b, 0, none⟩)] w fun e w' => e = .returned (.string ⟨#[]⟩) ∧ (Lib.IsBuilderF 147 5 B b [] w' ∧ Below B w w' ∧ Lib.OthersKept 5 (some b) w w') := Any.Builder_String_empty_k Try.lays169 Try.Builder_Extra_169 B b w h hBw
open Go.RowKit in
/-- (*strings.Builder).String: "String returns the accumulated string.": WHATEVER THE BUILDER HOLDS; THE FORM '_k': OVER 'Lib.IsBuilderF' (a builder that 'String()' may have read), AND WITH THE FRAME THAT REACHES ABOVE THE BUILDER: 'Lib.OthersKept': every block that is not b and is no row of uint8's stands as it stood: the iterator of a range among them. (LAID: no walk: one application.) -/
theorem Try.Builder_String_any_k (B b : Nat) (l : List UInt8) (w : World) (h : Lib.IsBuilderF 147 5 B b (Lib.byteCells l) w) (hBw : B ≤ w.heap.size) :
    Calls Try.prog 112 #[.pointer (some ⟨b, 0, none⟩)] w fun e w' => e = .returned (.string ⟨l.toArray⟩) ∧ (Lib.IsBuilderF 147 5 B b (Lib.byteCells l) w' ∧ Below B w w' ∧ Lib.OthersKept 5 (some b) w w') := Any.Builder_String_any_k Try.lays169 Try.Builder_Extra_169 B b l w h hBw
def Try.laysM316_ren : Go.Shelf.Ren := ⟨fun | 316 => 109 | n => n, fun | 9 => 9 | 3 => 3 | 4 => 4 | 37 => 71 | 0 => 0 | 127 => 153 | 5 => 5 | n => n, fun | n => n⟩
theorem Try.laysM316 : Go.Proofs.LaysM.n316 Try.prog Try.laysM316_ren := {
  mixed := by kernel_rfl
  f316 := Try.func109.trans (congrArg some (by kernel_rfl))
  t0 := Try.underlying0
  a0 := Try.isAgg0
  z0 := Try.sizeOf0
  v0 := Try.zeroValue0
  t3 := Try.underlying3
  a3 := Try.isAgg3
  z3 := Try.sizeOf3
  v3 := Try.zeroValue3
  t4 := Try.underlying4
  a4 := Try.isAgg4
  z4 := Try.sizeOf4
  v4 := Try.zeroValue4
  t9 := Try.underlying9
  a9 := Try.isAgg9
  z9 := Try.sizeOf9
  v9 := Try.zeroValue9
  t37 := Try.underlying71
  a37 := Try.isAgg71
  z37 := Try.sizeOf71
  v37 := Try.zeroValue71
  t127 := Try.underlying153
  a127 := Try.isAgg153
  z127 := Try.sizeOf153
  v127 := Try.zeroValue153
  t5 := Try.underlying5
  a5 := Try.isAgg5
  z5 := Try.sizeOf5
  v5 := Try.zeroValue5
  i0 := by kernel_rfl
  i3 := by kernel_rfl
  i4 := by kernel_rfl
  i5 := by kernel_rfl
  i9 := by kernel_rfl
  i37 := by kernel_rfl
  i127 := by kernel_rfl }
open Go.RowKit in
/-- internal/stringslite.Clone (what strings.Clone calls): "Clone returns a fresh copy of s.": THE SAME BYTES. Of what was there nothing has turned (a new row is laid, and frozen, where s is not empty). (LAID: no walk: one application.) -/
theorem Try.stringslite_Clone (s : ByteArray) (w : World) (hlim : s.size ≤ 281474976710656) :
    Calls Try.prog 109 #[.string s] w fun e w' => e = .returned (.string s) ∧ Below w.heap.size w w' := Any.stringslite_Clone Try.laysM316 s w hlim
end Go.Proofs

/- The contract of strings.Clone. For texts of at most 10^6 bytes. -/
namespace Go.Proofs.Ytihkmdojakalbaa
open Go.RowKit

theorem clone_any (s : ByteArray) (w : World) (hs : s.size ≤ 1000000) :
    Calls Try.prog 106 #[.string s] w fun e w' => e = .returned (.string s) ∧ Below w.heap.size w w' := by
  go_enter Try.func106, Try.ntmps106
  go_wp2_with fail
  refine (Try.stringslite_Clone s _ (by omega)).mono ?_
  rintro e w1 ⟨rfl, hB⟩
  go_wp2_with fail
  go_ret
  exact ⟨rfl, hB⟩

end Go.Proofs.Ytihkmdojakalbaa

/- The contracts of num's Part. For texts of at most 10^6 bytes. -/
namespace Go.Proofs.Ytihkmdojakalbaa
open Go.RowKit NumMath

theorem part_no (s : ByteArray) (at_ size : Int) (w : World) (hs : s.size ≤ 1000000) (hz1 : -9223372036854775808 ≤ size) (hz : size ≤ 9223372036854775807) (ha1 : -9223372036854775808 ≤ at_) (ha : at_ ≤ 9223372036854775807)
    (h3 : holdsB s.size at_ size = false) :
    Calls Try.prog 104 #[.string s, .int .i64 at_, .int .i64 size] w fun e w' => e = .returned (.tuple #[.string ⟨#[]⟩, .bool false]) ∧ w = w' := by
  have H := Lib.hid h3; clear h3
  go_enter Try.func104, Try.ntmps104
  go_wp2_with fail
  refine (holds_any s at_ size _ (by unfold maxLen; omega) hz1 hz ha1 ha).mono ?_
  rw [H.out]
  rintro e w' ⟨rfl, rfl⟩
  go_wp2_with fail
  go_ret2
  exact ⟨rfl, rfl⟩

theorem part_yes (s : ByteArray) (i n : Nat) (w : World) (hs : s.size ≤ 1000000) (hi : i + n ≤ s.size) :
    Calls Try.prog 104 #[.string s, .int .i64 i, .int .i64 n] w fun e w' => e = .returned (.tuple #[.string (s.extract i (i + n)), .bool true]) ∧ Below w.heap.size w w' := by
  have h3 : holdsB s.size i n = true := by simp [holdsB]; omega
  have H := Lib.hid h3; clear h3
  have h0 : (0 : Int) ≤ i := by omega
  have h1 : (0 : Int) ≤ n := by omega
  have h4 : (i : Int) + n ≤ s.size := by omega
  go_enter Try.func104, Try.ntmps104
  go_wp2_with fail
  refine (holds_any s i n _ (by unfold maxLen; omega) (by omega) (by omega) (by omega) (by omega)).mono ?_
  rw [H.out]
  rintro e w' ⟨rfl, rfl⟩
  go_wp2_with fail
  refine (clone_any _ _ (by simp only [ByteArray.size_extract]; omega)).mono ?_
  rintro e w1 ⟨rfl, hB⟩
  go_wp2_with fail
  go_ret2
  exact ⟨rfl, hB⟩
end Go.Proofs.Ytihkmdojakalbaa

/- A quiet call behind some draws. No condition. -/
namespace Go.Proofs.Ytihkmdojakalbaa
open Go Go.RowKit
theorem quiet_left {P : Program} {f : FuncId} {args : Array Value} {w : World} {n : Nat} {v : Value}
    (h : Calls P f args (w.drewN n) fun e w' => e = .returned v ∧ w.drewN n = w') : Calls P f args (w.drewN n) fun e w'' => e = .returned v ∧ ∃ m, w'' = w.drewN m :=
  h.mono fun _ _ ⟨he, hm⟩ => ⟨he, n, hm.symm⟩
end Go.Proofs.Ytihkmdojakalbaa

/- The contracts of a message's reader: the next number, the next bytes, what is left. For texts of at most 10^6 bytes. -/
namespace Go.Proofs.Ytihkmdojakalbaa
open Go.RowKit NumMath

/-- A reader of a message: the message, that up to where the reading ends, the place, what is told where bytes are lacking. -/
def RdrAt (W : World) (r : Nat) (a s : ByteArray) (p : Int) (k : Nat) : Prop := W.heap[r]? = some (.cells #[.string a, .string s, .int .i64 p, .int .i64 k] 56 (0, 0))
section
variable {W W' : World} {r B : Nat} {a s : ByteArray} {p : Int} {k : Nat}
theorem RdrAt.c0 (h : RdrAt W r a s p k) : W.cell? ⟨r, 0, none⟩ = some (.string a) := cell_of_row W r 0 _ _ _ h
theorem RdrAt.c1 (h : RdrAt W r a s p k) : W.cell? ⟨r, 1, none⟩ = some (.string s) := cell_of_row W r 1 _ _ _ h
theorem RdrAt.c2 (h : RdrAt W r a s p k) : W.cell? ⟨r, 2, none⟩ = some (.int .i64 p) := cell_of_row W r 2 _ _ _ h
theorem RdrAt.c3 (h : RdrAt W r a s p k) : W.cell? ⟨r, 3, none⟩ = some (.int .i64 k) := cell_of_row W r 3 _ _ _ h
theorem RdrAt.f2 (h : RdrAt W r a s p k) (i : Nat) : W.frozen? ⟨r, i, none⟩ = false := by
  unfold RdrAt at h
  simp [World.frozen?, h]
theorem RdrAt.lt (h : RdrAt W r a s p k) : r < W.heap.size := by
  rcases Nat.lt_or_ge r W.heap.size with hlt | hge
  · exact hlt
  · unfold RdrAt at h; rw [Array.getElem?_eq_none hge] at h; cases h
theorem RdrAt.drewN (h : RdrAt W r a s p k) (n : Nat) : RdrAt (W.drewN n) r a s p k := h
theorem RdrAt.drew (h : RdrAt W r a s p k) : RdrAt W.drew r a s p k := h
theorem RdrAt.below (h : RdrAt W r a s p k) (hb : Below B W W') (hr : r < B) : RdrAt W' r a s p k := (hb.block r hr).trans h
theorem RdrAt.held (h : RdrAt W r a s p k) (hb : Below W.heap.size W W') : RdrAt W' r a s p k := h.below hb h.lt
theorem RdrAt.set (h : RdrAt W r a s p k) (q : Int) : RdrAt (W.setCell ⟨r, 2, none⟩ (.int .i64 q)) r a s q k := by
  unfold RdrAt at h ⊢
  simp [World.setCell, Array.getElem?_modify, h]
theorem RdrAt.far (h : RdrAt W r a s p k) {q : Addr} (hq : r ≠ q.block) (v : Value) : RdrAt (W.setCell q v) r a s p k := (Below.heap_setCell W q v r hq).trans h
theorem RdrAt.other (h : RdrAt W r a s p k) {q : Nat} (hg : W.grownBy W' (some q)) (hq : r ≠ q) : RdrAt W' r a s p k := (grown_block hg h.lt hq).trans h
end

/-- A reading that gives up with an error. -/
abbrev gave (k : Nat) : Ending := .panicked [{ v := .iface 28 (.int .i64 k), recovered := false }]

theorem be_take_lt4 (l : List UInt8) (n : Nat) (hn : n ≤ 4) : be (l.take n) < 4294967296 := by
  have h1 := be_lt (l.take n)
  have h2 : (l.take n).length ≤ 4 := by rw [List.length_take]; omega
  have h3 : 256 ^ (l.take n).length ≤ 256 ^ 4 := Nat.pow_le_pow_right (by omega) h2
  omega

theorem number_yes (a s : ByteArray) (r p n k x : Nat) (w : World) (h : RdrAt w r a s p k) (hn1 : 1 ≤ n) (hn : n ≤ 4) (hp : p + n ≤ s.size) (hs : s.size ≤ 1000000) (hx : Hid (be ((s.data.toList.drop p).take n) = x)) :
    Calls Try.prog 46 #[.pointer (some ⟨r, 0, none⟩), .int .i64 n] w fun e w' => e = .returned (.int .u32 x) ∧ RdrAt w' r a s (p + n) k ∧ w.grownBy w' (some r) := by
  have h1 := h.c1
  have h2 := h.c2
  have hf := h.f2 2
  have H := Lib.hid h
  clear h
  have hxl : x < 4294967296 := by rw [← hx.out]; exact be_take_lt4 _ _ hn
  have hget := fun m : Nat => get_yes s p n (w.drewN m) (by unfold maxLen; omega) hn1 (by omega) hp
  rw [hx.out] at hget
  have HG := Lib.hid hget
  clear hget
  go_enter Try.func46, Try.ntmps46
  go_wp2_with fail
  go_quiet ((go_at_call 70; exact quiet_left (HG.out _)))
  go_wp2_with fail
  go_ret
  refine ⟨rfl, ?_, ?_⟩
  · exact (H.out.drewN _).set _
  · exact only_setCell (g := r) (grown_drewN (grown_refl w _) _) (p := ⟨r, 2, none⟩) (.inl rfl) _

theorem number_no (a s : ByteArray) (r k : Nat) (p : Int) (n : Nat) (w : World) (h : RdrAt w r a s p k) (hs : s.size ≤ 1000000) (hn : n ≤ 4) (ha1 : -9223372036854775808 ≤ p) (ha : p ≤ 9223372036854775807)
    (hno : Hid (holdsB s.size p n = false)) :
    Calls Try.prog 46 #[.pointer (some ⟨r, 0, none⟩), .int .i64 n] w fun e w' => e = gave k ∧ ∃ m, w' = w.drewN m := by
  have h1 := h.c1
  have h2 := h.c2
  have h3 := h.c3
  clear h
  go_enter Try.func46, Try.ntmps46
  go_wp2_with fail
  go_quiet ((go_at_call 70; exact quiet_left (get_no s p n _ (by unfold maxLen; omega) (by omega) (by omega) (by omega) (by omega) (.inr (.inr hno.out)))))
  go_wp2_with fail
  exact ⟨rfl, rfl, _, rfl⟩
end Go.Proofs.Ytihkmdojakalbaa

/- Below a block, one block apart, a world is as it was. No condition. -/
namespace Go.Proofs.Ytihkmdojakalbaa
open Go Go.RowKit Bytes

/-- Below block g, block r apart, the world b is as a was. -/
structure Kept (g r : Nat) (a b : World) : Prop where
  os : b.os = a.os
  tape : b.tape = a.tape
  output : b.output = a.output
  size : a.heap.size ≤ b.heap.size
  block : ∀ k, k < g → k ≠ r → b.heap[k]? = a.heap[k]?
section
variable {g g' r q : Nat} {a b c w w' : World}
theorem Kept.refl (g r : Nat) (a : World) : Kept g r a a := ⟨rfl, rfl, rfl, Nat.le_refl _, fun _ _ _ => rfl⟩
theorem Kept.trans (h : Kept g r a b) (k : Kept g r b c) : Kept g r a c :=
  ⟨k.os.trans h.os, k.tape.trans h.tape, k.output.trans h.output, Nat.le_trans h.size k.size, fun i hi hne => (k.block i hi hne).trans (h.block i hi hne)⟩
theorem Kept.mono (h : Kept g r a b) (hg : g' ≤ g) : Kept g' r a b := ⟨h.os, h.tape, h.output, h.size, fun i hi hne => h.block i (by omega) hne⟩
theorem Kept.grown (h : Kept g r a w) (hg : w.grownBy w' (some r)) (hB : g ≤ w.heap.size) : Kept g r a w' :=
  h.trans ⟨hg.os, hg.tape, hg.output, hg.size, fun i hi hne => hg.block i (by omega) (by intro e; injection e with e; exact hne e)⟩
theorem Kept.below (h : Kept g r a w) (hb : Below g w w') : Kept g r a w' := h.trans ⟨hb.os, hb.tape, hb.output, hb.size, fun i hi _ => hb.block i hi⟩
theorem Kept.own (h : Kept g r a w) {row : Option Nat} (hg : w.grownBy w' row) (hB : g ≤ w.heap.size) (hr : ∀ k, row = some k → g ≤ k) : Kept g r a w' :=
  h.below ((Below.refl g w).grown hg hB hr)
theorem Kept.alloc (h : Kept g r a w) (hB : g ≤ w.heap.size) (o : Obj) : Kept g r a (w.alloc o) := h.below ((Below.refl g w).alloc hB o)
theorem Kept.drewN (h : Kept g r a w) (n : Nat) : Kept g r a (w.drewN n) := ⟨h.os, h.tape, h.output, h.size, h.block⟩
theorem Kept.drew (h : Kept g r a w) : Kept g r a w.drew := ⟨h.os, h.tape, h.output, h.size, h.block⟩
theorem Kept.setCell (h : Kept g r a w) {p : Addr} (hp : p.block = r ∨ g ≤ p.block) (u : Value) : Kept g r a (w.setCell p u) :=
  h.trans ⟨rfl, rfl, rfl, by simp [World.setCell], fun i hi hne => Below.heap_setCell w p u i (by rcases hp with hp | hp <;> omega)⟩
theorem Kept.of_grown (h : a.grownBy b (some r)) (hB : g ≤ a.heap.size) : Kept g r a b := (Kept.refl g r a).grown h hB
theorem Kept.to_grown (h : Kept a.heap.size r a b) : a.grownBy b (some r) := ⟨h.os, h.tape, h.output, h.size, fun k hk hne => h.block k hk (fun e => hne (by rw [e]))⟩
theorem Kept.to_below (h : Kept g r a b) (hr : g ≤ r) : Below g a b := ⟨h.os, h.tape, h.output, h.size, fun k hk => h.block k hk (by omega)⟩
/-- What was written is a block that is new. -/
theorem Kept.new (h : Kept g r a b) (k : Kept g q b c) (hq : g ≤ q) : Kept g r a c := h.below (k.to_below hq)
end
theorem kept_grown {w w' : World} {g r : Nat} (h : Kept g r w w') (hg : w.heap.size = g) : w.grownBy w' (some r) := by
  subst hg
  exact h.to_grown
section
variable {W W' : World} {r g n q : Nat} {a s : ByteArray} {p : Int} {k : Nat} {v : Value} {xs : List Value}
/-- A reader's block is no row of bytes. -/
theorem own_ne (h : RdrAt W r a s p k) (hv : W.ownsRow g 5 1 v n xs) : v.ownBlock = none ∨ v.ownBlock ≠ some r := by
  rcases hv.2 with ⟨rfl, _⟩ | ⟨b, cap, cur, rfl, _, hb, _⟩
  · exact .inl rfl
  · refine .inr fun e => ?_
    injection e with e
    simp only at e
    subst e
    unfold RdrAt at h
    rw [h] at hb
    injection hb with hb
    injection hb with _ hb
    exact absurd hb (by decide)
/-- A row of one's own, behind the reader's writing. -/
theorem own_rdr (h : RdrAt W r a s p k) (hv : W.ownsRow g 5 1 v n xs) (hg : W.grownBy W' (some r)) : W'.ownsRow g 5 1 v n xs := hv.kept hg (own_ne h hv)
/-- The reader, behind an append to a row of one's own. -/
theorem rdr_own {W0 : World} (h : RdrAt W r a s p k) (hv : W.ownsRow g 5 1 v n xs) (hA : Below W.heap.size W W0) (hg : W0.grownBy W' v.ownBlock) : RdrAt W' r a s p k := by
  have h0 := h.held hA
  refine (hg.block r h0.lt ?_).trans h0
  rcases own_ne h hv with e | e
  · rw [e]; intro x; cases x
  · exact fun x => e x.symm
theorem RdrAt.kept (h : RdrAt W q a s p k) (hk : Kept g r W W') (hq : q < g) (hne : q ≠ r) : RdrAt W' q a s p k := (hk.block q hq hne).trans h
end
end Go.Proofs.Ytihkmdojakalbaa

/- Rows of one's own, of whatever elements, beside a reader's block. No condition. -/
namespace Go.Proofs.Ytihkmdojakalbaa
open Go Go.RowKit Bytes

section
variable {W W' : World} {r g n q size : Nat} {a s : ByteArray} {p : Int} {k : Nat} {v : Value} {xs : List Value} {e : TypeId}
/-- A block of another type is no row's. -/
theorem row_ne {e2 : TypeId} {cs : Array Value} {fz : Nat × Nat} (h : W.heap[r]? = some (.cells cs e2 fz)) (hv : W.ownsRow g e size v n xs) (he : e ≠ e2) : v.ownBlock = none ∨ v.ownBlock ≠ some r := by
  rcases hv.2 with ⟨rfl, _⟩ | ⟨b, cap, cur, rfl, _, hb, _⟩
  · exact .inl rfl
  · refine .inr fun x => ?_
    injection x with x
    simp only at x
    subst x
    rw [h] at hb
    injection hb with hb
    injection hb with _ hb
    exact he hb.symm
theorem row_rdr (h : RdrAt W r a s p k) (hv : W.ownsRow g e size v n xs) (hg : W.grownBy W' (some r)) (he : e ≠ 56) : W'.ownsRow g e size v n xs := hv.kept hg (row_ne h hv he)
theorem rdr_row {W0 : World} (h : RdrAt W r a s p k) (hv : W.ownsRow g e size v n xs) (hA : Below W.heap.size W W0) (hg : W0.grownBy W' v.ownBlock) (he : e ≠ 56) : RdrAt W' r a s p k := by
  have h0 := h.held hA
  refine (hg.block r h0.lt ?_).trans h0
  rcases row_ne h hv he with e | e
  · rw [e]; intro x; cases x
  · exact fun x => e x.symm
theorem row_below (h : W.ownsRow g e size v n xs) (hB : Below W.heap.size W W') : W'.ownsRow g e size v n xs :=
  h.kept (row := none) ⟨hB.os, hB.tape, hB.output, hB.size, fun k hk _ => hB.block k hk⟩ (by cases v.ownBlock <;> simp)
theorem row_kept (h : W.ownsRow g e size v n xs) (hB : Kept q r W W') (hg : ∀ b, v.ownBlock = some b → b < q ∧ b ≠ r) : W'.ownsRow g e size v n xs := by
  refine ⟨h.1, ?_⟩
  rcases h.2 with hn | ⟨b, cap, cur, rfl, hb, hgg, rest⟩
  · exact .inl hn
  · have := hg b rfl
    exact .inr ⟨b, cap, cur, rfl, hb, (hB.block b this.1 this.2).trans hgg, rest⟩
theorem row_low {g' : Nat} (h : W.ownsRow g e size v n xs) (hb : g' ≤ g) : W.ownsRow g' e size v n xs := by
  refine ⟨h.1, ?_⟩
  rcases h.2 with h0 | ⟨b, cap, cur, hv, hg, r⟩
  · exact Or.inl h0
  · exact Or.inr ⟨b, cap, cur, hv, by omega, r⟩
/-- A row's value is one cell. -/
theorem own_one (h : W.ownsRow g e size v n xs) : v.oneCell' = true := by
  rcases h.2 with ⟨rfl, _⟩ | ⟨b, cap, cur, rfl, _⟩ <;> rfl
theorem row_slice (h : W.ownsRow g e size v n xs) : ∃ A m c, v = .slice A m c := by
  rcases h.2 with ⟨rfl, _⟩ | ⟨b, cap, cur, rfl, _⟩
  · exact ⟨_, _, _, rfl⟩
  · exact ⟨_, _, _, rfl⟩
/-- Two rows of unlike elements: one stays while the other is written. -/
theorem row_row {W0 : World} {e2 : TypeId} {size2 n2 : Nat} {v2 : Value} {xs2 : List Value} (h : W.ownsRow g e size v n xs) (h2 : W.ownsRow q e2 size2 v2 n2 xs2) (he : e2 ≠ e) (hA : Below W.heap.size W W0) (hg : W0.grownBy W' v2.ownBlock) : W'.ownsRow g e size v n xs := by
  refine (row_below h hA).kept hg ?_
  rcases h.2 with ⟨rfl, _⟩ | ⟨b, cap, cur, rfl, _, hb, _⟩
  · exact .inl rfl
  · refine .inr fun x => ?_
    rcases row_ne hb h2 he with y | y
    · rw [y] at x; cases x
    · exact y x.symm
end
end Go.Proofs.Ytihkmdojakalbaa

/- Slices of texts: one that reads as a list of texts (nil let in), one that the call gathered itself. No condition. -/
namespace Go.Proofs.Ytihkmdojakalbaa.Strs
open Go Go.RowKit Bytes

theorem info9 : (Try.prog.info? 9).map (fun i => (i.zero, i.size, i.bytes)) = some (some (.string ⟨#[]⟩), 1, 16) := by kernel_rfl
/-- The texts as cells. -/
def strCs (L : List (List UInt8)) : List Value := L.map fun l => Value.string (mk l)
theorem strCs_cat (A B : List (List UInt8)) : strCs (A ++ B) = strCs A ++ strCs B := List.map_append ..
theorem strCs_one (l : List UInt8) : strCs [l] = [.string (mk l)] := rfl
theorem strCs_len (L : List (List UInt8)) : (strCs L).length = L.length := List.length_map ..
theorem strCs_at {L : List (List UInt8)} {k : Nat} (h : k < L.length) : (strCs L)[k]? = some (.string (mk (L.getD k []))) := by
  unfold strCs
  rw [List.getElem?_map, List.getElem?_eq_getElem h, List.getD_eq_getElem?_getD, List.getElem?_eq_getElem h]
  rfl
theorem add_block (a : Addr) (n : Nat) : (a.add n).block = a.block := by unfold Addr.add; split <;> rfl
theorem add_two (a : Addr) (i j : Nat) : (a.add i).add j = a.add (i + j) := by
  unfold Addr.add
  by_cases hi : i = 0 <;> by_cases hj : j = 0 <;> simp [hi, hj, Nat.add_assoc]

/-- The slice at this address, as long as L, reads as the texts L, below block B. -/
def RdS (w : World) (B : Nat) (A : Option Addr) (L : List (List UInt8)) : Prop :=
  0 < L.length → ∃ a, A = some a ∧ a.block < B ∧ ∀ k, k < L.length → w.cell? (a.add k) = some (.string (mk (L.getD k [])))
section
variable {w w' : World} {B B' : Nat} {A : Option Addr} {L : List (List UInt8)}
theorem RdS.void (w : World) (B : Nat) (A : Option Addr) : RdS w B A [] := fun h => absurd h (Nat.lt_irrefl 0)
theorem RdS.get (h : RdS w B A L) {k : Nat} (hk : k < L.length) : ∃ a, A = some a ∧ a.block < B ∧ w.cell? (a.add k) = some (.string (mk (L.getD k []))) := by
  obtain ⟨a, e, hb, hc⟩ := h (by omega)
  exact ⟨a, e, hb, hc k hk⟩
theorem RdS.below (h : RdS w B A L) (hb : Below B w w') : RdS w' B A L := fun hp => by
  obtain ⟨a, e, hB, hc⟩ := h hp
  exact ⟨a, e, hB, fun k hk => (hb.cell (by rw [add_block]; exact hB)).trans (hc k hk)⟩
theorem RdS.more (h : RdS w B A L) (hB : B ≤ B') : RdS w B' A L := fun hp => by
  obtain ⟨a, e, hb, hc⟩ := h hp
  exact ⟨a, e, by omega, hc⟩
theorem RdS.on (h : RdS w B A L) (hb : Below B w w') (hB : B ≤ B') : RdS w' B' A L := (h.below hb).more hB
/-- The rest of a slice, from k on. -/
theorem RdS.cut (h : RdS w B A L) {k : Nat} (cap : Nat) (hc : L.length ≤ cap) : RdS w B (if cap = k then A else A.map (·.add k)) (L.drop k) := fun hp => by
  rw [List.length_drop] at hp
  obtain ⟨a, rfl, hb, hcell⟩ := h (by omega)
  rw [if_neg (by omega)]
  refine ⟨a.add k, rfl, by rw [add_block]; exact hb, fun j hj => ?_⟩
  rw [List.length_drop] at hj
  rw [add_two, hcell _ (by omega), List.getD_eq_getElem?_getD, List.getD_eq_getElem?_getD, List.getElem?_drop]
end
theorem own_rds {w : World} {base n : Nat} {e : TypeId} {v : Value} {L : List (List UInt8)} (h : w.ownsRow base e 1 v n (strCs L)) (hn : n = L.length) :
    ∃ A c, v = .slice A n c ∧ n ≤ c ∧ RdS w w.heap.size A L ∧ (0 < L.length → ∀ a, A = some a → base ≤ a.block) := by
  rcases h.2 with ⟨rfl, h0⟩ | ⟨g, cap, cur, rfl, hb, hg, hcap, _⟩
  · have hl : L.length = 0 := by omega
    subst h0
    exact ⟨none, 0, rfl, Nat.le_refl _, fun hp => absurd hp (by omega), fun hp => absurd hp (by omega)⟩
  · refine ⟨some ⟨g, 0, none⟩, cap, rfl, hcap, fun hp => ⟨_, rfl, (h.lt g rfl).2, fun k hk => ?_⟩, fun _ a ha => ?_⟩
    · exact h.cells (g := g) rfl k _ (strCs_at hk)
    · injection ha with ha
      subst ha
      exact hb
/-- One append of one text to a row of one's own: what it leaves. -/
theorem own_str {wr w1 w : World} {g k : Nat} {u v' : Value} {o : Obj} {L : List (List UInt8)} {x : ByteArray} (hO : wr.ownsRow g 9 1 u k (strCs L)) (hB : Below g w wr) (hg : w.heap.size = g)
    (hown : w1.ownsRow g 9 1 v' (k + 1) (strCs L ++ [.string x])) (hgrow : (wr.alloc o).grownBy w1 u.ownBlock) :
    w1.ownsRow g 9 1 v' (k + 1) (strCs (L ++ [x.data.toList])) ∧ Below g w w1 := by
  refine ⟨?_, ?_⟩
  · rw [strCs_cat, strCs_one, mk_data]
    exact hown
  · have hle : g ≤ wr.heap.size := by have := hB.size; omega
    exact (hB.alloc hle o).grown hgrow (by have := (Below.refl 0 wr).alloc (Nat.zero_le _) o; have := this.size; omega) (fun b hb => (hO.lt b hb).1)
end Go.Proofs.Ytihkmdojakalbaa.Strs

/- Slices of uint32: one that reads as a list of numbers (nil let in), one that the call gathered itself. No condition. -/
namespace Go.Proofs.Ytihkmdojakalbaa.Nums
open Go Go.RowKit Strs

theorem info23 : (Try.prog.info? 46).map (fun i => (i.zero, i.size, i.bytes)) = some (some (.int .u32 0), 1, 4) := by kernel_rfl
/-- The numbers as cells. -/
def numCs (L : List Nat) : List Value := L.map fun (n : Nat) => Value.int .u32 (n : Int)
theorem numCs_len (L : List Nat) : (numCs L).length = L.length := List.length_map ..
theorem numCs_at {L : List Nat} {k : Nat} (h : k < L.length) : (numCs L)[k]? = some (.int .u32 ((L.getD k 0 : Nat) : Int)) := by
  unfold numCs
  rw [List.getElem?_map, List.getElem?_eq_getElem h, List.getD_eq_getElem?_getD, List.getElem?_eq_getElem h]
  rfl
theorem num_take {L : List Nat} {k : Nat} (h : k < L.length) : L.take (k + 1) = L.take k ++ [L.getD k 0] := by
  rw [List.take_succ_eq_append_getElem h, List.getD_eq_getElem?_getD, List.getElem?_eq_getElem h]
  rfl
theorem num_drop {L : List Nat} {k : Nat} (h : k < L.length) : L.drop k = L.getD k 0 :: L.drop (k + 1) := by
  rw [List.drop_eq_getElem_cons h, List.getD_eq_getElem?_getD, List.getElem?_eq_getElem h]
  rfl

/-- The slice at this address, as long as L, reads as the numbers L, below block B. -/
def RdN (w : World) (B : Nat) (A : Option Addr) (L : List Nat) : Prop :=
  0 < L.length → ∃ a, A = some a ∧ a.block < B ∧ ∀ k, k < L.length → w.cell? (a.add k) = some (.int .u32 ((L.getD k 0 : Nat) : Int))
section
variable {w w' : World} {B B' : Nat} {A : Option Addr} {L : List Nat}
theorem RdN.void (w : World) (B : Nat) (A : Option Addr) : RdN w B A [] := fun h => absurd h (Nat.lt_irrefl 0)
theorem RdN.get (h : RdN w B A L) {k : Nat} (hk : k < L.length) : ∃ a, A = some a ∧ a.block < B ∧ w.cell? (a.add k) = some (.int .u32 ((L.getD k 0 : Nat) : Int)) := by
  obtain ⟨a, e, hb, hc⟩ := h (by omega)
  exact ⟨a, e, hb, hc k hk⟩
theorem RdN.below (h : RdN w B A L) (hb : Below B w w') : RdN w' B A L := fun hp => by
  obtain ⟨a, e, hB, hc⟩ := h hp
  exact ⟨a, e, hB, fun k hk => (hb.cell (by rw [add_block]; exact hB)).trans (hc k hk)⟩
theorem RdN.more (h : RdN w B A L) (hB : B ≤ B') : RdN w B' A L := fun hp => by
  obtain ⟨a, e, hb, hc⟩ := h hp
  exact ⟨a, e, by omega, hc⟩
theorem RdN.on (h : RdN w B A L) (hb : Below B w w') (hB : B ≤ B') : RdN w' B' A L := (h.below hb).more hB
end
theorem own_rdn {w : World} {base n : Nat} {e : TypeId} {v : Value} {L : List Nat} (h : w.ownsRow base e 1 v n (numCs L)) (hn : n = L.length) :
    ∃ A c, v = .slice A n c ∧ n ≤ c ∧ RdN w w.heap.size A L ∧ (0 < L.length → ∀ a, A = some a → base ≤ a.block) := by
  rcases h.2 with ⟨rfl, h0⟩ | ⟨g, cap, cur, rfl, hb, hg, hcap, _⟩
  · have hl : L.length = 0 := by omega
    subst h0
    exact ⟨none, 0, rfl, Nat.le_refl _, fun hp => absurd hp (by omega), fun hp => absurd hp (by omega)⟩
  · refine ⟨some ⟨g, 0, none⟩, cap, rfl, hcap, fun hp => ⟨_, rfl, (h.lt g rfl).2, fun k hk => ?_⟩, fun _ a ha => ?_⟩
    · exact h.cells (g := g) rfl k _ (numCs_at hk)
    · injection ha with ha
      subst ha
      exact hb
end Go.Proofs.Ytihkmdojakalbaa.Nums

/- Records in rows of one's own: their cells, and the rows within. No condition. -/
namespace Go.Proofs.Ytihkmdojakalbaa
open Go Go.RowKit Bytes Strs Nums RecMath

theorem info_rec : (Try.prog.info? 49).map (fun i => (i.zero, i.size, i.bytes)) = some (some (.agg #[.string ⟨#[]⟩, .int .u16 0, .int .u16 0, .int .u32 0, .slice none 0 0, .slice none 0 0, .slice none 0 0]), 7, 96) := by kernel_rfl
/-- A record's cells, with its three lists. -/
def recV (R : Rec) (v1 v2 v3 : Value) : List Value := [.string (mk R.name), .int .u16 R.kind, .int .u16 R.cls, .int .u32 R.ttl, v1, v2, v3]
/-- A record's lists are these rows. -/
structure RecIn (w : World) (g : Nat) (R : Rec) (v1 v2 v3 : Value) : Prop where
  o1 : w.ownsRow g 9 1 v1 R.names.length (strCs R.names)
  o2 : w.ownsRow g 46 1 v2 R.nums.length (numCs R.nums)
  o3 : w.ownsRow g 9 1 v3 R.texts.length (strCs R.texts)
abbrev RecZ := Rec × Value × Value × Value
def recCs (Z : List RecZ) : List Value := Z.flatMap fun z => recV z.1 z.2.1 z.2.2.1 z.2.2.2
theorem recCs_snoc (Z : List RecZ) (R : Rec) (v1 v2 v3 : Value) : recCs (Z ++ [(R, v1, v2, v3)]) = recCs Z ++ recV R v1 v2 v3 := by unfold recCs; rw [List.flatMap_append]; simp
/-- The row v is the records L. -/
def RowRecs (w : World) (g : Nat) (v : Value) (L : List Rec) : Prop :=
  ∃ Z : List RecZ, Z.map (·.1) = L ∧ w.ownsRow g 49 7 v L.length (recCs Z) ∧ ∀ z ∈ Z, RecIn w g z.1 z.2.1 z.2.2.1 z.2.2.2
section
variable {w w' w0 : World} {g g' r : Nat} {R : Rec} {v v1 v2 v3 : Value} {L : List Rec} {a s : ByteArray} {p : Int} {k : Nat}
theorem RecIn.low (h : RecIn w g R v1 v2 v3) (hg : g' ≤ g) : RecIn w g' R v1 v2 v3 := ⟨row_low h.o1 hg, row_low h.o2 hg, row_low h.o3 hg⟩
theorem RecIn.below (h : RecIn w g R v1 v2 v3) (hB : Below w.heap.size w w') : RecIn w' g R v1 v2 v3 := ⟨row_below h.o1 hB, row_below h.o2 hB, row_below h.o3 hB⟩
theorem RecIn.rdr (h : RecIn w g R v1 v2 v3) (hd : RdrAt w r a s p k) (hg : w.grownBy w' (some r)) : RecIn w' g R v1 v2 v3 :=
  ⟨row_rdr hd h.o1 hg (by decide), row_rdr hd h.o2 hg (by decide), row_rdr hd h.o3 hg (by decide)⟩
theorem RecIn.block {e2 : TypeId} {cs : Array Value} {fz : Nat × Nat} (h : RecIn w g R v1 v2 v3) (hb : w.heap[r]? = some (.cells cs e2 fz)) (hg : w.grownBy w' (some r)) (h9 : 9 ≠ e2) (h43 : 46 ≠ e2) : RecIn w' g R v1 v2 v3 :=
  ⟨h.o1.kept hg (row_ne hb h.o1 h9), h.o2.kept hg (row_ne hb h.o2 h43), h.o3.kept hg (row_ne hb h.o3 h9)⟩
theorem RecIn.row {n : Nat} {xs : List Value} {q size : Nat} {e2 : TypeId} (h : RecIn w g R v1 v2 v3) (h2 : w.ownsRow q e2 size v n xs) (hA : Below w.heap.size w w0) (hg : w0.grownBy w' v.ownBlock) (h9 : e2 ≠ 9) (h43 : e2 ≠ 46) : RecIn w' g R v1 v2 v3 :=
  ⟨row_row h.o1 h2 h9 hA hg, row_row h.o2 h2 h43 hA hg, row_row h.o3 h2 h9 hA hg⟩
theorem RowRecs.nil (w : World) (g : Nat) : RowRecs w g (.slice none 0 0) [] := ⟨[], rfl, World.ownsRow_nil _ _ _ _, fun _ h => by cases h⟩
theorem RowRecs.low (h : RowRecs w g v L) (hg : g' ≤ g) : RowRecs w g' v L := by
  obtain ⟨Z, h1, h2, h3⟩ := h
  exact ⟨Z, h1, row_low h2 hg, fun z hz => (h3 z hz).low hg⟩
theorem RowRecs.below (h : RowRecs w g v L) (hB : Below w.heap.size w w') : RowRecs w' g v L := by
  obtain ⟨Z, h1, h2, h3⟩ := h
  exact ⟨Z, h1, row_below h2 hB, fun z hz => (h3 z hz).below hB⟩
theorem RowRecs.rdr (h : RowRecs w g v L) (hd : RdrAt w r a s p k) (hg : w.grownBy w' (some r)) : RowRecs w' g v L := by
  obtain ⟨Z, h1, h2, h3⟩ := h
  exact ⟨Z, h1, row_rdr hd h2 hg (by decide), fun z hz => (h3 z hz).rdr hd hg⟩
theorem RowRecs.block {e2 : TypeId} {cs : Array Value} {fz : Nat × Nat} (h : RowRecs w g v L) (hb : w.heap[r]? = some (.cells cs e2 fz)) (hg : w.grownBy w' (some r)) (h9 : 9 ≠ e2) (h43 : 46 ≠ e2) (h47 : 49 ≠ e2) : RowRecs w' g v L := by
  obtain ⟨Z, h1, h2, h3⟩ := h
  exact ⟨Z, h1, h2.kept hg (row_ne hb h2 h47), fun z hz => (h3 z hz).block hb hg h9 h43⟩
theorem RowRecs.drewN (h : RowRecs w g v L) (n : Nat) : RowRecs (w.drewN n) g v L := h.below ⟨rfl, rfl, rfl, Nat.le_refl _, fun _ _ => rfl⟩
theorem RowRecs.slice (h : RowRecs w g v L) : ∃ A m c, v = .slice A m c := by
  obtain ⟨Z, h1, h2, h3⟩ := h
  exact row_slice h2
/-- One more record. -/
theorem RowRecs.snoc {v' : Value} {o : Obj} (h : RowRecs w g v L) (hr : RecIn w g R v1 v2 v3) (Z : List RecZ) (h1 : Z.map (·.1) = L) (h2 : w.ownsRow g 49 7 v L.length (recCs Z)) (h3 : ∀ z ∈ Z, RecIn w g z.1 z.2.1 z.2.2.1 z.2.2.2)
    (hown : w'.ownsRow g 49 7 v' (L.length + 1) (recCs Z ++ recV R v1 v2 v3)) (hgrow : (w.alloc o).grownBy w' v.ownBlock) : RowRecs w' g v' (L ++ [R]) := by
  have _ := h
  have hA : Below w.heap.size w (w.alloc o) := (Below.refl _ _).alloc (Nat.le_refl _) _
  refine ⟨Z ++ [(R, v1, v2, v3)], by rw [List.map_append, h1]; rfl, ?_, fun z hz => ?_⟩
  · rw [recCs_snoc, List.length_append]
    exact hown
  · rcases List.mem_append.1 hz with hz | hz
    · exact (h3 z hz).row h2 hA hgrow (by decide) (by decide)
    · rw [List.mem_singleton] at hz
      subst hz
      exact hr.row h2 hA hgrow (by decide) (by decide)
end
end Go.Proofs.Ytihkmdojakalbaa

/- The contracts of a message's reader: the next bytes, what is left, the next text behind its length. For texts of at most 10^6 bytes. -/
namespace Go.Proofs.Ytihkmdojakalbaa
open Go.RowKit NumMath

theorem part_rdr (a s t : ByteArray) (r p n k : Nat) (w : World) (h : RdrAt w r a s p k) (hs : s.size ≤ 1000000) (hi : p + n ≤ s.size) (ht : Hid (s.extract p (p + n) = t)) :
    Calls Try.prog 104 #[.string s, .int .i64 p, .int .i64 n] w fun e w' => e = .returned (.tuple #[.string t, .bool true]) ∧ w'.cell? ⟨r, 1, none⟩ = some (.string s) ∧ w'.cell? ⟨r, 2, none⟩ = some (.int .i64 p) ∧ Hid (RdrAt w' r a s p k) ∧ Below w.heap.size w w' :=
  (part_yes s p n w hs hi).mono fun _ _ ⟨he, hB⟩ => ⟨by rw [he, ht.out], (h.held hB).c1, (h.held hB).c2, h.held hB, hB⟩

theorem text_yes (a s t : ByteArray) (r p n k : Nat) (w : World) (h : RdrAt w r a s p k) (hp : p + n ≤ s.size) (hs : s.size ≤ 1000000) (ht : Hid (s.extract p (p + n) = t)) :
    Calls Try.prog 86 #[.pointer (some ⟨r, 0, none⟩), .int .i64 n] w fun e w' => e = .returned (.string t) ∧ RdrAt w' r a s (p + n) k ∧ w.grownBy w' (some r) := by
  have h1 := h.c1
  have h2 := h.c2
  have H := Lib.hid h
  clear h
  go_enter Try.func86, Try.ntmps86
  go_wp2_with fail
  go_region_held3 (fun w' => w'.cell? ⟨r, 1, none⟩ = some (.string s) ∧ w'.cell? ⟨r, 2, none⟩ = some (.int .i64 p)) (go_keep)
    (first | (go_at_call 104; refine (part_rdr a s t r p n k _ ?_ hs hp ht).mono ?_; exact H.out; rintro e w1 ⟨rfl, hk1, hk2, hK, hB⟩))
  have hfz := hK.out.f2 2
  have hK2 := Lib.hid (hK.out.set (p + n))
  go_wp2_with fail
  go_ret
  refine ⟨rfl, hK2.out, ?_⟩
  have hB' : Below w.heap.size w w1 := ((Below.refl _ w).drew).trans hB
  exact only_setCell (g := r) (only_of_below hB' _) (p := ⟨r, 2, none⟩) (.inl rfl) _

theorem text_no (a s : ByteArray) (r k : Nat) (p : Int) (n : Nat) (w : World) (h : RdrAt w r a s p k) (hs : s.size ≤ 1000000) (hn : n ≤ 1000000) (ha1 : -9223372036854775808 ≤ p) (ha : p ≤ 9223372036854775807)
    (hno : Hid (holdsB s.size p n = false)) :
    Calls Try.prog 86 #[.pointer (some ⟨r, 0, none⟩), .int .i64 n] w fun e w' => e = gave k ∧ ∃ m, w' = w.drewN m := by
  have h1 := h.c1
  have h2 := h.c2
  have h3 := h.c3
  clear h
  go_enter Try.func86, Try.ntmps86
  go_wp2_with fail
  go_quiet ((go_at_call 104; exact quiet_left (part_no s p n _ hs (by omega) (by omega) (by omega) (by omega) hno.out)))
  go_wp2_with fail
  exact ⟨rfl, rfl, _, rfl⟩

theorem left_any (a s : ByteArray) (r p k : Nat) (w : World) (h : RdrAt w r a s p k) (hp : p ≤ s.size) (hs : s.size ≤ 1000000) :
    Calls Try.prog 51 #[.pointer (some ⟨r, 0, none⟩)] w fun e w' => e = .returned (.int .i64 ((s.size : Int) - p)) ∧ ∃ n, w' = w.drewN n := by
  have h1 := h.c1
  have h2 := h.c2
  clear h
  go_enter Try.func51, Try.ntmps51
  go_wp2_with fail
  go_quiet (fail)
  go_wp2_with fail
  go_ret
  exact ⟨rfl, _, rfl⟩
end Go.Proofs.Ytihkmdojakalbaa
