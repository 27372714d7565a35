/- Texts of one proof, one behind the other: WrAt, NumPut, WrNumber, WrName, Builder, RecNumbers, RecPlain. -/
import Derived.Test.YtpmmjmnleoicjaaProg
import Derived.Test.YtpmmjmnleoicjaaBytes
import Derived.Test.YtpmmjmnleoicjaaWriteBytesProofG2
import Derived.Test.YtpmmjmnleoicjaaGrown
import Derived.Test.YtpmmjmnleoicjaaOwnRow
import Derived.Test.YtpmmjmnleoicjaaNumBe
import Derived.Test.YtpmmjmnleoicjaaNameMath
import Derived.Test.YtpmmjmnleoicjaaNmMath
import Derived.Test.YtpmmjmnleoicjaaStrs
import Derived.Test.YtpmmjmnleoicjaaNums
import Derived.Test.YtpmmjmnleoicjaaRecMath
import Derived.Test.YtpmmjmnleoicjaaWriteBytesProofG4
import Derived.Test.YtpmmjmnleoicjaaShelf
import Derived.Test.YtpmmjmnleoicjaaRecAt
import Derived.Test.YtpmmjmnleoicjaaRecCheck
import Derived.Test.YtpmmjmnleoicjaaClone
import Derived.Test.YtpmmjmnleoicjaaHeld
import Derived.WalkKit
import Derived.Lib.Hide
import Derived.Laws.Rows
import Derived.Maps.Own
import Derived.Maps.OwnSet
import Derived.StringKeys
import Derived.Deep.AppendLies
import Derived.Laws.MakeOwn
import Derived.Laws.CopyOwn
import Derived.Lib.UnsafeStr
import Derived.Lib.BufferWrite
import Derived.Lib.SlBytesRow
import Derived.Outline
import Derived.IntWalk
import Derived.WalkSpells
import Derived.WalkLawsBesides
import Derived.Laws.AppendOwn
import Derived.RegionTactic
import Derived.Deep.RegionLaw
import Derived.Deep.CutRange
import Derived.Maps.OwnOps
import Derived.Lib.Builder
import Derived.Lib.OthersKept
import Derived.Lib.FrozenHead
import Derived.Lib.AppendStr
import Derived.Laws.Externs
import Derived.Deep.RegionHeld3
import Derived.Deep.DeepCutAuto
import Derived.Deep.Draws

/- The writer of messages in memory: what is written, the map of what is known; what a call of its leaves as it was. No condition. -/
namespace Go.Proofs.Ytpmmjmnleoicjaa
open Go Go.RowKit Go.Maps Bytes WrMath

theorem key_law : Keyed Try.prog 9 := string_keyed Try.underlying9
theorem zero_int (w : World) : (zeroValue 3).run Try.prog w = .ok (.int .i64 0) w := by kernel_rfl
/-- The map reads as what is known. -/
def MapIs (W : World) (bm : Nat) (K : Known) : Prop := ∃ (n : Nat) (D : DataW Unit), W.ownsMap Try.prog 9 (plainElem Try.prog 3) bm n D ∧ n ≤ K.length ∧
  ∀ s, Maps.has D (.string s) = (fnd K s).isSome ∧ D.atKey (.string s) (.lit (.int .i64 0)) = .lit (.int .i64 ((fnd K s).getD 0 : Nat))
theorem mapIs_made (W : World) : MapIs (W.alloc (.map #[] 0)) W.heap.size [] := ⟨0, _, World.ownsMap_made W Try.prog 9 _, Nat.le_refl _, fun _ => ⟨rfl, rfl⟩⟩
section
variable {W W' : World} {r bm g k : Nat} {K : Known} {s : List UInt8} {p : Nat}
theorem MapIs.put (h : MapIs W bm K) (hf : fnd K s = none) (hs : s.length ≤ maxLen) (hK : K.length < maxLen) (hp : p ≤ 1000000) : ∃ W', (Instr.mapUpdate 73 (.map (some bm)) (.string (mk s)) (.int .i64 p)).run Try.prog W = .ok () W' ∧ MapIs W' bm (K ++ [(s, p)]) ∧ W.grownBy W' (some bm) := by
  obtain ⟨n, D, h1, h2, h3⟩ := h
  have hkey : keyOf Try.prog 9 (.string (mk s)) = some (.string s) := WideMaps.keyOf_string_mk Try.underlying9 (by rw [mk_size]; exact hs)
  obtain ⟨W', hrun, ho, hg⟩ := h1.update key_law Try.underlying73 (Nat.lt_of_le_of_lt h2 hK) hkey (plainElem_int Try.underlying3 (WalkArith.wf_i64 (by omega : -9223372036854775808 ≤ (p : Int) ∧ (p : Int) ≤ 9223372036854775807)))
  refine ⟨W', hrun, ⟨n + 1, _, ho, by rw [List.length_append]; simp only [List.length_singleton]; omega, fun t => ?_⟩, hg⟩
  rw [fnd_app]
  by_cases ht : t = s
  · subst ht
    rw [hf, has_put_same (h1.isMap) (by trivial), atKey_put_same (h1.isMap) (by trivial)]
    simp [fnd]
  · have hne : Lit.string t ≠ .string s := fun e => ht (by injection e)
    rw [has_put_other hne, atKey_put_other hne, (h3 t).1, (h3 t).2]
    have : fnd [(s, p)] t = none := by show (if s = t then _ else _) = _; rw [if_neg (fun e => ht e.symm)]; rfl
    rw [this, Option.or_none]
    exact ⟨rfl, rfl⟩
theorem MapIs.lt (h : MapIs W bm K) : bm < W.heap.size := by obtain ⟨n, D, h1, _⟩ := h; exact h1.lt
theorem MapIs.kept (h : MapIs W bm K) {row : Option Nat} (hg : W.grownBy W' row) (hne : some bm ≠ row) : MapIs W' bm K := by obtain ⟨n, D, h1, h2⟩ := h; exact ⟨n, D, h1.kept hg hne, h2⟩
theorem MapIs.obj (h : MapIs W bm K) : ∃ es c, W.heap[bm]? = some (.map es c) := by obtain ⟨n, D, ⟨es, c, hb, _⟩, _⟩ := h; exact ⟨es, c, hb⟩
end
/-- The writer at block r, from block g on: what is written is v's row, what is known is block bm's. -/
structure WrAt (W : World) (r bm g : Nat) (s : Wr) (v : Value) : Prop where
  rd : W.heap[r]? = some (.cells #[v, .map (some bm)] 76 (0, 0))
  own : W.ownsRow g 5 1 v s.1.length (Bytes.byteCells s.1)
  map : MapIs W bm s.2
  gr : g ≤ r
  gb : g ≤ bm
/-- All else is as it was. -/
structure Wrote (r bm : Nat) (v : Value) (W : World) (v' : Value) (W' : World) : Prop where
  os : W'.os = W.os
  tape : W'.tape = W.tape
  output : W'.output = W.output
  size : W.heap.size ≤ W'.heap.size
  block : ∀ k, k < W.heap.size → k ≠ r → k ≠ bm → some k ≠ v.ownBlock → W'.heap[k]? = W.heap[k]?
  own : v'.ownBlock = v.ownBlock ∨ ∀ b, v'.ownBlock = some b → W.heap.size ≤ b
section
variable {W W' W2 : World} {r bm g k : Nat} {s s' : Wr} {v v' v2 : Value}
theorem WrAt.c0 (h : WrAt W r bm g s v) : W.cell? ⟨r, 0, none⟩ = some v := cell_of_row W r 0 _ _ _ h.rd
theorem WrAt.c1 (h : WrAt W r bm g s v) : W.cell? ⟨r, 1, none⟩ = some (.map (some bm)) := cell_of_row W r 1 _ _ _ h.rd
theorem WrAt.fz (h : WrAt W r bm g s v) (i : Nat) : W.frozen? ⟨r, i, none⟩ = false := by have := h.rd; simp [World.frozen?, this]
theorem WrAt.lt (h : WrAt W r bm g s v) : r < W.heap.size := (Array.getElem?_eq_some_iff.1 h.rd).1
theorem WrAt.ne (h : WrAt W r bm g s v) : r ≠ bm := fun e => by
  obtain ⟨es, c, hb⟩ := h.map.obj
  have := h.rd
  rw [e, hb] at this
  cases this
theorem WrAt.drewN (h : WrAt W r bm g s v) (n : Nat) : WrAt (W.drewN n) r bm g s v := ⟨h.rd, row_below h.own ⟨rfl, rfl, rfl, Nat.le_refl _, fun _ _ => rfl⟩, h.map.kept (row := none) ⟨rfl, rfl, rfl, Nat.le_refl _, fun _ _ _ => rfl⟩ (by simp), h.gr, h.gb⟩
theorem WrAt.drew (h : WrAt W r bm g s v) : WrAt W.drew r bm g s v := h.drewN 1
theorem WrAt.below (h : WrAt W r bm g s v) (hB : Below W.heap.size W W') : WrAt W' r bm g s v :=
  ⟨(hB.block r h.lt).trans h.rd, row_below h.own hB, h.map.kept (row := none) ⟨hB.os, hB.tape, hB.output, hB.size, fun k hk _ => hB.block k hk⟩ (by simp), h.gr, h.gb⟩
theorem WrAt.slice (h : WrAt W r bm g s v) : ∃ A c, v = .slice A s.1.length c := by
  rcases h.own.2 with ⟨rfl, h0⟩ | ⟨b, cap, cur, rfl, _⟩
  · exact ⟨none, 0, by rw [h0]⟩
  · exact ⟨_, _, rfl⟩
theorem Wrote.refl (r bm : Nat) (v : Value) (W : World) : Wrote r bm v W v W := ⟨rfl, rfl, rfl, Nat.le_refl _, fun _ _ _ _ _ => rfl, .inl rfl⟩
theorem Wrote.trans (h : Wrote r bm v W v' W') (k : Wrote r bm v' W' v2 W2) : Wrote r bm v W v2 W2 := by
  refine ⟨k.os.trans h.os, k.tape.trans h.tape, k.output.trans h.output, Nat.le_trans h.size k.size, fun i hi h1 h2 h3 => ?_, ?_⟩
  · refine (k.block i (Nat.lt_of_lt_of_le hi h.size) h1 h2 ?_).trans (h.block i hi h1 h2 h3)
    rcases h.own with e | e
    · rw [e]; exact h3
    · intro e2; have := e i e2.symm; omega
  · rcases k.own with e | e
    · rw [e]; exact h.own
    · exact .inr fun b hb => Nat.le_trans h.size (e b hb)
theorem Wrote.below (h : Wrote r bm v W v' W') (hB : Below W'.heap.size W' W2) : Wrote r bm v W v' W2 :=
  ⟨hB.os.trans h.os, hB.tape.trans h.tape, hB.output.trans h.output, Nat.le_trans h.size hB.size, fun i hi h1 h2 h3 => (hB.block i (Nat.lt_of_lt_of_le hi h.size)).trans (h.block i hi h1 h2 h3), h.own⟩
theorem Wrote.ahead (hB : Below W.heap.size W W') (h : Wrote r bm v W' v' W2) : Wrote r bm v W v' W2 :=
  ⟨h.os.trans hB.os, h.tape.trans hB.tape, h.output.trans hB.output, Nat.le_trans hB.size h.size, fun i hi h1 h2 h3 => (h.block i (Nat.lt_of_lt_of_le hi hB.size) h1 h2 h3).trans (hB.block i hi), h.own.imp id fun e b hb => Nat.le_trans hB.size (e b hb)⟩
theorem Wrote.to_below (h : Wrote r bm v W v' W') (hw : WrAt W r bm g s v) (hg : g ≤ W.heap.size) : Below g W W' :=
  ⟨h.os, h.tape, h.output, h.size, fun k hk => h.block k (by omega) (by have := hw.gr; omega) (by have := hw.gb; omega) (fun e => by have := (hw.own.lt k e.symm).1; omega)⟩
/-- A block of another kind stands. -/
theorem Wrote.cells (h : Wrote r bm v W v' W') (hw : WrAt W r bm g s v) {cs : Array Value} {t : TypeId} {fz : Nat × Nat} (hk : W.heap[k]? = some (.cells cs t fz)) (h1 : t ≠ 76) (h2 : 5 ≠ t) : W'.heap[k]? = some (.cells cs t fz) := by
  refine (h.block k (Array.getElem?_eq_some_iff.1 hk).1 (fun e => ?_) (fun e => ?_) ?_).trans hk
  · subst e
    have := hw.rd
    rw [hk] at this
    injection this with this
    injection this with _ this
    exact h1 this
  · subst e
    obtain ⟨es, c, hb⟩ := hw.map.obj
    rw [hk] at hb
    cases hb
  · rcases row_ne hk hw.own h2 with e | e
    · rw [e]; intro x; cases x
    · exact fun x => e x.symm
/-- A row of other elements stands. -/
theorem Wrote.row (h : Wrote r bm v W v' W') (hw : WrAt W r bm g s v) {q n size : Nat} {t : TypeId} {u : Value} {xs : List Value} (hu : W.ownsRow q t size u n xs) (h1 : t ≠ 76) (h2 : 5 ≠ t) : W'.ownsRow q t size u n xs := by
  refine ⟨hu.1, ?_⟩
  rcases hu.2 with h0 | ⟨b, cap, cur, rfl, hb, hgg, rest⟩
  · exact .inl h0
  · exact .inr ⟨b, cap, cur, rfl, hb, h.cells hw hgg h1 h2, rest⟩
/-- A store of what is written into the writer's block. -/
theorem WrAt.stored (h : WrAt W r bm g s v) {out : List UInt8} (hown : W'.ownsRow g 5 1 v' out.length (Bytes.byteCells out)) (hB : Below W.heap.size W W2) (hg : W2.grownBy W' v.ownBlock) (hl : v.ownBlock = v'.ownBlock ∨ ∀ b, v'.ownBlock = some b → W.heap.size ≤ b) :
    WrAt (W'.setCell ⟨r, 0, none⟩ v') r bm g (out, s.2) v' ∧ Wrote r bm v W v' (W'.setCell ⟨r, 0, none⟩ v') ∧ W'.cell? ⟨r, 0, none⟩ = some v ∧ W'.frozen? ⟨r, 0, none⟩ = false := by
  have hr : W'.heap[r]? = some (.cells #[v, .map (some bm)] 76 (0, 0)) := by
    refine (hg.block r (Nat.lt_of_lt_of_le h.lt hB.size) ?_).trans ((hB.block r h.lt).trans h.rd)
    rcases row_ne h.rd h.own (by decide) with e | e
    · rw [e]; intro x; cases x
    · exact fun x => e x.symm
  have hm2 : MapIs W2 bm s.2 := h.map.kept (row := none) ⟨hB.os, hB.tape, hB.output, hB.size, fun k hk _ => hB.block k hk⟩ (by simp)
  have hm : MapIs W' bm s.2 := hm2.kept hg (fun e => by
    obtain ⟨es, c, hb⟩ := h.map.obj
    rcases h.own.2 with ⟨rfl, _⟩ | ⟨b, cap, cur, rfl, _, hbb, _⟩
    · cases e
    · injection e with e
      simp only at e
      subst e
      rw [hb] at hbb
      cases hbb)
  have hgs := only_setCell (grown_refl W' (some r)) (p := ⟨r, 0, none⟩) (.inl rfl) v'
  refine ⟨⟨?_, hown.kept hgs (row_ne hr hown (by decide)), hm.kept hgs (fun e => by injection e with e; exact h.ne e.symm), h.gr, h.gb⟩, ⟨?_, ?_, ?_, ?_, fun k hk h1 h2 h3 => ?_, ?_⟩, cell_of_row W' r 0 _ _ _ hr, by simp [World.frozen?, hr]⟩
  · simp [World.setCell, Array.getElem?_modify, hr]
  · exact hg.os.trans hB.os
  · exact hg.tape.trans hB.tape
  · exact hg.output.trans hB.output
  · simp only [World.setCell, Array.size_modify]; exact Nat.le_trans hB.size hg.size
  · refine (Below.heap_setCell _ _ _ _ (by simpa using h1)).trans ((hg.block k (Nat.lt_of_lt_of_le hk hB.size) h3).trans (hB.block k hk))
  · rcases hl with e | e
    · exact .inl e.symm
    · exact .inr e
/-- A store into the map. -/
theorem WrAt.mapped (h : WrAt W r bm g s v) {K : Known} (hm : MapIs W' bm K) (hg : W.grownBy W' (some bm)) : WrAt W' r bm g (s.1, K) v ∧ Wrote r bm v W v W' := by
  refine ⟨⟨(grown_block hg h.lt h.ne).trans h.rd, ?_, hm, h.gr, h.gb⟩, ⟨hg.os, hg.tape, hg.output, hg.size, fun k hk h1 h2 h3 => hg.block k hk (fun e => by injection e with e; exact h2 e), .inl rfl⟩⟩
  refine h.own.kept hg ?_
  obtain ⟨es, c, hb⟩ := h.map.obj
  rcases h.own.2 with ⟨rfl, _⟩ | ⟨b, cap, cur, rfl, _, hbb, _⟩
  · exact .inl rfl
  · refine .inr fun e => ?_
    injection e with e
    simp only at e
    subst e
    rw [hb] at hbb
    cases hbb
end
end Go.Proofs.Ytpmmjmnleoicjaa

/- The contract of num's Put: bytes with a number's lowest bytes behind them, big-endian, in new memory; for sizes from 0 to 8. -/
namespace Go.Proofs.Ytpmmjmnleoicjaa
open Go.RowKit
open Bytes (info5)

theorem block_of_add (a : Addr) (n : Nat) : (a.add n).block = a.block := by unfold Addr.add; split <;> rfl
/-- A slice of bytes that came in reads as the bytes l. -/
def RdB (w : World) (B : Nat) (a : Option Addr) (l : List UInt8) : Prop :=
  0 < l.length → ∃ x, a = some x ∧ x.block < B ∧ ∀ i v, (Lib.byteCells l)[i]? = some v → w.cell? (x.add i) = some v

theorem make_bytes (L : Nat) (hL : L ≤ 281474976710656) : ∃ M : List Value, M.length = L ∧ ∀ W : World, (Instr.makeSlice 74 (.int .i64 (L : Int)) (.int .i64 (L : Int))).run Try.prog W = .ok (.slice (some ⟨W.heap.size, 0, none⟩) L L) (W.alloc (.cells M.toArray 5)) := by
  obtain ⟨i0, hi, hz0, hz1, hz2⟩ := info_parts info5
  refine ⟨(madeCells (Value.int .u8 0).cells (((L : Nat) : Int).toNat * i0.size)).toList, ?_, fun W => ?_⟩
  · rw [Array.length_toList, size_madeCells, hz1]; simp
  · have h := run_make (P := Try.prog) W 74 5 i0 (.int .u8 0) Try.underlying74 hi hz0 .i64 .i64 (L : Int) (L : Int) (by omega) (by omega) (by rw [hz2]; omega) (by omega)
    simpa using h

/-- Behind j rounds: the row of L cells, its first ones C, its last j the number's lowest bytes. -/
def PutRel (W : World) (g L m : Nat) (C : List Value) (n j : Nat) : Prop :=
  ∃ cs : List Value, cs.length = L ∧ W.heap[g]? = some (.cells cs.toArray 5 (0, 0)) ∧ cs.take m = C ∧ cs.drop (L - j) = Lib.byteCells (beTail n j)
theorem putRel_start {W : World} {g m k n : Nat} {M C : List Value} (hM : M.length = m + k) (hC : C.length = m) (h : W.heap[g]? = some (.cells (splice M 0 C).toArray 5 (0, 0))) : PutRel W g (m + k) m C n 0 := by
  refine ⟨_, ?_, h, ?_, ?_⟩
  · rw [length_splice _ _ _ (by omega), hM]
  · simp only [splice, List.take_zero, List.nil_append]
    rw [List.take_append_of_le_length (by omega), List.take_of_length_le (by omega)]
  · rw [List.drop_of_length_le (by rw [length_splice _ _ _ (by omega), hM]; omega)]; simp [beTail, Lib.byteCells]
theorem putRel_cell {W : World} {g L m n j : Nat} {C : List Value} (h : PutRel W g L m C n j) (p : Nat) (hp : p < L) : (∃ v, W.cell? ⟨g, p, none⟩ = some v) ∧ W.frozen? ⟨g, p, none⟩ = false := by
  obtain ⟨cs, hL, hh, _⟩ := h
  refine ⟨⟨cs[p]'(by omega), ?_⟩, ?_⟩
  · rw [cell_of_row W g p _ _ _ hh]; simp [hL, hp]
  · simp [World.frozen?, hh]
theorem putRel_step {W : World} {g L m n j p x : Nat} {C : List Value} (h : PutRel W g L m C n j) (hx : x = n / 256 ^ j) (hp : p + 1 + j = L) (hm : m ≤ p) :
    PutRel (W.setCell ⟨g, p, none⟩ (.int .u8 ((x : Int) % 256))) g L m C n (j + 1) := by
  obtain ⟨cs, hL, hh, ht, hd⟩ := h
  refine ⟨cs.set p (.int .u8 ((x : Int) % 256)), by simpa using hL, ?_, ?_, ?_⟩
  · simp [World.setCell, Array.getElem?_modify, hh]
  · rw [List.take_set_of_le hm, ht]
  · rw [show L - (j + 1) = p from by omega]
    rw [show L - j = p + 1 from by omega] at hd
    rw [List.drop_set, if_neg (by omega), Nat.sub_self, List.drop_eq_getElem_cons (show p < cs.length by omega), List.set_cons_zero, hd]
    simp only [beTail, Lib.byteCells, List.map_cons]
    congr 2
    rw [UInt8.toNat_ofNat', ← hx]
    omega
theorem putRel_end {W : World} {g m k n : Nat} {C : List Value} {l : List UInt8} (hC : C = Lib.byteCells l) (hl : m = l.length) (h : PutRel W g (m + k) m C n k) : W.heap[g]? = some (.cells (Lib.byteCells (l ++ beTail n k)).toArray 5 (0, 0)) := by
  obtain ⟨cs, hL, hh, ht, hd⟩ := h
  rw [hh]
  have e : cs = Lib.byteCells (l ++ beTail n k) := by
    rw [← List.take_append_drop m cs, ht, show m = m + k - k from by omega, hd, hC]
    simp [Lib.byteCells]
  rw [e]

set_option maxHeartbeats 1000000 in
theorem put_any (a0 : Option Addr) (cap0 : Nat) (l : List UInt8) (n k : Nat) (w : World) (hk : k ≤ 8) (hr : RdB w w.heap.size a0 l) (hl : l.length ≤ 140737488351232) :
    Calls Try.prog 112 #[.slice a0 l.length cap0, .int .u64 n, .int .i64 k] w fun e w' => e = .returned (.slice (some ⟨w.heap.size, 0, none⟩) (l.length + k) (l.length + k)) ∧ Below w.heap.size w w' ∧ w.heap.size < w'.heap.size ∧ w'.heap[w.heap.size]? = some (.cells (Lib.byteCells (l ++ beTail n k)).toArray 5 (0, 0)) := by
  obtain ⟨m, hm⟩ : ∃ m, m = l.length := ⟨_, rfl⟩
  rw [← hm] at hl ⊢
  obtain ⟨M, hM, hmk0⟩ := make_bytes (m + k) (by omega)
  have hmk : ∀ W : World, (Instr.makeSlice 74 (.int .i64 ((m : Int) + (k : Int))) (.int .i64 ((m : Int) + (k : Int)))).run Try.prog W = .ok (.slice (some ⟨W.heap.size, 0, none⟩) (m + k) (m + k)) (W.alloc (.cells M.toArray 5)) := fun W => by
    have h := hmk0 W
    rwa [Int.natCast_add] at h
  clear hmk0
  have MM := Lib.hid hm; clear hm
  have HM := Lib.hid hM; clear hM
  have HR := Lib.hid hr; clear hr
  have e8 : min (k : Int) 8 = (k : Int) := by omega
  obtain ⟨C, hC⟩ : ∃ C, C = Lib.byteCells l := ⟨_, rfl⟩
  have HC := Lib.hid hC; clear hC
  go_enter Try.func112, Try.ntmps112
  go_wp2_with (with_reducible refine wpList_copy_splice rfl (.tmp 17) (.tmp 18) 74 74 rfl 5 Try.underlying74 (by kernel_rfl) _ _ _ _ _ _ rfl rfl w.heap.size 0 M 5 ?c1 C ?c2 ?c3 ?c4 ?c5 w.heap.size w ?c6 (Nat.le_refl _) ?_)
  case c1 => exact heap_alloc_new w _
  case c2 => rw [HC.out, Lib.byteCells_length, ← MM.out]; exact (Nat.min_eq_left (by omega)).symm
  case c3 =>
    intro hpos
    rw [HC.out, Lib.byteCells_length] at hpos
    obtain ⟨x, ha, hx, hc⟩ := HR.out hpos
    refine ⟨x, ha, fun j v hv => ?_⟩
    rw [HC.out] at hv
    rw [World.cell?_alloc_lt w _ _ (by rw [block_of_add]; exact hx)]
    exact hc j v hv
  case c4 => rw [HC.out, Lib.byteCells_length, HM.out, ← MM.out]; omega
  case c5 => rw [HC.out]; exact Lib.byteCells_one l
  case c6 => exact (Below.refl _ _).alloc (Nat.le_refl _) _
  intro W2 HG HB
  have HP : Hid (PutRel W2 w.heap.size (m + k) m C n 0) := putRel_start HM.out (by rw [HC.out, Lib.byteCells_length]; exact MM.out.symm) HG.out
  have hsz : w.heap.size < W2.heap.size := by
    rcases Nat.lt_or_ge w.heap.size W2.heap.size with h | h
    · exact h
    · have := HG.out; rw [Array.getElem?_eq_none h] at this; cases this
  clear HG hmk
  go_wp2
  go_loopw [8, 1] (fun i v wr => ∃ (j x : Nat) (q : Int), j ≤ k ∧ Hid (x = n / 256 ^ j) ∧ Hid (q = (m : Int) + k - 1 - j) ∧ i = .int .i64 q ∧ v = .int .u64 (x : Int) ∧ Hid (PutRel wr w.heap.size (m + k) m C n j) ∧ Below w.heap.size w wr ∧ w.heap.size < wr.heap.size) (fun i _ _ => (intOf i + 1).toNat)
  case atStart => exact ⟨0, n, (m : Int) + k - 1, Nat.zero_le _, Lib.hid (by simp), Lib.hid (by simp), rfl, rfl, HP, HB, hsz⟩
  case round =>
    obtain ⟨j, x, q, hj, hx, hq, rfl, rfl, hP, hB, hS⟩ := hrel
    have hqq := hq.out
    by_cases hlt : (m : Int) ≤ q
    · obtain ⟨p, rfl⟩ := Int.eq_ofNat_of_zero_le (show 0 ≤ q by omega)
      have hp1 : p + 1 + j = m + k := by omega
      have hp2 : (p : Int) < (m : Int) + k := by omega
      have hpS := putRel_step hP.out hx.out hp1 (by omega)
      obtain ⟨⟨v0, hv0⟩, hfz⟩ := putRel_cell hP.out p (by omega)
      have hdiv : x / 256 = n / 256 ^ (j + 1) := by
        rw [Nat.pow_succ, ← Nat.div_div_eq_div_mul, ← hx.out]
      have D := Lib.hid hdiv
      have PS := Lib.hid hpS
      have P1 := Lib.hid hp1
      clear hdiv hpS hp1 hqq hx
      go_wp2
      go_roundw
      case rel => exact ⟨j + 1, x / 256, (p : Int) - 1, by have := P1.out; omega, D, Lib.hid (by have := P1.out; omega), rfl, by go_num, PS, hB.setCell (Nat.le_refl _) _, by simpa [World.setCell] using hS⟩
      case measure => simp [intOf]
    · have hjk : j = k := by omega
      subst hjk
      have E := putRel_end HC.out MM.out hP.out
      have EE := Lib.hid E
      clear E hqq
      go_wp2
      go_ret
      exact ⟨rfl, hB, hS, EE.out⟩
end Go.Proofs.Ytpmmjmnleoicjaa

/- The contracts of the writer's numbers. For at most 10^9 bytes. -/
namespace Go.Proofs.Ytpmmjmnleoicjaa
open Go.RowKit Bytes WrMath

/-- What a call of the writer's leaves: so much is written, all else is as it was. -/
def WrEnd (w : World) (r bm g : Nat) (s' : Wr) (v : Value) (e : Ending) (w' : World) : Prop := ∃ v', e = .returned (.tuple #[]) ∧ WrAt w' r bm g s' v' ∧ Wrote r bm v w v' w'
theorem libCells (l : List UInt8) : Lib.byteCells l = Bytes.byteCells l := rfl
set_option maxHeartbeats 2000000 in
set_option maxRecDepth 100000 in
theorem number_any (n size r bm g : Nat) (s : Wr) (v : Value) (w : World) (h : WrAt w r bm g s v) (hg : g ≤ w.heap.size) (hn : n < 4294967296) (hs1 : 1 ≤ size) (hs : size ≤ 4) (hl : s.1.length ≤ 1000000000) :
    Calls Try.prog 84 #[.pointer (some ⟨r, 0, none⟩), .int .u32 n, .int .i64 size] w (WrEnd w r bm g (numW n size s) v) := by
  obtain ⟨A, c, rfl⟩ := h.slice
  obtain ⟨m, hm⟩ : ∃ m, s.1.length = m := ⟨_, rfl⟩
  rw [hm] at hl h ⊢
  have HW := Lib.hid h
  have HWD := Lib.hid h.drew
  have HM := Lib.hid hm
  have c0 := HWD.out.c0
  have HP := Lib.hid (put_any none 0 [] n size w.drew (by omega) (fun hp => absurd hp (by simp)) (by simp))
  obtain ⟨i5, hi, hz0, hz1, hz2⟩ := info_parts info5
  have HI := Lib.hid hi; clear hi
  have HZ0 := Lib.hid hz0; clear hz0
  have HZ1 := Lib.hid hz1; clear hz1
  have HZ2 := Lib.hid hz2; clear hz2
  have HB0 : Hid (Below w.heap.size w w.drew) := (Below.refl _ _).drew
  have hm63 : m + size ≤ maxLen := by unfold maxLen; omega
  have hm47 : (m + size) * 1 ≤ 140737488355328 := by omega
  have hcv : IntKind.u64.wrap (n : Int) = (n : Int) := by rw [IntKind.wrap_u64]; omega
  clear h hm
  go_enter Try.func84, Try.ntmps84
  go_wp2_with fail
  go_region_law (first | (refine step_append_lies _ (by rfl) (.tmp 10) (.tmp 14) 74 (by rfl) g 5 i5 (.int .u8 0) 1 1 Try.underlying74 HI.out HZ0.out HZ1.out HZ2.out rfl (by decide) (.slice A m c) m (Bytes.byteCells s.1) (by rfl) HWP.out.2.1 ⟨w.heap.size, 0, none⟩ size (0 + size) (Bytes.byteCells (beTail n size)) (by simp [Act.eval]) (by rw [byteCells_len, beTail_length, Nat.mul_one]) (World.news_of_block HPB.out) (by intro u hu; obtain ⟨x, _, rfl⟩ := List.mem_map.1 hu; rfl) (by omega) hm63 hm47 HWP.out.2.2 _ rfl ?_; intro gg cap w2 hown hgrow hat hlt2; have hown2 : w2.ownsRow g 5 1 (.slice (some ⟨gg, 0, none⟩) (m + size) cap) (s.1 ++ beTail n size).length (Bytes.byteCells (s.1 ++ beTail n size)) := (by rw [List.length_append, beTail_length, HM.out, byteCells_cat]; exact hown); have hst := HW.out.stored hown2 HWP.out.1 hgrow (hat.imp id (fun e b hb => by injection hb with hb; have := HWP.out.1.size; simp only at hb; omega)); have r3 := hst.2.2.1; have rf := hst.2.2.2; have HST := Lib.hid hst; clear hown hown2 hgrow hat hlt2 hst) | (go_simp; go_at_call 112; refine HP.out.mono ?_; rintro e wd ⟨rfl, hB, hlt, hblk⟩; have hww := HWD.out.below hB; have n0 := hww.c0; have HPB := Lib.hid hblk; have HWP : Hid (Below w.heap.size w wd ∧ wd.ownsRow g 5 1 (.slice A m c) m (Bytes.byteCells s.1) ∧ g ≤ wd.heap.size) := ⟨HB0.out.trans hB, (by have := hww.own; rw [HM.out] at this; exact this), Nat.le_trans hg hB.size⟩; clear hB hlt hblk hww))
  all_goals
    go_wp2_with fail
    go_end0
    exact ⟨_, rfl, HST.out.1, HST.out.2.1⟩
end Go.Proofs.Ytpmmjmnleoicjaa

/- The contract of the writer's names. For at most 10^9 bytes, names of at most 255. -/
namespace Go.Proofs.Ytpmmjmnleoicjaa
open Go.RowKit Go.Maps Bytes WrMath NmMath NameMath

theorem strCells_bytes' (s : ByteArray) : Lib.strCells s = Bytes.byteCells s.data.toList := rfl
/-- append of a text's bytes to a row of one's own, and where the row lies then. -/
theorem run_append_text (w : World) (ty : TypeId) (g : Nat) (v : Value) (m : Nat) (l : List UInt8) (hown : w.ownsRow g 5 1 v m (Bytes.byteCells l)) (t : ByteArray) (n : Nat) (hn : t.size = n) (h0 : 0 < n) (hmn : m + n ≤ 2000000000) (hg : g ≤ w.heap.size) :
    ∃ gg cap w', (Builtin.append_ #[74, 9] ty #[v, .string t]).run Try.prog w = .ok (.slice (some ⟨gg, 0, none⟩) (m + n) cap) w' ∧ w'.ownsRow g 5 1 (.slice (some ⟨gg, 0, none⟩) (m + n) cap) (m + n) (Bytes.byteCells (l ++ t.data.toList)) ∧ w.grownBy w' v.ownBlock ∧ (v.ownBlock = some gg ∨ w.heap.size ≤ gg) := by
  obtain ⟨i5, hi, hz0, hz1, hz2⟩ := info_parts info5
  subst hn
  have h63 : m + t.size ≤ maxLen := by unfold maxLen; omega
  obtain ⟨v', w', hr, h2, h3, _⟩ := Lib.run_append_own_string (P := Try.prog) w g 74 9 ty 5 i5 Try.underlying74 Try.underlying9 hi hz0 hz1 hz2 v m (Bytes.byteCells l) hown t h63 (by omega) hg
  rw [strCells_bytes', ← byteCells_cat] at h2
  have hloc : ∃ gg cap, v' = .slice (some ⟨gg, 0, none⟩) (m + t.size) cap ∧ (v.ownBlock = some gg ∨ w.heap.size ≤ gg) := by
    have hxl : (Bytes.byteCells l).length = m := by simpa using hown.1
    rcases hown.2 with ⟨rfl, rfl⟩ | ⟨g0, cap, cur, rfl, hbg, hgg, hnc, hcm, hcs, htake⟩
    · have hr2 := run_append_nil_string (P := Try.prog) w 74 9 ty 5 i5 (.int .u8 0) Try.underlying74 Try.underlying9 hi hz0 t h0 (by omega) (by rw [hz2]; omega)
      rw [hr] at hr2
      injection hr2 with e1 e2
      exact ⟨_, _, by rw [e1, Nat.zero_add], .inr (Nat.le_refl _)⟩
    · by_cases hroom : m + t.size ≤ cap
      · have hcs' : cur.size = cap := by simpa using hcs
        have hr2 := Lib.run_append_room_string (P := Try.prog) w 74 9 ty 5 i5 Try.underlying74 Try.underlying9 hi hz1 g0 m cap cur hgg t hroom (by omega)
        rw [hr] at hr2
        injection hr2 with e1 e2
        exact ⟨_, _, e1, .inl rfl⟩
      · have holds : ∀ j u, (Bytes.byteCells l)[j]? = some u → w.cell? ((⟨g0, 0, none⟩ : Addr).add j) = some u := hown.cells (g := g0) rfl
        have hr2 := Lib.run_append_grow_string (P := Try.prog) w 74 9 ty 5 i5 (.int .u8 0) Try.underlying74 Try.underlying9 hi hz0 ⟨g0, 0, none⟩ m cap (Bytes.byteCells l) (by rw [hz1]; simpa using hxl) holds t (by omega) (by omega) (by rw [hz2]; exact growslice_fits (by omega) (by omega))
        rw [hr] at hr2
        injection hr2 with e1 e2
        exact ⟨_, _, e1, .inr (Nat.le_refl _)⟩
  obtain ⟨gg, cap, rfl, hl⟩ := hloc
  exact ⟨gg, cap, w', hr, h2, h3, hl⟩
/-- The same for any text, the empty one too. -/
theorem run_append_any (w : World) (ty : TypeId) (g : Nat) (v : Value) (m : Nat) (l : List UInt8) (hown : w.ownsRow g 5 1 v m (Bytes.byteCells l)) (t : ByteArray) (n : Nat) (hn : t.size = n) (hmn : m + n ≤ 2000000000) (hg : g ≤ w.heap.size) :
    ∃ A cap w', (Builtin.append_ #[74, 9] ty #[v, .string t]).run Try.prog w = .ok (.slice A (m + n) cap) w' ∧ w'.ownsRow g 5 1 (.slice A (m + n) cap) (m + n) (Bytes.byteCells (l ++ t.data.toList)) ∧ w.grownBy w' v.ownBlock ∧ (v.ownBlock = (Value.slice A (m + n) cap).ownBlock ∨ ∀ b, (Value.slice A (m + n) cap).ownBlock = some b → w.heap.size ≤ b) := by
  by_cases h0 : 0 < n
  · obtain ⟨gg, cap, w', h1, h2, h3, h4⟩ := run_append_text w ty g v m l hown t n hn h0 hmn hg
    exact ⟨_, cap, w', h1, h2, h3, h4.imp id (fun e b hb => by injection hb with hb; simp only at hb; omega)⟩
  · obtain ⟨i5, hi, hz0, hz1, hz2⟩ := info_parts info5
    subst hn
    have hz : t.size = 0 := by omega
    obtain ⟨v', w', hr, h2, h3, h4⟩ := Lib.run_append_own_string (P := Try.prog) w g 74 9 ty 5 i5 Try.underlying74 Try.underlying9 hi hz0 hz1 hz2 v m (Bytes.byteCells l) hown t (by unfold maxLen; omega) (by omega) hg
    rw [strCells_bytes', ← byteCells_cat] at h2
    rcases hown.2 with ⟨rfl, rfl⟩ | ⟨g0, cap, cur, rfl, hbg, hgg, hnc, hcm, hcs, htake⟩
    · have : v' = .slice none 0 0 := h4.2 ⟨rfl, hz⟩
      subst this
      rw [hz] at h2 ⊢
      exact ⟨none, 0, w', hr, h2, h3, .inl rfl⟩
    · have hcs' : cur.size = cap := by simpa using hcs
      have hr2 := Lib.run_append_room_string (P := Try.prog) w 74 9 ty 5 i5 Try.underlying74 Try.underlying9 hi hz1 g0 m cap cur hgg t (by omega) (by omega)
      rw [hr] at hr2
      injection hr2 with e1 e2
      subst e1
      exact ⟨_, _, w', hr, h2, h3, .inl rfl⟩
theorem step_append_any {w : World} {ops : Array Oper} {o : Oper} {a : Act} {K : Act → World → Prop} {Q : Exit → Act → World → Prop} {E : Prop} (hgd : o.guard = none) (s x : Operand)
    (ho : o.op = .call { callee := .builtin .append, args := #[s, x], argTypes := #[74, 9] })
    (g : Nat) (v : Value) (m : Nat) (l : List UInt8) (hs : a.eval s = v) (hown : w.ownsRow g 5 1 v m (Bytes.byteCells l)) (t : ByteArray) (hx : a.eval x = .string t) (n : Nat) (hn : t.size = n) (hmn : m + n ≤ 2000000000) (hg : g ≤ w.heap.size)
    (h : ∀ A cap w', w'.ownsRow g 5 1 (.slice A (m + n) cap) (m + n) (Bytes.byteCells (l ++ t.data.toList)) → w.grownBy w' v.ownBlock → (v.ownBlock = (Value.slice A (m + n) cap).ownBlock ∨ ∀ b, (Value.slice A (m + n) cap).ownBlock = some b → w.heap.size ≤ b) → K (a.put o.dst (.slice A (m + n) cap)) w') : if Region.wanted o (yielded ops a.tmps) = true then Oper.wp Try.prog o a w K Q else E := by
  have hw : Region.wanted o (yielded ops a.tmps) = true := by simp [Region.wanted, hgd]
  rw [if_pos hw]
  obtain ⟨A, cap, w', hr, h2, h3, h4⟩ := run_append_any w o.type g v m l hown t n hn hmn hg
  unfold Oper.wp execOp
  simp only [ho, resolve, invoke, builtin, Sem.run_bind, Sem.run_pure, Result.andThen_ok, List.map_toArray, List.map_cons, List.map_nil, hs, hx, hr]
  exact h A cap w' h2 h3 h4
/-- The same, at a step of a region that draws. -/
theorem step_append_text {w : World} {ops : Array Oper} {o : Oper} {a : Act} {K : Act → World → Prop} {Q : Exit → Act → World → Prop} {E : Prop} (hgd : o.guard = none) (s x : Operand)
    (ho : o.op = .call { callee := .builtin .append, args := #[s, x], argTypes := #[74, 9] })
    (g : Nat) (v : Value) (m : Nat) (l : List UInt8) (hs : a.eval s = v) (hown : w.ownsRow g 5 1 v m (Bytes.byteCells l)) (t : ByteArray) (hx : a.eval x = .string t) (n : Nat) (hn : t.size = n) (h0 : 0 < n) (hmn : m + n ≤ 2000000000) (hg : g ≤ w.heap.size)
    (h : ∀ gg cap w', w'.ownsRow g 5 1 (.slice (some ⟨gg, 0, none⟩) (m + n) cap) (m + n) (Bytes.byteCells (l ++ t.data.toList)) → w.grownBy w' v.ownBlock → (v.ownBlock = some gg ∨ w.heap.size ≤ gg) → K (a.put o.dst (.slice (some ⟨gg, 0, none⟩) (m + n) cap)) w') : if Region.wanted o (yielded ops a.tmps) = true then Oper.wp Try.prog o a w K Q else E := by
  have hw : Region.wanted o (yielded ops a.tmps) = true := by simp [Region.wanted, hgd]
  rw [if_pos hw]
  obtain ⟨gg, cap, w', hr, h2, h3, h4⟩ := run_append_text w o.type g v m l hown t n hn h0 hmn hg
  unfold Oper.wp execOp
  simp only [ho, resolve, invoke, builtin, Sem.run_bind, Sem.run_pure, Result.andThen_ok, List.map_toArray, List.map_cons, List.map_nil, hs, hx, hr]
  exact h gg cap w' h2 h3 h4

theorem mk_cut (s : ByteArray) (k : Nat) : (s.extract 0 k).data.toList = s.data.toList.take k := by rw [extract_list]; rfl
theorem mk_rest (s : ByteArray) (k : Nat) : (s.extract k s.size).data.toList = s.data.toList.drop k := by
  rw [extract_list, List.take_of_length_le (by rw [← Lib.size_eq]; exact Nat.le_refl _)]
/-- A look-up of what is known, at the operation. -/
theorem wpList_lookup_known {w : World} {ops : Array Oper} {rest : List Oper} {o : Oper} {a : Act} {Q : Exit → Act → World → Prop} (hg : o.guard = none) (m x : Operand) (hop : o.op = Op.lookup 73 m x true) (bm : Nat) (K : Known) (hm : a.eval m = .map (some bm)) (hown : MapIs w bm K)
    (y : ByteArray) (hx : a.eval x = .string y) (hy : y.size ≤ maxLen) (p : Nat) (b : Bool) (hf : (fnd K y.data.toList).getD 0 = p) (hb : (fnd K y.data.toList).isSome = b) (hK : wpList Try.prog ops Q rest (a.put o.dst (.tuple #[.int .i64 p, .bool b])) w) : wpList Try.prog ops Q (o :: rest) a w := by
  obtain ⟨n, D, h1, _, h3⟩ := hown
  refine wpList_lookup_own_ok_int w hg m x 73 hop 9 3 .i64 key_law Try.underlying73 Try.underlying3 (zero_int w) bm n D hm h1 (.string y) (.string y.data.toList) hx (WideMaps.keyOf_string_mk Try.underlying9 hy) fun c hat _ => ?_
  rw [(h3 _).2, hf] at hat
  injection hat with hat
  injection hat with _ hat
  rw [(h3 _).1, hb, ← hat]
  exact hK
theorem fnd_lt {K : Known} {N : Nat} (h : ∀ x ∈ K, x.2 < N) {s : List UInt8} {p : Nat} (hf : fnd K s = some p) : p < N := h _ (fnd_mem hf)
set_option maxHeartbeats 4000000 in
set_option maxRecDepth 100000 in
theorem name_any (x : ByteArray) (r bm g : Nat) (s : Wr) (v : Value) (w : World) (h : WrAt w r bm g s v) (hg : g ≤ w.heap.size) (hx : Rests x.data.toList) (hxs : x.size ≤ 255) (hl : s.1.length ≤ 900000000) (hK : Hid (∀ y ∈ s.2, y.2 < 16384)) (hKl : s.2.length ≤ 900000000) :
    Calls Try.prog 85 #[.pointer (some ⟨r, 0, none⟩), .string x] w (WrEnd w r bm g (nameW x.data.toList s) v) := by
  obtain ⟨S, hS⟩ : ∃ S, nameW x.data.toList s = S := ⟨_, rfl⟩
  have HS := Lib.hid hS
  have HW := Lib.hid h
  have HX := Lib.hid hx
  have HG := Lib.hid hg
  have HL0 : Hid (s.1.length + x.size ≤ 900000000 + 255) := by show _ ≤ _; omega
  have HK0 : Hid (s.2.length + x.size ≤ 900000000 + 255) := by show _ ≤ _; omega
  rw [hS]
  clear hS h hx hl hKl
  go_enter Try.func85, Try.ntmps85
  go_wp2_with fail
  go_loopw [1] (fun t wr => ∃ (y : ByteArray) (s' : Wr) (u : Value), t = .string y ∧ y.size ≤ 255 ∧ Hid (WrAt wr r bm g s' u) ∧ Hid (Wrote r bm v w u wr) ∧ Hid (Rests y.data.toList) ∧ Hid (nameW y.data.toList s' = S) ∧ Hid (s'.1.length + y.size ≤ 900000000 + 255) ∧ Hid (s'.2.length + y.size ≤ 900000000 + 255) ∧ Hid (∀ z ∈ s'.2, z.2 < 16384)) (fun t _ => match t with | .string y => y.size | _ => 0)
  case atStart => exact ⟨x, s, v, rfl, hxs, HW, Wrote.refl _ _ _ _, HX, HS, HL0, HK0, hK⟩
  case round =>
    obtain ⟨y, ⟨out, K⟩, u, rfl, hy, hW, hF, hX, hR, hL, hK1, hK2⟩ := hrel
    obtain ⟨A, cp, rfl⟩ := hW.out.slice
    obtain ⟨m, hm⟩ : ∃ m, out.length = m := ⟨_, rfl⟩
    have HM := Lib.hid hm
    simp only at hW hF
    rw [hm] at hW hF
    have c0 := hW.out.c0
    have c1 := hW.out.c1
    have cf := hW.out.fz
    have SZ := Lib.hid (Lib.size_eq y)
    have hmb : m ≤ 900001000 := by have := hL.out; simp only at this; omega
    have hne : 0 < y.size := by
      rcases rests_cases hX.out with e | ⟨_, _, e, _⟩
      · rw [SZ.out, e]; decide
      · rw [SZ.out]; omega
    obtain ⟨c, hc⟩ : ∃ c, y[0]'hne = c := ⟨_, rfl⟩
    have hcb : bt y.data.toList 0 = c.toNat := by unfold bt; rw [getD_byte hne, hc]
    have HCB := Lib.hid hcb
    have hcl := c.toNat_lt
    have HGW : Hid (g ≤ wr.heap.size) := Nat.le_trans HG.out hF.out.size
    clear hm hcb
    by_cases h0 : c.toNat = 0
    · have hyz : Hid (y.data.toList = [0]) := by
        rcases rests_cases hX.out with e | ⟨e, _⟩
        · exact e
        · exact absurd (HCB.out.trans h0) e
      have HS : Hid (S = (out ++ [0], K)) := by
        show _ = _
        rw [← hR.out]
        exact wName_root (HCB.out.trans h0)
      have hz : ((c.toNat : Int) == 0) = true := beq_iff_eq.2 (by omega)
      have hz1 : ((c.toNat : Int) != 0) = false := bne_eq_false_iff_eq.2 (by omega)
      obtain ⟨i5, hi, hz0, hz1', hz2⟩ := info_parts info5
      have HI := Lib.hid hi; clear hi
      have HZ0 := Lib.hid hz0; clear hz0
      have HZ1 := Lib.hid hz1'; clear hz1'
      have HZ2 := Lib.hid hz2; clear hz2
      have HO := Lib.hid (show wr.ownsRow g 5 1 (.slice A m cp) m (Bytes.byteCells out) by have := hW.out.own; simp only at this; rw [HM.out] at this; exact this)
      clear hR hL hK1 hK2 hX
      go_wp2_with (at_builtin; refine wpList_append_lies _ rfl _ _ 74 rfl g 5 i5 (.int .u8 0) 1 1 Try.underlying74 HI.out HZ0.out HZ1.out HZ2.out rfl (by decide) (.slice A m cp) m (Bytes.byteCells out) rfl (HO.out.alloc _) ⟨wr.heap.size, 0, none⟩ 1 1 [.int .u8 0] rfl rfl ?c1 ?c2 (by decide) ?c3 ?c4 ?c5 _ rfl ?_)
      case c1 =>
        intro j u hj
        match j, hj with
        | 0, hj => simp at hj; subst hj; simp [Addr.add]
      case c2 => intro u hu; simp at hu; subst hu; rfl
      case c3 => unfold maxLen; omega
      case c4 => omega
      case c5 => have := HGW.out; simp; omega
      intro gg cap w2 hown hgrow hat _
      have hown2 : w2.ownsRow g 5 1 (.slice (some ⟨gg, 0, none⟩) (m + 1) cap) (out ++ [0]).length (Bytes.byteCells (out ++ [0])) := by
        rw [List.length_append, HM.out, byteCells_cat]
        exact hown
      have hst := hW.out.stored hown2 ((Below.refl _ _).alloc (Nat.le_refl _) _) hgrow (hat.imp id (fun e b hb => by injection hb with hb; simp only at hb; omega))
      have r3 := hst.2.2.1
      have rf := hst.2.2.2
      have HST := Lib.hid hst
      clear hown hown2 hgrow hat hst
      go_wp2_with fail
      go_end0
      rw [HS.out]
      exact ⟨_, rfl, HST.out.1, hF.out.trans HST.out.2.1⟩
    · have hlab : 1 ≤ c.toNat ∧ c.toNat ≤ 63 ∧ 1 + c.toNat < y.size := by
        rcases rests_cases hX.out with e | ⟨_, e2, e3, _⟩
        · exfalso; apply h0; rw [← HCB.out, e]; rfl
        · rw [HCB.out] at e2 e3; rw [SZ.out]; omega
      have HXN : Hid (Rests (y.data.toList.drop (1 + c.toNat))) := by
        rcases rests_cases hX.out with e | ⟨_, _, _, e⟩
        · exfalso; apply h0; rw [← HCB.out, e]; rfl
        · rw [HCB.out] at e; exact e
      have hz : ((c.toNat : Int) == 0) = false := beq_eq_false_iff_ne.2 (by omega)
      have hz1 : ((c.toNat : Int) != 0) = true := bne_iff_ne.2 (by omega)
      have HMAP := Lib.hid hW.out.map
      simp only at HMAP
      have hyM : y.size ≤ maxLen := by unfold maxLen; omega
      cases hf : fnd K y.data.toList with
      | some p =>
        have hpl : p < 16384 := fnd_lt hK2.out hf
        have HS : Hid (S = numW (49152 + p) 2 (out, K)) := by
          show _ = _
          rw [← hR.out]
          exact wName_known (by rw [HCB.out]; exact h0) hf
        have hw1 : IntKind.u32.wrap (p : Int) = (p : Int) := by rw [IntKind.wrap_u32]; omega
        have hw2 : IntKind.u32.wrap (49152 + (p : Int)) = ((49152 + p : Nat) : Int) := by rw [IntKind.wrap_u32]; omega
        have hf1 : (fnd K y.data.toList).getD 0 = p := by rw [hf]; rfl
        have hf2 : (fnd K y.data.toList).isSome = true := by rw [hf]; rfl
        have HN := Lib.hid (number_any (49152 + p) 2 r bm g (out, K) (.slice A m cp) wr hW.out HGW.out (by omega) (by decide) (by decide) (by simp only; rw [HM.out]; omega))
        clear hR hL hK1 hK2 hX HXN
        go_wp2_with (at_lookup; refine wpList_lookup_known rfl _ _ rfl bm K rfl HMAP.out y rfl hyM p true hf1 hf2 ?_)
        refine HN.out.mono ?_
        rintro e w2 ⟨v2, rfl, h2, h3⟩
        have H2 := Lib.hid h2
        have H3 := Lib.hid (hF.out.trans h3)
        clear h2 h3 c0 c1 cf HN hf1 hf2
        go_wp2_with fail
        first | go_end0 | skip
        rw [HS.out]
        exact ⟨_, rfl, H2.out, H3.out⟩
      | none =>
        obtain ⟨q, hq⟩ : ∃ q, 1 + c.toNat = q := ⟨_, rfl⟩
        have HS : Hid (nameW (y.data.toList.drop q) (out ++ y.data.toList.take q, learn out K y.data.toList) = S) := by
          show _ = _
          rw [← hR.out]
          have := wName_new (out := out) (by rw [HCB.out]; exact h0) hf
          rw [HCB.out, hq] at this
          exact this.symm
        rw [hq] at HXN
        have hqw : IntKind.i64.wrap (1 + (c.toNat : Int)) = (q : Int) := by rw [IntKind.wrap_i64]; omega
        have hqy : q < y.size := by omega
        have hq1 : 1 < q ∧ q ≤ 64 := by omega
        have hqi : (q : Int) ≤ y.size := by omega
        have hf1 : (fnd K y.data.toList).getD 0 = 0 := by rw [hf]; rfl
        have hf2 : (fnd K y.data.toList).isSome = false := by rw [hf]; rfl
        have HKL : Hid ((learn out K y.data.toList).length ≤ K.length + 1 ∧ ∀ z ∈ learn out K y.data.toList, z.2 < 16384) := by
          unfold learn
          by_cases hlt : out.length < 16384
          · rw [if_pos hlt]
            refine ⟨by rw [List.length_append]; exact Nat.le_refl _, fun z hz => ?_⟩
            rcases List.mem_append.1 hz with hz | hz
            · exact hK2.out z hz
            · rw [List.mem_singleton] at hz; subst hz; exact hlt
          · rw [if_neg hlt]; exact ⟨Nat.le_succ _, hK2.out⟩
        clear hR hX hq
        go_upto_if 30 with (at_lookup; refine wpList_lookup_known rfl _ _ rfl bm K rfl HMAP.out y rfl hyM 0 false hf1 hf2 ?_)
        go_cut [] from 7 to 58 (fun wx => Hid (WrAt wx r bm g (out, learn out K y.data.toList) (.slice A m cp)) ∧ Hid (Wrote r bm v w (.slice A m cp) wx))
        case first =>
          by_cases hlt : m < 16384
          · have hltd : decide ((m : Int) < 16384) = true := decide_eq_true (by omega)
            have hlti : (m : Int) < 16384 := by omega
            have HLE : Hid (learn out K y.data.toList = K ++ [(y.data.toList, m)]) := by show _ = _; unfold learn; rw [HM.out, if_pos hlt]
            obtain ⟨w5, hrun, hm5, hg5⟩ := (hW.out.drew.map).put (s := y.data.toList) (p := m) hf (by rw [← SZ.out]; exact hyM) (by have := hK1.out; simp only at this; unfold maxLen; simp only; omega) (by omega)
            rw [mk_data] at hrun
            have hst := hW.out.drew.mapped hm5 hg5
            have HST : Hid (WrAt w5 r bm g (out, learn out K y.data.toList) (.slice A m cp) ∧ Wrote r bm v w (.slice A m cp) w5) := by
              rw [HLE.out]
              exact ⟨hst.1, hF.out.trans (hst.2.ahead (Below.refl _ _).drew)⟩
            clear hst hm5 hg5 hL hK1 hK2 hW hF HKL HMAP hf
            go_wp2_with fail
            go_region
            all_goals
              go_wp2_with fail
              go_meet
              exact HST.out
          · have hltd : decide ((m : Int) < 16384) = false := decide_eq_false (by omega)
            have hlti : ¬ ((m : Int) < 16384) := by omega
            have HLE : Hid (learn out K y.data.toList = K) := by show _ = _; unfold learn; rw [HM.out, if_neg hlt]
            have HST : Hid (WrAt wr r bm g (out, learn out K y.data.toList) (.slice A m cp) ∧ Wrote r bm v w (.slice A m cp) wr) := by
              rw [HLE.out]
              exact ⟨hW.out, hF.out⟩
            clear hL hK1 hK2 hW hF HKL HMAP hf
            go_wp2_with fail
            go_meet
            exact HST.out
        case rest =>
          obtain ⟨hW5, hF5⟩ := hcut
          clear c0 c1 cf hW hF HMAP hf hf1 hf2
          have c0 := hW5.out.drew.c0
          have cf := hW5.out.drew.fz
          obtain ⟨K', hK'⟩ : ∃ K', learn out K y.data.toList = K' := ⟨_, rfl⟩
          rw [hK'] at hW5 HKL HS
          clear hK'
          obtain ⟨z, hz9⟩ : ∃ z, y.extract 0 q = z := ⟨_, rfl⟩
          obtain ⟨y2, hy2⟩ : ∃ z, y.extract q y.size = z := ⟨_, rfl⟩
          have HZ : Hid (z.data.toList = y.data.toList.take q) := by rw [← hz9]; exact mk_cut y q
          have HY2 : Hid (y2.data.toList = y.data.toList.drop q) := by rw [← hy2]; exact mk_rest y q
          have hzs : z.size = q := by rw [Lib.size_eq, HZ.out, List.length_take, ← SZ.out]; omega
          have HY2S : Hid (y2.size = y.size - q) := by show _ = _; rw [Lib.size_eq, HY2.out, List.length_drop, ← SZ.out]
          have HGC : Hid (g ≤ wc.drew.heap.size) := Nat.le_trans HG.out hF5.out.size
          have HOC := Lib.hid (show wc.drew.ownsRow g 5 1 (.slice A m cp) m (Bytes.byteCells out) by have := hW5.out.drew.own; simp only at this; rw [HM.out] at this; exact this)
          have HBD : Hid (Below wc.heap.size wc wc.drew) := (Below.refl _ _).drew
          go_upto_region 7 with fail
          go_cut [] from 7 to 58 (fun wx => ∃ u', Hid (WrAt wx r bm g (out ++ y.data.toList.take q, K') u') ∧ Hid (Wrote r bm v w u' wx))
          case first =>
            go_region_law (refine step_append_text (by rfl) (.tmp 49) (.tmp 52) (by rfl) g (.slice A m cp) m out (by rfl) HOC.out z (by rfl) q hzs (by omega) (by omega) HGC.out ?_; intro gg cap w2 hown hgrow hat; have hown2 : w2.ownsRow g 5 1 (.slice (some ⟨gg, 0, none⟩) (m + q) cap) (out ++ y.data.toList.take q).length (Bytes.byteCells (out ++ y.data.toList.take q)) := (by rw [← HZ.out, List.length_append, HM.out, ← Lib.size_eq, hzs]; exact hown); have hst := hW5.out.stored hown2 HBD.out hgrow (hat.imp id (fun e b hb => by injection hb with hb; simp only at hb; have e9 : wc.drew.heap.size = wc.heap.size := rfl; omega)); have r3 := hst.2.2.1; have rf := hst.2.2.2; have HST := Lib.hid hst; clear hown hown2 hgrow hat hst)
            all_goals
              go_wp2_with fail
              go_meet
              exact ⟨_, HST.out.1, hF5.out.trans HST.out.2.1⟩
          case rest =>
            obtain ⟨u', hW7, hF7⟩ := hcut
            clear c0 cf HOC HGC HBD hW5 hF5 hz9
            go_wp2_with fail
            go_roundw
            case rel =>
              (repeat apply Exists.intro)
              first
                | exact ⟨rfl, by have := HY2S.out; omega, hW7, hF7, by rw [HY2.out]; exact HXN, by rw [HY2.out]; exact HS, by (have h1 := hL.out; have h2 := HY2S.out; simp only at h1; show _ ≤ _; simp only; rw [List.length_append, List.length_take, ← SZ.out]; omega), by (have h1 := hK1.out; have h2 := HY2S.out; have h3 := HKL.out.1; simp only at h1; show _ ≤ _; simp only; omega), HKL.out.2⟩
                | exact ⟨⟨rfl, by have := HY2S.out; omega, hW7, hF7, by rw [HY2.out]; exact HXN, by rw [HY2.out]; exact HS, by (have h1 := hL.out; have h2 := HY2S.out; simp only at h1; show _ ≤ _; simp only; rw [List.length_append, List.length_take, ← SZ.out]; omega), by (have h1 := hK1.out; have h2 := HY2S.out; have h3 := HKL.out.1; simp only at h1; show _ ≤ _; simp only; omega), HKL.out.2⟩, rfl⟩
            case measure => have h2 := HY2S.out; simp; omega
end Go.Proofs.Ytpmmjmnleoicjaa

/- strings.Builder: the contracts of copyCheck, WriteByte and WriteString at a builder that the call made, with the frame that reaches above it. For texts of at most 2^47 bytes. -/
namespace Go.Proofs.Ytpmmjmnleoicjaa
open Go.RowKit Bytes

theorem infoB : (Try.prog.info? 171).map (·.size) = some 2 := by kernel_rfl
theorem liesB : liesAt Try.prog Try.prog.depth 171 (2 / Try.prog.cellsOf 171) 0 171 1 = true := by kernel_rfl
/-- A builder of the call's own that holds these bytes. -/
abbrev Bld (B b : Nat) (l : List UInt8) (w : World) : Prop := Lib.IsBuilder 171 5 B b (Bytes.byteCells l) w

set_option maxHeartbeats 1000000 in
set_option maxRecDepth 100000 in
theorem copyCheck_used (b : Nat) (w : World) (h0 : w.cell? ⟨b, 0, none⟩ = some (.pointer (some ⟨b, 0, none⟩))) :
    Calls Try.prog 154 #[.pointer (some ⟨b, 0, none⟩)] w fun e w' => e = .returned (.tuple #[]) ∧ w' = w := by
  obtain ⟨j, hj, _⟩ := Option.map_eq_some_iff.1 infoB
  go_enter Try.func154, Try.ntmps154
  go_wp2
  rw [Lib.run_neq_ptr_same w _ Try.underlying169 hj]
  go_wp2
  go_end0
  exact ⟨rfl, rfl⟩

set_option maxHeartbeats 1000000 in
set_option maxRecDepth 100000 in
theorem copyCheck_fresh (b : Nat) (w : World) (h0 : w.cell? ⟨b, 0, none⟩ = some (.pointer none)) (hsh : w.shape? b = some (171, 2)) (hfz : w.frozen? ⟨b, 0, none⟩ = false) :
    Calls Try.prog 154 #[.pointer (some ⟨b, 0, none⟩)] w fun e w' => e = .returned (.tuple #[]) ∧ w' = w.setCell ⟨b, 0, none⟩ (.pointer (some ⟨b, 0, none⟩)) := by
  obtain ⟨j, hj, hjs⟩ := Option.map_eq_some_iff.1 infoB
  go_enter Try.func154, Try.ntmps154
  go_wp2
  rw [Lib.run_to_unsafe w ⟨b, 0, none⟩ Try.underlying169 Try.underlying178 hj (by rw [hjs]; decide) hsh (Nat.zero_lt_succ 1)]
  simp only [Result.andThen]
  rw [Oper.upon_value]
  go_wp2
  rw [run_callFunc_extern Try.func155 (by kernel_rfl) (by kernel_rfl) (by kernel_rfl) (e := Extern.AbiNoEscape.same) (by kernel_rfl)]
  rw [Lib.run_noEscape]
  simp only [Result.andThen]
  rw [Oper.upon_value]
  go_wp2
  rw [Lib.run_from_unsafe w ⟨b, 0, none⟩ Try.underlying178 Try.underlying169 hj hsh liesB]
  simp only [Result.andThen]
  rw [Oper.upon_value]
  go_wp2
  go_end0
  exact ⟨rfl, rfl⟩

theorem copyCheck_any (B b : Nat) (bs : List Value) (w : World) (h : Lib.IsBuilder 171 5 B b bs w) :
    Calls Try.prog 154 #[.pointer (some ⟨b, 0, none⟩)] w fun e w' => e = .returned (.tuple #[]) ∧ (Lib.BuilderAt 171 5 B b (.pointer (some ⟨b, 0, none⟩)) bs w' ∧ Below B w w' ∧ Lib.OthersKept 5 (some b) w w') := by
  rcases h with h | h
  · refine (copyCheck_fresh b w h.cell0 h.shape h.frozen0).mono ?_
    rintro e w' ⟨rfl, rfl⟩
    exact ⟨rfl, h.used _, (Below.refl B w).setCell (p := ⟨b, 0, none⟩) h.1 _, (Lib.OthersKept.refl _ _ w).setCell ⟨b, 0, none⟩ rfl _⟩
  · refine (copyCheck_used b w h.cell0).mono ?_
    rintro e w' ⟨rfl, rfl⟩
    exact ⟨rfl, h, Below.refl B _, Lib.OthersKept.refl _ _ _⟩
theorem ownsRow_kind {w : World} {B : Nat} {e : TypeId} {v : Value} {n : Nat} {xs : List Value} (h : w.ownsRow B e 1 v n xs) : ∀ g, v.ownBlock = some g → ∃ c fz, w.heap[g]? = some (.cells c e fz) := by
  intro g hg
  rcases h.2 with ⟨rfl, _⟩ | ⟨g', cap, cur, rfl, _, hgg, _⟩
  · simp [Value.ownBlock] at hg
  · simp [Value.ownBlock] at hg
    subst hg
    exact ⟨cur, (0, 0), hgg⟩
/-- A row of another kind than bytes stands behind a write to a builder. -/
theorem own_others {w w' : World} {B b n : Nat} {e : TypeId} {v : Value} {xs : List Value} (h : w.ownsRow B e 1 v n xs) (hk : Lib.OthersKept 5 (some b) w w') (he : e ≠ 5) (hb : v.ownBlock ≠ some b) : w'.ownsRow B e 1 v n xs := by
  refine ⟨h.1, ?_⟩
  rcases h.2 with h0 | ⟨g, cap, cur, rfl, hB, hg, r⟩
  · exact .inl h0
  · exact .inr ⟨g, cap, cur, rfl, hB, hk g _ hg (fun e1 => hb (by rw [← e1]; rfl)) (fun c fz e1 => he (by injection e1)), r⟩

set_option maxHeartbeats 2000000 in
set_option maxRecDepth 100000 in
theorem writeByte_any (B b : Nat) (l : List UInt8) (c : UInt8) (w : World) (h : Bld B b l w) (hlen : l.length + 1 ≤ 140737488355328) (hBw : B ≤ w.heap.size) :
    Calls Try.prog 150 #[.pointer (some ⟨b, 0, none⟩), .int .u8 c.toNat] w fun e w' => e = .returned .nilIface ∧ (Bld B b (l ++ [c]) w' ∧ Below B w w' ∧ Lib.OthersKept 5 (some b) w w') := by
  obtain ⟨i0, hi, hz0, hz1, hz2⟩ := info_parts info5
  go_enter Try.func150, Try.ntmps150
  go_wp2_with fail
  refine (copyCheck_any B b _ _ h).mono ?_
  rintro e w1 ⟨rfl, h1, hb1, hk1⟩
  obtain ⟨hB, v, hbk, hown, hne⟩ := h1
  have hbl := Nat.le_of_eq (byteCells_len l)
  have c0 : w1.cell? ⟨b, 0, none⟩ = some (.pointer (some ⟨b, 0, none⟩)) := by rw [Lib.cell_of_heap hbk]; rfl
  have c1 : w1.cell? ⟨b, 1, none⟩ = some v := by rw [Lib.cell_of_heap hbk]; rfl
  go_wp2_with (at_builtin; refine wpList_append_own _ rfl _ _ 74 rfl B 5 i0 (.int .u8 0) 1 1 Try.underlying74 hi hz0 hz1 hz2 rfl (by decide) _ _ _ rfl (hown.alloc _) ⟨w1.heap.size, 0, none⟩ 1 1 [.int .u8 (c.toNat : Int)] rfl rfl ?c1 ?c2 ?c3 ?c4 ?c5 ?_)
  case c1 =>
    intro j u hj
    match j, hj with
    | 0, hj => simp at hj; subst hj; simp [Addr.add]
  case c2 => intro u hu; simp at hu; subst hu; rfl
  case c3 => unfold maxLen; omega
  case c4 => omega
  case c5 => have := hb1.size; simp; omega
  intro v' w2 hown' hgrow _
  have hlt : b < w1.heap.size := by
    rcases Nat.lt_or_ge b w1.heap.size with h' | h'
    · exact h'
    · simp [Array.getElem?_eq_none h'] at hbk
  have hb2 : w2.heap[b]? = some (.cells #[.pointer (some ⟨b, 0, none⟩), v] 171 (0, 0)) := by
    rw [hgrow.block b (by simp; omega) (fun e => hne e.symm), Lib.alloc_old w1 _ b hlt]
    exact hbk
  have d0 : w2.cell? ⟨b, 0, none⟩ = some (.pointer (some ⟨b, 0, none⟩)) := by rw [Lib.cell_of_heap hb2]; rfl
  have d1 : w2.cell? ⟨b, 1, none⟩ = some v := by rw [Lib.cell_of_heap hb2]; rfl
  have f1 : w2.frozen? ⟨b, 1, none⟩ = false := Lib.frozen_of_heap hb2 1
  obtain ⟨g, cap, rfl⟩ : ∃ g cap, v' = .slice (some ⟨g, 0, none⟩) ((Bytes.byteCells l).length + 1) cap := by
    rcases hown'.2 with ⟨_, h0⟩ | ⟨g, cap, cur, hv, _⟩
    · omega
    · exact ⟨g, cap, hv⟩
  go_wp2
  go_ret
  refine ⟨rfl, ?_, ?_, ((hk1.alloc _).grown hgrow (ownsRow_kind (hown.alloc _))).setCell ⟨b, 1, none⟩ rfl _⟩
  · refine Or.inr ?_
    rw [byteCells_cat, byteCells_one]
    exact Lib.BuilderAt.put (T := 171) (e := 5) hB hb2 (bs' := Bytes.byteCells l ++ [.int .u8 c.toNat]) (by simpa using hown') (by decide)
  · exact ((hb1.alloc (by have := hb1.size; omega) _).grown hgrow (by have := hb1.size; simp; omega) (fun k hk => (hown.lt k hk).1)).setCell (p := ⟨b, 1, none⟩) hB _

theorem strCells_bytesB (s : ByteArray) : Lib.strCells s = Bytes.byteCells s.data.toList := by
  unfold Bytes.byteCells
  simp [Lib.strCells]

set_option maxHeartbeats 2000000 in
set_option maxRecDepth 100000 in
theorem writeString_any (B b : Nat) (l : List UInt8) (s : ByteArray) (w : World) (h : Bld B b l w) (hlen : l.length + s.size ≤ 140737488355328) (hBw : B ≤ w.heap.size) :
    Calls Try.prog 151 #[.pointer (some ⟨b, 0, none⟩), .string s] w fun e w' => e = .returned (.tuple #[.int .i64 s.size, .nilIface]) ∧ (Bld B b (l ++ s.data.toList) w' ∧ Below B w w' ∧ Lib.OthersKept 5 (some b) w w') := by
  obtain ⟨i0, hi, hz0, hz1, hz2⟩ := info_parts info5
  go_enter Try.func151, Try.ntmps151
  go_wp2_with fail
  refine (copyCheck_any B b _ _ h).mono ?_
  rintro e w1 ⟨rfl, h1, hb1, hk1⟩
  obtain ⟨hB, v, hbk, hown, hne⟩ := h1
  have hbl := Nat.le_of_eq (byteCells_len l)
  have c0 : w1.cell? ⟨b, 0, none⟩ = some (.pointer (some ⟨b, 0, none⟩)) := by rw [Lib.cell_of_heap hbk]; rfl
  have c1 : w1.cell? ⟨b, 1, none⟩ = some v := by rw [Lib.cell_of_heap hbk]; rfl
  go_wp2_with (at_builtin; refine Lib.wpList_append_own_string _ rfl _ _ 74 9 rfl B 5 i0 Try.underlying74 Try.underlying9 hi hz0 hz1 hz2 _ _ _ rfl hown s rfl ?c3 ?c4 ?c5 ?_)
  case c3 => unfold maxLen; omega
  case c4 => omega
  case c5 => have := hb1.size; omega
  intro v' w2 hown' hgrow _
  have hlt : b < w1.heap.size := by
    rcases Nat.lt_or_ge b w1.heap.size with h' | h'
    · exact h'
    · simp [Array.getElem?_eq_none h'] at hbk
  have hb2 : w2.heap[b]? = some (.cells #[.pointer (some ⟨b, 0, none⟩), v] 171 (0, 0)) := by
    rw [hgrow.block b hlt (fun e => hne e.symm)]
    exact hbk
  have d0 : w2.cell? ⟨b, 0, none⟩ = some (.pointer (some ⟨b, 0, none⟩)) := by rw [Lib.cell_of_heap hb2]; rfl
  have d1 : w2.cell? ⟨b, 1, none⟩ = some v := by rw [Lib.cell_of_heap hb2]; rfl
  have f1 : w2.frozen? ⟨b, 1, none⟩ = false := Lib.frozen_of_heap hb2 1
  obtain ⟨ao, n', cap, rfl⟩ : ∃ ao n' cap, v' = .slice ao n' cap := by
    rcases hown'.2 with ⟨hv, _⟩ | ⟨g, cap, cur, hv, _⟩
    · exact ⟨_, _, _, hv⟩
    · exact ⟨_, _, _, hv⟩
  go_wp2
  go_ret2
  refine ⟨rfl, ?_, ?_, (hk1.grown hgrow (ownsRow_kind hown)).setCell ⟨b, 1, none⟩ rfl _⟩
  · refine Or.inr ?_
    rw [byteCells_cat, ← strCells_bytesB s]
    exact Lib.BuilderAt.put (T := 171) (e := 5) hB hb2 (bs' := Bytes.byteCells l ++ Lib.strCells s) (by simpa [Lib.strCells_length] using hown') (by decide)
  · exact (hb1.grown hgrow (by have := hb1.size; omega) (fun k hk => (hown.lt k hk).1)).setCell (p := ⟨b, 1, none⟩) hB _
end Go.Proofs.Ytpmmjmnleoicjaa

/- The contracts of rdata's numbers and measured: the plain bytes of numbers, and of texts behind their lengths. For lists of at most 10^5. -/
namespace Go.Proofs.Ytpmmjmnleoicjaa
open Go.RowKit Bytes Strs Nums RecMath

/-- Bytes of the call's own, as num's Put leaves them: none yet, or a block that is known whole. -/
def BufAt (w : World) (A : Option Addr) (m c : Nat) (l : List UInt8) : Prop :=
  (A = none ∧ m = 0 ∧ c = 0 ∧ l = []) ∨ ∃ g, A = some ⟨g, 0, none⟩ ∧ m = l.length ∧ g < w.heap.size ∧ w.heap[g]? = some (.cells (Lib.byteCells l).toArray 5 (0, 0))
theorem BufAt.rd {w : World} {A : Option Addr} {m c : Nat} {l : List UInt8} (h : BufAt w A m c l) : RdB w w.heap.size A l ∧ l.length = m := by
  rcases h with ⟨rfl, rfl, _, rfl⟩ | ⟨g, rfl, rfl, hg, hh⟩
  · exact ⟨fun hp => absurd hp (Nat.lt_irrefl 0), rfl⟩
  · refine ⟨fun _ => ⟨_, rfl, hg, fun i v hv => ?_⟩, rfl⟩
    rw [show ((⟨g, 0, none⟩ : Addr).add i) = ⟨g, i, none⟩ from by unfold Addr.add; split <;> simp_all]
    rw [Lib.cell_of_heap hh, ← Array.getElem?_toList]
    exact hv
theorem BufAt.conv {w : World} {A : Option Addr} {m c : Nat} {l : List UInt8} (h : BufAt w A m c l) : (convert 74 9 (.slice A m c)).run Try.prog w = .ok (.string (mk l)) w := by
  rcases h with ⟨rfl, rfl, rfl, rfl⟩ | ⟨g, rfl, rfl, hg, hh⟩
  · exact Lib.run_convert_nil_bytes w _ _ 5 0 Try.underlying74 Try.underlying5 Try.underlying9
  · refine run_convert_bytes_back w _ _ 5 ⟨g, 0, none⟩ c l Try.underlying74 Try.underlying5 Try.underlying9 (fun j hj => ?_)
    rw [show ((⟨g, 0, none⟩ : Addr).add j) = ⟨g, j, none⟩ from by unfold Addr.add; split <;> simp_all]
    rw [Lib.cell_of_heap hh, ← Array.getElem?_toList]
    simp [Lib.byteCells, hj]
def PutRes (w : World) (l : List UInt8) (n k : Nat) (e : Ending) (w' : World) : Prop :=
  ∃ A m c, e = .returned (.slice A m c) ∧ BufAt w' A m c (l ++ beTail n k) ∧ Below w.heap.size w w'
theorem put_buf (A : Option Addr) (m c : Nat) (l : List UInt8) (n k : Nat) (w : World) (hk : k ≤ 8) (hb : BufAt w A m c l) (hl : m ≤ 1000000) :
    Calls Try.prog 112 #[.slice A m c, .int .u64 n, .int .i64 k] w (PutRes w l n k) := by
  obtain ⟨hr, hm⟩ := hb.rd
  have := put_any A c l n k w hk hr (by omega)
  rw [hm] at this
  exact this.mono fun _ _ ⟨he, hB, hlt, hh⟩ => ⟨_, _, _, he, Or.inr ⟨_, rfl, by rw [List.length_append, beTail_length, hm], hlt, hh⟩, hB⟩

set_option maxHeartbeats 2000000 in
theorem numbers_is (A : Option Addr) (c n k : Nat) (L : List Nat) (r : ByteArray) (w : World) (hr : RdN w w.heap.size A L) (hn0 : Hid (L.length = n)) (hn : n ≤ 100000) (hk : k ≤ 8) (hu : Hid (∀ k, k < L.length → L.getD k 0 ≤ 4294967295)) (hR : Hid (numsL k L = r.data.toList)) :
    Calls Try.prog 146 #[.slice A n c, .int .i64 k] w fun e w' => e = .returned (.string r) ∧ Below w.heap.size w w' := by
  have HR := Lib.hid hr; clear hr
  generalize hg : w.heap.size = g at *
  have G := Lib.hid hg; clear hg
  go_enter Try.func146, Try.ntmps146
  go_wp2_with fail
  go_loopw [10, 5, 7] (fun i b u wr => ∃ (j m q : Nat) (B : Option Addr) (l : List UInt8), j ≤ n ∧ i = .int .i64 j ∧ b = .slice B m q ∧ m ≤ 8 * j ∧ Hid (BufAt wr B m q l) ∧ Hid (l ++ numsL k (L.drop j) = r.data.toList) ∧ Below g w wr) (fun i _ _ _ => n - (intOf i).toNat)
  case atStart => exact ⟨0, 0, 0, none, [], Nat.zero_le _, rfl, rfl, Nat.zero_le _, Lib.hid (Or.inl ⟨rfl, rfl, rfl, rfl⟩), hR, Below.refl _ _⟩
  case round =>
    obtain ⟨j, m, q, B, l, hj, rfl, rfl, hm, hBuf, hH, hB⟩ := hrel
    have hsz := hB.size
    by_cases hlt : j < n
    · have hkl : j < L.length := by rw [hn0.out]; exact hlt
      obtain ⟨ad, rfl, hab, hcell⟩ := (HR.out.on hB (Nat.le_refl g)).get hkl
      have hd := hH.out
      rw [numsL_drop k hkl, ← List.append_assoc] at hd
      have HD := Lib.hid hd
      have hy := hu.out j hkl
      generalize L.getD j 0 = y at *
      clear hd hH hkl
      go_wp2_with fail
      refine (put_buf B m q l y k _ hk hBuf.out (by omega)).mono ?_
      rintro e w3 ⟨B2, m2, q2, rfl, hb2, hB3⟩
      have hm2 := hb2.rd.2
      rw [List.length_append, beTail_length, hBuf.out.rd.2] at hm2
      have HB2 := Lib.hid hb2
      have hBB := hB.trans (hB3.mono (by have := G.out; omega))
      have hm3 : m2 ≤ 8 * (j + 1) := by omega
      clear hB hB3 hb2 hm2 hsz
      go_wp2_with fail
      go_roundw
      case rel => exact ⟨j + 1, m2, q2, B2, _, by omega, by go_num, rfl, hm3, HB2, HD, hBB⟩
      case measure => simp [intOf]; omega
    · have hd := hH.out
      rw [List.drop_of_length_le (by rw [hn0.out]; omega)] at hd
      have he : l = r.data.toList := by rw [← hd]; simp [numsL]
      have hcv := hBuf.out.conv
      rw [he, mk_data] at hcv
      clear hd hH he
      go_wp2_with fail
      go_ret
      exact ⟨rfl, hB⟩

theorem bld_below {w w' : World} {B b : Nat} {l : List UInt8} (h : Bld B b l w) (hB : Below w.heap.size w w') : Bld B b l w' := by
  have key : ∀ p, Lib.BuilderAt 171 5 B b p (Bytes.byteCells l) w → Lib.BuilderAt 171 5 B b p (Bytes.byteCells l) w' := fun p h => by
    have hlt := h.lt
    obtain ⟨h1, v, hb, hown, hne⟩ := h
    exact ⟨h1, v, (hB.block b hlt).trans hb, own_below hown hB, hne⟩
  rcases h with h | h
  · exact Or.inl (key _ h)
  · exact Or.inr (key _ h)
theorem writeByte_is (B b : Nat) (l : List UInt8) (c : UInt8) (z : Int) (w : World) (h : Bld B b l w) (hlen : l.length + 1 ≤ 140737488355328) (hBw : B ≤ w.heap.size) (hz : (c.toNat : Int) = z) :
    Calls Try.prog 150 #[.pointer (some ⟨b, 0, none⟩), .int .u8 z] w fun e w' => e = .returned .nilIface ∧ Bld B b (l ++ [c]) w' ∧ Below B w w' := by
  subst hz
  exact (writeByte_any B b l c w h hlen hBw).mono fun _ _ ⟨he, h1, h2, _⟩ => ⟨he, h1, h2⟩
theorem writeString_is (B b : Nat) (l : List UInt8) (s : ByteArray) (w : World) (h : Bld B b l w) (hlen : l.length + s.size ≤ 140737488355328) (hBw : B ≤ w.heap.size) :
    Calls Try.prog 151 #[.pointer (some ⟨b, 0, none⟩), .string s] w fun e w' => e = .returned (.tuple #[.int .i64 s.size, .nilIface]) ∧ Bld B b (l ++ s.data.toList) w' ∧ Below B w w' :=
  (writeString_any B b l s w h hlen hBw).mono fun _ _ ⟨he, h1, h2, _⟩ => ⟨he, h1, h2⟩

set_option maxHeartbeats 4000000 in
set_option maxRecDepth 100000 in
theorem measured_is (A : Option Addr) (c n : Nat) (L : List (List UInt8)) (r : ByteArray) (w : World) (hr : RdS w w.heap.size A L) (hn0 : Hid (L.length = n)) (hn : n ≤ 100000) (hs : Hid (∀ j, j < L.length → (L.getD j []).length ≤ 255)) (hrz : r.size ≤ 1000000) (hR : Hid (L.flatMap (textL 16) = r.data.toList)) :
    Calls Try.prog 147 #[.slice A n c] w fun e w' => e = .returned (.string r) ∧ Below w.heap.size w w' := by
  have HR := Lib.hid hr; clear hr
  have hfr : Bld w.heap.size w.heap.size [] (w.alloc (.cells #[.pointer none, .slice none 0 0] 171)) := Lib.fresh_isBuilder 171 5 w
  have HF := Lib.hid hfr
  clear hfr
  have hBA : Below w.heap.size w (w.alloc (.cells #[.pointer none, .slice none 0 0] 171)) := (Below.refl _ _).alloc (Nat.le_refl _) _
  have HBA := Lib.hid hBA
  clear hBA
  go_enter Try.func147, Try.ntmps147
  go_wp2_with fail
  generalize w.alloc (.cells #[.pointer none, .slice none 0 0] 171) = w1 at *
  generalize hg : w.heap.size = g at *
  have G := Lib.hid hg
  clear hg
  go_loopw [8, 5] (fun i u wr => ∃ (j : Nat) (l : List UInt8), j ≤ n ∧ i = .int .i64 j ∧ Hid (Bld g g l wr) ∧ Hid (l ++ (L.drop j).flatMap (textL 16) = r.data.toList) ∧ Below g w wr) (fun i _ _ => n - (intOf i).toNat)
  case atStart => exact ⟨0, [], Nat.zero_le _, rfl, HF, hR, HBA.out⟩
  case round =>
    obtain ⟨j, l, hj, rfl, hBd, hH, hB⟩ := hrel
    have hsz := hB.size
    have hle : l.length ≤ r.size := by rw [Lib.size_eq, ← hH.out, List.length_append]; omega
    by_cases hlt : j < n
    · have hkl : j < L.length := by rw [hn0.out]; exact hlt
      obtain ⟨ad, rfl, hab, hcell⟩ := (HR.out.on hB (Nat.le_refl g)).get hkl
      have hd := hH.out
      have h255 := hs.out j hkl
      have hml := mk_list (L.getD j [])
      have hlq := mk_size (L.getD j [])
      have hof := ofNat_mod (L.getD j []).length
      have hd2 : (l ++ [UInt8.ofNat (L.getD j []).length] ++ (mk (L.getD j [])).data.toList) ++ (L.drop (j + 1)).flatMap (textL 16) = r.data.toList := by
        rw [← hd, textL_drop 16 hkl, textL_16, mk_list]
        simp
      have hz : ((UInt8.ofNat (L.getD j []).length).toNat : Int) = ((mk (L.getD j [])).size : Int) := by rw [hof, hlq]; omega
      have hy : (mk (L.getD j [])).size ≤ 255 := by omega
      generalize UInt8.ofNat (L.getD j []).length = cc at *
      generalize mk (L.getD j []) = y at *
      have HZ := Lib.hid hz
      have HD := Lib.hid hd2
      have HLE := Lib.hid hle
      clear hd hd2 hH hkl hml hlq hof h255 hz hle
      go_wp2_with fail
      refine (writeByte_is g g l cc (y.size : Int) _ hBd.out (by have := HLE.out; omega) (by have := G.out; omega) HZ.out).mono ?_
      rintro e w3 ⟨rfl, hb3, hB3⟩
      have HB3 := Lib.hid hb3
      have hBB := hB.trans hB3
      have hsz3 := hBB.size
      clear hB hB3 hb3 hsz hcell
      go_wp2_with fail
      refine (writeString_is g g _ y _ HB3.out (by rw [List.length_append, List.length_singleton]; have := HLE.out; omega) (by have := G.out; omega)).mono ?_
      rintro e w4 ⟨rfl, hb4, hB4⟩
      have HB4 := Lib.hid hb4
      have hBC := hBB.trans hB4
      clear hBB hB4 hb4 hsz3
      go_wp2_with fail
      go_roundw
      case rel => exact ⟨j + 1, _, by omega, by go_num, HB4, HD, hBC⟩
      case measure => simp [intOf]; omega
    · have hd := hH.out
      rw [List.drop_of_length_le (by rw [hn0.out]; omega), List.flatMap_nil, List.append_nil] at hd
      have hbk := hBd.out
      rw [hd] at hbk
      have HBK := Lib.hid hbk
      clear hd hH hbk
      go_wp2_with fail
      refine (Try.Builder_String_any g g r.data.toList _ HBK.out (by have := G.out; omega)).mono ?_
      rintro e w4 ⟨rfl, hB4⟩
      go_wp2_with fail
      go_ret
      exact ⟨rfl, by rw [G.out]; exact hB.trans hB4⟩
end Go.Proofs.Ytpmmjmnleoicjaa

/- The contract of rdata's Plain. For records of at most 10^5 texts of at most 10^5 bytes. -/
namespace Go.Proofs.Ytpmmjmnleoicjaa
open Go.RowKit Bytes Strs Nums NameMath RecMath

theorem one_flat {L : List (List UInt8)} (h : L.length = 1) : L.flatten = L.getD 0 [] := by
  match L, h with
  | [a], _ => simp
theorem two_flat {L : List (List UInt8)} (h : L.length = 2) : L.flatten = L.getD 0 [] ++ L.getD 1 [] := by
  match L, h with
  | [a, b], _ => simp
theorem one_map {L : List (List UInt8)} {k : Nat} (hk : k ≠ 16) (h : L.length = 1) : L.flatMap (textL k) = L.getD 0 [] := by
  match L, h with
  | [a], _ => simp [textL_not hk]
theorem nil_of {α : Type} {L : List α} (h : L.length = 0) : L = [] := List.length_eq_zero_iff.1 h
theorem check_at (R : Rec) (x : ByteArray) (k l t : Nat) (A1 : Option Addr) (n1 c1 : Nat) (A2 : Option Addr) (n2 c2 : Nat) (A3 : Option Addr) (n3 c3 : Nat) (E : Nat) (kk ee : Int) (w : World) (hR : Hid (RecAt w w.heap.size R x k l t A1 n1 A2 n2 A3 n3)) (hS : Hid (Small R)) (hE : Hid (checkE R = E)) (hkk : (k : Int) = kk) (hee : (E : Int) = ee) :
    Calls Try.prog 51 #[.agg #[.string x, .int .u16 kk, .int .u16 l, .int .u32 t, .slice A1 n1 c1, .slice A2 n2 c2, .slice A3 n3 c3]] w fun e w' => e = .returned (.int .i64 ee) ∧ Below w.heap.size w w' := by
  subst hkk
  subst hee
  exact check_is R x k l t A1 n1 c1 A2 n2 c2 A3 n3 c3 E w hR hS hE
theorem numbers_held (A : Option Addr) (c n k : Nat) (L : List Nat) (r : ByteArray) (pa pb pc pd : Addr) (va vb vc vd : Value) (w W : World)
    (ha : pa.block < w.heap.size) (hb : pb.block < w.heap.size) (hc : pc.block < w.heap.size) (hd : pd.block < w.heap.size)
    (hS : W.cell? pa = some va ∧ W.cell? pb = some vb ∧ W.cell? pc = some vc ∧ W.cell? pd = some vd ∧ Held w W)
    (hr : Hid (RdN w w.heap.size A L)) (hn0 : Hid (L.length = n)) (hn : n ≤ 100000) (hk : k ≤ 8) (hu : Hid (∀ k, k < L.length → L.getD k 0 ≤ 4294967295)) (hR : Hid (numsL k L = r.data.toList)) (kk : Int) (hkk : (k : Int) = kk) :
    Calls Try.prog 146 #[.slice A n c, .int .i64 kk] W fun e w' => e = .returned (.string r) ∧ w'.cell? pa = some va ∧ w'.cell? pb = some vb ∧ w'.cell? pc = some vc ∧ w'.cell? pd = some vd ∧ Held w w' := by
  subst hkk
  obtain ⟨h1, h2, h3, h4, hH⟩ := hS
  have hH' : Below w.heap.size w W := hH
  have hle := hH'.size
  exact (numbers_is A c n k L r W (hr.out.on hH' hle) hn0 hn hk hu hR).mono fun _ _ ⟨he, hB⟩ => ⟨he, (hB.cell (by omega)).trans h1, (hB.cell (by omega)).trans h2, (hB.cell (by omega)).trans h3, (hB.cell (by omega)).trans h4, hH'.trans (hB.mono hle)⟩

set_option maxHeartbeats 4000000 in
set_option maxRecDepth 100000 in
theorem plain_2 (R : Rec) (x : ByteArray) (k l t : Nat) (A1 : Option Addr) (n1 c1 : Nat) (A2 : Option Addr) (n2 c2 : Nat) (A3 : Option Addr) (n3 c3 : Nat) (p : ByteArray) (w : World) (hR : Hid (RecAt w w.heap.size R x k l t A1 n1 A2 n2 A3 n3)) (hS : Hid (Small R)) (hk : k = 2) (hE : Hid (checkE R = 0)) (hp : Hid (plainL R = p.data.toList)) :
    Calls Try.prog 129 #[.agg #[.string x, .int .u16 k, .int .u16 l, .int .u32 t, .slice A1 n1 c1, .slice A2 n2 c2, .slice A3 n3 c3]] w fun e w' => e = .returned (.string p) ∧ Below w.heap.size w w' := by
  subst hk
  have hm1 := hR.out.m1 hS.out
  have hm2 := hR.out.m2 hS.out
  have hm3 := hR.out.m3 hS.out
  have hkd := hR.out.kind
  have HR2 := Lib.hid (hR.out.box (.cells #[.string x, .int .u16 2, .int .u16 l, .int .u32 t, .slice A1 n1 c1, .slice A2 n2 c2, .slice A3 n3 c3] 60))
  have HB0 : Hid (Below w.heap.size w (w.alloc (.cells #[.string x, .int .u16 2, .int .u16 l, .int .u32 t, .slice A1 n1 c1, .slice A2 n2 c2, .slice A3 n3 c3] 60))) := (Below.refl _ _).alloc (Nat.le_refl _) _
  have d1 : (w.alloc (.cells #[.string x, .int .u16 2, .int .u16 l, .int .u32 t, .slice A1 n1 c1, .slice A2 n2 c2, .slice A3 n3 c3] 60)).cell? ⟨w.heap.size, 1, none⟩ = some (.int .u16 2) := by simp
  have d4 : (w.alloc (.cells #[.string x, .int .u16 2, .int .u16 l, .int .u32 t, .slice A1 n1 c1, .slice A2 n2 c2, .slice A3 n3 c3] 60)).cell? ⟨w.heap.size, 4, none⟩ = some (.slice A1 n1 c1) := by simp
  have d5 : (w.alloc (.cells #[.string x, .int .u16 2, .int .u16 l, .int .u32 t, .slice A1 n1 c1, .slice A2 n2 c2, .slice A3 n3 c3] 60)).cell? ⟨w.heap.size, 5, none⟩ = some (.slice A2 n2 c2) := by simp
  have d6 : (w.alloc (.cells #[.string x, .int .u16 2, .int .u16 l, .int .u32 t, .slice A1 n1 c1, .slice A2 n2 c2, .slice A3 n3 c3] 60)).cell? ⟨w.heap.size, 6, none⟩ = some (.slice A3 n3 c3) := by simp
  have hgl : w.heap.size < (w.alloc (.cells #[.string x, .int .u16 2, .int .u16 l, .int .u32 t, .slice A1 n1 c1, .slice A2 n2 c2, .slice A3 n3 c3] 60)).heap.size := by simp
  have HL1 := Lib.hid HR2.out.len1
  have HL2 := Lib.hid HR2.out.len2
  have HL3 := Lib.hid HR2.out.len3
  have HRD1 := Lib.hid HR2.out.rd1
  have HRD2 := Lib.hid HR2.out.rd2
  have HRD3 := Lib.hid HR2.out.rd3
  have hok := (check_ok hE.out).2.1
  have hoc := okB_cnt hok
  obtain ⟨l1, l2, l3⟩ := cnt_of hoc.1
  rw [HL1.out, hkd] at l1
  rw [HL2.out, hkd] at l2
  rw [HL3.out, hkd] at l3
  rw [show shA 2 = 1 from rfl] at l1
  rw [show shB 2 = 0 from rfl] at l2
  rw [show shC 2 = 0 from rfl] at l3
  have hpl : R.names.getD 0 [] = p.data.toList := by
    rw [← hp.out, plainL_not (by rw [hkd]; decide), nil_of (L := R.nums) (by rw [HL2.out]; exact l2), nil_of (L := R.texts) (by rw [HL3.out]; omega), one_flat (by rw [HL1.out]; exact l1)]
    simp [numsL]
  have HPL := Lib.hid hpl
  have M1 := Lib.hid l1
  have M2 := Lib.hid l2
  have M3 := Lib.hid l3
  clear hok hoc hpl hp hkd l1 l2 l3
  go_enter Try.func129, Try.ntmps129
  go_wp2_with fail
  generalize w.alloc (.cells #[.string x, .int .u16 2, .int .u16 l, .int .u32 t, .slice A1 n1 c1, .slice A2 n2 c2, .slice A3 n3 c3] 60) = wb at *
  generalize hgw : w.heap.size = g at *
  have HGW := Lib.hid hgw
  clear hgw
  ((with_reducible refine (check_at R x 2 l t A1 n1 c1 A2 n2 c2 A3 n3 c3 0 2 0 _ HR2 hS hE rfl rfl).mono ?_))
  rintro e w1 ⟨rfl, hB⟩
  have hw1 := hB.size
  have q1 : w1.cell? ⟨g, 1, none⟩ = some (.int .u16 2) := (hB.cell (p := ⟨g, 1, none⟩) hgl).trans d1
  have q4 : w1.cell? ⟨g, 4, none⟩ = some (.slice A1 n1 c1) := (hB.cell (p := ⟨g, 4, none⟩) hgl).trans d4
  have q5 : w1.cell? ⟨g, 5, none⟩ = some (.slice A2 n2 c2) := (hB.cell (p := ⟨g, 5, none⟩) hgl).trans d5
  have q6 : w1.cell? ⟨g, 6, none⟩ = some (.slice A3 n3 c3) := (hB.cell (p := ⟨g, 6, none⟩) hgl).trans d6
  have hgl1 : g < w1.heap.size := Nat.lt_of_lt_of_le hgl hw1
  have h1n : 0 < R.names.length := by rw [HL1.out]; have := M1.out; have := M3.out; omega
  obtain ⟨ad, rfl, hab, hcell⟩ := (HRD1.out.on hB hw1).get h1n
  have hy := hS.out.s1 0 h1n
  rw [HPL.out, ← Lib.size_eq] at hy
  rw [HPL.out, mk_data, show ad.add 0 = ad from by simp [Addr.add]] at hcell
  have hn0 : (0 : Int) < n1 := by have := M1.out; have := M3.out; omega
  have hn0n : 0 < n1 := by have := M1.out; have := M3.out; omega
  clear h1n
  have hy6 : p.size ≤ 1000000 := by omega
  go_wp2_with fail
  refine (clone_any p _ hy6).mono ?_
  rintro e w2 ⟨rfl, hB2⟩
  have hBB := hB.trans (hB2.mono hw1)
  go_wp2_with fail
  go_ret
  exact ⟨rfl, by have h := HB0.out; rw [← HGW.out] at h; exact h.trans (hBB.mono h.size)⟩

set_option maxHeartbeats 4000000 in
set_option maxRecDepth 100000 in
theorem plain_5 (R : Rec) (x : ByteArray) (k l t : Nat) (A1 : Option Addr) (n1 c1 : Nat) (A2 : Option Addr) (n2 c2 : Nat) (A3 : Option Addr) (n3 c3 : Nat) (p : ByteArray) (w : World) (hR : Hid (RecAt w w.heap.size R x k l t A1 n1 A2 n2 A3 n3)) (hS : Hid (Small R)) (hk : k = 5) (hE : Hid (checkE R = 0)) (hp : Hid (plainL R = p.data.toList)) :
    Calls Try.prog 129 #[.agg #[.string x, .int .u16 k, .int .u16 l, .int .u32 t, .slice A1 n1 c1, .slice A2 n2 c2, .slice A3 n3 c3]] w fun e w' => e = .returned (.string p) ∧ Below w.heap.size w w' := by
  subst hk
  have hm1 := hR.out.m1 hS.out
  have hm2 := hR.out.m2 hS.out
  have hm3 := hR.out.m3 hS.out
  have hkd := hR.out.kind
  have HR2 := Lib.hid (hR.out.box (.cells #[.string x, .int .u16 5, .int .u16 l, .int .u32 t, .slice A1 n1 c1, .slice A2 n2 c2, .slice A3 n3 c3] 60))
  have HB0 : Hid (Below w.heap.size w (w.alloc (.cells #[.string x, .int .u16 5, .int .u16 l, .int .u32 t, .slice A1 n1 c1, .slice A2 n2 c2, .slice A3 n3 c3] 60))) := (Below.refl _ _).alloc (Nat.le_refl _) _
  have d1 : (w.alloc (.cells #[.string x, .int .u16 5, .int .u16 l, .int .u32 t, .slice A1 n1 c1, .slice A2 n2 c2, .slice A3 n3 c3] 60)).cell? ⟨w.heap.size, 1, none⟩ = some (.int .u16 5) := by simp
  have d4 : (w.alloc (.cells #[.string x, .int .u16 5, .int .u16 l, .int .u32 t, .slice A1 n1 c1, .slice A2 n2 c2, .slice A3 n3 c3] 60)).cell? ⟨w.heap.size, 4, none⟩ = some (.slice A1 n1 c1) := by simp
  have d5 : (w.alloc (.cells #[.string x, .int .u16 5, .int .u16 l, .int .u32 t, .slice A1 n1 c1, .slice A2 n2 c2, .slice A3 n3 c3] 60)).cell? ⟨w.heap.size, 5, none⟩ = some (.slice A2 n2 c2) := by simp
  have d6 : (w.alloc (.cells #[.string x, .int .u16 5, .int .u16 l, .int .u32 t, .slice A1 n1 c1, .slice A2 n2 c2, .slice A3 n3 c3] 60)).cell? ⟨w.heap.size, 6, none⟩ = some (.slice A3 n3 c3) := by simp
  have hgl : w.heap.size < (w.alloc (.cells #[.string x, .int .u16 5, .int .u16 l, .int .u32 t, .slice A1 n1 c1, .slice A2 n2 c2, .slice A3 n3 c3] 60)).heap.size := by simp
  have HL1 := Lib.hid HR2.out.len1
  have HL2 := Lib.hid HR2.out.len2
  have HL3 := Lib.hid HR2.out.len3
  have HRD1 := Lib.hid HR2.out.rd1
  have HRD2 := Lib.hid HR2.out.rd2
  have HRD3 := Lib.hid HR2.out.rd3
  have hok := (check_ok hE.out).2.1
  have hoc := okB_cnt hok
  obtain ⟨l1, l2, l3⟩ := cnt_of hoc.1
  rw [HL1.out, hkd] at l1
  rw [HL2.out, hkd] at l2
  rw [HL3.out, hkd] at l3
  rw [show shA 5 = 1 from rfl] at l1
  rw [show shB 5 = 0 from rfl] at l2
  rw [show shC 5 = 0 from rfl] at l3
  have hpl : R.names.getD 0 [] = p.data.toList := by
    rw [← hp.out, plainL_not (by rw [hkd]; decide), nil_of (L := R.nums) (by rw [HL2.out]; exact l2), nil_of (L := R.texts) (by rw [HL3.out]; omega), one_flat (by rw [HL1.out]; exact l1)]
    simp [numsL]
  have HPL := Lib.hid hpl
  have M1 := Lib.hid l1
  have M2 := Lib.hid l2
  have M3 := Lib.hid l3
  clear hok hoc hpl hp hkd l1 l2 l3
  go_enter Try.func129, Try.ntmps129
  go_wp2_with fail
  generalize w.alloc (.cells #[.string x, .int .u16 5, .int .u16 l, .int .u32 t, .slice A1 n1 c1, .slice A2 n2 c2, .slice A3 n3 c3] 60) = wb at *
  generalize hgw : w.heap.size = g at *
  have HGW := Lib.hid hgw
  clear hgw
  ((with_reducible refine (check_at R x 5 l t A1 n1 c1 A2 n2 c2 A3 n3 c3 0 5 0 _ HR2 hS hE rfl rfl).mono ?_))
  rintro e w1 ⟨rfl, hB⟩
  have hw1 := hB.size
  have q1 : w1.cell? ⟨g, 1, none⟩ = some (.int .u16 5) := (hB.cell (p := ⟨g, 1, none⟩) hgl).trans d1
  have q4 : w1.cell? ⟨g, 4, none⟩ = some (.slice A1 n1 c1) := (hB.cell (p := ⟨g, 4, none⟩) hgl).trans d4
  have q5 : w1.cell? ⟨g, 5, none⟩ = some (.slice A2 n2 c2) := (hB.cell (p := ⟨g, 5, none⟩) hgl).trans d5
  have q6 : w1.cell? ⟨g, 6, none⟩ = some (.slice A3 n3 c3) := (hB.cell (p := ⟨g, 6, none⟩) hgl).trans d6
  have hgl1 : g < w1.heap.size := Nat.lt_of_lt_of_le hgl hw1
  have h1n : 0 < R.names.length := by rw [HL1.out]; have := M1.out; have := M3.out; omega
  obtain ⟨ad, rfl, hab, hcell⟩ := (HRD1.out.on hB hw1).get h1n
  have hy := hS.out.s1 0 h1n
  rw [HPL.out, ← Lib.size_eq] at hy
  rw [HPL.out, mk_data, show ad.add 0 = ad from by simp [Addr.add]] at hcell
  have hn0 : (0 : Int) < n1 := by have := M1.out; have := M3.out; omega
  have hn0n : 0 < n1 := by have := M1.out; have := M3.out; omega
  clear h1n
  have hy6 : p.size ≤ 1000000 := by omega
  go_wp2_with fail
  refine (clone_any p _ hy6).mono ?_
  rintro e w2 ⟨rfl, hB2⟩
  have hBB := hB.trans (hB2.mono hw1)
  go_wp2_with fail
  go_ret
  exact ⟨rfl, by have h := HB0.out; rw [← HGW.out] at h; exact h.trans (hBB.mono h.size)⟩

set_option maxHeartbeats 4000000 in
set_option maxRecDepth 100000 in
theorem plain_12 (R : Rec) (x : ByteArray) (k l t : Nat) (A1 : Option Addr) (n1 c1 : Nat) (A2 : Option Addr) (n2 c2 : Nat) (A3 : Option Addr) (n3 c3 : Nat) (p : ByteArray) (w : World) (hR : Hid (RecAt w w.heap.size R x k l t A1 n1 A2 n2 A3 n3)) (hS : Hid (Small R)) (hk : k = 12) (hE : Hid (checkE R = 0)) (hp : Hid (plainL R = p.data.toList)) :
    Calls Try.prog 129 #[.agg #[.string x, .int .u16 k, .int .u16 l, .int .u32 t, .slice A1 n1 c1, .slice A2 n2 c2, .slice A3 n3 c3]] w fun e w' => e = .returned (.string p) ∧ Below w.heap.size w w' := by
  subst hk
  have hm1 := hR.out.m1 hS.out
  have hm2 := hR.out.m2 hS.out
  have hm3 := hR.out.m3 hS.out
  have hkd := hR.out.kind
  have HR2 := Lib.hid (hR.out.box (.cells #[.string x, .int .u16 12, .int .u16 l, .int .u32 t, .slice A1 n1 c1, .slice A2 n2 c2, .slice A3 n3 c3] 60))
  have HB0 : Hid (Below w.heap.size w (w.alloc (.cells #[.string x, .int .u16 12, .int .u16 l, .int .u32 t, .slice A1 n1 c1, .slice A2 n2 c2, .slice A3 n3 c3] 60))) := (Below.refl _ _).alloc (Nat.le_refl _) _
  have d1 : (w.alloc (.cells #[.string x, .int .u16 12, .int .u16 l, .int .u32 t, .slice A1 n1 c1, .slice A2 n2 c2, .slice A3 n3 c3] 60)).cell? ⟨w.heap.size, 1, none⟩ = some (.int .u16 12) := by simp
  have d4 : (w.alloc (.cells #[.string x, .int .u16 12, .int .u16 l, .int .u32 t, .slice A1 n1 c1, .slice A2 n2 c2, .slice A3 n3 c3] 60)).cell? ⟨w.heap.size, 4, none⟩ = some (.slice A1 n1 c1) := by simp
  have d5 : (w.alloc (.cells #[.string x, .int .u16 12, .int .u16 l, .int .u32 t, .slice A1 n1 c1, .slice A2 n2 c2, .slice A3 n3 c3] 60)).cell? ⟨w.heap.size, 5, none⟩ = some (.slice A2 n2 c2) := by simp
  have d6 : (w.alloc (.cells #[.string x, .int .u16 12, .int .u16 l, .int .u32 t, .slice A1 n1 c1, .slice A2 n2 c2, .slice A3 n3 c3] 60)).cell? ⟨w.heap.size, 6, none⟩ = some (.slice A3 n3 c3) := by simp
  have hgl : w.heap.size < (w.alloc (.cells #[.string x, .int .u16 12, .int .u16 l, .int .u32 t, .slice A1 n1 c1, .slice A2 n2 c2, .slice A3 n3 c3] 60)).heap.size := by simp
  have HL1 := Lib.hid HR2.out.len1
  have HL2 := Lib.hid HR2.out.len2
  have HL3 := Lib.hid HR2.out.len3
  have HRD1 := Lib.hid HR2.out.rd1
  have HRD2 := Lib.hid HR2.out.rd2
  have HRD3 := Lib.hid HR2.out.rd3
  have hok := (check_ok hE.out).2.1
  have hoc := okB_cnt hok
  obtain ⟨l1, l2, l3⟩ := cnt_of hoc.1
  rw [HL1.out, hkd] at l1
  rw [HL2.out, hkd] at l2
  rw [HL3.out, hkd] at l3
  rw [show shA 12 = 1 from rfl] at l1
  rw [show shB 12 = 0 from rfl] at l2
  rw [show shC 12 = 0 from rfl] at l3
  have hpl : R.names.getD 0 [] = p.data.toList := by
    rw [← hp.out, plainL_not (by rw [hkd]; decide), nil_of (L := R.nums) (by rw [HL2.out]; exact l2), nil_of (L := R.texts) (by rw [HL3.out]; omega), one_flat (by rw [HL1.out]; exact l1)]
    simp [numsL]
  have HPL := Lib.hid hpl
  have M1 := Lib.hid l1
  have M2 := Lib.hid l2
  have M3 := Lib.hid l3
  clear hok hoc hpl hp hkd l1 l2 l3
  go_enter Try.func129, Try.ntmps129
  go_wp2_with fail
  generalize w.alloc (.cells #[.string x, .int .u16 12, .int .u16 l, .int .u32 t, .slice A1 n1 c1, .slice A2 n2 c2, .slice A3 n3 c3] 60) = wb at *
  generalize hgw : w.heap.size = g at *
  have HGW := Lib.hid hgw
  clear hgw
  ((with_reducible refine (check_at R x 12 l t A1 n1 c1 A2 n2 c2 A3 n3 c3 0 12 0 _ HR2 hS hE rfl rfl).mono ?_))
  rintro e w1 ⟨rfl, hB⟩
  have hw1 := hB.size
  have q1 : w1.cell? ⟨g, 1, none⟩ = some (.int .u16 12) := (hB.cell (p := ⟨g, 1, none⟩) hgl).trans d1
  have q4 : w1.cell? ⟨g, 4, none⟩ = some (.slice A1 n1 c1) := (hB.cell (p := ⟨g, 4, none⟩) hgl).trans d4
  have q5 : w1.cell? ⟨g, 5, none⟩ = some (.slice A2 n2 c2) := (hB.cell (p := ⟨g, 5, none⟩) hgl).trans d5
  have q6 : w1.cell? ⟨g, 6, none⟩ = some (.slice A3 n3 c3) := (hB.cell (p := ⟨g, 6, none⟩) hgl).trans d6
  have hgl1 : g < w1.heap.size := Nat.lt_of_lt_of_le hgl hw1
  have h1n : 0 < R.names.length := by rw [HL1.out]; have := M1.out; have := M3.out; omega
  obtain ⟨ad, rfl, hab, hcell⟩ := (HRD1.out.on hB hw1).get h1n
  have hy := hS.out.s1 0 h1n
  rw [HPL.out, ← Lib.size_eq] at hy
  rw [HPL.out, mk_data, show ad.add 0 = ad from by simp [Addr.add]] at hcell
  have hn0 : (0 : Int) < n1 := by have := M1.out; have := M3.out; omega
  have hn0n : 0 < n1 := by have := M1.out; have := M3.out; omega
  clear h1n
  have hy6 : p.size ≤ 1000000 := by omega
  go_wp2_with fail
  refine (clone_any p _ hy6).mono ?_
  rintro e w2 ⟨rfl, hB2⟩
  have hBB := hB.trans (hB2.mono hw1)
  go_wp2_with fail
  go_ret
  exact ⟨rfl, by have h := HB0.out; rw [← HGW.out] at h; exact h.trans (hBB.mono h.size)⟩

set_option maxHeartbeats 4000000 in
set_option maxRecDepth 100000 in
theorem plain_6 (R : Rec) (x : ByteArray) (k l t : Nat) (A1 : Option Addr) (n1 c1 : Nat) (A2 : Option Addr) (n2 c2 : Nat) (A3 : Option Addr) (n3 c3 : Nat) (p : ByteArray) (w : World) (hR : Hid (RecAt w w.heap.size R x k l t A1 n1 A2 n2 A3 n3)) (hS : Hid (Small R)) (hk : k = 6) (hE : Hid (checkE R = 0)) (hp : Hid (plainL R = p.data.toList)) :
    Calls Try.prog 129 #[.agg #[.string x, .int .u16 k, .int .u16 l, .int .u32 t, .slice A1 n1 c1, .slice A2 n2 c2, .slice A3 n3 c3]] w fun e w' => e = .returned (.string p) ∧ Below w.heap.size w w' := by
  subst hk
  have hm1 := hR.out.m1 hS.out
  have hm2 := hR.out.m2 hS.out
  have hm3 := hR.out.m3 hS.out
  have hkd := hR.out.kind
  have HR2 := Lib.hid (hR.out.box (.cells #[.string x, .int .u16 6, .int .u16 l, .int .u32 t, .slice A1 n1 c1, .slice A2 n2 c2, .slice A3 n3 c3] 60))
  have HB0 : Hid (Below w.heap.size w (w.alloc (.cells #[.string x, .int .u16 6, .int .u16 l, .int .u32 t, .slice A1 n1 c1, .slice A2 n2 c2, .slice A3 n3 c3] 60))) := (Below.refl _ _).alloc (Nat.le_refl _) _
  have d1 : (w.alloc (.cells #[.string x, .int .u16 6, .int .u16 l, .int .u32 t, .slice A1 n1 c1, .slice A2 n2 c2, .slice A3 n3 c3] 60)).cell? ⟨w.heap.size, 1, none⟩ = some (.int .u16 6) := by simp
  have d4 : (w.alloc (.cells #[.string x, .int .u16 6, .int .u16 l, .int .u32 t, .slice A1 n1 c1, .slice A2 n2 c2, .slice A3 n3 c3] 60)).cell? ⟨w.heap.size, 4, none⟩ = some (.slice A1 n1 c1) := by simp
  have d5 : (w.alloc (.cells #[.string x, .int .u16 6, .int .u16 l, .int .u32 t, .slice A1 n1 c1, .slice A2 n2 c2, .slice A3 n3 c3] 60)).cell? ⟨w.heap.size, 5, none⟩ = some (.slice A2 n2 c2) := by simp
  have d6 : (w.alloc (.cells #[.string x, .int .u16 6, .int .u16 l, .int .u32 t, .slice A1 n1 c1, .slice A2 n2 c2, .slice A3 n3 c3] 60)).cell? ⟨w.heap.size, 6, none⟩ = some (.slice A3 n3 c3) := by simp
  have hgl : w.heap.size < (w.alloc (.cells #[.string x, .int .u16 6, .int .u16 l, .int .u32 t, .slice A1 n1 c1, .slice A2 n2 c2, .slice A3 n3 c3] 60)).heap.size := by simp
  have HL1 := Lib.hid HR2.out.len1
  have HL2 := Lib.hid HR2.out.len2
  have HL3 := Lib.hid HR2.out.len3
  have HRD1 := Lib.hid HR2.out.rd1
  have HRD2 := Lib.hid HR2.out.rd2
  have HRD3 := Lib.hid HR2.out.rd3
  have hok := (check_ok hE.out).2.1
  have hoc := okB_cnt hok
  obtain ⟨l1, l2, l3⟩ := cnt_of hoc.1
  rw [HL1.out, hkd] at l1
  rw [HL2.out, hkd] at l2
  rw [HL3.out, hkd] at l3
  rw [show shA 6 = 2 from rfl] at l1
  rw [show shB 6 = 5 from rfl] at l2
  rw [show shC 6 = 0 from rfl] at l3
  have hpl : R.names.getD 0 [] ++ R.names.getD 1 [] ++ numsL 4 R.nums = p.data.toList := by
    rw [← hp.out, plainL_6 hkd, nil_of (L := R.texts) (by rw [HL3.out]; omega), two_flat (by rw [HL1.out]; exact l1)]
    simp
  have HPL := Lib.hid hpl
  have M1 := Lib.hid l1
  have M2 := Lib.hid l2
  have M3 := Lib.hid l3
  clear hok hoc hpl hp hkd l1 l2 l3
  go_enter Try.func129, Try.ntmps129
  go_wp2_with fail
  generalize w.alloc (.cells #[.string x, .int .u16 6, .int .u16 l, .int .u32 t, .slice A1 n1 c1, .slice A2 n2 c2, .slice A3 n3 c3] 60) = wb at *
  generalize hgw : w.heap.size = g at *
  have HGW := Lib.hid hgw
  clear hgw
  ((with_reducible refine (check_at R x 6 l t A1 n1 c1 A2 n2 c2 A3 n3 c3 0 6 0 _ HR2 hS hE rfl rfl).mono ?_))
  rintro e w1 ⟨rfl, hB⟩
  have hw1 := hB.size
  have q1 : w1.cell? ⟨g, 1, none⟩ = some (.int .u16 6) := (hB.cell (p := ⟨g, 1, none⟩) hgl).trans d1
  have q4 : w1.cell? ⟨g, 4, none⟩ = some (.slice A1 n1 c1) := (hB.cell (p := ⟨g, 4, none⟩) hgl).trans d4
  have q5 : w1.cell? ⟨g, 5, none⟩ = some (.slice A2 n2 c2) := (hB.cell (p := ⟨g, 5, none⟩) hgl).trans d5
  have q6 : w1.cell? ⟨g, 6, none⟩ = some (.slice A3 n3 c3) := (hB.cell (p := ⟨g, 6, none⟩) hgl).trans d6
  have hgl1 : g < w1.heap.size := Nat.lt_of_lt_of_le hgl hw1
  have h1n : 0 < R.names.length := by rw [HL1.out]; have := M1.out; omega
  have h2n : 1 < R.names.length := by rw [HL1.out]; have := M1.out; omega
  obtain ⟨ad, rfl, hab, hcell⟩ := (HRD1.out.on hB hw1).get h1n
  obtain ⟨ad', e', _, hcell2⟩ := (HRD1.out.on hB hw1).get h2n
  injection e' with e'
  subst e'
  rw [show ad.add 0 = ad from by simp [Addr.add]] at hcell
  rw [show ad.add 1 = ⟨ad.block, ad.off + 1, none⟩ from by simp [Addr.add]] at hcell2
  have hy := hS.out.s1 0 h1n
  have hy2 := hS.out.s1 1 h2n
  have hnl := numsL_len 4 R.nums
  rw [HL2.out] at hnl
  have HRN := Lib.hid (HRD2.out.on hB hw1)
  obtain ⟨r, hr⟩ : ∃ r, mk (numsL 4 R.nums) = r := ⟨_, rfl⟩
  have HRR : Hid (numsL 4 R.nums = r.data.toList) := by show _ = _; rw [← hr, mk_list]
  have hpe : p = mk (R.names.getD 0 []) ++ mk (R.names.getD 1 []) ++ r := list_inj (by rw [← HPL.out, cat_list, cat_list, mk_list, mk_list, HRR.out])
  have hrz : r.size ≤ 100 := by rw [← hr, mk_size, hnl]; have := M2.out; omega
  rw [← mk_size] at hy hy2
  generalize mk (R.names.getD 0 []) = y0 at *
  generalize mk (R.names.getD 1 []) = y1 at *
  have hy02 : (y0 ++ y1).size ≤ 200000 := by rw [ByteArray.size_append]; omega
  have hs1 : (9223372036854775807 < y0.size + y1.size) = False := eq_false (by omega)
  have hs2 : (9223372036854775807 < y0.size + y1.size + r.size) = False := eq_false (by omega)
  have HPE := Lib.hid hpe
  have hn0 : (0 : Int) < n1 := by have := M1.out; omega
  have hn0n : 0 < n1 := by have := M1.out; omega
  have hn1 : (1 : Int) < n1 := by have := M1.out; omega
  have hab1 : (⟨ad.block, ad.off + 1, none⟩ : Addr).block < w1.heap.size := hab
  have hH0 : Held w1 w1.drew := (Below.refl _ _).drew
  have hg4 : (⟨g, 4, none⟩ : Addr).block < w1.heap.size := hgl1
  have hg5 : (⟨g, 5, none⟩ : Addr).block < w1.heap.size := hgl1
  have hu := Lib.hid hS.out.u2
  clear h1n h2n hpe hr hnl
  go_wp2_with fail
  go_region_held3 (fun w' => w'.cell? ad = some (.string y0) ∧ w'.cell? ⟨ad.block, ad.off + 1, none⟩ = some (.string y1) ∧ w'.cell? ⟨g, 4, none⟩ = some (.slice (some ad) n1 c1) ∧ w'.cell? ⟨g, 5, none⟩ = some (.slice A2 n2 c2) ∧ Held w1 w') (go_keep)
    (first | ((go_at_call 146; (with_reducible refine (numbers_held A2 c2 n2 4 R.nums r ad ⟨ad.block, ad.off + 1, none⟩ ⟨g, 4, none⟩ ⟨g, 5, none⟩ (.string y0) (.string y1) (.slice (some ad) n1 c1) (.slice A2 n2 c2) w1 _ hab hab1 hg4 hg5 ?_ HRN HL2 hm2 (by decide) hu HRR 4 rfl).mono ?_)); (simp [*]); rintro e w2 ⟨rfl, k0, k1, k2, k3, hH2⟩))
  have hBB := hB.trans (Below.mono hH2 hw1)
  go_wp2_with fail
  go_ret
  exact ⟨by rw [HPE.out]; rfl, by have h := HB0.out; rw [← HGW.out] at h; exact h.trans (hBB.mono h.size)⟩

set_option maxHeartbeats 4000000 in
set_option maxRecDepth 100000 in
theorem plain_15 (R : Rec) (x : ByteArray) (k l t : Nat) (A1 : Option Addr) (n1 c1 : Nat) (A2 : Option Addr) (n2 c2 : Nat) (A3 : Option Addr) (n3 c3 : Nat) (p : ByteArray) (w : World) (hR : Hid (RecAt w w.heap.size R x k l t A1 n1 A2 n2 A3 n3)) (hS : Hid (Small R)) (hk : k = 15) (hE : Hid (checkE R = 0)) (hp : Hid (plainL R = p.data.toList)) :
    Calls Try.prog 129 #[.agg #[.string x, .int .u16 k, .int .u16 l, .int .u32 t, .slice A1 n1 c1, .slice A2 n2 c2, .slice A3 n3 c3]] w fun e w' => e = .returned (.string p) ∧ Below w.heap.size w w' := by
  subst hk
  have hm1 := hR.out.m1 hS.out
  have hm2 := hR.out.m2 hS.out
  have hm3 := hR.out.m3 hS.out
  have hkd := hR.out.kind
  have HR2 := Lib.hid (hR.out.box (.cells #[.string x, .int .u16 15, .int .u16 l, .int .u32 t, .slice A1 n1 c1, .slice A2 n2 c2, .slice A3 n3 c3] 60))
  have HB0 : Hid (Below w.heap.size w (w.alloc (.cells #[.string x, .int .u16 15, .int .u16 l, .int .u32 t, .slice A1 n1 c1, .slice A2 n2 c2, .slice A3 n3 c3] 60))) := (Below.refl _ _).alloc (Nat.le_refl _) _
  have d1 : (w.alloc (.cells #[.string x, .int .u16 15, .int .u16 l, .int .u32 t, .slice A1 n1 c1, .slice A2 n2 c2, .slice A3 n3 c3] 60)).cell? ⟨w.heap.size, 1, none⟩ = some (.int .u16 15) := by simp
  have d4 : (w.alloc (.cells #[.string x, .int .u16 15, .int .u16 l, .int .u32 t, .slice A1 n1 c1, .slice A2 n2 c2, .slice A3 n3 c3] 60)).cell? ⟨w.heap.size, 4, none⟩ = some (.slice A1 n1 c1) := by simp
  have d5 : (w.alloc (.cells #[.string x, .int .u16 15, .int .u16 l, .int .u32 t, .slice A1 n1 c1, .slice A2 n2 c2, .slice A3 n3 c3] 60)).cell? ⟨w.heap.size, 5, none⟩ = some (.slice A2 n2 c2) := by simp
  have d6 : (w.alloc (.cells #[.string x, .int .u16 15, .int .u16 l, .int .u32 t, .slice A1 n1 c1, .slice A2 n2 c2, .slice A3 n3 c3] 60)).cell? ⟨w.heap.size, 6, none⟩ = some (.slice A3 n3 c3) := by simp
  have hgl : w.heap.size < (w.alloc (.cells #[.string x, .int .u16 15, .int .u16 l, .int .u32 t, .slice A1 n1 c1, .slice A2 n2 c2, .slice A3 n3 c3] 60)).heap.size := by simp
  have HL1 := Lib.hid HR2.out.len1
  have HL2 := Lib.hid HR2.out.len2
  have HL3 := Lib.hid HR2.out.len3
  have HRD1 := Lib.hid HR2.out.rd1
  have HRD2 := Lib.hid HR2.out.rd2
  have HRD3 := Lib.hid HR2.out.rd3
  have hok := (check_ok hE.out).2.1
  have hoc := okB_cnt hok
  obtain ⟨l1, l2, l3⟩ := cnt_of hoc.1
  rw [HL1.out, hkd] at l1
  rw [HL2.out, hkd] at l2
  rw [HL3.out, hkd] at l3
  rw [show shA 15 = 1 from rfl] at l1
  rw [show shB 15 = 1 from rfl] at l2
  rw [show shC 15 = 0 from rfl] at l3
  have hpl : numsL 2 R.nums ++ R.names.getD 0 [] = p.data.toList := by
    rw [← hp.out, plainL_not (by rw [hkd]; decide), nil_of (L := R.texts) (by rw [HL3.out]; omega), one_flat (by rw [HL1.out]; exact l1)]
    simp
  have HPL := Lib.hid hpl
  have M1 := Lib.hid l1
  have M2 := Lib.hid l2
  have M3 := Lib.hid l3
  clear hok hoc hpl hp hkd l1 l2 l3
  go_enter Try.func129, Try.ntmps129
  go_wp2_with fail
  generalize w.alloc (.cells #[.string x, .int .u16 15, .int .u16 l, .int .u32 t, .slice A1 n1 c1, .slice A2 n2 c2, .slice A3 n3 c3] 60) = wb at *
  generalize hgw : w.heap.size = g at *
  have HGW := Lib.hid hgw
  clear hgw
  ((with_reducible refine (check_at R x 15 l t A1 n1 c1 A2 n2 c2 A3 n3 c3 0 15 0 _ HR2 hS hE rfl rfl).mono ?_))
  rintro e w1 ⟨rfl, hB⟩
  have hw1 := hB.size
  have q1 : w1.cell? ⟨g, 1, none⟩ = some (.int .u16 15) := (hB.cell (p := ⟨g, 1, none⟩) hgl).trans d1
  have q4 : w1.cell? ⟨g, 4, none⟩ = some (.slice A1 n1 c1) := (hB.cell (p := ⟨g, 4, none⟩) hgl).trans d4
  have q5 : w1.cell? ⟨g, 5, none⟩ = some (.slice A2 n2 c2) := (hB.cell (p := ⟨g, 5, none⟩) hgl).trans d5
  have q6 : w1.cell? ⟨g, 6, none⟩ = some (.slice A3 n3 c3) := (hB.cell (p := ⟨g, 6, none⟩) hgl).trans d6
  have hgl1 : g < w1.heap.size := Nat.lt_of_lt_of_le hgl hw1
  have h1n : 0 < R.names.length := by rw [HL1.out]; have := M1.out; omega
  obtain ⟨ad, rfl, hab, hcell⟩ := (HRD1.out.on hB hw1).get h1n
  rw [show ad.add 0 = ad from by simp [Addr.add]] at hcell
  have hy := hS.out.s1 0 h1n
  have hnl := numsL_len 2 R.nums
  rw [HL2.out] at hnl
  have HRN := Lib.hid (HRD2.out.on hB hw1)
  obtain ⟨r, hr⟩ : ∃ r, mk (numsL 2 R.nums) = r := ⟨_, rfl⟩
  have HRR : Hid (numsL 2 R.nums = r.data.toList) := by show _ = _; rw [← hr, mk_list]
  have hpe : p = r ++ mk (R.names.getD 0 []) := list_inj (by rw [← HPL.out, cat_list, mk_list, HRR.out])
  have hrz : r.size ≤ 100 := by rw [← hr, mk_size, hnl]; have := M2.out; omega
  rw [← mk_size] at hy
  generalize mk (R.names.getD 0 []) = y0 at *
  have hs1 : (9223372036854775807 < r.size + y0.size) = False := eq_false (by omega)
  have HPE := Lib.hid hpe
  have hn0 : (0 : Int) < n1 := by have := M1.out; omega
  have hn0n : 0 < n1 := by have := M1.out; omega
  have hH0 : Held w1 w1.drew := (Below.refl _ _).drew
  have hg4 : (⟨g, 4, none⟩ : Addr).block < w1.heap.size := hgl1
  have hg5 : (⟨g, 5, none⟩ : Addr).block < w1.heap.size := hgl1
  have hu := Lib.hid hS.out.u2
  clear h1n hpe hr hnl
  go_wp2_with fail
  go_region_held3 (fun w' => w'.cell? ad = some (.string y0) ∧ w'.cell? ⟨g, 4, none⟩ = some (.slice (some ad) n1 c1) ∧ w'.cell? ⟨g, 5, none⟩ = some (.slice A2 n2 c2) ∧ Held w1 w') (go_keep)
    (first | ((go_at_call 146; (with_reducible refine (numbers_held A2 c2 n2 2 R.nums r ad ⟨g, 4, none⟩ ⟨g, 5, none⟩ ⟨g, 5, none⟩ (.string y0) (.slice (some ad) n1 c1) (.slice A2 n2 c2) (.slice A2 n2 c2) w1 _ hab hg4 hg5 hg5 ?_ HRN HL2 hm2 (by decide) hu HRR 2 rfl).mono ?_)); (simp [*]); rintro e w2 ⟨rfl, k0, k1, k2, k3, hH2⟩))
  have hBB := hB.trans (Below.mono hH2 hw1)
  go_wp2_with fail
  go_ret
  exact ⟨by rw [HPE.out]; rfl, by have h := HB0.out; rw [← HGW.out] at h; exact h.trans (hBB.mono h.size)⟩

set_option maxHeartbeats 4000000 in
set_option maxRecDepth 100000 in
theorem plain_33 (R : Rec) (x : ByteArray) (k l t : Nat) (A1 : Option Addr) (n1 c1 : Nat) (A2 : Option Addr) (n2 c2 : Nat) (A3 : Option Addr) (n3 c3 : Nat) (p : ByteArray) (w : World) (hR : Hid (RecAt w w.heap.size R x k l t A1 n1 A2 n2 A3 n3)) (hS : Hid (Small R)) (hk : k = 33) (hE : Hid (checkE R = 0)) (hp : Hid (plainL R = p.data.toList)) :
    Calls Try.prog 129 #[.agg #[.string x, .int .u16 k, .int .u16 l, .int .u32 t, .slice A1 n1 c1, .slice A2 n2 c2, .slice A3 n3 c3]] w fun e w' => e = .returned (.string p) ∧ Below w.heap.size w w' := by
  subst hk
  have hm1 := hR.out.m1 hS.out
  have hm2 := hR.out.m2 hS.out
  have hm3 := hR.out.m3 hS.out
  have hkd := hR.out.kind
  have HR2 := Lib.hid (hR.out.box (.cells #[.string x, .int .u16 33, .int .u16 l, .int .u32 t, .slice A1 n1 c1, .slice A2 n2 c2, .slice A3 n3 c3] 60))
  have HB0 : Hid (Below w.heap.size w (w.alloc (.cells #[.string x, .int .u16 33, .int .u16 l, .int .u32 t, .slice A1 n1 c1, .slice A2 n2 c2, .slice A3 n3 c3] 60))) := (Below.refl _ _).alloc (Nat.le_refl _) _
  have d1 : (w.alloc (.cells #[.string x, .int .u16 33, .int .u16 l, .int .u32 t, .slice A1 n1 c1, .slice A2 n2 c2, .slice A3 n3 c3] 60)).cell? ⟨w.heap.size, 1, none⟩ = some (.int .u16 33) := by simp
  have d4 : (w.alloc (.cells #[.string x, .int .u16 33, .int .u16 l, .int .u32 t, .slice A1 n1 c1, .slice A2 n2 c2, .slice A3 n3 c3] 60)).cell? ⟨w.heap.size, 4, none⟩ = some (.slice A1 n1 c1) := by simp
  have d5 : (w.alloc (.cells #[.string x, .int .u16 33, .int .u16 l, .int .u32 t, .slice A1 n1 c1, .slice A2 n2 c2, .slice A3 n3 c3] 60)).cell? ⟨w.heap.size, 5, none⟩ = some (.slice A2 n2 c2) := by simp
  have d6 : (w.alloc (.cells #[.string x, .int .u16 33, .int .u16 l, .int .u32 t, .slice A1 n1 c1, .slice A2 n2 c2, .slice A3 n3 c3] 60)).cell? ⟨w.heap.size, 6, none⟩ = some (.slice A3 n3 c3) := by simp
  have hgl : w.heap.size < (w.alloc (.cells #[.string x, .int .u16 33, .int .u16 l, .int .u32 t, .slice A1 n1 c1, .slice A2 n2 c2, .slice A3 n3 c3] 60)).heap.size := by simp
  have HL1 := Lib.hid HR2.out.len1
  have HL2 := Lib.hid HR2.out.len2
  have HL3 := Lib.hid HR2.out.len3
  have HRD1 := Lib.hid HR2.out.rd1
  have HRD2 := Lib.hid HR2.out.rd2
  have HRD3 := Lib.hid HR2.out.rd3
  have hok := (check_ok hE.out).2.1
  have hoc := okB_cnt hok
  obtain ⟨l1, l2, l3⟩ := cnt_of hoc.1
  rw [HL1.out, hkd] at l1
  rw [HL2.out, hkd] at l2
  rw [HL3.out, hkd] at l3
  rw [show shA 33 = 1 from rfl] at l1
  rw [show shB 33 = 3 from rfl] at l2
  rw [show shC 33 = 0 from rfl] at l3
  have hpl : numsL 2 R.nums ++ R.names.getD 0 [] = p.data.toList := by
    rw [← hp.out, plainL_not (by rw [hkd]; decide), nil_of (L := R.texts) (by rw [HL3.out]; omega), one_flat (by rw [HL1.out]; exact l1)]
    simp
  have HPL := Lib.hid hpl
  have M1 := Lib.hid l1
  have M2 := Lib.hid l2
  have M3 := Lib.hid l3
  clear hok hoc hpl hp hkd l1 l2 l3
  go_enter Try.func129, Try.ntmps129
  go_wp2_with fail
  generalize w.alloc (.cells #[.string x, .int .u16 33, .int .u16 l, .int .u32 t, .slice A1 n1 c1, .slice A2 n2 c2, .slice A3 n3 c3] 60) = wb at *
  generalize hgw : w.heap.size = g at *
  have HGW := Lib.hid hgw
  clear hgw
  ((with_reducible refine (check_at R x 33 l t A1 n1 c1 A2 n2 c2 A3 n3 c3 0 33 0 _ HR2 hS hE rfl rfl).mono ?_))
  rintro e w1 ⟨rfl, hB⟩
  have hw1 := hB.size
  have q1 : w1.cell? ⟨g, 1, none⟩ = some (.int .u16 33) := (hB.cell (p := ⟨g, 1, none⟩) hgl).trans d1
  have q4 : w1.cell? ⟨g, 4, none⟩ = some (.slice A1 n1 c1) := (hB.cell (p := ⟨g, 4, none⟩) hgl).trans d4
  have q5 : w1.cell? ⟨g, 5, none⟩ = some (.slice A2 n2 c2) := (hB.cell (p := ⟨g, 5, none⟩) hgl).trans d5
  have q6 : w1.cell? ⟨g, 6, none⟩ = some (.slice A3 n3 c3) := (hB.cell (p := ⟨g, 6, none⟩) hgl).trans d6
  have hgl1 : g < w1.heap.size := Nat.lt_of_lt_of_le hgl hw1
  have h1n : 0 < R.names.length := by rw [HL1.out]; have := M1.out; omega
  obtain ⟨ad, rfl, hab, hcell⟩ := (HRD1.out.on hB hw1).get h1n
  rw [show ad.add 0 = ad from by simp [Addr.add]] at hcell
  have hy := hS.out.s1 0 h1n
  have hnl := numsL_len 2 R.nums
  rw [HL2.out] at hnl
  have HRN := Lib.hid (HRD2.out.on hB hw1)
  obtain ⟨r, hr⟩ : ∃ r, mk (numsL 2 R.nums) = r := ⟨_, rfl⟩
  have HRR : Hid (numsL 2 R.nums = r.data.toList) := by show _ = _; rw [← hr, mk_list]
  have hpe : p = r ++ mk (R.names.getD 0 []) := list_inj (by rw [← HPL.out, cat_list, mk_list, HRR.out])
  have hrz : r.size ≤ 100 := by rw [← hr, mk_size, hnl]; have := M2.out; omega
  rw [← mk_size] at hy
  generalize mk (R.names.getD 0 []) = y0 at *
  have hs1 : (9223372036854775807 < r.size + y0.size) = False := eq_false (by omega)
  have HPE := Lib.hid hpe
  have hn0 : (0 : Int) < n1 := by have := M1.out; omega
  have hn0n : 0 < n1 := by have := M1.out; omega
  have hH0 : Held w1 w1.drew := (Below.refl _ _).drew
  have hg4 : (⟨g, 4, none⟩ : Addr).block < w1.heap.size := hgl1
  have hg5 : (⟨g, 5, none⟩ : Addr).block < w1.heap.size := hgl1
  have hu := Lib.hid hS.out.u2
  clear h1n hpe hr hnl
  go_wp2_with fail
  go_region_held3 (fun w' => w'.cell? ad = some (.string y0) ∧ w'.cell? ⟨g, 4, none⟩ = some (.slice (some ad) n1 c1) ∧ w'.cell? ⟨g, 5, none⟩ = some (.slice A2 n2 c2) ∧ Held w1 w') (go_keep)
    (first | ((go_at_call 146; (with_reducible refine (numbers_held A2 c2 n2 2 R.nums r ad ⟨g, 4, none⟩ ⟨g, 5, none⟩ ⟨g, 5, none⟩ (.string y0) (.slice (some ad) n1 c1) (.slice A2 n2 c2) (.slice A2 n2 c2) w1 _ hab hg4 hg5 hg5 ?_ HRN HL2 hm2 (by decide) hu HRR 2 rfl).mono ?_)); (simp [*]); rintro e w2 ⟨rfl, k0, k1, k2, k3, hH2⟩))
  have hBB := hB.trans (Below.mono hH2 hw1)
  go_wp2_with fail
  go_ret
  exact ⟨by rw [HPE.out]; rfl, by have h := HB0.out; rw [← HGW.out] at h; exact h.trans (hBB.mono h.size)⟩

set_option maxHeartbeats 4000000 in
set_option maxRecDepth 100000 in
theorem plain_16 (R : Rec) (x : ByteArray) (k l t : Nat) (A1 : Option Addr) (n1 c1 : Nat) (A2 : Option Addr) (n2 c2 : Nat) (A3 : Option Addr) (n3 c3 : Nat) (p : ByteArray) (w : World) (hR : Hid (RecAt w w.heap.size R x k l t A1 n1 A2 n2 A3 n3)) (hS : Hid (Small R)) (hk : k = 16) (hE : Hid (checkE R = 0)) (hp : Hid (plainL R = p.data.toList)) :
    Calls Try.prog 129 #[.agg #[.string x, .int .u16 k, .int .u16 l, .int .u32 t, .slice A1 n1 c1, .slice A2 n2 c2, .slice A3 n3 c3]] w fun e w' => e = .returned (.string p) ∧ Below w.heap.size w w' := by
  subst hk
  have hm1 := hR.out.m1 hS.out
  have hm2 := hR.out.m2 hS.out
  have hm3 := hR.out.m3 hS.out
  have hkd := hR.out.kind
  have HR2 := Lib.hid (hR.out.box (.cells #[.string x, .int .u16 16, .int .u16 l, .int .u32 t, .slice A1 n1 c1, .slice A2 n2 c2, .slice A3 n3 c3] 60))
  have HB0 : Hid (Below w.heap.size w (w.alloc (.cells #[.string x, .int .u16 16, .int .u16 l, .int .u32 t, .slice A1 n1 c1, .slice A2 n2 c2, .slice A3 n3 c3] 60))) := (Below.refl _ _).alloc (Nat.le_refl _) _
  have d1 : (w.alloc (.cells #[.string x, .int .u16 16, .int .u16 l, .int .u32 t, .slice A1 n1 c1, .slice A2 n2 c2, .slice A3 n3 c3] 60)).cell? ⟨w.heap.size, 1, none⟩ = some (.int .u16 16) := by simp
  have d4 : (w.alloc (.cells #[.string x, .int .u16 16, .int .u16 l, .int .u32 t, .slice A1 n1 c1, .slice A2 n2 c2, .slice A3 n3 c3] 60)).cell? ⟨w.heap.size, 4, none⟩ = some (.slice A1 n1 c1) := by simp
  have d5 : (w.alloc (.cells #[.string x, .int .u16 16, .int .u16 l, .int .u32 t, .slice A1 n1 c1, .slice A2 n2 c2, .slice A3 n3 c3] 60)).cell? ⟨w.heap.size, 5, none⟩ = some (.slice A2 n2 c2) := by simp
  have d6 : (w.alloc (.cells #[.string x, .int .u16 16, .int .u16 l, .int .u32 t, .slice A1 n1 c1, .slice A2 n2 c2, .slice A3 n3 c3] 60)).cell? ⟨w.heap.size, 6, none⟩ = some (.slice A3 n3 c3) := by simp
  have hgl : w.heap.size < (w.alloc (.cells #[.string x, .int .u16 16, .int .u16 l, .int .u32 t, .slice A1 n1 c1, .slice A2 n2 c2, .slice A3 n3 c3] 60)).heap.size := by simp
  have HL1 := Lib.hid HR2.out.len1
  have HL2 := Lib.hid HR2.out.len2
  have HL3 := Lib.hid HR2.out.len3
  have HRD1 := Lib.hid HR2.out.rd1
  have HRD2 := Lib.hid HR2.out.rd2
  have HRD3 := Lib.hid HR2.out.rd3
  have hok := (check_ok hE.out).2.1
  have hoc := okB_cnt hok
  obtain ⟨l1, l2, l3⟩ := cnt_of hoc.1
  rw [HL1.out, hkd] at l1
  rw [HL2.out, hkd] at l2
  rw [HL3.out, hkd] at l3
  rw [show shA 16 = 0 from rfl] at l1
  rw [show shB 16 = 0 from rfl] at l2
  rw [show shC 16 = 1 from rfl] at l3
  have hpl : R.texts.flatMap (textL 16) = p.data.toList := by
    rw [← hp.out, plainL_not (by rw [hkd]; decide), nil_of (L := R.nums) (by rw [HL2.out]; exact l2), nil_of (L := R.names) (by rw [HL1.out]; exact l1), hkd]
    simp [numsL]
  have hpz : p.size ≤ 1000000 := by
    have h1 := textL_len 16 R.texts
    have h2 := hoc.2.2.2
    rw [hkd] at h2
    rw [Lib.size_eq, ← hpl, h1]
    omega
  have h255 := Lib.hid (any_short (by have h := hoc.2.2.1; rw [hkd] at h; exact h))
  have HPL := Lib.hid hpl
  have M1 := Lib.hid l1
  have M2 := Lib.hid l2
  have M3 := Lib.hid l3
  clear hok hoc hpl hp hkd l1 l2 l3
  go_enter Try.func129, Try.ntmps129
  go_wp2_with fail
  generalize w.alloc (.cells #[.string x, .int .u16 16, .int .u16 l, .int .u32 t, .slice A1 n1 c1, .slice A2 n2 c2, .slice A3 n3 c3] 60) = wb at *
  generalize hgw : w.heap.size = g at *
  have HGW := Lib.hid hgw
  clear hgw
  ((with_reducible refine (check_at R x 16 l t A1 n1 c1 A2 n2 c2 A3 n3 c3 0 16 0 _ HR2 hS hE rfl rfl).mono ?_))
  rintro e w1 ⟨rfl, hB⟩
  have hw1 := hB.size
  have q1 : w1.cell? ⟨g, 1, none⟩ = some (.int .u16 16) := (hB.cell (p := ⟨g, 1, none⟩) hgl).trans d1
  have q4 : w1.cell? ⟨g, 4, none⟩ = some (.slice A1 n1 c1) := (hB.cell (p := ⟨g, 4, none⟩) hgl).trans d4
  have q5 : w1.cell? ⟨g, 5, none⟩ = some (.slice A2 n2 c2) := (hB.cell (p := ⟨g, 5, none⟩) hgl).trans d5
  have q6 : w1.cell? ⟨g, 6, none⟩ = some (.slice A3 n3 c3) := (hB.cell (p := ⟨g, 6, none⟩) hgl).trans d6
  have hgl1 : g < w1.heap.size := Nat.lt_of_lt_of_le hgl hw1
  have HM := (HRD3.out.on hB hw1)
  have HM2 := Lib.hid HM
  clear HM
  go_wp2_with fail
  refine (measured_is A3 c3 n3 R.texts p _ HM2.out HL3 hm3 h255 hpz HPL).mono ?_
  rintro e w2 ⟨rfl, hB2⟩
  have hBB := hB.trans (hB2.mono hw1)
  go_wp2_with fail
  go_ret
  exact ⟨rfl, by have h := HB0.out; rw [← HGW.out] at h; exact h.trans (hBB.mono h.size)⟩

set_option maxHeartbeats 4000000 in
set_option maxRecDepth 100000 in
theorem plain_other (R : Rec) (x : ByteArray) (k l t : Nat) (A1 : Option Addr) (n1 c1 : Nat) (A2 : Option Addr) (n2 c2 : Nat) (A3 : Option Addr) (n3 c3 : Nat) (p : ByteArray) (w : World) (hR : Hid (RecAt w w.heap.size R x k l t A1 n1 A2 n2 A3 n3)) (hS : Hid (Small R)) (h2 : k ≠ 2) (h5 : k ≠ 5) (h12 : k ≠ 12) (h6 : k ≠ 6) (h15 : k ≠ 15) (h33 : k ≠ 33) (h16 : k ≠ 16) (hE : Hid (checkE R = 0)) (hp : Hid (plainL R = p.data.toList)) :
    Calls Try.prog 129 #[.agg #[.string x, .int .u16 k, .int .u16 l, .int .u32 t, .slice A1 n1 c1, .slice A2 n2 c2, .slice A3 n3 c3]] w fun e w' => e = .returned (.string p) ∧ Below w.heap.size w w' := by
  have g2 : ((k : Int) == 2) = false := int_ne h2
  have g5 : ((k : Int) == 5) = false := int_ne h5
  have g12 : ((k : Int) == 12) = false := int_ne h12
  have g6 : ((k : Int) == 6) = false := int_ne h6
  have g15 : ((k : Int) == 15) = false := int_ne h15
  have g33 : ((k : Int) == 33) = false := int_ne h33
  have g16 : ((k : Int) == 16) = false := int_ne h16
  have hm1 := hR.out.m1 hS.out
  have hm2 := hR.out.m2 hS.out
  have hm3 := hR.out.m3 hS.out
  have hkd := hR.out.kind
  have HR2 := Lib.hid (hR.out.box (.cells #[.string x, .int .u16 k, .int .u16 l, .int .u32 t, .slice A1 n1 c1, .slice A2 n2 c2, .slice A3 n3 c3] 60))
  have HB0 : Hid (Below w.heap.size w (w.alloc (.cells #[.string x, .int .u16 k, .int .u16 l, .int .u32 t, .slice A1 n1 c1, .slice A2 n2 c2, .slice A3 n3 c3] 60))) := (Below.refl _ _).alloc (Nat.le_refl _) _
  have d1 : (w.alloc (.cells #[.string x, .int .u16 k, .int .u16 l, .int .u32 t, .slice A1 n1 c1, .slice A2 n2 c2, .slice A3 n3 c3] 60)).cell? ⟨w.heap.size, 1, none⟩ = some (.int .u16 k) := by simp
  have d4 : (w.alloc (.cells #[.string x, .int .u16 k, .int .u16 l, .int .u32 t, .slice A1 n1 c1, .slice A2 n2 c2, .slice A3 n3 c3] 60)).cell? ⟨w.heap.size, 4, none⟩ = some (.slice A1 n1 c1) := by simp
  have d5 : (w.alloc (.cells #[.string x, .int .u16 k, .int .u16 l, .int .u32 t, .slice A1 n1 c1, .slice A2 n2 c2, .slice A3 n3 c3] 60)).cell? ⟨w.heap.size, 5, none⟩ = some (.slice A2 n2 c2) := by simp
  have d6 : (w.alloc (.cells #[.string x, .int .u16 k, .int .u16 l, .int .u32 t, .slice A1 n1 c1, .slice A2 n2 c2, .slice A3 n3 c3] 60)).cell? ⟨w.heap.size, 6, none⟩ = some (.slice A3 n3 c3) := by simp
  have hgl : w.heap.size < (w.alloc (.cells #[.string x, .int .u16 k, .int .u16 l, .int .u32 t, .slice A1 n1 c1, .slice A2 n2 c2, .slice A3 n3 c3] 60)).heap.size := by simp
  have HL1 := Lib.hid HR2.out.len1
  have HL2 := Lib.hid HR2.out.len2
  have HL3 := Lib.hid HR2.out.len3
  have HRD1 := Lib.hid HR2.out.rd1
  have HRD2 := Lib.hid HR2.out.rd2
  have HRD3 := Lib.hid HR2.out.rd3
  have hok := (check_ok hE.out).2.1
  have hoc := okB_cnt hok
  obtain ⟨l1, l2, l3⟩ := cnt_of hoc.1
  rw [HL1.out, hkd] at l1
  rw [HL2.out, hkd] at l2
  rw [HL3.out, hkd] at l3
  have s1 : shA k = 0 := by unfold shA; simp [h2, h5, h12, h6, h15, h33]
  have s2 : shB k = 0 := by unfold shB; simp [h2, h5, h12, h6, h15, h33]
  have s3 : shC k = 1 := by unfold shC; simp [h2, h5, h12, h6, h15, h33]
  rw [s1] at l1
  rw [s2] at l2
  rw [s3] at l3
  have hpl : R.texts.getD 0 [] = p.data.toList := by
    rw [← hp.out, plainL_not (by rw [hkd]; exact h6), nil_of (L := R.nums) (by rw [HL2.out]; exact l2), nil_of (L := R.names) (by rw [HL1.out]; exact l1), hkd, one_map h16 (by rw [HL3.out]; omega)]
    simp [numsL]
  have HPL := Lib.hid hpl
  have M1 := Lib.hid l1
  have M2 := Lib.hid l2
  have M3 := Lib.hid l3
  clear hok hoc hpl hp hkd l1 l2 l3
  go_enter Try.func129, Try.ntmps129
  go_wp2_with fail
  generalize w.alloc (.cells #[.string x, .int .u16 k, .int .u16 l, .int .u32 t, .slice A1 n1 c1, .slice A2 n2 c2, .slice A3 n3 c3] 60) = wb at *
  generalize hgw : w.heap.size = g at *
  have HGW := Lib.hid hgw
  clear hgw
  ((with_reducible refine (check_at R x k l t A1 n1 c1 A2 n2 c2 A3 n3 c3 0 (k : Int) 0 _ HR2 hS hE rfl rfl).mono ?_))
  rintro e w1 ⟨rfl, hB⟩
  have hw1 := hB.size
  have q1 : w1.cell? ⟨g, 1, none⟩ = some (.int .u16 k) := (hB.cell (p := ⟨g, 1, none⟩) hgl).trans d1
  have q4 : w1.cell? ⟨g, 4, none⟩ = some (.slice A1 n1 c1) := (hB.cell (p := ⟨g, 4, none⟩) hgl).trans d4
  have q5 : w1.cell? ⟨g, 5, none⟩ = some (.slice A2 n2 c2) := (hB.cell (p := ⟨g, 5, none⟩) hgl).trans d5
  have q6 : w1.cell? ⟨g, 6, none⟩ = some (.slice A3 n3 c3) := (hB.cell (p := ⟨g, 6, none⟩) hgl).trans d6
  have hgl1 : g < w1.heap.size := Nat.lt_of_lt_of_le hgl hw1
  have h1n : 0 < R.texts.length := by rw [HL3.out]; have := M1.out; have := M3.out; omega
  obtain ⟨ad, rfl, hab, hcell⟩ := (HRD3.out.on hB hw1).get h1n
  have hy := hS.out.s3 0 h1n
  rw [HPL.out, ← Lib.size_eq] at hy
  rw [HPL.out, mk_data, show ad.add 0 = ad from by simp [Addr.add]] at hcell
  have hn0 : (0 : Int) < n3 := by have := M1.out; have := M3.out; omega
  have hn0n : 0 < n3 := by have := M1.out; have := M3.out; omega
  clear h1n
  have hy6 : p.size ≤ 1000000 := by omega
  go_wp2_with fail
  refine (clone_any p _ hy6).mono ?_
  rintro e w2 ⟨rfl, hB2⟩
  have hBB := hB.trans (hB2.mono hw1)
  go_wp2_with fail
  go_ret
  exact ⟨rfl, by have h := HB0.out; rw [← HGW.out] at h; exact h.trans (hBB.mono h.size)⟩

set_option maxHeartbeats 1000000 in
theorem plain_not (R : Rec) (x : ByteArray) (k l t : Nat) (A1 : Option Addr) (n1 c1 : Nat) (A2 : Option Addr) (n2 c2 : Nat) (A3 : Option Addr) (n3 c3 : Nat) (E : Nat) (w : World) (hR : Hid (RecAt w w.heap.size R x k l t A1 n1 A2 n2 A3 n3)) (hS : Hid (Small R)) (hE : Hid (checkE R = E)) (h0 : E ≠ 0) :
    Calls Try.prog 129 #[.agg #[.string x, .int .u16 k, .int .u16 l, .int .u32 t, .slice A1 n1 c1, .slice A2 n2 c2, .slice A3 n3 c3]] w fun e w' => e = .returned (.string ⟨#[]⟩) ∧ Below w.heap.size w w' := by
  have HR2 := Lib.hid (hR.out.box (.cells #[.string x, .int .u16 k, .int .u16 l, .int .u32 t, .slice A1 n1 c1, .slice A2 n2 c2, .slice A3 n3 c3] 60))
  have HB0 : Hid (Below w.heap.size w (w.alloc (.cells #[.string x, .int .u16 k, .int .u16 l, .int .u32 t, .slice A1 n1 c1, .slice A2 n2 c2, .slice A3 n3 c3] 60))) := (Below.refl _ _).alloc (Nat.le_refl _) _
  have g0 : ((E : Int) != 0) = true := int_nne h0
  clear h0
  go_enter Try.func129, Try.ntmps129
  go_wp2_with fail
  generalize w.alloc (.cells #[.string x, .int .u16 k, .int .u16 l, .int .u32 t, .slice A1 n1 c1, .slice A2 n2 c2, .slice A3 n3 c3] 60) = wb at *
  generalize hgw : w.heap.size = g at *
  have HGW := Lib.hid hgw
  clear hgw
  ((with_reducible refine (check_is R x k l t A1 n1 c1 A2 n2 c2 A3 n3 c3 E _ HR2 hS hE).mono ?_))
  rintro e w1 ⟨rfl, hB⟩
  go_wp2_with fail
  go_ret
  exact ⟨rfl, by have h := HB0.out; rw [← HGW.out] at h; exact h.trans (hB.mono h.size)⟩
theorem plain_is (R : Rec) (x : ByteArray) (k l t : Nat) (A1 : Option Addr) (n1 c1 : Nat) (A2 : Option Addr) (n2 c2 : Nat) (A3 : Option Addr) (n3 c3 : Nat) (p : ByteArray) (w : World) (hR : Hid (RecAt w w.heap.size R x k l t A1 n1 A2 n2 A3 n3)) (hS : Hid (Small R)) (hp : Hid (mk (plainO R) = p)) :
    Calls Try.prog 129 #[.agg #[.string x, .int .u16 k, .int .u16 l, .int .u32 t, .slice A1 n1 c1, .slice A2 n2 c2, .slice A3 n3 c3]] w fun e w' => e = .returned (.string p) ∧ Below w.heap.size w w' := by
  by_cases h0 : checkE R = 0
  · have hpp : Hid (plainL R = p.data.toList) := by show _ = _; rw [← hp.out, mk_list, plainO_ok h0]
    have hE := Lib.hid h0
    by_cases h2 : k = 2
    · exact plain_2 R x k l t A1 n1 c1 A2 n2 c2 A3 n3 c3 p w hR hS h2 hE hpp
    by_cases h5 : k = 5
    · exact plain_5 R x k l t A1 n1 c1 A2 n2 c2 A3 n3 c3 p w hR hS h5 hE hpp
    by_cases h12 : k = 12
    · exact plain_12 R x k l t A1 n1 c1 A2 n2 c2 A3 n3 c3 p w hR hS h12 hE hpp
    by_cases h6 : k = 6
    · exact plain_6 R x k l t A1 n1 c1 A2 n2 c2 A3 n3 c3 p w hR hS h6 hE hpp
    by_cases h15 : k = 15
    · exact plain_15 R x k l t A1 n1 c1 A2 n2 c2 A3 n3 c3 p w hR hS h15 hE hpp
    by_cases h33 : k = 33
    · exact plain_33 R x k l t A1 n1 c1 A2 n2 c2 A3 n3 c3 p w hR hS h33 hE hpp
    by_cases h16 : k = 16
    · exact plain_16 R x k l t A1 n1 c1 A2 n2 c2 A3 n3 c3 p w hR hS h16 hE hpp
    · exact plain_other R x k l t A1 n1 c1 A2 n2 c2 A3 n3 c3 p w hR hS h2 h5 h12 h6 h15 h33 h16 hE hpp
  · obtain rfl : p = ⟨#[]⟩ := by rw [← hp.out, plainO_no h0]; rfl
    exact plain_not R x k l t A1 n1 c1 A2 n2 c2 A3 n3 c3 (checkE R) w hR hS (Lib.hid rfl) h0
end Go.Proofs.Ytpmmjmnleoicjaa
