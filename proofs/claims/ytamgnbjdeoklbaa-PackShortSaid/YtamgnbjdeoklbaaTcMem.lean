/- Tables of the program in memory: a row of entries at any place of a block, appended to and cut; a table's block beside it. No condition. -/
import Derived.Test.YtamgnbjdeoklbaaProg
import Derived.Test.YtamgnbjdeoklbaaTbMath
import Derived.Test.YtamgnbjdeoklbaaTbMem
import Derived.Test.YtamgnbjdeoklbaaTbLeast
import Derived.WalkKit
import Derived.Lib.Hide
import Derived.OwnWalk
import Derived.Below
import Derived.Deep.AppendSrc
import Derived.Deep.Upon
namespace Go.Proofs.Ytamgnbjdeoklbaa.Tb
open Go Go.RowKit

theorem infoP : (Try.prog.info? 82).map (fun i => (i.zero, i.size, i.bytes)) = some (some (.agg #[.string ⟨#[]⟩, .string ⟨#[]⟩]), 2, 32) := by kernel_rfl
theorem world_lt {w : World} {k : Nat} {o : Obj} (h : w.heap[k]? = some o) : k < w.heap.size := by
  rcases Nat.lt_or_ge k w.heap.size with h1 | h1
  · exact h1
  · rw [Array.getElem?_eq_none h1] at h; cases h

/-- All blocks but two lie as they lay. -/
structure Kept2 (g b : Nat) (w w' : World) : Prop where
  os : w'.os = w.os
  tape : w'.tape = w.tape
  output : w'.output = w.output
  size : w.heap.size ≤ w'.heap.size
  block : ∀ k, k < w.heap.size → k ≠ g → k ≠ b → w'.heap[k]? = w.heap[k]?
section
variable {g b b' : Nat} {w w1 w2 : World}
theorem Kept2.refl (g b : Nat) (w : World) : Kept2 g b w w := ⟨rfl, rfl, rfl, Nat.le_refl _, fun _ _ _ _ => rfl⟩
theorem Kept2.trans (h : Kept2 g b w w1) (k : Kept2 g b' w1 w2) (hb : b' = b ∨ b' = g ∨ w.heap.size ≤ b') : Kept2 g b w w2 :=
  ⟨k.os.trans h.os, k.tape.trans h.tape, k.output.trans h.output, Nat.le_trans h.size k.size, fun i hi h1 h2 =>
    (k.block i (Nat.lt_of_lt_of_le hi h.size) h1 (by rcases hb with rfl | rfl | hb; exact h2; exact h1; omega)).trans (h.block i hi h1 h2)⟩
theorem Kept2.of_below (h : Below w.heap.size w w1) : Kept2 g b w w1 := ⟨h.os, h.tape, h.output, h.size, fun i hi _ _ => h.block i hi⟩
theorem Kept2.swap (h : Kept2 g b w w1) : Kept2 b g w w1 := ⟨h.os, h.tape, h.output, h.size, fun i hi h1 h2 => h.block i hi h2 h1⟩
theorem Kept2.below {B : Nat} {w0 : World} (h0 : Below B w0 w) (h : Kept2 g b w w1) (hg : B ≤ g) (hb : B ≤ b) (hB : B ≤ w.heap.size) : Below B w0 w1 :=
  ⟨h.os.trans h0.os, h.tape.trans h0.tape, h.output.trans h0.output, Nat.le_trans h0.size h.size, fun i hi => (h.block i (by omega) (by omega) (by omega)).trans (h0.block i hi)⟩
theorem Kept2.setCell (h : Kept2 g b w w1) {p : Addr} (hp : p.block = g ∨ p.block = b ∨ w.heap.size ≤ p.block) (u : Value) : Kept2 g b w (w1.setCell p u) :=
  ⟨h.os, h.tape, h.output, Nat.le_trans h.size (by simp), fun i hi h1 h2 => (Below.heap_setCell w1 p u i (by rcases hp with h | h | h <;> omega)).trans (h.block i hi h1 h2)⟩
theorem Kept2.alloc (h : Kept2 g b w w1) (o : Obj) : Kept2 g b w (w1.alloc o) :=
  ⟨h.os, h.tape, h.output, Nat.le_trans h.size (by simp), fun i hi h1 h2 => (Below.heap_alloc w1 o i (Nat.lt_of_lt_of_le hi h.size)).trans (h.block i hi h1 h2)⟩
theorem Kept2.drewN (h : Kept2 g b w w1) (q : Nat) : Kept2 g b w (w1.drewN q) := ⟨h.os, h.tape, h.output, h.size, h.block⟩
theorem Kept2.drew (h : Kept2 g b w w1) : Kept2 g b w w1.drew := ⟨h.os, h.tape, h.output, h.size, h.block⟩
end
theorem tape_setCells (b : Nat) : ∀ (vs : List Value) (o : Nat) (w : World), (w.setCells b o vs).tape = w.tape
  | [], _, _ => rfl
  | v :: r, o, w => by rw [World.setCells, tape_setCells b r]; rfl
theorem size_setCells2 (b : Nat) : ∀ (vs : List Value) (o : Nat) (w : World), (w.setCells b o vs).heap.size = w.heap.size
  | [], _, _ => rfl
  | v :: r, o, w => by rw [World.setCells, size_setCells2 b r]; simp
theorem Kept2.of_setCells (g b : Nat) (w : World) (o : Nat) (vs : List Value) : Kept2 g b w (w.setCells b o vs) :=
  ⟨World.os_setCells _ _ _ _, tape_setCells _ _ _ _, World.output_setCells _ _ _ _, by rw [size_setCells2]; exact Nat.le_refl _, fun i hi _ h2 => World.heap_setCells_other w b o vs hi h2⟩

/-- A slice of entries that may be written, with its spare room. -/
structure Row (w : World) (b : Nat) (ao : Option Addr) (off n c : Nat) (L : List Ent) : Prop where
  len : L.length = n
  le : n ≤ c
  max : c ≤ maxLen
  addr : 0 < c → ao = some ⟨b, off, none⟩
  lt : 0 < c → b < w.heap.size
  holds : ∀ j u, (entCs L)[j]? = some u → w.cell? ⟨b, off + j, none⟩ = some u
  there : ∀ j, j < c * 2 → (w.cell? ⟨b, off + j, none⟩).isSome = true ∧ w.frozen? ⟨b, off + j, none⟩ = false
section
variable {w w' : World} {b off n c : Nat} {ao : Option Addr} {L : List Ent}
theorem entCs_lt {L : List Ent} {j : Nat} {u : Value} (h : (entCs L)[j]? = some u) : j < L.length * 2 := by
  rcases Nat.lt_or_ge j (entCs L).length with h1 | h1
  · rw [entCs_len] at h1; exact h1
  · rw [List.getElem?_eq_none h1] at h; cases h
theorem Row.void (w : World) (b : Nat) : Row w b none 0 0 0 [] :=
  ⟨rfl, Nat.le_refl _, Nat.zero_le _, fun h => absurd h (Nat.lt_irrefl 0), fun h => absurd h (Nat.lt_irrefl 0), fun j u h => (by cases h), fun j h => by omega⟩
theorem Row.empty (w : World) (b : Nat) (ao : Option Addr) (off : Nat) : Row w b ao off 0 0 [] :=
  ⟨rfl, Nat.le_refl _, Nat.zero_le _, fun h => absurd h (Nat.lt_irrefl 0), fun h => absurd h (Nat.lt_irrefl 0), fun j u h => (by cases h), fun j h => by omega⟩
theorem Row.kept (h : Row w b ao off n c L) (hs : w.heap.size ≤ w'.heap.size) (hb : b < w.heap.size → w'.heap[b]? = w.heap[b]?) : Row w' b ao off n c L := by
  rcases Nat.eq_zero_or_pos c with h0 | h0
  · subst h0
    have hL : L = [] := List.length_eq_zero_iff.1 (by have := h.len; have := h.le; omega)
    subst hL
    exact ⟨h.len, h.le, h.max, fun h => absurd h (Nat.lt_irrefl 0), fun h => absurd h (Nat.lt_irrefl 0), fun j u h => (by cases h), fun j h => by omega⟩
  · have e := hb (h.lt h0)
    exact ⟨h.len, h.le, h.max, h.addr, fun hc => Nat.lt_of_lt_of_le (h.lt hc) hs, fun j u hj => (World.cell?_of_block (a := ⟨b, off + j, none⟩) e).trans (h.holds j u hj),
      fun j hj => ⟨by rw [World.cell?_of_block (a := ⟨b, off + j, none⟩) e]; exact (h.there j hj).1, (World.frozen?_of_block (a := ⟨b, off + j, none⟩) e).trans (h.there j hj).2⟩⟩
theorem Row.get (h : Row w b ao off n c L) {k : Nat} (hk : k < n) : ao = some ⟨b, off, none⟩ ∧ b < w.heap.size ∧ w.cell? ⟨b, off + k * 2, none⟩ = some (.string (entAt L k).1) ∧ w.cell? ⟨b, off + k * 2 + 1, none⟩ = some (.string (entAt L k).2) ∧ w.frozen? ⟨b, off + k * 2, none⟩ = false ∧ w.frozen? ⟨b, off + k * 2 + 1, none⟩ = false := by
  have hle := h.le
  have hat := entCs_at (L := L) (k := k) (by rw [h.len]; exact hk)
  exact ⟨h.addr (by omega), h.lt (by omega), h.holds _ _ hat.1, h.holds _ _ hat.2, (h.there (k * 2) (by omega)).2, (h.there (k * 2 + 1) (by omega)).2⟩
theorem entCs_drop : ∀ (L : List Ent) (k : Nat), entCs (L.drop k) = (entCs L).drop (k * 2)
  | [], k => by simp [entCs]
  | e :: l, 0 => rfl
  | e :: l, k + 1 => by
    rw [List.drop_succ_cons, entCs_drop l k, entCs, show (k + 1) * 2 = k * 2 + 1 + 1 by omega]
    rfl
/-- What is cut off in front was cleared. -/
theorem Row.cleared (h : Row w b ao off n c L) {k : Nat} (hk : k ≤ n) (z : Value) : Row (w.setCells b off (List.replicate (k * 2) z)) b (if c = k then ao else ao.map (·.add (k * 2))) (off + k * 2) (n - k) (c - k) (L.drop k) := by
  have hle := h.le
  have hsz := size_setCells2 b (List.replicate (k * 2) z) off w
  refine ⟨by rw [List.length_drop, h.len], by omega, by have := h.max; omega, fun hc => ?_, fun hc => by rw [hsz]; exact h.lt (by omega), fun j u hj => ?_, fun j hj => ?_⟩
  · rw [if_neg (by omega), h.addr (by omega), Option.map_some, off_add_addr]
  · rw [entCs_drop, List.getElem?_drop] at hj
    have := h.holds _ _ hj
    rw [← Nat.add_assoc] at this
    rw [← this]
    exact World.cell?_setCells_out b _ _ _ _ (fun _ _ => Or.inr (by rw [List.length_replicate]; show off + k * 2 ≤ off + k * 2 + j; omega))
  · have := h.there (k * 2 + j) (by omega)
    rw [← Nat.add_assoc] at this
    exact ⟨by rw [World.cell?_setCells_out b _ _ _ _ (fun _ _ => Or.inr (by rw [List.length_replicate]; show off + k * 2 ≤ off + k * 2 + j; omega))]; exact this.1, by rw [World.frozen?_setCells]; exact this.2⟩
end
theorem zeros_two (k : Nat) (z : Value) : (Builtin.zeroCells #[z, z] k).toList = List.replicate (k * 2) z := by
  apply List.ext_getElem
  · simp [Builtin.zeroCells]
  · intro i h1 h2
    simp [Builtin.zeroCells]
    rcases Nat.mod_two_eq_zero_or_one i with h | h <;> simp [h]
/-- 'clear' of the first k entries. -/
theorem run_clear_row {w : World} {b off n c : Nat} {ao : Option Addr} {L : List Ent} (h : Row w b ao off n c L) {k : Nat} (hk : k ≤ n) (ty : TypeId) (cc : Nat) :
    (Builtin.clear_ #[78] ty #[.slice ao k cc]).run Try.prog w = .ok (.tuple #[]) (w.setCells b off (List.replicate (k * 2) (.string ⟨#[]⟩))) := by
  obtain ⟨i0, hi, hz0, hz1, hz2⟩ := info_parts infoP
  have ht := Try.underlying78
  rcases Nat.eq_zero_or_pos k with h0 | h0
  · subst h0
    rw [Nat.zero_mul]
    cases ao with
    | none => simp [Builtin.clear_, run_underlying ht, World.setCells]
    | some a => simp [Builtin.clear_, run_underlying ht, World.setCells]
  · have hle := h.le
    have ha := h.addr (by omega)
    subst ha
    have hzv : ∀ w, (zeroValue 82).run Try.prog w = .ok (.agg #[.string ⟨#[]⟩, .string ⟨#[]⟩]) w := fun w => by simp [zeroValue, typeInfo, hi, hz0]
    have hzc : (Builtin.zeroCells (Value.agg #[.string ⟨#[]⟩, .string ⟨#[]⟩]).cells k).toList = List.replicate (k * 2) (.string ⟨#[]⟩) := zeros_two k _
    have hst := run_storeCells_cells (P := Try.prog) b off (List.replicate (k * 2) (.string ⟨#[]⟩)) 0 w (fun j hj => by rw [List.length_replicate] at hj; rw [Nat.add_zero]; exact (h.there j (by omega)).1)
      (fun j hj => by rw [List.length_replicate] at hj; rw [Nat.add_zero]; exact (h.there j (by omega)).2) (fun v hv => by rw [List.eq_of_mem_replicate hv]; rfl)
    simp only [Nat.add_zero] at hst
    obtain ⟨m, rfl⟩ : ∃ m, k = m + 1 := ⟨k - 1, by omega⟩
    simp [Builtin.clear_, run_underlying ht, hzv, hzc, hst]
/-- append of one entry to a row: what it leaves. -/
theorem run_append_row {w : World} {b off n c : Nat} {ao : Option Addr} {L : List Ent} (h : Row w b ao off n c L) (hn : n ≤ 100000) {s : Nat} {x y : ByteArray} {tt : TypeId} (hs : w.heap[s]? = some (.cells #[.string x, .string y] tt (0, 0))) (ty : TypeId) :
    ∃ ao' b' off' c' w', (Builtin.append_ #[78, 78] ty #[.slice ao n c, .slice (some ⟨s, 0, none⟩) 1 1]).run Try.prog w = .ok (.slice ao' (n + 1) c') w' ∧ Row w' b' ao' off' (n + 1) c' (L ++ [(x, y)]) ∧ (b' = b ∧ 0 < c ∧ Kept2 b b w w' ∨ b' = w.heap.size ∧ Below w.heap.size w w') := by
  obtain ⟨i0, hi, hz0, hz1, hz2⟩ := info_parts infoP
  have ht := Try.underlying78
  have hle := h.le
  have hsrc : Src Try.prog i0.size 78 (.slice (some ⟨s, 0, none⟩) 1 1) 1 [.string x, .string y] w := by
    rw [hz1]
    refine Src.ofSlice w ht ⟨s, 0, none⟩ 1 1 [.string x, .string y] rfl (fun j u hj => ?_) (fun u hu => ?_)
    · match j, hj with
      | 0, hj => simp at hj; subst hj; rw [zero_add_addr]; exact cell_of_row _ s 0 _ _ _ hs
      | 1, hj => simp at hj; subst hj; rw [zero_add_addr]; exact cell_of_row _ s 1 _ _ _ hs
    · simp at hu
      rcases hu with rfl | rfl <;> rfl
  have hcat : entCs (L ++ [(x, y)]) = entCs L ++ [Value.string x, Value.string y] := entCs_cat _ _
  have hcl := entCs_len L
  rw [h.len] at hcl
  by_cases hfit : n + 1 ≤ c
  · have ha := h.addr (by omega)
    subst ha
    have hth : ∀ j, j < 2 → (w.cell? ⟨b, off + n * i0.size + j, none⟩).isSome = true ∧ w.frozen? ⟨b, off + n * i0.size + j, none⟩ = false := fun j hj => by
      rw [hz1, Nat.add_assoc]
      exact h.there (n * 2 + j) (by omega)
    have hrun := run_append_room_src (P := Try.prog) w 78 78 ty 82 i0 ht hi b off n c (.slice (some ⟨s, 0, none⟩) 1 1) 1 [.string x, .string y] hsrc hfit (fun j hj => (hth j hj).1) (fun j hj => (hth j hj).2)
    rw [hz1] at hrun hth
    refine ⟨_, b, off, c, _, hrun, ⟨by rw [List.length_append, h.len]; rfl, hfit, h.max, fun _ => rfl, fun hc => by rw [size_setCells2]; exact h.lt hc, fun j u hj => ?_, fun j hj => ?_⟩, .inl ⟨rfl, by omega, Kept2.of_setCells _ _ _ _ _⟩⟩
    · rw [hcat] at hj
      by_cases hjl : j < n * 2
      · rw [List.getElem?_append_left (by omega)] at hj
        rw [World.cell?_setCells_out b _ _ _ _ (fun _ _ => Or.inl (by show off + j < off + n * 2; omega))]
        exact h.holds j u hj
      · rw [List.getElem?_append_right (by omega), hcl] at hj
        have hj2 : j - n * 2 < 2 := by
          rcases Nat.lt_or_ge (j - n * 2) 2 with h1 | h1
          · exact h1
          · rw [List.getElem?_eq_none (by exact h1)] at hj; cases hj
        have := World.cell?_setCells_in b [.string x, .string y] (off + n * 2) w (fun j hj => (hth j hj).1) (j - n * 2) hj2
        rw [show off + n * 2 + (j - n * 2) = off + j by omega] at this
        rw [this, ← hj, List.getElem?_eq_getElem (by exact hj2)]
    · refine ⟨?_, by rw [World.frozen?_setCells]; exact (h.there j hj).2⟩
      by_cases hin : n * 2 ≤ j ∧ j < n * 2 + 2
      · have := World.cell?_setCells_in b [.string x, .string y] (off + n * 2) w (fun j hj => (hth j hj).1) (j - n * 2) (by show j - n * 2 < 2; omega)
        rw [show off + n * 2 + (j - n * 2) = off + j by omega] at this
        rw [this]
        rfl
      · rw [World.cell?_setCells_out b _ _ _ _ (fun _ _ => by show off + j < off + n * 2 ∨ off + n * 2 + 2 ≤ off + j; omega)]
        exact (h.there j hj).1
  · have hold : (Builtin.firstCells i0.size n (.slice ao n c)).run Try.prog w.drew = .ok (entCs L).toArray w.drew := by
      rw [hz1]
      rcases Nat.eq_zero_or_pos c with h0 | h0
      · subst h0
        have hL : L = [] := List.length_eq_zero_iff.1 (by have := h.len; omega)
        subst hL
        have hn0 : n = 0 := by omega
        subst hn0
        cases ao with
        | none => exact run_firstCells_none w.drew 2 0 0 0
        | some a' => exact run_firstCells_some w.drew 2 0 a' 0 0 [] (by simp) (by intro _ _ h'; simp at h')
      · rw [h.addr h0]
        refine run_firstCells_some w.drew 2 n ⟨b, off, none⟩ n c (entCs L) hcl (fun j u hu => ?_)
        rw [off_add_addr]
        exact h.holds j u hu
    have hrun := run_append_grow_src (P := Try.prog) w 78 78 ty 82 i0 _ ht hi hz0 ao n c (entCs L) hold (.slice (some ⟨s, 0, none⟩) 1 1) 1 [.string x, .string y] hsrc (by omega) (by omega) (growslice_fits (by omega) (by rw [hz2]; omega))
    have hge := grownCap_ge w (n + 1) c 82
    have hcm := grownCap_le_maxLen w (n + 1) c 82 (by unfold maxLen; omega)
    have hzl : (Builtin.zeroCells (Value.agg #[.string ⟨#[]⟩, .string ⟨#[]⟩]).cells (grownCap w (n + 1) c 82 - (n + 1))).size = (grownCap w (n + 1) c 82 - (n + 1)) * 2 := size_zeroCells _ _
    generalize Builtin.zeroCells (Value.agg #[.string ⟨#[]⟩, .string ⟨#[]⟩]).cells (grownCap w (n + 1) c 82 - (n + 1)) = zs at *
    generalize grownCap w (n + 1) c 82 = cc at *
    have hK : Below w.heap.size w (w.drew.alloc (.cells ((entCs L ++ [Value.string x, Value.string y]).toArray ++ zs) 82)) := ((Below.refl w.heap.size w).drew).alloc (Nat.le_refl _) _
    have hcell : ∀ j, (w.drew.alloc (.cells ((entCs L ++ [Value.string x, Value.string y]).toArray ++ zs) 82)).cell? ⟨w.heap.size, j, none⟩ = ((entCs L ++ [Value.string x, Value.string y]).toArray ++ zs)[j]? := fun j => World.cell?_alloc_new w.drew _ _ j
    have hLL : (entCs L ++ [Value.string x, .string y]).length = (n + 1) * 2 := by rw [List.length_append, hcl]; show n * 2 + 2 = _; omega
    refine ⟨_, w.heap.size, 0, cc, _, hrun, ⟨by rw [List.length_append, h.len]; rfl, hge, hcm, fun _ => rfl, fun _ => by simp, fun j u hj => ?_, fun j hj => ⟨?_, ?_⟩⟩, .inr ⟨rfl, hK⟩⟩
    · rw [hcat] at hj
      have hjl := (List.getElem?_eq_some_iff.1 hj).1
      rw [Nat.zero_add, hcell, Array.getElem?_append_left (by simpa using hjl), List.getElem?_toArray]
      exact hj
    · rw [Nat.zero_add, hcell, Array.getElem?_eq_getElem (by rw [Array.size_append, List.size_toArray, hLL, hzl]; omega)]
      rfl
    · rw [Nat.zero_add]
      exact World.frozen?_alloc_new w.drew _ _ j
/-- The same at a step of a region that draws its order, beside a table's block. -/
theorem step_append_row {w : World} {ops : Array Oper} {o : Oper} {a : Act} {K : Act → World → Prop} {Q : Exit → Act → World → Prop} {E' : Prop} (hgd : o.guard = none) (s xo : Operand)
    (ho : o.op = .call { callee := .builtin .append, args := #[s, xo], argTypes := #[78, 78] })
    {g b off n c : Nat} {ao : Option Addr} {L : List Ent} {u0 u1 u2 : Value} {tg : TypeId} (hgc : w.heap[g]? = some (.cells #[u0, u1, u2] tg (0, 0))) (hbg : 0 < c → b ≠ g)
    (h : Row w b ao off n c L) (hn : n ≤ 100000) (hs : a.eval s = .slice ao n c) {sb : Nat} {x y : ByteArray} {tt : TypeId} (hsrc : w.heap[sb]? = some (.cells #[.string x, .string y] tt (0, 0))) (hx : a.eval xo = .slice (some ⟨sb, 0, none⟩) 1 1)
    (hk : ∀ ao' b' off' c' w', Row w' b' ao' off' (n + 1) c' (L ++ [(x, y)]) → w'.heap[g]? = some (.cells #[u0, u1, u2] tg (0, 0)) → b' ≠ g → (b' = b ∨ b' = w.heap.size) → Kept2 g b w w' → K (a.put o.dst (.slice ao' (n + 1) c')) w') :
    if Region.wanted o (yielded ops a.tmps) = true then Oper.wp Try.prog o a w K Q else E' := by
  have hw : Region.wanted o (yielded ops a.tmps) = true := by simp [Region.wanted, hgd]
  rw [if_pos hw]
  have hgl := world_lt hgc
  obtain ⟨ao', b', off', c', w', hrun, hR, hb⟩ := run_append_row h hn hsrc o.type
  unfold Oper.wp
  simp [execOp, ho, resolve, invoke, builtin, hs, hx, hrun, Result.andThen]
  rcases hb with ⟨rfl, hc, hK⟩ | ⟨rfl, hB⟩
  · exact hk _ _ _ _ _ hR ((hK.block g hgl (fun e => hbg hc e.symm) (fun e => hbg hc e.symm)).trans hgc) (hbg hc) (.inl rfl) ⟨hK.os, hK.tape, hK.output, hK.size, fun i hi _ h2 => hK.block i hi h2 h2⟩
  · exact hk _ _ _ _ _ hR ((hB.block g hgl).trans hgc) (by omega) (.inr rfl) (Kept2.of_below hB)
end Go.Proofs.Ytamgnbjdeoklbaa.Tb
