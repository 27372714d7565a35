/- Texts of one proof, one behind the other: Kept, OwnRow, RecRow, RecAll, NmAt, RdrText, RdrPart, RdrName. -/
import Derived.Test.YtihkmdojakalbaaProg
import Derived.Test.YtihkmdojakalbaaBytes
import Derived.Test.YtihkmdojakalbaaWriteSparesProofG1
import Derived.Test.YtihkmdojakalbaaStrs
import Derived.Test.YtihkmdojakalbaaNums
import Derived.Test.YtihkmdojakalbaaRecMath
import Derived.Test.YtihkmdojakalbaaNameMath
import Derived.Test.YtihkmdojakalbaaRecAt
import Derived.WalkKit
import Derived.Lib.Hide
import Derived.OwnWalk
import Derived.Below
import Derived.Laws.OwnMore
import Derived.Laws.AppendOwn
import Derived.Laws.AppendOwnNone
import Derived.Laws.Rows
import Derived.Outline
import Derived.IntWalk
import Derived.WalkSpells
import Derived.WalkLawsBesides
import Derived.Deep.QuietTactic
import Derived.BigQuiet
import Derived.Deep.RegionHeld3
import Derived.Deep.Draws
import Derived.Defers
import Derived.Recover
import Derived.Lib.AppendStr

/- Below a block, one block apart, a world is as it was. No condition. -/
namespace Go.Proofs.Ytihkmdojakalbaa
open Go Go.RowKit Bytes

/-- Below block g, block r apart, the world b is as a was. -/
structure Kept (g r : Nat) (a b : World) : Prop where
  os : b.os = a.os
  tape : b.tape = a.tape
  output : b.output = a.output
  size : a.heap.size ≤ b.heap.size
  block : ∀ k, k < g → k ≠ r → b.heap[k]? = a.heap[k]?
section
variable {g g' r q : Nat} {a b c w w' : World}
theorem Kept.refl (g r : Nat) (a : World) : Kept g r a a := ⟨rfl, rfl, rfl, Nat.le_refl _, fun _ _ _ => rfl⟩
theorem Kept.trans (h : Kept g r a b) (k : Kept g r b c) : Kept g r a c :=
  ⟨k.os.trans h.os, k.tape.trans h.tape, k.output.trans h.output, Nat.le_trans h.size k.size, fun i hi hne => (k.block i hi hne).trans (h.block i hi hne)⟩
theorem Kept.mono (h : Kept g r a b) (hg : g' ≤ g) : Kept g' r a b := ⟨h.os, h.tape, h.output, h.size, fun i hi hne => h.block i (by omega) hne⟩
theorem Kept.grown (h : Kept g r a w) (hg : w.grownBy w' (some r)) (hB : g ≤ w.heap.size) : Kept g r a w' :=
  h.trans ⟨hg.os, hg.tape, hg.output, hg.size, fun i hi hne => hg.block i (by omega) (by intro e; injection e with e; exact hne e)⟩
theorem Kept.below (h : Kept g r a w) (hb : Below g w w') : Kept g r a w' := h.trans ⟨hb.os, hb.tape, hb.output, hb.size, fun i hi _ => hb.block i hi⟩
theorem Kept.own (h : Kept g r a w) {row : Option Nat} (hg : w.grownBy w' row) (hB : g ≤ w.heap.size) (hr : ∀ k, row = some k → g ≤ k) : Kept g r a w' :=
  h.below ((Below.refl g w).grown hg hB hr)
theorem Kept.alloc (h : Kept g r a w) (hB : g ≤ w.heap.size) (o : Obj) : Kept g r a (w.alloc o) := h.below ((Below.refl g w).alloc hB o)
theorem Kept.drewN (h : Kept g r a w) (n : Nat) : Kept g r a (w.drewN n) := ⟨h.os, h.tape, h.output, h.size, h.block⟩
theorem Kept.drew (h : Kept g r a w) : Kept g r a w.drew := ⟨h.os, h.tape, h.output, h.size, h.block⟩
theorem Kept.setCell (h : Kept g r a w) {p : Addr} (hp : p.block = r ∨ g ≤ p.block) (u : Value) : Kept g r a (w.setCell p u) :=
  h.trans ⟨rfl, rfl, rfl, by simp [World.setCell], fun i hi hne => Below.heap_setCell w p u i (by rcases hp with hp | hp <;> omega)⟩
theorem Kept.of_grown (h : a.grownBy b (some r)) (hB : g ≤ a.heap.size) : Kept g r a b := (Kept.refl g r a).grown h hB
theorem Kept.to_grown (h : Kept a.heap.size r a b) : a.grownBy b (some r) := ⟨h.os, h.tape, h.output, h.size, fun k hk hne => h.block k hk (fun e => hne (by rw [e]))⟩
theorem Kept.to_below (h : Kept g r a b) (hr : g ≤ r) : Below g a b := ⟨h.os, h.tape, h.output, h.size, fun k hk => h.block k hk (by omega)⟩
/-- What was written is a block that is new. -/
theorem Kept.new (h : Kept g r a b) (k : Kept g q b c) (hq : g ≤ q) : Kept g r a c := h.below (k.to_below hq)
end
theorem kept_grown {w w' : World} {g r : Nat} (h : Kept g r w w') (hg : w.heap.size = g) : w.grownBy w' (some r) := by
  subst hg
  exact h.to_grown
section
variable {W W' : World} {r g n q : Nat} {a s : ByteArray} {p : Int} {k : Nat} {v : Value} {xs : List Value}
/-- A reader's block is no row of bytes. -/
theorem own_ne (h : RdrAt W r a s p k) (hv : W.ownsRow g 5 1 v n xs) : v.ownBlock = none ∨ v.ownBlock ≠ some r := by
  rcases hv.2 with ⟨rfl, _⟩ | ⟨b, cap, cur, rfl, _, hb, _⟩
  · exact .inl rfl
  · refine .inr fun e => ?_
    injection e with e
    simp only at e
    subst e
    unfold RdrAt at h
    rw [h] at hb
    injection hb with hb
    injection hb with _ hb
    exact absurd hb (by decide)
/-- A row of one's own, behind the reader's writing. -/
theorem own_rdr (h : RdrAt W r a s p k) (hv : W.ownsRow g 5 1 v n xs) (hg : W.grownBy W' (some r)) : W'.ownsRow g 5 1 v n xs := hv.kept hg (own_ne h hv)
/-- The reader, behind an append to a row of one's own. -/
theorem rdr_own {W0 : World} (h : RdrAt W r a s p k) (hv : W.ownsRow g 5 1 v n xs) (hA : Below W.heap.size W W0) (hg : W0.grownBy W' v.ownBlock) : RdrAt W' r a s p k := by
  have h0 := h.held hA
  refine (hg.block r h0.lt ?_).trans h0
  rcases own_ne h hv with e | e
  · rw [e]; intro x; cases x
  · exact fun x => e x.symm
theorem RdrAt.kept (h : RdrAt W q a s p k) (hk : Kept g r W W') (hq : q < g) (hne : q ≠ r) : RdrAt W' q a s p k := (hk.block q hq hne).trans h
end
end Go.Proofs.Ytihkmdojakalbaa

/- Rows of one's own, of whatever elements, beside a reader's block. No condition. -/
namespace Go.Proofs.Ytihkmdojakalbaa
open Go Go.RowKit Bytes

section
variable {W W' : World} {r g n q size : Nat} {a s : ByteArray} {p : Int} {k : Nat} {v : Value} {xs : List Value} {e : TypeId}
/-- A block of another type is no row's. -/
theorem row_ne {e2 : TypeId} {cs : Array Value} {fz : Nat × Nat} (h : W.heap[r]? = some (.cells cs e2 fz)) (hv : W.ownsRow g e size v n xs) (he : e ≠ e2) : v.ownBlock = none ∨ v.ownBlock ≠ some r := by
  rcases hv.2 with ⟨rfl, _⟩ | ⟨b, cap, cur, rfl, _, hb, _⟩
  · exact .inl rfl
  · refine .inr fun x => ?_
    injection x with x
    simp only at x
    subst x
    rw [h] at hb
    injection hb with hb
    injection hb with _ hb
    exact he hb.symm
theorem row_rdr (h : RdrAt W r a s p k) (hv : W.ownsRow g e size v n xs) (hg : W.grownBy W' (some r)) (he : e ≠ 56) : W'.ownsRow g e size v n xs := hv.kept hg (row_ne h hv he)
theorem rdr_row {W0 : World} (h : RdrAt W r a s p k) (hv : W.ownsRow g e size v n xs) (hA : Below W.heap.size W W0) (hg : W0.grownBy W' v.ownBlock) (he : e ≠ 56) : RdrAt W' r a s p k := by
  have h0 := h.held hA
  refine (hg.block r h0.lt ?_).trans h0
  rcases row_ne h hv he with e | e
  · rw [e]; intro x; cases x
  · exact fun x => e x.symm
theorem row_below (h : W.ownsRow g e size v n xs) (hB : Below W.heap.size W W') : W'.ownsRow g e size v n xs :=
  h.kept (row := none) ⟨hB.os, hB.tape, hB.output, hB.size, fun k hk _ => hB.block k hk⟩ (by cases v.ownBlock <;> simp)
theorem row_kept (h : W.ownsRow g e size v n xs) (hB : Kept q r W W') (hg : ∀ b, v.ownBlock = some b → b < q ∧ b ≠ r) : W'.ownsRow g e size v n xs := by
  refine ⟨h.1, ?_⟩
  rcases h.2 with hn | ⟨b, cap, cur, rfl, hb, hgg, rest⟩
  · exact .inl hn
  · have := hg b rfl
    exact .inr ⟨b, cap, cur, rfl, hb, (hB.block b this.1 this.2).trans hgg, rest⟩
theorem row_low {g' : Nat} (h : W.ownsRow g e size v n xs) (hb : g' ≤ g) : W.ownsRow g' e size v n xs := by
  refine ⟨h.1, ?_⟩
  rcases h.2 with h0 | ⟨b, cap, cur, hv, hg, r⟩
  · exact Or.inl h0
  · exact Or.inr ⟨b, cap, cur, hv, by omega, r⟩
/-- A row's value is one cell. -/
theorem own_one (h : W.ownsRow g e size v n xs) : v.oneCell' = true := by
  rcases h.2 with ⟨rfl, _⟩ | ⟨b, cap, cur, rfl, _⟩ <;> rfl
theorem row_slice (h : W.ownsRow g e size v n xs) : ∃ A m c, v = .slice A m c := by
  rcases h.2 with ⟨rfl, _⟩ | ⟨b, cap, cur, rfl, _⟩
  · exact ⟨_, _, _, rfl⟩
  · exact ⟨_, _, _, rfl⟩
/-- Two rows of unlike elements: one stays while the other is written. -/
theorem row_row {W0 : World} {e2 : TypeId} {size2 n2 : Nat} {v2 : Value} {xs2 : List Value} (h : W.ownsRow g e size v n xs) (h2 : W.ownsRow q e2 size2 v2 n2 xs2) (he : e2 ≠ e) (hA : Below W.heap.size W W0) (hg : W0.grownBy W' v2.ownBlock) : W'.ownsRow g e size v n xs := by
  refine (row_below h hA).kept hg ?_
  rcases h.2 with ⟨rfl, _⟩ | ⟨b, cap, cur, rfl, _, hb, _⟩
  · exact .inl rfl
  · refine .inr fun x => ?_
    rcases row_ne hb h2 he with y | y
    · rw [y] at x; cases x
    · exact y x.symm
end
end Go.Proofs.Ytihkmdojakalbaa

/- Records in rows of one's own: their cells, and the rows within. No condition. -/
namespace Go.Proofs.Ytihkmdojakalbaa
open Go Go.RowKit Bytes Strs Nums RecMath

theorem info_rec : (Try.prog.info? 49).map (fun i => (i.zero, i.size, i.bytes)) = some (some (.agg #[.string ⟨#[]⟩, .int .u16 0, .int .u16 0, .int .u32 0, .slice none 0 0, .slice none 0 0, .slice none 0 0]), 7, 96) := by kernel_rfl
/-- A record's cells, with its three lists. -/
def recV (R : Rec) (v1 v2 v3 : Value) : List Value := [.string (mk R.name), .int .u16 R.kind, .int .u16 R.cls, .int .u32 R.ttl, v1, v2, v3]
/-- A record's lists are these rows. -/
structure RecIn (w : World) (g : Nat) (R : Rec) (v1 v2 v3 : Value) : Prop where
  o1 : w.ownsRow g 9 1 v1 R.names.length (strCs R.names)
  o2 : w.ownsRow g 46 1 v2 R.nums.length (numCs R.nums)
  o3 : w.ownsRow g 9 1 v3 R.texts.length (strCs R.texts)
abbrev RecZ := Rec × Value × Value × Value
def recCs (Z : List RecZ) : List Value := Z.flatMap fun z => recV z.1 z.2.1 z.2.2.1 z.2.2.2
theorem recCs_snoc (Z : List RecZ) (R : Rec) (v1 v2 v3 : Value) : recCs (Z ++ [(R, v1, v2, v3)]) = recCs Z ++ recV R v1 v2 v3 := by unfold recCs; rw [List.flatMap_append]; simp
/-- The row v is the records L. -/
def RowRecs (w : World) (g : Nat) (v : Value) (L : List Rec) : Prop :=
  ∃ Z : List RecZ, Z.map (·.1) = L ∧ w.ownsRow g 49 7 v L.length (recCs Z) ∧ ∀ z ∈ Z, RecIn w g z.1 z.2.1 z.2.2.1 z.2.2.2
section
variable {w w' w0 : World} {g g' r : Nat} {R : Rec} {v v1 v2 v3 : Value} {L : List Rec} {a s : ByteArray} {p : Int} {k : Nat}
theorem RecIn.low (h : RecIn w g R v1 v2 v3) (hg : g' ≤ g) : RecIn w g' R v1 v2 v3 := ⟨row_low h.o1 hg, row_low h.o2 hg, row_low h.o3 hg⟩
theorem RecIn.below (h : RecIn w g R v1 v2 v3) (hB : Below w.heap.size w w') : RecIn w' g R v1 v2 v3 := ⟨row_below h.o1 hB, row_below h.o2 hB, row_below h.o3 hB⟩
theorem RecIn.rdr (h : RecIn w g R v1 v2 v3) (hd : RdrAt w r a s p k) (hg : w.grownBy w' (some r)) : RecIn w' g R v1 v2 v3 :=
  ⟨row_rdr hd h.o1 hg (by decide), row_rdr hd h.o2 hg (by decide), row_rdr hd h.o3 hg (by decide)⟩
theorem RecIn.block {e2 : TypeId} {cs : Array Value} {fz : Nat × Nat} (h : RecIn w g R v1 v2 v3) (hb : w.heap[r]? = some (.cells cs e2 fz)) (hg : w.grownBy w' (some r)) (h9 : 9 ≠ e2) (h43 : 46 ≠ e2) : RecIn w' g R v1 v2 v3 :=
  ⟨h.o1.kept hg (row_ne hb h.o1 h9), h.o2.kept hg (row_ne hb h.o2 h43), h.o3.kept hg (row_ne hb h.o3 h9)⟩
theorem RecIn.row {n : Nat} {xs : List Value} {q size : Nat} {e2 : TypeId} (h : RecIn w g R v1 v2 v3) (h2 : w.ownsRow q e2 size v n xs) (hA : Below w.heap.size w w0) (hg : w0.grownBy w' v.ownBlock) (h9 : e2 ≠ 9) (h43 : e2 ≠ 46) : RecIn w' g R v1 v2 v3 :=
  ⟨row_row h.o1 h2 h9 hA hg, row_row h.o2 h2 h43 hA hg, row_row h.o3 h2 h9 hA hg⟩
theorem RowRecs.nil (w : World) (g : Nat) : RowRecs w g (.slice none 0 0) [] := ⟨[], rfl, World.ownsRow_nil _ _ _ _, fun _ h => by cases h⟩
theorem RowRecs.low (h : RowRecs w g v L) (hg : g' ≤ g) : RowRecs w g' v L := by
  obtain ⟨Z, h1, h2, h3⟩ := h
  exact ⟨Z, h1, row_low h2 hg, fun z hz => (h3 z hz).low hg⟩
theorem RowRecs.below (h : RowRecs w g v L) (hB : Below w.heap.size w w') : RowRecs w' g v L := by
  obtain ⟨Z, h1, h2, h3⟩ := h
  exact ⟨Z, h1, row_below h2 hB, fun z hz => (h3 z hz).below hB⟩
theorem RowRecs.rdr (h : RowRecs w g v L) (hd : RdrAt w r a s p k) (hg : w.grownBy w' (some r)) : RowRecs w' g v L := by
  obtain ⟨Z, h1, h2, h3⟩ := h
  exact ⟨Z, h1, row_rdr hd h2 hg (by decide), fun z hz => (h3 z hz).rdr hd hg⟩
theorem RowRecs.block {e2 : TypeId} {cs : Array Value} {fz : Nat × Nat} (h : RowRecs w g v L) (hb : w.heap[r]? = some (.cells cs e2 fz)) (hg : w.grownBy w' (some r)) (h9 : 9 ≠ e2) (h43 : 46 ≠ e2) (h47 : 49 ≠ e2) : RowRecs w' g v L := by
  obtain ⟨Z, h1, h2, h3⟩ := h
  exact ⟨Z, h1, h2.kept hg (row_ne hb h2 h47), fun z hz => (h3 z hz).block hb hg h9 h43⟩
theorem RowRecs.drewN (h : RowRecs w g v L) (n : Nat) : RowRecs (w.drewN n) g v L := h.below ⟨rfl, rfl, rfl, Nat.le_refl _, fun _ _ => rfl⟩
theorem RowRecs.slice (h : RowRecs w g v L) : ∃ A m c, v = .slice A m c := by
  obtain ⟨Z, h1, h2, h3⟩ := h
  exact row_slice h2
/-- One more record. -/
theorem RowRecs.snoc {v' : Value} {o : Obj} (h : RowRecs w g v L) (hr : RecIn w g R v1 v2 v3) (Z : List RecZ) (h1 : Z.map (·.1) = L) (h2 : w.ownsRow g 49 7 v L.length (recCs Z)) (h3 : ∀ z ∈ Z, RecIn w g z.1 z.2.1 z.2.2.1 z.2.2.2)
    (hown : w'.ownsRow g 49 7 v' (L.length + 1) (recCs Z ++ recV R v1 v2 v3)) (hgrow : (w.alloc o).grownBy w' v.ownBlock) : RowRecs w' g v' (L ++ [R]) := by
  have _ := h
  have hA : Below w.heap.size w (w.alloc o) := (Below.refl _ _).alloc (Nat.le_refl _) _
  refine ⟨Z ++ [(R, v1, v2, v3)], by rw [List.map_append, h1]; rfl, ?_, fun z hz => ?_⟩
  · rw [recCs_snoc, List.length_append]
    exact hown
  · rcases List.mem_append.1 hz with hz | hz
    · exact (h3 z hz).row h2 hA hgrow (by decide) (by decide)
    · rw [List.mem_singleton] at hz
      subst hz
      exact hr.row h2 hA hgrow (by decide) (by decide)
end
end Go.Proofs.Ytihkmdojakalbaa

/- Rows of records, one appended to the other; a record of a row, as a call is handed it. For rows of at most 10^6. -/
namespace Go.Proofs.Ytihkmdojakalbaa
open Go Go.RowKit Bytes Strs Nums RecMath

theorem recCs_app (A B : List RecZ) : recCs (A ++ B) = recCs A ++ recCs B := List.flatMap_append ..
theorem recCs_len (Z : List RecZ) : (recCs Z).length = Z.length * 7 := by
  induction Z with
  | nil => rfl
  | cons z Z ih =>
    have : recCs (z :: Z) = recV z.1 z.2.1 z.2.2.1 z.2.2.2 ++ recCs Z := rfl
    rw [this, List.length_append, ih, List.length_cons]
    simp [recV]
    omega
theorem recCs_at {Z : List RecZ} : ∀ {k j : Nat} (h : k < Z.length), j < 7 → (recCs Z)[k * 7 + j]? = (recV (Z[k]).1 (Z[k]).2.1 (Z[k]).2.2.1 (Z[k]).2.2.2)[j]? := by
  induction Z with
  | nil => intro k j h; cases h
  | cons z Z ih =>
    intro k j h hj
    have e : recCs (z :: Z) = recV z.1 z.2.1 z.2.2.1 z.2.2.2 ++ recCs Z := rfl
    have hl : (recV z.1 z.2.1 z.2.2.1 z.2.2.2).length = 7 := rfl
    rw [e]
    cases k with
    | zero =>
      rw [List.getElem?_append_left (by rw [hl]; omega)]
      simp
    | succ k =>
      rw [List.getElem?_append_right (by rw [hl]; omega), hl, show (k + 1) * 7 + j - 7 = k * 7 + j by omega, ih (by simpa using h) hj]
      simp
theorem recCs_one {w : World} {g : Nat} {Z : List RecZ} (h : ∀ z ∈ Z, RecIn w g z.1 z.2.1 z.2.2.1 z.2.2.2) : ∀ u ∈ recCs Z, u.oneCell' = true := by
  intro u hu
  unfold recCs at hu
  obtain ⟨z, hz, hu⟩ := List.mem_flatMap.1 hu
  have hr := h z hz
  have e1 := own_one hr.o1
  have e2 := own_one hr.o2
  have e3 := own_one hr.o3
  simp [recV] at hu
  rcases hu with rfl | rfl | rfl | rfl | rfl | rfl | rfl <;> first | rfl | assumption
theorem run_append_recs {w : World} (ty : TypeId) (base : Nat) (v : Value) (m : Nat) (xs : List Value) (hown : w.ownsRow base 49 7 v m xs) (b2 : Nat) (x : Value) (n : Nat) (ys : List Value) (hsrc : w.ownsRow b2 49 7 x n ys) (h1 : ∀ u ∈ ys, u.oneCell' = true) (hmn : m + n ≤ 1000000) (hbase : base ≤ w.heap.size) :
    ∃ v' w', (Builtin.append_ #[25, 25] ty #[v, x]).run Try.prog w = .ok v' w' ∧ w'.ownsRow base 49 7 v' (m + n) (xs ++ ys) ∧ w.grownBy w' v.ownBlock := by
  obtain ⟨i0, hi, hz0, hz1, hz2⟩ := info_parts info_rec
  have hl := hsrc.1
  rcases hsrc.2 with ⟨rfl, rfl⟩ | ⟨b, cap, cur, rfl, hb, hg, hcap, _⟩
  · have hn : ys = [] := List.length_eq_zero_iff.1 (by rw [hl])
    subst hn
    exact ⟨v, w, run_append_owned_none w base 25 ty 49 i0 7 Try.underlying25 hi v m xs hown, by simpa using hown, World.grownBy.refl w _⟩
  · obtain ⟨v', w', hr, h2, h3, _⟩ := run_append_own (P := Try.prog) w base 25 ty 49 i0 (.agg #[.string ⟨#[]⟩, .int .u16 0, .int .u16 0, .int .u32 0, .slice none 0 0, .slice none 0 0, .slice none 0 0]) 7 96 Try.underlying25 hi hz0 hz1 hz2 rfl (by decide) v m xs hown ⟨b, 0, none⟩ n cap ys hl (fun j u hj => hsrc.cells (g := b) rfl j u hj) h1 (by unfold maxLen; omega) (by omega) hbase
    exact ⟨v', w', hr, h2, h3⟩
/-- What the appending has come to: a row of these records, all that stood as it was. -/
structure AllAt (w3 w : World) (G : Nat) (v : Value) (Z : List RecZ) : Prop where
  own : w.ownsRow G 49 7 v Z.length (recCs Z)
  bl : Below G w3 w
theorem step_append_recs {w3 w : World} {ops : Array Oper} {o : Oper} {a : Act} {K : Act → World → Prop} {Q : Exit → Act → World → Prop} {E : Prop} (hgd : o.guard = none) (s x : Operand)
    (ho : o.op = .call { callee := .builtin .append, args := #[s, x], argTypes := #[25, 25] })
    (v : Value) (Z : List RecZ) (hs : a.eval s = v) (hown : AllAt w3 w w3.heap.size v Z) (b2 : Nat) (xv : Value) (hx : a.eval x = xv) (Y : List RecZ) (hsrc : w3.ownsRow b2 49 7 xv Y.length (recCs Y)) (h1 : ∀ u ∈ recCs Y, u.oneCell' = true)
    (hmn : Z.length + Y.length ≤ 1000000) (ZY : List RecZ) (n : Nat) (hZY : Z ++ Y = ZY) (hn : ZY.length = n)
    (h : ∀ A c w', AllAt w3 w' w3.heap.size (.slice A n c) ZY → K (a.put o.dst (.slice A n c)) w') : if Region.wanted o (yielded ops a.tmps) = true then Oper.wp Try.prog o a w K Q else E := by
  subst hZY
  subst hn
  have hw : Region.wanted o (yielded ops a.tmps) = true := by simp [Region.wanted, hgd]
  rw [if_pos hw]
  obtain ⟨v', w', hr, h2, h3⟩ := run_append_recs o.type w3.heap.size v Z.length (recCs Z) hown.own b2 xv Y.length (recCs Y) (row_below hsrc hown.bl) h1 hmn hown.bl.size
  rw [← recCs_app, ← List.length_append] at h2
  have hb : Below w3.heap.size w3 w' := hown.bl.grown h3 hown.bl.size (fun k hk => (hown.own.lt k hk).1)
  unfold Oper.wp
  simp only [execOp, ho, resolve, invoke, builtin, Sem.run_bind, Sem.run_pure, Result.andThen_ok, List.map_toArray, List.map_cons, List.map_nil, hs, hx, hr]
  rcases h2.2 with ⟨rfl, h0⟩ | ⟨b, cap, cur, rfl, hrest⟩
  · rw [h0] at h2
    have := h none 0 w' ⟨by rw [h0]; exact h2, hb⟩
    rw [h0] at this
    exact this
  · exact h _ cap w' ⟨h2, hb⟩
/-- The literal of no records. -/
theorem allAt_none (w3 : World) : AllAt w3 ((w3.alloc (.cells #[] 49)).drew) w3.heap.size (.slice (some ⟨w3.heap.size, 0, none⟩) 0 0) [] :=
  ⟨⟨rfl, Or.inr ⟨w3.heap.size, 0, #[], rfl, Nat.le_refl _, heap_alloc_new w3 _, Nat.le_refl _, by unfold maxLen; decide, rfl, rfl⟩⟩, ((Below.refl _ _).alloc (Nat.le_refl _) _).drew⟩
section
variable {w : World} {g : Nat} {R : Rec} {v1 v2 v3 : Value}
/-- A record of a row, as a call is handed it. -/
theorem RecIn.at_ (h : RecIn w g R v1 v2 v3) : ∃ A1 c1 A2 c2 A3 c3, v1 = .slice A1 R.names.length c1 ∧ v2 = .slice A2 R.nums.length c2 ∧ v3 = .slice A3 R.texts.length c3 ∧ RecAt w w.heap.size R (Bytes.mk R.name) R.kind R.cls R.ttl A1 R.names.length A2 R.nums.length A3 R.texts.length := by
  obtain ⟨A1, c1, e1, _, r1, _⟩ := own_rds h.o1 rfl
  obtain ⟨A3, c3, e3, _, r3, _⟩ := own_rds h.o3 rfl
  obtain ⟨A2, c2, e2, _, r2, _⟩ := own_rdn h.o2 rfl
  exact ⟨A1, c1, A2, c2, A3, c3, e1, e2, e3, ⟨mk_list _, rfl, rfl, rfl, rfl, rfl, rfl, r1, r2, r3⟩⟩
end
end Go.Proofs.Ytihkmdojakalbaa

/- Bytes, numbers and names at places of a text: small facts. No condition. -/
namespace Go.Proofs.Ytihkmdojakalbaa
open Go.RowKit NumMath NmMath Bytes

theorem be_bt {l : List UInt8} {p : Nat} (h : p < l.length) : be ((l.drop p).take 1) = bt l p := by
  rw [drop_cons h]
  unfold bt be
  simp
theorem holds_no {n p m : Nat} (h : n < p + m) : holdsB n (p : Int) (m : Int) = false := by simp [holdsB]; omega
theorem cut_extract (s : ByteArray) (p n : Nat) : (s.extract p (p + n)).data.toList = cut s.data.toList p n := by
  rw [extract_list]; unfold cut; rw [List.drop_take]; congr 1; omega
theorem cut_head {l : List UInt8} {p n : Nat} (h : p < l.length) : cut l p (n + 1) = l.getD p 0 :: cut l (p + 1) n := by
  unfold cut
  rw [drop_cons h, List.take_succ_cons]
/-- The name at any place, also one that is none. -/
def nmAt (l : List UInt8) (p : Int) : Except Nat (List UInt8 × Nat) := if p < 0 then .error 2 else nm l l.length 2 p.toNat p.toNat none []
theorem nmAt_list {s : ByteArray} {n : Nat} (h : n = s.size) : s.data.toList = s.data.toList.take n := by rw [h, Lib.size_eq, List.take_length]
end Go.Proofs.Ytihkmdojakalbaa

/- The contracts of a message's reader: the next bytes, what is left, the next text behind its length. For texts of at most 10^6 bytes. -/
namespace Go.Proofs.Ytihkmdojakalbaa
open Go.RowKit NumMath

theorem part_rdr (a s t : ByteArray) (r p n k : Nat) (w : World) (h : RdrAt w r a s p k) (hs : s.size ≤ 1000000) (hi : p + n ≤ s.size) (ht : Hid (s.extract p (p + n) = t)) :
    Calls Try.prog 104 #[.string s, .int .i64 p, .int .i64 n] w fun e w' => e = .returned (.tuple #[.string t, .bool true]) ∧ w'.cell? ⟨r, 1, none⟩ = some (.string s) ∧ w'.cell? ⟨r, 2, none⟩ = some (.int .i64 p) ∧ Hid (RdrAt w' r a s p k) ∧ Below w.heap.size w w' :=
  (part_yes s p n w hs hi).mono fun _ _ ⟨he, hB⟩ => ⟨by rw [he, ht.out], (h.held hB).c1, (h.held hB).c2, h.held hB, hB⟩

theorem text_yes (a s t : ByteArray) (r p n k : Nat) (w : World) (h : RdrAt w r a s p k) (hp : p + n ≤ s.size) (hs : s.size ≤ 1000000) (ht : Hid (s.extract p (p + n) = t)) :
    Calls Try.prog 86 #[.pointer (some ⟨r, 0, none⟩), .int .i64 n] w fun e w' => e = .returned (.string t) ∧ RdrAt w' r a s (p + n) k ∧ w.grownBy w' (some r) := by
  have h1 := h.c1
  have h2 := h.c2
  have H := Lib.hid h
  clear h
  go_enter Try.func86, Try.ntmps86
  go_wp2_with fail
  go_region_held3 (fun w' => w'.cell? ⟨r, 1, none⟩ = some (.string s) ∧ w'.cell? ⟨r, 2, none⟩ = some (.int .i64 p)) (go_keep)
    (first | (go_at_call 104; refine (part_rdr a s t r p n k _ ?_ hs hp ht).mono ?_; exact H.out; rintro e w1 ⟨rfl, hk1, hk2, hK, hB⟩))
  have hfz := hK.out.f2 2
  have hK2 := Lib.hid (hK.out.set (p + n))
  go_wp2_with fail
  go_ret
  refine ⟨rfl, hK2.out, ?_⟩
  have hB' : Below w.heap.size w w1 := ((Below.refl _ w).drew).trans hB
  exact only_setCell (g := r) (only_of_below hB' _) (p := ⟨r, 2, none⟩) (.inl rfl) _

theorem text_no (a s : ByteArray) (r k : Nat) (p : Int) (n : Nat) (w : World) (h : RdrAt w r a s p k) (hs : s.size ≤ 1000000) (hn : n ≤ 1000000) (ha1 : -9223372036854775808 ≤ p) (ha : p ≤ 9223372036854775807)
    (hno : Hid (holdsB s.size p n = false)) :
    Calls Try.prog 86 #[.pointer (some ⟨r, 0, none⟩), .int .i64 n] w fun e w' => e = gave k ∧ ∃ m, w' = w.drewN m := by
  have h1 := h.c1
  have h2 := h.c2
  have h3 := h.c3
  clear h
  go_enter Try.func86, Try.ntmps86
  go_wp2_with fail
  go_quiet ((go_at_call 104; exact quiet_left (part_no s p n _ hs (by omega) (by omega) (by omega) (by omega) hno.out)))
  go_wp2_with fail
  exact ⟨rfl, rfl, _, rfl⟩

theorem left_any (a s : ByteArray) (r p k : Nat) (w : World) (h : RdrAt w r a s p k) (hp : p ≤ s.size) (hs : s.size ≤ 1000000) :
    Calls Try.prog 51 #[.pointer (some ⟨r, 0, none⟩)] w fun e w' => e = .returned (.int .i64 ((s.size : Int) - p)) ∧ ∃ n, w' = w.drewN n := by
  have h1 := h.c1
  have h2 := h.c2
  clear h
  go_enter Try.func51, Try.ntmps51
  go_wp2_with fail
  go_quiet (fail)
  go_wp2_with fail
  go_ret
  exact ⟨rfl, _, rfl⟩
end Go.Proofs.Ytihkmdojakalbaa

/- The contract of a message's reader: some labels of a name. For texts of at most 10^6 bytes. -/
namespace Go.Proofs.Ytihkmdojakalbaa
open Go.RowKit NumMath NmMath Bytes

theorem strCells_bytes (s : ByteArray) : Lib.strCells s = byteCells s.data.toList := by
  unfold byteCells
  simp [Lib.strCells]
/-- The labels, with the byte 0 behind them, if that is where they end. -/
def ended (o : List UInt8) (c : Nat) : List UInt8 := if c = 0 then o ++ [0] else o
/-- Some labels came back, or the reading gave up. -/
def PartEnd (w : World) (g r : Nat) (a s : ByteArray) (k : Nat) : Except Nat (List UInt8 × Nat) → Ending → World → Prop
  | .error x, e, w' => e = gave x ∧ Kept g r w w'
  | .ok (o, q), e, w' => ∃ v, e = .returned (.tuple #[v, .int .u32 (bt s.data.toList q)]) ∧ w'.ownsRow g 5 1 v (ended o (bt s.data.toList q)).length (byteCells (ended o (bt s.data.toList q))) ∧ RdrAt w' r a s ((q + 1 : Nat) : Int) k ∧ Kept g r w w'
def lenOf : Value → Nat
  | .slice _ n _ => n
  | _ => 0
theorem own_form {w : World} {g n : Nat} {e : TypeId} {v : Value} {xs : List Value} (h : w.ownsRow g e 1 v n xs) : ∃ A c, v = .slice A n c ∧ (n ≠ 0 → ∃ a, A = some a) := by
  rcases h.2 with ⟨rfl, h0⟩ | ⟨b, c, cur, rfl, _⟩
  · subst h0
    exact ⟨none, 0, rfl, fun h => absurd rfl h⟩
  · exact ⟨_, c, rfl, fun _ => ⟨_, rfl⟩⟩
theorem own_lenOf {w : World} {g n : Nat} {e : TypeId} {v : Value} {xs : List Value} (h : w.ownsRow g e 1 v n xs) : lenOf v = n := by
  rcases h.2 with ⟨rfl, h0⟩ | ⟨b, c, cur, rfl, _⟩
  · exact h0.symm
  · rfl

set_option maxHeartbeats 4000000 in
set_option maxRecDepth 100000 in
theorem part_any (a s : ByteArray) (r g k p0 : Nat) (v0 : Value) (o0 : List UInt8) (R : Except Nat (List UInt8 × Nat)) (w : World) (h : RdrAt w r a s p0 k) (hv : w.ownsRow g 5 1 v0 o0.length (byteCells o0)) (hg : g ≤ w.heap.size)
    (hs : s.size ≤ 1000000) (hp0 : p0 ≤ 9223372036854775807) (ho : o0.length ≤ 254) (hR : Hid (run s.data.toList s.size k p0 o0 = R)) :
    Calls Try.prog 69 #[.pointer (some ⟨r, 0, none⟩), v0] w (PartEnd w g r a s k R) := by
  have SZ := Lib.hid (Lib.size_eq s)
  have H := Lib.hid h; clear h
  have HV := Lib.hid hv; clear hv
  have HG := Lib.hid hg; clear hg
  obtain ⟨i0, hi, hz0, hz1, hz2⟩ := info_parts info5
  have HI := Lib.hid hi; clear hi
  have HZ0 := Lib.hid hz0; clear hz0
  have HZ1 := Lib.hid hz1; clear hz1
  have HZ2 := Lib.hid hz2; clear hz2
  go_enter Try.func69, Try.ntmps69
  go_wp2_with fail
  go_loopw [1] (fun v wr => ∃ (p : Nat) (o : List UInt8), p ≤ 9223372036854775807 ∧ o.length ≤ 254 ∧ Hid (wr.ownsRow g 5 1 v o.length (byteCells o)) ∧ Hid (RdrAt wr r a s p k) ∧ Hid (run s.data.toList s.size k p o = R) ∧ Hid (Kept g r w wr)) (fun v _ => 255 - lenOf v)
  case atStart => exact ⟨p0, o0, hp0, ho, HV, H, hR, Kept.refl _ _ _⟩
  case round =>
    obtain ⟨p, o, hp, hol, hO, hD, hR, hK⟩ := hrel
    obtain ⟨au, cu, rfl, _⟩ := own_form hO.out
    have hgw : Hid (g ≤ wr.heap.size) := Nat.le_trans HG.out hK.out.size
    by_cases hlt : p < s.size
    · have hpl : p < s.data.toList.length := by rw [← SZ.out]; exact hlt
      obtain ⟨x, hx⟩ : ∃ x, bt s.data.toList p = x := ⟨_, rfl⟩
      have HX := Lib.hid hx
      have hxl : x < 256 := by rw [← hx]; exact bt_lt _ _
      have hbe : Hid (be ((s.data.toList.drop p).take 1) = x) := by rw [be_bt hpl]; exact hx
      have HN := Lib.hid (fun w' (hd : RdrAt w' r a s p k) => number_yes a s r p 1 k x w' hd (by decide) (by decide) (by omega) hs hbe)
      clear hbe
      by_cases h0 : x = 0
      · have hRe : R = .ok (o, p) := by rw [← hR.out]; exact run_end hlt (.inl (by rw [hx]; exact h0))
        subst h0
        have hz : (((0 : Nat) : Int) == 0) = true := rfl
        clear hx hpl
        go_wp2_with fail
        refine (HN.out _ hD.out).mono ?_
        rintro e w1 ⟨rfl, hD1, hG1⟩
        have hO1 := Lib.hid (own_rdr hD.out hO.out hG1)
        have hK1 := Lib.hid (hK.out.grown hG1 hgw.out)
        have hg1 : Hid (g ≤ w1.heap.size) := Nat.le_trans hgw.out hG1.size
        have HD1 := Lib.hid hD1
        clear hD1 hG1 hO hD hK HN
        go_wp2_with (at_builtin; refine wpList_append_own _ rfl _ _ 71 rfl g 5 i0 (.int .u8 0) 1 1 Try.underlying71 HI.out HZ0.out HZ1.out HZ2.out rfl (by decide) _ _ _ rfl (hO1.out.alloc _) ⟨w1.heap.size, 0, none⟩ 1 1 [.int .u8 0] rfl rfl ?c1 ?c2 ?c3 ?c4 ?c5 ?_)
        case c1 =>
          intro j u hj
          match j, hj with
          | 0, hj => simp at hj; subst hj; simp [Addr.add]
        case c2 => intro u hu; simp at hu; subst hu; rfl
        case c3 => unfold maxLen; omega
        case c4 => omega
        case c5 => have := hg1.out; simp; omega
        intro v' w2 hown hgrow _
        have E1 : Hid (w2.ownsRow g 5 1 v' (ended o 0).length (byteCells (ended o 0)) ∧ RdrAt w2 r a s ((p + 1 : Nat) : Int) k ∧ Kept g r w w2) := by
          refine ⟨?_, rdr_own HD1.out hO1.out ((Below.refl _ _).alloc (Nat.le_refl _) _) hgrow, (hK1.out.alloc hg1.out _).own hgrow (by have := hg1.out; simp; omega) (fun k hk => (hO1.out.lt k hk).1)⟩
          unfold ended
          rw [if_pos rfl, byteCells_cat, byteCells_one, List.length_append]
          exact hown
        clear hown hgrow hO1 HD1 hK1
        go_wp2_with fail
        go_ret2
        rw [hRe]
        refine ⟨v', ?_, ?_, E1.out.2.1, E1.out.2.2⟩
        · rw [HX.out]; rfl
        · rw [HX.out]; exact E1.out.1
      · have hz : ((x : Int) == 0) = false := beq_eq_false_iff_ne.2 (by omega)
        by_cases h192 : 192 ≤ x
        · have hRe : R = .ok (o, p) := by rw [← hR.out]; exact run_end hlt (.inr (by rw [hx]; exact h192))
          have hle : (192 : Int) ≤ x := by omega
          clear hx hpl h0 h192
          go_wp2_with fail
          refine (HN.out _ hD.out).mono ?_
          rintro e w1 ⟨rfl, hD1, hG1⟩
          have hO1 := Lib.hid (own_rdr hD.out hO.out hG1)
          have hK1 := Lib.hid (hK.out.grown hG1 hgw.out)
          have HD1 := Lib.hid hD1
          clear hD1 hG1 hO hD hK HN
          go_wp2_with fail
          go_ret2
          rw [hRe]
          refine ⟨.slice au o.length cu, ?_, ?_, HD1.out, hK1.out⟩
          · rw [HX.out]; rfl
          · rw [HX.out]; unfold ended; rw [if_neg (by omega)]; exact hO1.out
        · have hlt192 : (x : Int) < 192 := by omega
          by_cases h64 : 64 ≤ x
          · have hRe : R = .error 41 := by rw [← hR.out]; exact run_label hlt (by rw [hx]; exact h64) (by rw [hx]; omega)
            have hgt : (63 : Int) < x := by omega
            clear hx hpl h0 h192 h64
            go_wp2_with fail
            refine (HN.out _ hD.out).mono ?_
            rintro e w1 ⟨rfl, hD1, hG1⟩
            have hK1 := Lib.hid (hK.out.grown hG1 hgw.out)
            clear hD1 hG1 hO hD hK HN
            go_wp2_with fail
            rw [hRe]
            exact ⟨rfl, rfl, hK1.out⟩
          · have hle63 : (x : Int) ≤ 63 := by omega
            have hwr8 : IntKind.u8.wrap (x : Int) = (x : Int) := by rw [IntKind.wrap_u8]; omega
            obtain ⟨c, hcc⟩ : ∃ c, s.data.toList.getD p 0 = c := ⟨_, rfl⟩
            have hcat : Hid (cut s.data.toList p (x + 1) = c :: (s.extract (p + 1) (p + 1 + x)).data.toList) := by show _ = _; rw [cut_head hpl, cut_extract, hcc]
            have hgd : Hid (c.toNat = x) := by show _ = _; rw [← hcc]; exact hx
            have hRs : Hid (s.size < p + 1 + x → R = .error k) := fun hh => by rw [← hR.out]; exact run_short hlt (by rw [hx]; omega) (by rw [hx]; exact hh)
            have hRl : Hid (p + 1 + x ≤ s.size → 253 < o.length + x → R = .error 40) := fun h1 h2 => by rw [← hR.out]; exact run_long (by rw [hx]; exact h0) (by rw [hx]; omega) (by rw [hx]; exact h1) (by rw [hx]; exact h2)
            have hRm : Hid (p + 1 + x ≤ s.size → o.length + x ≤ 253 → run s.data.toList s.size k (p + 1 + x) (o ++ cut s.data.toList p (x + 1)) = R) := fun h1 h2 => by rw [← hR.out]; have := run_more (l := s.data.toList) (E := s.size) (K := k) (p := p) (o := o) (by rw [hx]; exact h0) (by rw [hx]; omega) (by rw [hx]; exact h1) (by rw [hx]; exact h2); rw [hx] at this; exact this.symm
            clear hx hpl h192 h64 hR hcc
            go_wp2_with fail
            refine (HN.out _ hD.out).mono ?_
            rintro e w1 ⟨rfl, hD1, hG1⟩
            have hO1 := Lib.hid (own_rdr hD.out hO.out hG1)
            have hK1 := Lib.hid (hK.out.grown hG1 hgw.out)
            have hg1 : Hid (g ≤ w1.heap.size) := Nat.le_trans hgw.out hG1.size
            have HD1 := Lib.hid hD1
            clear hD1 hG1 hO hD hK HN
            go_wp2_with (at_builtin; refine wpList_append_own _ rfl _ _ 71 rfl g 5 i0 (.int .u8 0) 1 1 Try.underlying71 HI.out HZ0.out HZ1.out HZ2.out rfl (by decide) _ _ _ rfl (hO1.out.alloc _) ⟨w1.heap.size, 0, none⟩ 1 1 [.int .u8 (x : Int)] rfl rfl ?c1 ?c2 ?c3 ?c4 ?c5 ?_)
            case c1 =>
              intro j u hj
              match j, hj with
              | 0, hj => simp at hj; subst hj; simp [Addr.add]
            case c2 => intro u hu; simp at hu; subst hu; rfl
            case c3 => unfold maxLen; omega
            case c4 => omega
            case c5 => have := hg1.out; simp; omega
            intro v' w2 hown hgrow _
            have hO2 : Hid (w2.ownsRow g 5 1 v' (o.length + 1) (byteCells (o ++ [c]))) := by
              show World.ownsRow _ _ _ _ _ _ _
              rw [byteCells_cat, byteCells_one, hgd.out]
              exact hown
            have hD2 := Lib.hid (rdr_own HD1.out hO1.out ((Below.refl _ _).alloc (Nat.le_refl _) _) hgrow)
            have hK2 := Lib.hid ((hK1.out.alloc hg1.out _).own hgrow (by have := hg1.out; simp; omega) (fun k hk => (hO1.out.lt k hk).1))
            have hg2 : Hid (g ≤ w2.heap.size) := Nat.le_trans HG.out hK2.out.size
            clear hown hgrow hO1 HD1 hK1
            by_cases hin : p + 1 + x ≤ s.size
            · obtain ⟨y, hy⟩ : ∃ y, s.extract (p + 1) (p + 1 + x) = y := ⟨_, rfl⟩
              have hyl : y.size = x := by rw [← hy, ByteArray.size_extract]; omega
              have hcat2 := hcat.out
              rw [hy] at hcat2
              have HC := Lib.hid hcat2
              have HT := Lib.hid (text_yes a s y r (p + 1) x k w2 (by have := hD2.out; rwa [← Int.natCast_add] at this) hin hs (Lib.hid hy))
              clear hcat2 hy hcat
              go_wp2_with fail
              refine HT.out.mono ?_
              rintro e w3 ⟨rfl, hD3, hG3⟩
              have hO3 := Lib.hid (own_rdr hD2.out hO2.out hG3)
              have hK3 := Lib.hid (hK2.out.grown hG3 hg2.out)
              have hg3 : Hid (g ≤ w3.heap.size) := Nat.le_trans hg2.out hG3.size
              have HD3 := Lib.hid hD3
              clear HT hD3 hG3 hO2 hD2 hK2
              go_wp2_with (at_builtin; refine Lib.wpList_append_own_string _ rfl _ _ 71 9 rfl g 5 i0 Try.underlying71 Try.underlying9 HI.out HZ0.out HZ1.out HZ2.out _ _ _ rfl hO3.out y rfl ?d3 ?d4 ?d5 ?_)
              case d3 => unfold maxLen; omega
              case d4 => omega
              case d5 => exact hg3.out
              intro v3 w4 hown4 hgrow4 _
              have hol4 : (o ++ cut s.data.toList p (x + 1)).length = o.length + 1 + x := by rw [HC.out, List.length_append, List.length_cons, ← Lib.size_eq, hyl]; omega
              have hO4 : Hid (w4.ownsRow g 5 1 v3 (o.length + 1 + x) (byteCells (o ++ cut s.data.toList p (x + 1)))) := by
                show World.ownsRow _ _ _ _ _ _ _
                have := hown4
                rw [strCells_bytes, ← byteCells_cat, List.append_assoc] at this
                rw [HC.out]
                exact this
              have hD4 : Hid (RdrAt w4 r a s ((p + 1 + x : Nat) : Int) k) := by
                have := rdr_own HD3.out hO3.out (Below.refl _ _) hgrow4
                rwa [← Int.natCast_add] at this
              have hK4 := Lib.hid (hK3.out.own hgrow4 hg3.out (fun k hk => (hO3.out.lt k hk).1))
              have hol4' := Lib.hid hol4
              obtain ⟨av, cv, rfl, _⟩ := own_form hO4.out
              clear hown4 hgrow4 hO3 HD3 hK3 hol4
              by_cases hlong : 253 < o.length + x
              · have hRe := hRl.out hin hlong
                have hbig : (254 : Int) < ((o.length + 1 + x : Nat) : Int) := by omega
                go_wp2_with fail
                rw [hRe]
                exact ⟨rfl, rfl, hK4.out⟩
              · have hRe := hRm.out hin (by omega)
                have HRe := Lib.hid hRe
                have hsmall : ((o.length + 1 + x : Nat) : Int) ≤ 254 := by omega
                clear hRe hRl hRm hRs
                go_wp2_with fail
                go_roundw
                case rel => exact ⟨p + 1 + x, o ++ cut s.data.toList p (x + 1), by omega, by rw [hol4'.out]; omega, by rw [hol4'.out]; exact hO4, hD4, HRe, hK4⟩
                case measure => simp only [lenOf]; omega
            · have hRe := hRs.out (by omega)
              have hno : Hid (holdsB s.size ((p + 1 : Nat) : Int) (x : Int) = false) := holds_no (by omega)
              have HT := Lib.hid (text_no a s r k ((p + 1 : Nat) : Int) x w2 (by have := hD2.out; rwa [← Int.natCast_add] at this) hs (by omega) (by omega) (by omega) hno)
              go_wp2_with fail
              refine HT.out.mono ?_
              rintro e w3 ⟨rfl, m, rfl⟩
              go_wp2_with fail
              rw [hRe]
              exact ⟨rfl, rfl, hK2.out.drewN m⟩
    · have hRe : R = .error k := by rw [← hR.out]; exact run_lack (by omega)
      have hno : Hid (holdsB s.size (p : Int) ((1 : Nat) : Int) = false) := holds_no (by omega)
      go_wp2_with fail
      refine (number_no a s r k p 1 _ hD.out hs (by decide) (by omega) (by omega) hno).mono ?_
      rintro e w1 ⟨rfl, m, rfl⟩
      go_wp2_with fail
      rw [hRe]
      exact ⟨rfl, rfl, hK.out.drewN m⟩
end Go.Proofs.Ytihkmdojakalbaa

/- The contract of a message's reader: a name that pointers may lead on. For texts of at most 10^6 bytes. -/
namespace Go.Proofs.Ytihkmdojakalbaa
open Go.RowKit NumMath NmMath Bytes

theorem bt_take {l : List UInt8} {E p : Nat} (h : p < E) : bt (l.take E) p = bt l p := by
  unfold bt
  rw [List.getD_eq_getElem?_getD, List.getElem?_take_of_lt h, ← List.getD_eq_getElem?_getD]
theorem cut_take {l : List UInt8} {E p n : Nat} (h : p + n ≤ E) : cut (l.take E) p n = cut l p n := by
  unfold cut
  rw [List.drop_take, List.take_take, Nat.min_eq_left (by omega)]
theorem run_take {l : List UInt8} {E K p : Nat} {o : List UInt8} : run (l.take E) E K p o = run l E K p o := by
  fun_induction run l E K p o with
  | case1 p o h h0 => exact run_end h (by rw [bt_take h]; exact h0)
  | case2 p o h h0 h1 => exact run_label h (by rw [bt_take h]; exact h1) (by rw [bt_take h]; omega)
  | case3 p o h h0 h1 h2 h3 => exact run_long (by rw [bt_take h]; omega) (by rw [bt_take h]; omega) (by rw [bt_take h]; omega) (by rw [bt_take h]; omega)
  | case4 p o h h0 h1 h2 h3 ih => rw [run_more (by rw [bt_take h]; omega) (by rw [bt_take h]; omega) (by rw [bt_take h]; omega) (by rw [bt_take h]; omega), bt_take h, cut_take (by omega), ih]
  | case5 p o h h0 h1 h2 => exact run_short h (by rw [bt_take h]; omega) (by rw [bt_take h]; omega)
  | case6 p o h => exact run_lack (by omega)
theorem or_place (m y : Nat) (hm : m < 64) (hy : y < 256) : bits .or .u32 ((m * 256 : Nat) : Int) (y : Int) = ((m * 256 + y : Nat) : Int) := by
  have e1 : (BitVec.ofInt 32 ((m * 256 : Nat) : Int)).toNat = m * 256 := by rw [BitVec.ofInt_natCast, BitVec.toNat_ofNat]; omega
  have e2 : (BitVec.ofInt 32 (y : Int)).toNat = y := by rw [BitVec.ofInt_natCast, BitVec.toNat_ofNat]; omega
  show IntKind.u32.wrap ((BitVec.ofInt 32 ((m * 256 : Nat) : Int) ||| BitVec.ofInt 32 (y : Int)).toNat : Int) = _
  have h := Nat.shiftLeft_add_eq_or_of_lt (i := 8) (b := y) (by omega) m
  rw [Nat.shiftLeft_eq] at h
  have e3 : m * 256 ||| y = m * 256 + y := h.symm
  rw [BitVec.toNat_or, e1, e2, e3, IntKind.wrap_u32]
  omega

/-- A name came back, or the reading gave up. -/
def NmEnd (w : World) (r : Nat) (a s : ByteArray) (k : Nat) : Except Nat (List UInt8 × Nat) → Ending → World → Prop
  | .error x, e, w' => e = gave x ∧ w.grownBy w' (some r)
  | .ok (o, n), e, w' => e = .returned (.string (mk o)) ∧ RdrAt w' r a s (n : Int) k ∧ w.grownBy w' (some r)
/-- Of the two readers the one reads, the other stands. -/
def Sides (W : World) (r B pb : Nat) (a s ax sx : ByteArray) (k K : Nat) (next : Option Nat) : Prop :=
  (pb = r ∧ next = none ∧ ax = a ∧ sx = s ∧ K = k ∧ RdrAt W B ⟨#[]⟩ a 0 2) ∨ (pb = B ∧ ax = ⟨#[]⟩ ∧ sx = a ∧ K = 2 ∧ ∃ nx : Nat, next = some nx ∧ RdrAt W r a s (nx : Int) k)
theorem sides_on {W W' : World} {r B pb : Nat} {a s ax sx : ByteArray} {k K z : Nat} {next : Option Nat} (h : Sides W r B pb a s ax sx k K next) (hne : r ≠ B) (hg : W.grownBy W' (some pb)) (hd : RdrAt W' pb ax sx (z : Int) K) :
    RdrAt W' r a s ((next.getD z : Nat) : Int) k ∧ ∃ z : Int, RdrAt W' B ⟨#[]⟩ a z 2 := by
  rcases h with ⟨rfl, rfl, rfl, rfl, rfl, h6⟩ | ⟨rfl, rfl, rfl, rfl, nx, rfl, h6⟩
  · exact ⟨hd, _, h6.other hg (fun e => hne e.symm)⟩
  · exact ⟨h6.other hg hne, _, hd⟩
theorem sides_now {W : World} {r B pb : Nat} {a s ax sx : ByteArray} {k K z : Nat} {next : Option Nat} (h : Sides W r B pb a s ax sx k K next) (hd : RdrAt W pb ax sx (z : Int) K) : RdrAt W r a s ((next.getD z : Nat) : Int) k := by
  rcases h with ⟨rfl, rfl, rfl, rfl, rfl, h6⟩ | ⟨rfl, rfl, rfl, rfl, nx, rfl, h6⟩
  · exact hd
  · exact h6

theorem kept_side {w W W' : World} {r B pb g : Nat} {a s ax sx : ByteArray} {k K : Nat} {next : Option Nat} (h : Sides W r B pb a s ax sx k K next) (hk : Kept g r w W) (hg : W.grownBy W' (some pb)) (h1 : g ≤ W.heap.size) (h2 : g ≤ B) : Kept g r w W' := by
  rcases h with ⟨rfl, rfl, rfl, rfl, rfl, h6⟩ | ⟨rfl, rfl, rfl, rfl, nx, rfl, h6⟩
  · exact hk.grown hg h1
  · exact hk.own hg h1 (fun k e => by injection e with e; omega)

set_option maxHeartbeats 4000000 in
set_option maxRecDepth 100000 in
theorem pointed_any (a s : ByteArray) (r k p0 : Nat) (R : Except Nat (List UInt8 × Nat)) (w : World) (h : RdrAt w r a s p0 k) (hsa : Hid (s.data.toList = a.data.toList.take s.size)) (ha : a.size ≤ 1000000) (hs : s.size ≤ 1000000)
    (hp0 : p0 ≤ 9223372036854775807) (hR : Hid (nm a.data.toList s.size k p0 p0 none [] = R)) :
    Calls Try.prog 44 #[.pointer (some ⟨r, 0, none⟩)] w (NmEnd w r a s k R) := by
  have AZ := Lib.hid (Lib.size_eq a)
  have hrlt := h.lt
  have hc0 := h.c0
  have hc2 := h.c2
  have H := Lib.hid h; clear h
  obtain ⟨g, hg⟩ : ∃ g, w.heap.size = g := ⟨_, rfl⟩
  have G := Lib.hid hg
  rw [hg] at hrlt
  obtain ⟨R1, hR1⟩ : ∃ R1, run s.data.toList s.size k p0 [] = R1 := ⟨_, rfl⟩
  have hR1' : run a.data.toList s.size k p0 [] = R1 := by rw [← hR1, hsa.out, run_take]
  have HP := Lib.hid (fun w' (hd : RdrAt w' r a s p0 k) (hgw : g ≤ w'.heap.size) => part_any a s r g k p0 (.slice none 0 0) [] R1 w' hd (World.ownsRow_nil _ _ _ _) hgw hs hp0 (Nat.zero_le _) (Lib.hid hR1))
  cases R1 with
  | error x =>
    have hRe : R = .error x := by rw [← hR.out]; exact nm_err hR1'
    clear hR1 hR1' hR hg
    go_enter Try.func44, Try.ntmps44
    go_wp2_with fail
    refine (HP.out _ H.out (Nat.le_of_eq G.out.symm)).mono ?_
    rintro e w1 ⟨rfl, hK1⟩
    have HK := Lib.hid hK1; clear hK1
    go_wp2_with fail
    refine ⟨rfl, rfl, ?_⟩
    have := HK.out
    rw [← G.out] at this
    exact this.to_grown
  | ok oq =>
    obtain ⟨o1, q1⟩ := oq
    obtain ⟨hq1, hq2, hq3, hq4⟩ := run_ok hR1'
    have hq4 := hq4 (Nat.zero_le _)
    have HRQ : Hid (nm a.data.toList s.size k q1 p0 none o1 = R) := by show _ = _; rw [← nm_run hR1']; exact hR.out
    have hbt : Hid (bt s.data.toList q1 = bt a.data.toList q1) := by show _ = _; rw [hsa.out, bt_take hq2]
    have hp0' : p0 ≤ 1000000 := by omega
    have HQ := Lib.hid hq3
    clear hR1 hR1' hR hg hq3
    go_enter Try.func44, Try.ntmps44
    go_wp2_with fail
    refine (HP.out _ H.out (Nat.le_of_eq G.out.symm)).mono ?_
    rintro e w1 ⟨v1, rfl, hO1, hD1, hK1⟩
    rw [hbt.out] at hO1 ⊢
    have hB1 : g ≤ w1.heap.size := by have := hK1.size; have := G.out; omega
    obtain ⟨B, hB⟩ : ∃ B, w1.heap.size = B := ⟨_, rfl⟩
    have hc0 := hD1.c0
    have HA : Hid (RdrAt (w1.alloc (.cells #[.string ⟨#[]⟩, .string a, .int .i64 0, .int .i64 2] 56)) B ⟨#[]⟩ a 0 2) := by
      rw [← hB]; exact heap_alloc_new w1 _
    have HD1 : Hid (RdrAt (w1.alloc (.cells #[.string ⟨#[]⟩, .string a, .int .i64 0, .int .i64 2] 56)) r a s ((q1 + 1 : Nat) : Int) k) := hD1.held ((Below.refl _ _).alloc (Nat.le_refl _) _)
    have HO1 : Hid ((w1.alloc (.cells #[.string ⟨#[]⟩, .string a, .int .i64 0, .int .i64 2] 56)).ownsRow g 5 1 v1 (ended o1 (bt a.data.toList q1)).length (byteCells (ended o1 (bt a.data.toList q1)))) := hO1.alloc _
    have HK1 : Hid (Kept g r w (w1.alloc (.cells #[.string ⟨#[]⟩, .string a, .int .i64 0, .int .i64 2] 56))) := hK1.alloc hB1 _
    obtain ⟨c1, hc1⟩ : ∃ c, bt a.data.toList q1 = c := ⟨_, rfl⟩
    have HC1 := Lib.hid hc1
    have hc1l : c1 < 256 := by rw [← hc1]; exact bt_lt _ _
    rw [hc1] at HO1 HQ ⊢
    clear hO1 hD1 hK1 hc1
    have hne : r ≠ B := by omega
    have hgB : g ≤ B := by omega
    have HS1 : Hid (Sides (w1.alloc (.cells #[.string ⟨#[]⟩, .string a, .int .i64 0, .int .i64 2] 56)) r B r a s a s k k none) := .inl ⟨rfl, rfl, rfl, rfl, rfl, HA.out⟩
    clear HA
    go_wp2_with fail
    generalize w1.alloc (.cells #[.string ⟨#[]⟩, .string a, .int .i64 0, .int .i64 2] 56) = w2 at *
    clear hB hB1 hc0 HP H
    go_loopw [3, 4, 5, 7] (fun bg v la pp wr => ∃ (o : List UInt8) (q b c pb K : Nat) (ax sx : ByteArray) (next : Option Nat), bg = .int .i64 b ∧ la = .int .u32 c ∧ pp = .pointer (some ⟨pb, 0, none⟩) ∧ b ≤ 1000000 ∧ q < sx.size ∧ sx.size ≤ 1000000 ∧ c < 256 ∧ o.length ≤ 254 ∧ Hid (c = 0 ∨ 192 ≤ c) ∧ Hid (bt a.data.toList q = c) ∧
      Hid (wr.ownsRow g 5 1 v (ended o c).length (byteCells (ended o c))) ∧ Hid (RdrAt wr pb ax sx ((q + 1 : Nat) : Int) K) ∧ Hid (sx.data.toList = a.data.toList.take sx.size) ∧ Hid (nm a.data.toList sx.size K q b next o = R) ∧ Hid (Sides wr r B pb a s ax sx k K next) ∧ Hid (Kept g r w wr)) (fun bg _ _ _ _ => (intOf bg).toNat)
    case atStart => exact ⟨o1, q1, p0, c1, r, k, a, s, none, rfl, rfl, rfl, hp0', hq2, hs, hc1l, hq4, HQ, HC1, HO1, HD1, hsa, HRQ, HS1, HK1⟩
    case round =>
      obtain ⟨o, q, b, c, pb, K, ax, sx, next, rfl, rfl, rfl, hb, hq, hsx, hc, hol, hc2, hC, hO, hD, hX, hR, hS, hK⟩ := hrel
      by_cases h0 : c = 0
      · subst h0
        have hRe : Hid (R = .ok (o ++ [0], next.getD (q + 1))) := by show _ = _; rw [← hR.out]; exact nm_zero hq hC.out
        have hcv := convert_own hO.out
        have HE : Hid (RdrAt wr r a s ((next.getD (q + 1) : Nat) : Int) k ∧ w.grownBy wr (some r)) := by
          refine ⟨sides_now hS.out hD.out, ?_⟩
          have := hK.out
          rw [← G.out] at this
          exact this.to_grown
        go_wp2_with fail
        go_ret
        rw [hRe.out]
        exact ⟨rfl, HE.out.1, HE.out.2⟩
      · have hge : 192 ≤ c := hc2.out.resolve_left h0
        have hgei : (192 : Int) ≤ c := by omega
        by_cases hin : q + 2 ≤ sx.size
        · obtain ⟨y, hy⟩ : ∃ y, bt a.data.toList (q + 1) = y := ⟨_, rfl⟩
          have hyl : y < 256 := by rw [← hy]; exact bt_lt _ _
          have hbe : Hid (be ((sx.data.toList.drop (q + 1)).take 1) = y) := by
            show _ = _
            rw [be_bt (by rw [← Lib.size_eq]; omega), hX.out, bt_take (by omega)]
            exact hy
          obtain ⟨t, ht⟩ : ∃ t, place a.data.toList q = t := ⟨_, rfl⟩
          have htc : t = (c - 192) * 256 + y := by rw [← ht, ← hC.out, ← hy]; rfl
          have htl : t < 16384 := by omega
          have hor := or_place (c - 192) y (by omega) hyl
          rw [← htc, show (((c - 192) * 256 : Nat) : Int) = ((c : Int) - 192) * 256 by omega] at hor
          have HN := Lib.hid (number_yes ax sx pb (q + 1) 1 K y wr hD.out (by decide) (by decide) (by omega) hsx hbe)
          have HT := Lib.hid ht
          clear hbe hy htc ht
          by_cases hback : t < b
          · have hRb : nm a.data.toList a.size 2 t t (some (next.getD (q + 2))) o = R := by
              have := nm_back (b := b) (next := next) (o := o) (K := K) (by rw [hC.out]; exact hge) hin (by rw [HT.out]; exact hback)
              rw [HT.out, ← AZ.out, hR.out] at this
              exact this.symm
            have hbt : (t : Int) < (b : Int) := by omega
            obtain ⟨R2, hR2⟩ : ∃ R2, run a.data.toList a.size 2 t o = R2 := ⟨_, rfl⟩
            have HP2 := Lib.hid (fun w' (v : Value) (hv : w'.ownsRow g 5 1 v o.length (byteCells o)) (hd : RdrAt w' B ⟨#[]⟩ a t 2) (hgw : g ≤ w'.heap.size) => part_any ⟨#[]⟩ a B g 2 t v o R2 w' hd hv hgw ha (by omega) hol (Lib.hid hR2))
            have hO' : Hid (wr.ownsRow g 5 1 u4 o.length (byteCells o)) := by
              have := hO.out
              unfold ended at this
              rw [if_neg h0] at this
              exact this
            cases R2 with
            | error x =>
              have hRe : Hid (R = .error x) := by show _ = _; rw [← hRb]; exact nm_err hR2
              clear h0 hback hR2 hRb
              go_wp2_with fail
              refine HN.out.mono ?_
              rintro e w3 ⟨rfl, hD3, hG3⟩
              obtain ⟨hr3, z3, hz3⟩ := sides_on (z := q + 2) hS.out hne hG3 hD3
              have hcB := hz3.c2
              have hfB := hz3.f2 2
              have HK3 := Lib.hid (kept_side hS.out hK.out hG3 (by have := hK.out.size; have := G.out; omega) hgB)
              have HB4 : Hid (RdrAt (w3.setCell ⟨B, 2, none⟩ (.int .i64 t)) B ⟨#[]⟩ a t 2) := hz3.set t
              have HO4 : Hid ((w3.setCell ⟨B, 2, none⟩ (.int .i64 t)).ownsRow g 5 1 u4 o.length (byteCells o)) := own_rdr hz3 (own_rdr hD.out hO'.out hG3) (only_setCell (grown_refl _ _) (.inl rfl) _)
              have HK4 : Hid (Kept g r w (w3.setCell ⟨B, 2, none⟩ (.int .i64 t))) := HK3.out.setCell (.inr hgB) _
              clear hD3 hG3 hr3 hz3 HK3
              go_wp2_with fail
              refine (HP2.out _ u4 HO4.out HB4.out (by have := HK4.out.size; have := G.out; omega)).mono ?_
              rintro e w5 ⟨rfl, hK5⟩
              have HK5 : Hid (w.grownBy w5 (some r)) := by
                have := HK4.out.new hK5 hgB
                rw [← G.out] at this
                exact this.to_grown
              clear hK5
              go_wp2_with fail
              rw [hRe.out]
              exact ⟨rfl, rfl, HK5.out⟩
            | ok oq2 =>
              obtain ⟨o2, q2⟩ := oq2
              obtain ⟨hk1, hk2, hk3, hk4⟩ := run_ok hR2
              have hk4 := hk4 hol
              have HR2 : Hid (nm a.data.toList a.size 2 q2 t (some (next.getD (q + 2))) o2 = R) := by show _ = _; rw [← nm_run hR2]; exact hRb
              have HQ2 := Lib.hid hk3
              clear h0 hback hR2 hRb hk3
              go_wp2_with fail
              refine HN.out.mono ?_
              rintro e w3 ⟨rfl, hD3, hG3⟩
              obtain ⟨hr3, z3, hz3⟩ := sides_on (z := q + 2) hS.out hne hG3 hD3
              have hcB := hz3.c2
              have hfB := hz3.f2 2
              have HK3 := Lib.hid (kept_side hS.out hK.out hG3 (by have := hK.out.size; have := G.out; omega) hgB)
              have HB4 : Hid (RdrAt (w3.setCell ⟨B, 2, none⟩ (.int .i64 t)) B ⟨#[]⟩ a t 2) := hz3.set t
              have HO4 : Hid ((w3.setCell ⟨B, 2, none⟩ (.int .i64 t)).ownsRow g 5 1 u4 o.length (byteCells o)) := own_rdr hz3 (own_rdr hD.out hO'.out hG3) (only_setCell (grown_refl _ _) (.inl rfl) _)
              have HK4 : Hid (Kept g r w (w3.setCell ⟨B, 2, none⟩ (.int .i64 t))) := HK3.out.setCell (.inr hgB) _
              have HR4 : Hid (RdrAt (w3.setCell ⟨B, 2, none⟩ (.int .i64 t)) r a s ((next.getD (q + 2) : Nat) : Int) k) := hr3.far hne _
              clear hD3 hG3 hr3 hz3 HK3
              go_wp2_with fail
              refine (HP2.out _ u4 HO4.out HB4.out (by have := HK4.out.size; have := G.out; omega)).mono ?_
              rintro e w5 ⟨v5, rfl, hO5, hD5, hK5⟩
              have HK5 := Lib.hid (HK4.out.new hK5 hgB)
              have HR5 : Hid (RdrAt w5 r a s ((next.getD (q + 2) : Nat) : Int) k) := HR4.out.kept hK5 hrlt hne
              obtain ⟨c5, hc5⟩ : ∃ c, bt a.data.toList q2 = c := ⟨_, rfl⟩
              have hc5l : c5 < 256 := by rw [← hc5]; exact bt_lt _ _
              rw [hc5] at hO5 HQ2 ⊢
              have HO5 := Lib.hid hO5
              have HD5 := Lib.hid hD5
              have HC5 := Lib.hid hc5
              have HSX : Hid (a.data.toList = a.data.toList.take a.size) := by show _ = _; rw [AZ.out, List.take_length]
              clear hO5 hD5 hK5 hc5
              go_wp2_with fail
              go_roundw
              case rel => exact ⟨o2, q2, t, c5, B, 2, ⟨#[]⟩, a, some (next.getD (q + 2)), rfl, rfl, rfl, by omega, hk2, ha, hc5l, hk4, HQ2, HC5, HO5, HD5, HSX, HR2, .inr ⟨rfl, rfl, rfl, rfl, _, rfl, HR5.out⟩, HK5⟩
              case measure => simp [intOf]; omega
          · have hRe : Hid (R = .error 42) := by show _ = _; rw [← hR.out]; exact nm_ahead (by rw [hC.out]; exact hge) hin (by rw [HT.out]; omega)
            have hbt : (b : Int) ≤ (t : Int) := by omega
            clear h0 hback
            go_wp2_with fail
            refine HN.out.mono ?_
            rintro e w3 ⟨rfl, hD3, hG3⟩
            have HK3 : Hid (w.grownBy w3 (some r)) := by
              have := kept_side hS.out hK.out hG3 (by have := hK.out.size; have := G.out; omega) hgB
              rw [← G.out] at this
              exact this.to_grown
            clear hD3 hG3
            go_wp2_with fail
            rw [hRe.out]
            exact ⟨rfl, rfl, HK3.out⟩
        · have hRe : Hid (R = .error K) := by show _ = _; rw [← hR.out]; exact nm_cut hq (by rw [hC.out]; exact hge) (by omega)
          have hno : Hid (holdsB sx.size ((q + 1 : Nat) : Int) ((1 : Nat) : Int) = false) := holds_no (by omega)
          have HN := Lib.hid (number_no ax sx pb K ((q + 1 : Nat) : Int) 1 wr hD.out hsx (by decide) (by omega) (by omega) hno)
          have HK3 : Hid (w.grownBy wr (some r)) := by
            have := hK.out
            rw [← G.out] at this
            exact this.to_grown
          clear h0
          go_wp2_with fail
          refine HN.out.mono ?_
          rintro e w3 ⟨rfl, m, rfl⟩
          go_wp2_with fail
          rw [hRe.out]
          exact ⟨rfl, rfl, grown_drewN HK3.out m⟩
end Go.Proofs.Ytihkmdojakalbaa
