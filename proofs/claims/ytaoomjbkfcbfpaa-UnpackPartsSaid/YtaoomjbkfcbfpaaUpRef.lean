/- The document's reader of a header block: its state in memory, the next integer, an entry. For blocks of at most 10^6 bytes. -/
import Derived.Test.YtaoomjbkfcbfpaaProg
import Derived.Test.YtaoomjbkfcbfpaaBytes
import Derived.Test.YtaoomjbkfcbfpaaGrown
import Derived.Test.YtaoomjbkfcbfpaaQuiet
import Derived.Test.YtaoomjbkfcbfpaaPfGet
import Derived.Test.YtaoomjbkfcbfpaaTbAt
import Derived.Test.YtaoomjbkfcbfpaaTcMem
import Derived.Test.YtaoomjbkfcbfpaaUpMath
import Derived.Test.YtaoomjbkfcbfpaaUpRdr
import Derived.Test.YtaoomjbkfcbfpaaUpEnt
import Derived.WalkKit
import Derived.Lib.Hide
import Derived.Laws.Rows
import Derived.Outline
import Derived.IntWalk
import Derived.WalkSpells
import Derived.WalkLawsBesides
import Derived.Deep.QuietTactic
import Derived.BigQuiet
import Derived.Deep.Draws
namespace Go.Proofs.Ytaoomjbkfcbfpaa
open Go.RowKit Bytes Tb Up

theorem getM_err {l : List UInt8} {p f m q c : Nat} (h : Pf.getM l p f = (m, q, c)) (hc : c ≠ 0) : m = 0 ∧ q = 0 := by
  have gt_err : ∀ {j : Nat} {l : List UInt8} {p u n m q c : Nat}, Pf.gt j l p u n = (m, q, c) → c ≠ 0 → m = 0 ∧ q = 0 := by
    intro j
    induction j with
    | zero => intro l p u n m q c h _; unfold Pf.gt at h; injection h with h1 h2; injection h2 with h2 _; omega
    | succ j ih =>
      intro l p u n m q c h hc
      cases l with
      | nil => unfold Pf.gt at h; injection h with h1 h2; injection h2 with h2 _; omega
      | cons x r =>
        unfold Pf.gt at h
        split at h
        · injection h with h1 h2; injection h2 with h2 _; omega
        · split at h
          · injection h with h1 h2; injection h2 with h2 h3; omega
          · exact ih h hc
  unfold Pf.getM at h
  generalize l.drop p = d at h
  cases d with
  | nil => injection h with h1 h2; injection h2 with h2 _; omega
  | cons x r =>
    simp only at h
    split at h
    · injection h with h1 h2; injection h2 with h2 h3; omega
    · exact gt_err h hc
/-- The document's state, in block X: the table, the block, the place, the error. -/
structure XAt (w : World) (X : Nat) (s : ByteArray) (t : Tab) (p e : Nat) (A : Option Addr) (c : Nat) : Prop where
  cells : w.heap[X]? = some (.cells #[.int .i64 (t.1 : Int), .slice A t.2.length c, .string s, .int .i64 (p : Int), .int .i64 (e : Int)] 58 (0, 0))
  tab : TabE w w.heap.size A t.2.length c t.2
section
variable {w w1 w' : World} {X : Nat} {s : ByteArray} {t : Tab} {p e : Nat} {A : Option Addr} {c : Nat}
theorem five_cells {w : World} {g : Nat} {a b c d e : Value} {t : TypeId} (h : w.heap[g]? = some (.cells #[a, b, c, d, e] t (0, 0))) :
    w.cell? ⟨g, 0, none⟩ = some a ∧ w.cell? ⟨g, 1, none⟩ = some b ∧ w.cell? ⟨g, 2, none⟩ = some c ∧ w.cell? ⟨g, 3, none⟩ = some d ∧ w.cell? ⟨g, 4, none⟩ = some e ∧ ∀ i, w.frozen? ⟨g, i, none⟩ = false :=
  ⟨cell_of_row _ g 0 _ _ _ h, cell_of_row _ g 1 _ _ _ h, cell_of_row _ g 2 _ _ _ h, cell_of_row _ g 3 _ _ _ h, cell_of_row _ g 4 _ _ _ h, fun i => by simp [World.frozen?, h]⟩
theorem set5_0 {w : World} {g : Nat} {a b c d e y : Value} {t : TypeId} (h : w.heap[g]? = some (.cells #[a, b, c, d, e] t (0, 0))) : (w.setCell ⟨g, 0, none⟩ y).heap[g]? = some (.cells #[y, b, c, d, e] t (0, 0)) := heap_setCell_same _ g 0 _ _ y h
theorem set5_1 {w : World} {g : Nat} {a b c d e y : Value} {t : TypeId} (h : w.heap[g]? = some (.cells #[a, b, c, d, e] t (0, 0))) : (w.setCell ⟨g, 1, none⟩ y).heap[g]? = some (.cells #[a, y, c, d, e] t (0, 0)) := heap_setCell_same _ g 1 _ _ y h
theorem set5_3 {w : World} {g : Nat} {a b c d e y : Value} {t : TypeId} (h : w.heap[g]? = some (.cells #[a, b, c, d, e] t (0, 0))) : (w.setCell ⟨g, 3, none⟩ y).heap[g]? = some (.cells #[a, b, c, y, e] t (0, 0)) := heap_setCell_same _ g 3 _ _ y h
theorem set5_4 {w : World} {g : Nat} {a b c d e y : Value} {t : TypeId} (h : w.heap[g]? = some (.cells #[a, b, c, d, e] t (0, 0))) : (w.setCell ⟨g, 4, none⟩ y).heap[g]? = some (.cells #[a, b, c, d, y] t (0, 0)) := heap_setCell_same _ g 4 _ _ y h
theorem XAt.lt (h : XAt w X s t p e A c) : X < w.heap.size := world_lt h.cells
/-- The state's block is not the table's row. -/
theorem XAt.ne (h : XAt w X s t p e A c) (b o : Nat) (hA : A = some ⟨b, o, none⟩) : b ≠ X := by
  rintro rfl
  rcases h.tab with ⟨h1, _⟩ | ⟨b', o', h1, h2, h3, h4⟩
  · rw [hA] at h1; cases h1
  · rw [hA] at h1
    injection h1 with h1
    injection h1 with h1 h1'
    subst h1
    subst h1'
    obtain ⟨b2, o2, e2, _, hc⟩ := h4 (by omega)
    injection e2 with e2
    injection e2 with e2 e2'
    subst e2
    subst e2'
    have hc0 := hc 0 (by omega)
    have hrow : ∀ j, w.cell? ⟨b, j, none⟩ = (#[Value.int .i64 (t.1 : Int), .slice A t.2.length c, .string s, .int .i64 (p : Int), .int .i64 (e : Int)] : Array Value)[j]? := fun j => cell_of_row _ b j _ _ _ h.cells
    have q1 := hc0.1
    have q2 := hc0.2
    rw [hrow] at q1 q2
    rw [Nat.zero_mul, Nat.add_zero] at q1 q2
    match o, q1, q2 with
    | 0, q1, _ => simp at q1
    | 1, q1, _ => simp at q1
    | 2, _, q2 => simp at q2
    | 3, q1, _ => simp at q1
    | 4, q1, _ => simp at q1
    | j + 5, q1, _ => rw [Array.getElem?_eq_none (by simp)] at q1; cases q1
/-- The table's row stands where all that stood but one block does. -/
theorem tabE_grown {w w' : World} {r n : Nat} {L : List Ent} (h : TabE w w.heap.size A n c L) (hg : w.grownBy w' (some r)) (hne : ∀ b o, A = some ⟨b, o, none⟩ → b ≠ r) : TabE w' w'.heap.size A n c L := by
  rcases h with h | ⟨b, o, h1, h2, h3, h4⟩
  · exact .inl h
  · refine .inr ⟨b, o, h1, h2, h3, fun hp => ?_⟩
    obtain ⟨b2, o2, e2, hl, hc⟩ := h4 hp
    injection e2 with e2
    injection e2 with e2 e2'
    subst e2
    subst e2'
    refine ⟨b, o, rfl, Nat.lt_of_lt_of_le hl hg.size, fun k hk => ?_⟩
    have hb := grown_block hg hl (hne b o h1)
    exact ⟨(World.cell?_of_block (a := ⟨b, o + k * 2, none⟩) hb).trans (hc k hk).1, (World.cell?_of_block (a := ⟨b, o + k * 2 + 1, none⟩) hb).trans (hc k hk).2⟩
theorem XAt.turn (h : XAt w X s t p e A c) {p' e' : Nat} (hg : w.grownBy w' (some X)) (hc : w'.heap[X]? = some (.cells #[.int .i64 (t.1 : Int), .slice A t.2.length c, .string s, .int .i64 (p' : Int), .int .i64 (e' : Int)] 58 (0, 0))) : XAt w' X s t p' e' A c :=
  ⟨hc, tabE_grown h.tab hg h.ne⟩
theorem XAt.below (h : XAt w X s t p e A c) (hB : Below w.heap.size w w') : XAt w' X s t p e A c := ⟨(hB.block X h.lt).trans h.cells, h.tab.on hB hB.size⟩
theorem XAt.drewN (h : XAt w X s t p e A c) (n : Nat) : XAt (w.drewN n) X s t p e A c := h.below ⟨rfl, rfl, rfl, Nat.le_refl _, fun _ _ => rfl⟩
/-- The place and the error are written. -/
theorem XAt.set3 (h : XAt w X s t p e A c) (q : Nat) : XAt (w.setCell ⟨X, 3, none⟩ (.int .i64 (q : Int))) X s t q e A c := h.turn (only_setCell (grown_refl w (some X)) (p := ⟨X, 3, none⟩) (.inl rfl) _) (set5_3 h.cells)
theorem XAt.set4 (h : XAt w X s t p e A c) (q : Nat) : XAt (w.setCell ⟨X, 4, none⟩ (.int .i64 (q : Int))) X s t p q A c := h.turn (only_setCell (grown_refl w (some X)) (p := ⟨X, 4, none⟩) (.inl rfl) _) (set5_4 h.cells)
end
/-- An integer came, or an error stands. -/
def XNum (w : World) (X : Nat) (s : ByteArray) (t : Tab) (A : Option Addr) (c : Nat) : Except Nat (Nat × Nat) → Ending → World → Prop
  | .error x, e, w' => e = .returned (.int .i64 0) ∧ (∃ q, XAt w' X s t q x A c) ∧ w.grownBy w' (some X)
  | .ok (m, q), e, w' => e = .returned (.int .i64 (m : Int)) ∧ XAt w' X s t q 0 A c ∧ w.grownBy w' (some X)

set_option maxHeartbeats 2000000 in
set_option maxRecDepth 100000 in
theorem xnumber_any (X : Nat) (s : ByteArray) (t : Tab) (p : Nat) (A : Option Addr) (c : Nat) (k : Int) (R : Except Nat (Nat × Nat)) (w : World) (h : XAt w X s t p 0 A c) (hs : s.size ≤ 1000000) (hp : p ≤ s.size) (hb1 : 1 ≤ k) (hb2 : k ≤ 8) (hR : Hid (num s.data.toList p k = R)) :
    Calls Try.prog 24 #[.pointer (some ⟨X, 0, none⟩), .int .i64 k] w (XNum w X s t A c R) := by
  obtain ⟨m, q, x, hz⟩ : ∃ m q x, Pf.getZ s.data.toList p k = (m, q, x) := ⟨_, _, _, rfl⟩
  have hnum := num_getZ hz
  rw [hR.out] at hnum
  have hget := fun n : Nat => refGet_is s (p : Int) k m q x (w.drewN n) hs (by omega) (by omega) (by omega) (by omega) (Lib.hid hz)
  have HG := Lib.hid hget
  obtain ⟨c0, c1, c2, c3, c4, cf⟩ := five_cells h.cells
  have cf3 := cf 3
  have cf4 := cf 4
  have hz0 : (((0 : Nat) : Int) == 0) = true := rfl
  have HX := Lib.hid (fun n => ((h.drewN n).set4 x).set3 q)
  have HGR := Lib.hid (fun n => only_setCell (only_setCell (grown_drewN (grown_refl w (some X)) n) (p := ⟨X, 4, none⟩) (.inl rfl) (.int .i64 (x : Int))) (p := ⟨X, 3, none⟩) (.inl rfl) (.int .i64 (q : Int)))
  have hcell := fun n => set5_4 (y := .int .i64 (x : Int)) ((h.drewN n).cells)
  have HCELL := Lib.hid hcell
  have hmb : IntKind.i64.wrap (m : Int) = (m : Int) := by
    have h1 : m ≤ 4294967295 := by
      by_cases hx : x = 0
      · rw [if_pos hx] at hnum
        exact (num_ok (by rw [hR.out]; exact hnum)).2.2.2
      · unfold Pf.getZ at hz
        rw [if_neg (by omega)] at hz
        have := (getM_err hz hx).1
        omega
    rw [IntKind.wrap_i64]
    omega
  have hret : Hid (x ≠ 0 → m = 0) := fun hx => by
    unfold Pf.getZ at hz
    rw [if_neg (by omega)] at hz
    exact (getM_err hz hx).1
  have HN := Lib.hid hnum
  clear hz hget hnum hcell hR cf
  go_enter Try.func24, Try.ntmps24
  go_wp2_with fail
  go_quiet ((go_at_call 34; exact quiet_left (HG.out _)))
  go_wp2_with fail
  go_ret
  by_cases hx : x = 0
  · have hRe : R = .ok (m, q) := by rw [HN.out, if_pos hx]
    subst hRe
    subst hx
    exact ⟨rfl, HX.out _, HGR.out _⟩
  · have hRe : R = .error x := by rw [HN.out, if_neg hx]
    subst hRe
    have hm0 := hret.out hx
    subst hm0
    exact ⟨rfl, ⟨_, HX.out _⟩, HGR.out _⟩

/-- Where an error stands, nothing is read. -/
theorem xnumber_bad (X : Nat) (s : ByteArray) (t : Tab) (p x : Nat) (A : Option Addr) (c : Nat) (k : Int) (w : World) (h : XAt w X s t p x A c) (hx : x ≠ 0) :
    Calls Try.prog 24 #[.pointer (some ⟨X, 0, none⟩), .int .i64 k] w fun e w' => e = .returned (.int .i64 0) ∧ w' = w := by
  obtain ⟨c0, c1, c2, c3, c4, cf⟩ := five_cells h.cells
  have hz0 : ((x : Int) == 0) = false := beq_eq_false_iff_ne.2 (by omega)
  clear h
  go_enter Try.func24, Try.ntmps24
  go_wp2_with fail
  go_ret
  exact ⟨rfl, rfl⟩
end Go.Proofs.Ytaoomjbkfcbfpaa
