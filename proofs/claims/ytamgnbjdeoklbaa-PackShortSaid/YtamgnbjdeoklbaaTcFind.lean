/- The contract of a table's Find. For at most 1000 entries. -/
import Derived.Test.YtamgnbjdeoklbaaProg
import Derived.Test.YtamgnbjdeoklbaaTbMath
import Derived.Test.YtamgnbjdeoklbaaTbMem
import Derived.Test.YtamgnbjdeoklbaaTbLeast
import Derived.Test.YtamgnbjdeoklbaaTbRef
import Derived.Test.YtamgnbjdeoklbaaTbFix
import Derived.Test.YtamgnbjdeoklbaaTbFind
import Derived.Test.YtamgnbjdeoklbaaTcMem
import Derived.Test.YtamgnbjdeoklbaaTcLow
import Derived.Test.YtamgnbjdeoklbaaTcShrink
import Derived.Test.YtamgnbjdeoklbaaTcAdd
import Derived.Test.YtamgnbjdeoklbaaTcAt
import Derived.Test.YtamgnbjdeoklbaaTcRange
import Derived.Test.YtamgnbjdeoklbaaTcEach
import Derived.RangeFuncNested
import Derived.RangeFuncBound
import Derived.RangeFuncCalls
import Derived.RangeFuncLeaves
import Derived.Shelf.Abstract
import Derived.Shelf.RegionOpen
import Derived.WalkKit
import Derived.OwnWalkIn
import Derived.TacticsInMore
import Derived.LoopNIn
import Derived.LoopIn
import Derived.Lib.Hide
namespace Go.Proofs.Ytamgnbjdeoklbaa
open Go Go.RowKit Go.Shelf Tb
attribute [local go_sem] Oper.semAt_some

namespace Tb
theorem findN_snoc (x : ByteArray) (e : Ent) : ∀ (a : List Ent) (i : Nat), findN x (a ++ [e]) i = match findN x a i with
    | some r => some r
    | none => if e.1 = x then some (i + a.length + 1) else none
  | [], i => by
    show (if e.1 = x then some (i + 1) else findN x [] (i + 1)) = _
    by_cases h : e.1 = x <;> simp [findN, h]
  | d :: a, i => by
    rw [List.cons_append, findN, findN]
    by_cases h : d.1 = x
    · rw [if_pos h, if_pos h]
    · rw [if_neg h, if_neg h, findN_snoc x e a (i + 1)]
      rw [show i + 1 + a.length + 1 = i + (d :: a).length + 1 by rw [List.length_cons]; omega]
theorem findN_pos (x : ByteArray) : ∀ (a : List Ent) (i r : Nat), findN x a i = some r → i < r
  | [], i, r, h => by cases h
  | d :: a, i, r, h => by
    rw [findN] at h
    by_cases hd : d.1 = x
    · rw [if_pos hd] at h; injection h with h; omega
    · rw [if_neg hd] at h
      have := findN_pos x a (i + 1) r h
      omega
/-- The number that is held as the entries are gone through. -/
def stF (x : ByteArray) (pre : List (Int × Ent)) : Int := pre.foldl (fun s e => if e.2.1 = x then (if s = 0 then e.1 else s) else s) 0
theorem stF_snoc (x : ByteArray) (pre : List (Int × Ent)) (e : Int × Ent) : stF x (pre ++ [e]) = if e.2.1 = x then (if stF x pre = 0 then e.1 else stF x pre) else stF x pre := by unfold stF; rw [List.foldl_append]; rfl
theorem stF_nums (x : ByteArray) (l : List Ent) : ∀ k, k ≤ l.length → stF x (nums l k) = (((findN x (l.take k) 0).getD 0 : Nat) : Int)
  | 0, _ => rfl
  | k + 1, h => by
    rw [nums_succ, stF_snoc, stF_nums x l k (by omega), entAt_take (by omega), findN_snoc]
    cases hf : findN x (l.take k) 0 with
    | none =>
      show (if (entAt l k).1 = x then (if ((0 : Nat) : Int) = 0 then ((k + 1 : Nat) : Int) else _) else ((0 : Nat) : Int)) = _
      rw [List.length_take, show 0 + min k l.length + 1 = k + 1 by omega]
      by_cases hx : (entAt l k).1 = x
      · rw [if_pos hx, if_pos (show ((0 : Nat) : Int) = 0 from rfl)]
        show _ = (((if (entAt l k).1 = x then some (k + 1) else none).getD 0 : Nat) : Int)
        rw [if_pos hx]
        rfl
      · rw [if_neg hx]
        show _ = (((if (entAt l k).1 = x then some (k + 1) else none).getD 0 : Nat) : Int)
        rw [if_neg hx]
        rfl
    | some r =>
      have hr := findN_pos x _ _ _ hf
      show (if (entAt l k).1 = x then (if ((r : Nat) : Int) = 0 then _ else ((r : Nat) : Int)) else ((r : Nat) : Int)) = ((r : Nat) : Int)
      rw [if_neg (show ¬ ((r : Nat) : Int) = 0 by omega)]
      split <;> rfl
theorem findW_none {x y : ByteArray} : ∀ {l : List Ent} (i : Nat), (∀ e ∈ l, ¬ (e.1 = x ∧ e.2 = y)) → findW x y l i = none
  | [], _, _ => rfl
  | d :: l, i, h => by
    rw [findW, if_neg (h d (List.mem_cons_self ..)), findW_none (i + 1) (fun e he => h e (List.mem_cons_of_mem _ he))]
theorem findW_some {x y : ByteArray} : ∀ {l : List Ent} (i j : Nat), j < l.length → (∀ k, k < j → ¬ ((entAt l k).1 = x ∧ (entAt l k).2 = y)) → (entAt l j).1 = x ∧ (entAt l j).2 = y → findW x y l i = some (i + j + 1)
  | [], i, j, h, _, _ => absurd h (Nat.not_lt_zero _)
  | d :: l, i, 0, _, _, h => by rw [findW]; exact if_pos h
  | d :: l, i, j + 1, hj, hn, h => by
    rw [findW, if_neg (show ¬ (d.1 = x ∧ d.2 = y) from hn 0 (Nat.succ_pos _)), findW_some (i + 1) j (by rw [List.length_cons] at hj; omega) (fun k hk => hn (k + 1) (by omega)) h]
    congr 1
    omega
theorem nums_mem {l : List Ent} {k : Nat} {p : Int × Ent} : p ∈ nums l k ↔ ∃ j, j < k ∧ p = (((j + 1 : Nat) : Int), entAt l j) := by
  unfold nums
  rw [List.mem_map]
  constructor
  · rintro ⟨j, hj, rfl⟩
    exact ⟨j, List.mem_range.1 hj, rfl⟩
  · rintro ⟨j, hj, rfl⟩
    exact ⟨j, List.mem_range.2 hj, rfl⟩
/-- What is found where no entry is whole. -/
theorem find_done {x y : ByteArray} {l : List Ent} (h : ∀ p ∈ nums l l.length, ¬ (p.2.1 = x ∧ p.2.2 = y)) : ∃ r : Nat, stF x (nums l l.length) = (r : Int) ∧ findT x y l = (r, false) := by
  refine ⟨(findN x l 0).getD 0, by rw [stF_nums x l l.length (Nat.le_refl _), List.take_length], ?_⟩
  have h1 : findW x y l 0 = none := findW_none 0 (fun e he => by
    obtain ⟨j, hj, rfl⟩ := List.mem_iff_getElem.1 he
    have := h _ (nums_mem.2 ⟨j, hj, rfl⟩)
    unfold entAt at this
    rw [List.getD_eq_getElem?_getD, List.getElem?_eq_getElem hj] at this
    exact this)
  unfold findT
  rw [h1]
  cases findN x l 0 <;> rfl
/-- What is found where the last of those gone through is whole. -/
theorem find_stop {x y : ByteArray} {l : List Ent} {k : Nat} (hk : k ≤ l.length) {ini : List (Int × Ent)} {last : Int × Ent} (e : nums l k = ini ++ [last]) (h : ∀ p ∈ ini, ¬ (p.2.1 = x ∧ p.2.2 = y)) (hl : last.2.1 = x ∧ last.2.2 = y) : ∃ r : Nat, last.1 = (r : Int) ∧ findT x y l = (r, true) := by
  obtain ⟨j, rfl⟩ : ∃ j, k = j + 1 := by
    cases k with
    | zero => exact absurd e.symm (by simp [nums])
    | succ j => exact ⟨j, rfl⟩
  rw [nums_succ] at e
  obtain ⟨rfl, e2⟩ := List.append_inj' e rfl
  injection e2 with e2
  subst e2
  refine ⟨j + 1, rfl, ?_⟩
  have h1 := findW_some (x := x) (y := y) (l := l) 0 j (by omega) (fun i hi => h _ (nums_mem.2 ⟨i, hi, rfl⟩)) hl
  unfold findT
  rw [h1]
  show (0 + j + 1, true) = _
  rw [Nat.zero_add]
end Tb

set_option maxHeartbeats 4000000 in
set_option maxRecDepth 100000 in
theorem find_is (g b : Nat) (t : Tab) (x y : ByteArray) (r : Nat) (q : Bool) (w : World) (h : Hid (TAt w g b t)) (hf : Hid (Fit t)) (hR : Hid (findT x y (fixedT ++ t.2) = (r, q))) :
    Calls Try.prog 47 #[.pointer (some ⟨g, 0, none⟩), .string x, .string y] w fun e w' => e = .returned (.tuple #[.int .i64 (r : Int), .bool q]) ∧ Below w.heap.size w w' := by
  obtain ⟨B, hB⟩ : ∃ B, w.heap.size = B := ⟨_, rfl⟩
  obtain ⟨W0, hW0⟩ : ∃ W0, (((w.alloc (.cells #[.string x] 9)).alloc (.cells #[.string y] 9)).alloc (.cells #[.int .i64 0] 3)).alloc (.cells #[.bool false] 4) = W0 := ⟨_, rfl⟩
  have b1 := (((Boxed.new w 9 (.string x)).alloc (.cells #[.string y] 9)).alloc (.cells #[.int .i64 0] 3)).alloc (.cells #[.bool false] 4)
  have b2 := ((Boxed.new (w.alloc (.cells #[.string x] 9)) 9 (.string y)).alloc (.cells #[.int .i64 0] 3)).alloc (.cells #[.bool false] 4)
  have b3 := (Boxed.new ((w.alloc (.cells #[.string x] 9)).alloc (.cells #[.string y] 9)) 3 (.int .i64 0)).alloc (.cells #[.bool false] 4)
  have b4 := Boxed.new (((w.alloc (.cells #[.string x] 9)).alloc (.cells #[.string y] 9)).alloc (.cells #[.int .i64 0] 3)) 4 (.bool false)
  have hB0 : Below B w W0 := by rw [← hW0, ← hB]; exact ((((Below.refl _ w).alloc (Nat.le_refl _) _).alloc (by simp) _).alloc (by simp; omega) _).alloc (by simp; omega) _
  have hs0 : W0.heap.size = B + 4 := by rw [← hW0, ← hB]; simp
  simp only [World.size_alloc] at b2 b3 b4
  rw [hW0, hB] at b1 b2 b3 b4
  have hgl := h.out.lt.1
  have hbl := h.out.lt.2
  rw [hB] at hgl hbl
  have hT0 := h.out.below (w' := W0) (by rw [hB]; exact hB0)
  have hES := each_seq g b B t W0 hT0 hf.out hgl hbl (by omega)
  have HRR := Lib.hid (show ∀ l, fixedT ++ t.2 = l → findT x y l = (r, q) from fun l hl => by rw [← hl]; exact hR.out)
  obtain ⟨l, hl⟩ : ∃ l, fixedT ++ t.2 = l := ⟨_, rfl⟩
  have hfl : findT x y l = (r, q) := HRR.out l hl
  have hll : l.length = 61 + t.2.length := by rw [← hl, List.length_append]; rfl
  rw [hl, ← hll] at hES
  have HFL := Lib.hid hfl
  have HLL := Lib.hid hll
  clear HRR hfl hll hT0 hl
  refine (callsIn_wide (n := 9)).1 ?_
  refine callsIn_of_wp_marks Try.func47 rfl trivial ?_ rfl
  simp only [Try.ntmps47, List.size_toArray, List.length_cons, List.length_nil, Nat.reduceAdd, Nat.reduceSub, Array.replicate_succ, Array.replicate_zero, List.push_toArray, List.append_toArray, List.nil_append, List.cons_append]
  have HB1 := Lib.hid b1
  have HB2 := Lib.hid b2
  have HB3 := Lib.hid b3
  have HB4 := Lib.hid b4
  have HB0 := Lib.hid hB0
  have HES := Lib.hid hES
  clear b1 b2 b3 b4 hB0 hES
  gi_wp2
  refine range_own (gf := 63) (rb := #[.pointer (some ⟨g, 0, none⟩)]) (lb := #[]) rfl (enters_of Try.func63 (by kernel_rfl) rfl) HES.out (fun k hk => by omega) (fun _ => rfl)
    (fun pre W' => (∀ p ∈ pre, ¬ (p.2.1 = x ∧ p.2.2 = y)) ∧ Boxed W' B 9 (.string x) ∧ Boxed W' (B + 1) 9 (.string y) ∧ Boxed W' (B + 2) 3 (.int .i64 (stF x pre)) ∧ Boxed W' (B + 3) 4 (.bool false) ∧ Below B w W')
    (fun c pre W' => c = .ret ∧ ∃ ini last, pre = ini ++ [last] ∧ (∀ p ∈ ini, ¬ (p.2.1 = x ∧ p.2.2 = y)) ∧ (last.2.1 = x ∧ last.2.2 = y) ∧ Boxed W' (B + 2) 3 (.int .i64 last.1) ∧ Boxed W' (B + 3) 4 (.bool true) ∧ Below B w W')
    (fun s X Y hh k => ⟨hh.1, (k.block _ (by omega)).trans hh.2.1, (k.block _ (by omega)).trans hh.2.2.1, (k.block _ (by omega)).trans hh.2.2.2.1, (k.block _ (by omega)).trans hh.2.2.2.2.1, hh.2.2.2.2.2.trans (k.mono (by omega))⟩)
    (fun c s X Y hh k => by
      obtain ⟨hc, ini, last, e1, e2, e3, e4, e5, e6⟩ := hh
      exact ⟨hc, ini, last, e1, e2, e3, (k.block _ (by omega)).trans e4, (k.block _ (by omega)).trans e5, e6.trans (k.mono (by omega))⟩)
    ⟨(fun p hp => by cases hp), HB1.out, HB2.out, HB3.out, HB4.out, HB0.out⟩
    (fun z a' W' => ∃ Bx, B + 3 < Bx ∧ W'.heap[Bx]? = some (.cells #[.string z.2.1, .string z.2.2] 82 (0, 0)) ∧ a' = { tmps := #[.pointer (some ⟨g, 0, none⟩), .string x, .string y, undef, .pointer (some ⟨B, 0, none⟩), .pointer (some ⟨B + 1, 0, none⟩), .pointer (some ⟨B + 2, 0, none⟩), .pointer (some ⟨B + 3, 0, none⟩), .int .i64 z.1, .pointer (some ⟨Bx, 0, none⟩), .pointer (some ⟨g, 0, none⟩), .func (.func 63) #[.pointer (some ⟨g, 0, none⟩)] #[], .int .i64 z.1, .agg #[.string z.2.1, .string z.2.2], undef, undef, undef, undef, undef, undef, undef, undef, undef, undef, undef, undef, undef], defers := [] })
    (fun z a' X i rr o' hh hl => by
      obtain ⟨Bx, h1, h2, h3⟩ := hh
      exact ⟨Bx, h1, (World.putObj_heap_other (fun e => by subst e; rw [hl] at h2; cases h2)).trans h2, h3⟩)
    ?assign ?body ?done ?stop
  case assign =>
    rintro pre ⟨i, nm, vl⟩ W' K' hi hs' hK'
    gi_wp2
    have hAl : Below W'.heap.size W' (W'.alloc (.cells #[.string nm, .string vl] 82)) := (Below.refl _ W').alloc (Nat.le_refl _) _
    exact hK' _ _ ((KU.refl _ _ _).alloc _) ⟨hi.1, hi.2.1.alloc _, hi.2.2.1.alloc _, hi.2.2.2.1.alloc _, hi.2.2.2.2.1.alloc _, hi.2.2.2.2.2.trans (hAl.mono (by omega))⟩ ⟨W'.heap.size, by omega, heap_alloc_new W' _, rfl⟩
  case body =>
    rintro pre ⟨i, nm, vl⟩ a' W' ⟨hno, x1, x2, x3, x4, hbw⟩ ⟨Bx, hBx, hX, rfl⟩ hlen hs'
    have c1 := x1.cell
    have c2 := x2.cell
    have c3 := x3.cell
    have c4 := x4.cell
    have g3 := x3.frozen
    have g4 := x4.frozen
    obtain ⟨d1, d2, d3, d4⟩ := two_cells hX
    have t1 := txt_eq nm x
    have t2 := txt_eq vl y
    dsimp only at hX d1 d2 d3 d4
    obtain ⟨s, hs⟩ : ∃ s, stF x pre = s := ⟨_, rfl⟩
    rw [hs] at x3 c3
    have HS := Lib.hid hs
    clear hs
    have nopr : ∀ k, B ≤ k → ¬ k < B := fun k hk => by omega
    by_cases h1 : nm = x
    · rw [decide_eq_true h1] at t1
      by_cases h2 : vl = y
      · rw [decide_eq_true h2] at t2
        have HE := Lib.hid (show (nm = x) ∧ (vl = y) from ⟨h1, h2⟩)
        have y3 := x3.set (.int .i64 i)
        have y4 := x4.other (B' := B + 2) (by omega) (.int .i64 i)
        have m4 := y4.cell
        have n4 := y4.frozen
        have z3 := y3.other (B' := B + 3) (by omega) (.bool true)
        have z4 := y4.set (.bool true)
        have HF := Lib.hid (show KU (fun k => k < B) W0.heap.size W' ((W'.setCell ⟨B + 2, 0, none⟩ (.int .i64 i)).setCell ⟨B + 3, 0, none⟩ (.bool true)) from ((KU.refl _ _ _).setCell (p := ⟨B + 2, 0, none⟩) (by show ¬ B + 2 < B; omega) (by show B + 2 < _; omega) _).setCell (p := ⟨B + 3, 0, none⟩) (by show ¬ B + 3 < B; omega) (by show B + 3 < _; omega) _)
        have HG := Lib.hid ((hbw.setCell (p := ⟨B + 2, 0, none⟩) (by show B ≤ B + 2; omega) (.int .i64 i)).setCell (p := ⟨B + 3, 0, none⟩) (by show B ≤ B + 3; omega) (.bool true))
        have HZ3 := Lib.hid z3
        have HZ4 := Lib.hid z4
        clear h1 h2 y3 y4 z3 z4
        gi_wp2
        exact ⟨HF.out, rfl, pre, (i, (nm, vl)), rfl, hno, HE.out, HZ3.out, HZ4.out, HG.out⟩
      · rw [decide_eq_false h2] at t2
        have HN := Lib.hid (show ∀ p ∈ pre ++ [(i, (nm, vl))], ¬ (p.2.1 = x ∧ p.2.2 = y) from fun p hp => by
          rcases List.mem_append.1 hp with h | h
          · exact hno p h
          · rw [List.mem_singleton.1 h]
            exact fun hh => h2 hh.2)
        by_cases hs0' : s = 0
        · have HST := Lib.hid (show stF x (pre ++ [(i, (nm, vl))]) = i by rw [stF_snoc, HS.out, if_pos h1, if_pos hs0'])
          subst hs0'
          have y3 := Lib.hid (x3.set (.int .i64 i))
          have y1 := Lib.hid (x1.other (B' := B + 2) (by omega) (.int .i64 i))
          have y2 := Lib.hid (x2.other (B' := B + 2) (by omega) (.int .i64 i))
          have y4 := Lib.hid (x4.other (B' := B + 2) (by omega) (.int .i64 i))
          have HF := Lib.hid (show KU (fun k => k < B) W0.heap.size W' (W'.setCell ⟨B + 2, 0, none⟩ (.int .i64 i)) from (KU.refl _ _ _).setCell (p := ⟨B + 2, 0, none⟩) (by show ¬ B + 2 < B; omega) (by show B + 2 < _; omega) _)
          have HG := Lib.hid (hbw.setCell (p := ⟨B + 2, 0, none⟩) (by show B ≤ B + 2; omega) (.int .i64 i))
          clear h1 h2
          gi_wp2
          exact ⟨HF.out, HN.out, y1.out, y2.out, by rw [HST.out]; exact y3.out, y4.out, HG.out⟩
        · have HST := Lib.hid (show stF x (pre ++ [(i, (nm, vl))]) = s by rw [stF_snoc, HS.out, if_pos h1, if_neg hs0'])
          have hsb : (s == 0) = false := beq_eq_false_iff_ne.2 hs0'
          clear h1 h2
          gi_wp2
          exact ⟨KU.refl _ _ _, HN.out, x1, x2, by rw [HST.out]; exact x3, x4, hbw⟩
    · rw [decide_eq_false h1] at t1
      have HN := Lib.hid (show ∀ p ∈ pre ++ [(i, (nm, vl))], ¬ (p.2.1 = x ∧ p.2.2 = y) from fun p hp => by
        rcases List.mem_append.1 hp with h | h
        · exact hno p h
        · rw [List.mem_singleton.1 h]
          exact fun hh => h1 hh.1)
      have HST := Lib.hid (show stF x (pre ++ [(i, (nm, vl))]) = s by rw [stF_snoc, HS.out, if_neg h1])
      clear h1
      gi_wp2
      exact ⟨KU.refl _ _ _, HN.out, x1, x2, by rw [HST.out]; exact x3, x4, hbw⟩
  case done =>
    rintro D xs W' hD rfl ⟨hno, x1, x2, x3, x4, hbw⟩ hK
    obtain ⟨r', e1, e2⟩ := find_done hno
    rw [HFL.out] at e2
    injection e2 with e2 e3
    subst e2
    subst e3
    rw [e1] at x3
    have c3 := x3.cell
    have c4 := x4.cell
    have g3 := x3.frozen
    have g4 := x4.frozen
    have y3 := x3.set (.int .i64 (r : Int))
    have y4 := x4.other (B' := B + 2) (by omega) (.int .i64 (r : Int))
    have m4 := y4.cell
    have n4 := y4.frozen
    have z3 := y3.other (B' := B + 3) (by omega) (.bool false)
    have z4 := y4.set (.bool false)
    have hW1 : ∀ X, (W'.setCell ⟨B + 2, 0, none⟩ (.int .i64 (r : Int))).setCell ⟨B + 3, 0, none⟩ (.bool false) = X → X.heap[D]? = some (.deferred (some [])) := fun X hX => by
      rw [← hX]
      exact (Below.heap_setCell _ ⟨B + 3, 0, none⟩ _ D (by show D ≠ B + 3; omega)).trans ((Below.heap_setCell _ ⟨B + 2, 0, none⟩ _ D (by show D ≠ B + 2; omega)).trans hK)
    have hbz := (hbw.setCell (p := ⟨B + 2, 0, none⟩) (by show B ≤ B + 2; omega) (.int .i64 (r : Int))).setCell (p := ⟨B + 3, 0, none⟩) (by show B ≤ B + 3; omega) (.bool false)
    obtain ⟨X, hX⟩ : ∃ X, (W'.setCell ⟨B + 2, 0, none⟩ (.int .i64 (r : Int))).setCell ⟨B + 3, 0, none⟩ (.bool false) = X := ⟨_, rfl⟩
    have hKX := hW1 X hX
    rw [hX] at z3 z4 hbz
    have HX := Lib.hid hX
    have HZ3 := Lib.hid z3
    have HZ4 := Lib.hid z4
    have HBZ := Lib.hid hbz
    have HKX := Lib.hid hKX
    clear hW1 hX z3 z4 y3 hbz hKX
    gi_wp2
    rw [show (W'.setCell ⟨B + 1 + 1, 0, none⟩ (.int .i64 (r : Int))).setCell ⟨B + 1 + 1 + 1, 0, none⟩ (.bool false) = X from HX.out]
    have k3 := cell_kept HZ3.out.cell (grownBy_putObj' X D (.deferred none)) (fun r e => by cases e; exact ⟨_, HKX.out, rfl⟩)
    have k4 := cell_kept HZ4.out.cell (grownBy_putObj' X D (.deferred none)) (fun r e => by cases e; exact ⟨_, HKX.out, rfl⟩)
    refine ⟨by simp, .inl ⟨_, _, rfl, run_takeDeferred HKX.out, ?_⟩⟩
    refine ⟨.tuple #[.int .i64 (r : Int), .bool false], ?_, rfl, by rw [hB]; exact HBZ.out.trans (below_put (by omega))⟩
    simp [results, Try.f47, go_sem, k3, k4]
  case stop =>
    rintro D c pre W' hD ⟨k, hk, rfl⟩ ⟨rfl, ini, last, e1, e2, e3, x3, x4, hbw⟩ hK
    obtain ⟨r', e4, e5⟩ := find_stop hk e1 e2 e3
    rw [HFL.out] at e5
    injection e5 with e5 e6
    subst e5
    subst e6
    rw [e4] at x3
    gi_wp2
    have k3 := cell_kept x3.cell (grownBy_putObj' W' D (.deferred none)) (fun r e => by cases e; exact ⟨_, hK, rfl⟩)
    have k4 := cell_kept x4.cell (grownBy_putObj' W' D (.deferred none)) (fun r e => by cases e; exact ⟨_, hK, rfl⟩)
    refine ⟨by simp, .inl ⟨_, _, rfl, run_takeDeferred hK, ?_⟩⟩
    refine ⟨.tuple #[.int .i64 (r : Int), .bool true], ?_, rfl, by rw [hB]; exact hbw.trans (below_put (by omega))⟩
    simp [results, Try.f47, go_sem, k3, k4]
end Go.Proofs.Ytamgnbjdeoklbaa
