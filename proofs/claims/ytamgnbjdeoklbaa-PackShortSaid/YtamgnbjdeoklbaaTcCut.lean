/- Contracts of strings.Cut at a sign of one byte, of the program's cut and fixedAt: the fixed entries, line by line. For texts of at most 10^6 bytes. -/
import Derived.Test.YtamgnbjdeoklbaaProg
import Derived.Test.YtamgnbjdeoklbaaShelf
import Derived.Test.YtamgnbjdeoklbaaTbMath
import Derived.Test.YtamgnbjdeoklbaaTbMem
import Derived.Test.YtamgnbjdeoklbaaTbLeast
import Derived.Test.YtamgnbjdeoklbaaTbRef
import Derived.Test.YtamgnbjdeoklbaaTbFix
import Derived.Test.YtamgnbjdeoklbaaTcMem
import Derived.Test.YtamgnbjdeoklbaaTcLow
import Derived.WalkKit
import Derived.Lib.Hide
import Derived.Lib.Bytealg
import Derived.Outline
import Derived.IntWalk
import Derived.WalkSpells
import Derived.WalkLawsBesides
import Derived.Deep.QuietTactic
import Derived.BigQuiet
import Derived.Laws.Rows
import Derived.Deep.RegionLaw
namespace Go.Proofs.Ytamgnbjdeoklbaa
open Go.RowKit Tb

namespace Tb
/-- What stands ahead of the first such byte, and behind it. -/
def cutL (c : UInt8) : List UInt8 → List UInt8 × List UInt8
  | [] => ([], [])
  | x :: l => if x = c then ([], l) else (x :: (cutL c l).1, (cutL c l).2)
theorem cutL_miss {c : UInt8} : ∀ {l : List UInt8}, Lib.indexByte l c = -1 → cutL c l = (l, [])
  | [], _ => rfl
  | x :: l, h => by
    unfold Lib.indexByte at h
    by_cases hx : x = c
    · rw [if_pos (by simpa using hx)] at h; cases h
    · rw [if_neg (by simpa using hx)] at h
      have hge := Lib.indexByte_ge l c
      by_cases h2 : Lib.indexByte l c = -1
      · rw [cutL, if_neg hx, cutL_miss h2]
      · rw [if_neg (by simpa using h2)] at h
        omega
theorem cutL_hit {c : UInt8} : ∀ {l : List UInt8} {i : Nat}, Lib.indexByte l c = (i : Int) → cutL c l = (l.take i, l.drop (i + 1)) ∧ i < l.length
  | [], i, h => by unfold Lib.indexByte at h; omega
  | x :: l, i, h => by
    unfold Lib.indexByte at h
    by_cases hx : x = c
    · rw [if_pos (by simpa using hx)] at h
      have hi : i = 0 := by omega
      subst hi
      rw [cutL, if_pos hx]
      exact ⟨rfl, Nat.succ_pos _⟩
    · rw [if_neg (by simpa using hx)] at h
      have hge := Lib.indexByte_ge l c
      by_cases h2 : Lib.indexByte l c = -1
      · rw [if_pos (by simpa using h2)] at h; omega
      · rw [if_neg (by simpa using h2)] at h
        obtain ⟨j, rfl⟩ : ∃ j, i = j + 1 := ⟨i - 1, by omega⟩
        obtain ⟨h3, h4⟩ := cutL_hit (c := c) (l := l) (i := j) (by omega)
        rw [cutL, if_neg hx, h3]
        exact ⟨rfl, by rw [List.length_cons]; omega⟩
theorem ext_take (s : ByteArray) (i : Nat) : s.extract 0 i = bs (s.data.toList.take i) := by
  apply ByteArray.ext
  apply Array.toList_inj.1
  rw [ByteArray.data_extract, Array.toList_extract]
  unfold bs
  simp
theorem ext_drop (s : ByteArray) (i : Nat) : s.extract i s.size = bs (s.data.toList.drop i) := by
  apply ByteArray.ext
  apply Array.toList_inj.1
  rw [ByteArray.data_extract, Array.toList_extract]
  unfold bs
  simp
  rw [List.take_of_length_le (by rw [List.length_drop, Array.length_toList]; exact Nat.le_refl _)]
theorem bs_self (s : ByteArray) : bs s.data.toList = s := by apply ByteArray.ext; unfold bs; simp
end Tb

set_option maxHeartbeats 2000000 in
set_option maxRecDepth 100000 in
theorem sliteCut_is (s : ByteArray) (c : UInt8) (w : World) (hs : s.size ≤ 1000000) :
    Calls Try.prog 78 #[.string s, .string ⟨#[c]⟩] w fun e w' => ∃ q, e = .returned (.tuple #[.string (bs (cutL c s.data.toList).1), .string (bs (cutL c s.data.toList).2), .bool q]) ∧ ∃ n, w' = w.drewN n := by
  have hge := Lib.indexByte_ge s.data.toList c
  have hidx := Try.stringslite_Index_one s c
  by_cases hm : Lib.indexByte s.data.toList c = -1
  · have hcut := cutL_miss hm
    rw [hcut]
    rw [hm] at hidx
    rw [show bs s.data.toList = s from bs_self s]
    have HC := Lib.hid hidx
    clear hcut hge hm hidx
    go_enter Try.func78, Try.ntmps78
    go_wp2_with fail
    refine (HC.out _).mono ?_
    rintro e w' ⟨rfl, rfl⟩
    go_wp2_with fail
    go_ret3
    exact ⟨_, rfl, 0, rfl⟩
  · obtain ⟨i, hi⟩ : ∃ i : Nat, Lib.indexByte s.data.toList c = (i : Int) := ⟨(Lib.indexByte s.data.toList c).toNat, by omega⟩
    obtain ⟨hcut, hlt⟩ := cutL_hit hi
    have hsz : s.data.toList.length = s.size := by rw [Array.length_toList]; rfl
    rw [hsz] at hlt
    rw [hcut]
    have e1 : bs (s.data.toList.take i) = s.extract 0 i := (ext_take s i).symm
    have e2 : bs (s.data.toList.drop (i + 1)) = s.extract (i + 1) s.size := (ext_drop s (i + 1)).symm
    simp only
    rw [e1, e2]
    rw [hi] at hidx
    have HC := Lib.hid hidx
    clear hcut hge hm hidx e1 e2 hi hsz
    have c1 : (0 : Int) ≤ (i : Int) := by omega
    have c2 : (i : Int) ≤ (s.size : Int) := by omega
    have c3 : (0 : Int) ≤ (i : Int) + 1 := by omega
    have c4 : (i : Int) + 1 ≤ (s.size : Int) := by omega
    go_enter Try.func78, Try.ntmps78
    go_wp2_with fail
    refine (HC.out _).mono ?_
    rintro e w' ⟨rfl, rfl⟩
    go_wp2_with fail
    go_region
    go_wp2_with fail
    go_ret3
    exact ⟨_, rfl, 1, rfl⟩
theorem cut1_is (s : ByteArray) (c : UInt8) (w : World) (hs : s.size ≤ 1000000) :
    Calls Try.prog 65 #[.string s, .string ⟨#[c]⟩] w fun e w' => ∃ q, e = .returned (.tuple #[.string (bs (cutL c s.data.toList).1), .string (bs (cutL c s.data.toList).2), .bool q]) ∧ ∃ n, w' = w.drewN n := by
  go_enter Try.func65, Try.ntmps65
  go_wp2_with fail
  refine (sliteCut_is s c _ hs).mono ?_
  rintro e w' ⟨q, rfl, n, rfl⟩
  go_wp2_with fail
  go_ret3
  exact ⟨_, rfl, n, rfl⟩

namespace Tb
/-- The entry of the first line, and the lines behind it. -/
def lineE (l : List UInt8) : Ent := (bs (cutL 61 (cutL 10 l).1).1, bs (cutL 61 (cutL 10 l).1).2)
def lineR (l : List UInt8) : List UInt8 := (cutL 10 l).2
theorem cutL_len (c : UInt8) : ∀ l : List UInt8, (cutL c l).1.length ≤ l.length ∧ (cutL c l).2.length ≤ l.length
  | [] => ⟨Nat.le_refl _, Nat.le_refl _⟩
  | x :: l => by
    have h := cutL_len c l
    rw [cutL]
    split
    · exact ⟨Nat.zero_le _, by show l.length ≤ _; rw [List.length_cons]; omega⟩
    · refine ⟨?_, ?_⟩
      · rw [List.length_cons, List.length_cons]; omega
      · show (cutL c l).2.length ≤ _; rw [List.length_cons]; omega
theorem bs_list (l : List UInt8) : (bs l).data.toList = l := by unfold bs; simp
end Tb

set_option maxHeartbeats 2000000 in
set_option maxRecDepth 100000 in
theorem cut_is (l : List UInt8) (s : ByteArray) (hsl : s = bs l) (w : World) (hs : l.length ≤ 1000000) :
    Calls Try.prog 51 #[.string s] w fun e w' => e = .returned (.tuple #[.agg #[.string (lineE l).1, .string (lineE l).2], .string (bs (lineR l))]) ∧ Below w.heap.size w w' := by
  subst hsl
  have K0 := heap_alloc_new w (.cells #[.string ⟨#[]⟩, .string ⟨#[]⟩] 82)
  have HB0 := (Below.refl w.heap.size w).alloc (Nat.le_refl _) (.cells #[.string ⟨#[]⟩, .string ⟨#[]⟩] 82)
  have h1 := (cutL_len 10 l).1
  have C1 := fun w' => cut1_is (bs l) 10 w' (by rw [bs_size]; exact hs)
  have C2 := fun w' => cut1_is (bs (cutL 10 l).1) 61 w' (by rw [bs_size]; omega)
  rw [bs_list] at C1 C2
  have HC1 := Lib.hid C1
  have HC2 := Lib.hid C2
  clear C1 C2 h1
  go_enter Try.func51, Try.ntmps51
  go_wp2_with fail
  generalize (w.alloc (.cells #[.string ⟨#[]⟩, .string ⟨#[]⟩] 82)) = W at *
  refine (HC1.out _).mono ?_
  rintro e w1 ⟨q, rfl, n1, rfl⟩
  go_wp2_with fail
  refine (HC2.out _).mono ?_
  rintro e w2 ⟨q2, rfl, n2, rfl⟩
  have K2 : ((W.drewN n1).drewN n2).heap[w.heap.size]? = some (.cells #[.string ⟨#[]⟩, .string ⟨#[]⟩] 82 (0, 0)) := K0
  have HB2 := below_drewN (below_drewN HB0 n1) n2
  generalize ((W.drewN n1).drewN n2) = w2 at *
  obtain ⟨a1, a2, a3, a4⟩ := two_cells K2
  have Z0 := zero_set (y := .string (lineE l).1) K2
  have Z1 := two_set (x := .string (lineE l).1) (y := .string (lineE l).2) K2
  have Z2 := zero_set (y := .string (lineE l).1) Z1
  have Z3 := two_set (x := .string (lineE l).1) (y := .string (lineE l).2) Z1
  obtain ⟨b1, b2, b3, b4⟩ := two_cells Z0
  obtain ⟨d1, d2, d3, d4⟩ := two_cells Z1
  obtain ⟨f1, f2, f3, f4⟩ := two_cells Z2
  have HZ3 := Lib.hid Z3
  have hn := (((HB2.setCell (p := ⟨w.heap.size, 0, none⟩) (Nat.le_refl _) (.string (lineE l).1)).setCell (p := ⟨w.heap.size, 1, none⟩) (Nat.le_refl _) (.string (lineE l).2)).setCell (p := ⟨w.heap.size, 0, none⟩) (Nat.le_refl _) (.string (lineE l).1)).setCell (p := ⟨w.heap.size, 1, none⟩) (Nat.le_refl _) (.string (lineE l).2)
  have HN := Lib.hid hn
  have hld := run_loadVar_row (P := Try.prog) _ w.heap.size _ 82 _ (0, 0) _ HZ3.out Try.underlying82 rfl entInfoP
  have HLD := Lib.hid hld
  have g1 : bs (cutL 61 (cutL 10 l).1).1 = (lineE l).1 := rfl
  have g2 : bs (cutL 61 (cutL 10 l).1).2 = (lineE l).2 := rfl
  have g3 : bs (cutL 10 l).2 = bs (lineR l) := rfl
  rw [g1, g2, g3]
  clear K0 K2 Z0 Z1 Z2 Z3 HB0 HB2 hn hld HC1 HC2 g1 g2 g3
  go_wp2_with fail
  exact bodyPost_ret (v := .tuple #[.agg #[.string (lineE l).1, .string (lineE l).2], .string (bs (lineR l))]) (by have hld := HLD.out; simp [results, Try.results51, asAddr, hld]) rfl ⟨rfl, HN.out⟩

namespace Tb
def restN : Nat → List UInt8
  | 0 => namesL
  | k + 1 => lineR (restN k)
def lines : Nat → List UInt8 → List (List UInt8 × List UInt8)
  | 0, _ => []
  | n + 1, l => cutL 61 (cutL 10 l).1 :: lines n (lineR l)
set_option maxRecDepth 100000 in
theorem lines_all : lines 61 namesL = entsB := by decide +kernel
def restF : Nat → List UInt8 → List UInt8
  | 0, l => l
  | k + 1, l => restF k (lineR l)
theorem restF_succ : ∀ (k : Nat) (l : List UInt8), restF (k + 1) l = lineR (restF k l)
  | 0, _ => rfl
  | k + 1, l => restF_succ k (lineR l)
theorem restN_is : ∀ k : Nat, restN k = restF k namesL
  | 0 => rfl
  | k + 1 => by rw [restF_succ, restN, restN_is k]
theorem lines_at : ∀ (n : Nat) (l : List UInt8) (k : Nat), k < n → (lines n l)[k]? = some (cutL 61 (cutL 10 (restF k l)).1)
  | 0, _, k, h => absurd h (Nat.not_lt_zero k)
  | n + 1, l, 0, _ => rfl
  | n + 1, l, k + 1, h => by
    rw [lines, List.getElem?_cons_succ]
    exact lines_at n (lineR l) k (by omega)
theorem fixed_at {k : Nat} (hk : k < 61) : entAt fixedT k = lineE (restN k) := by
  have h := lines_at 61 namesL k hk
  rw [lines_all, ← restN_is] at h
  unfold entAt fixedT
  rw [List.getD_eq_getElem?_getD, List.getElem?_map, h]
  rfl
theorem restN_len : ∀ k : Nat, (restN k).length ≤ 758
  | 0 => Nat.le_of_eq namesL_len
  | k + 1 => Nat.le_trans (cutL_len 10 (restN k)).2 (restN_len k)
end Tb

set_option maxHeartbeats 4000000 in
set_option maxRecDepth 100000 in
theorem fixedAt_is (n : Nat) (x y : ByteArray) (w : World) (h1 : 1 ≤ n) (h2 : n ≤ 61) (he : Hid (entAt fixedT (n - 1) = (x, y))) :
    Calls Try.prog 34 #[.int .i64 (n : Int)] w fun e w' => e = .returned (.agg #[.string x, .string y]) ∧ Below w.heap.size w w' := by
  have K0 := Lib.hid (heap_alloc2_old w (.cells #[.string ⟨#[]⟩, .string ⟨#[]⟩] 82) (.cells #[.string ⟨#[]⟩, .string ⟨#[]⟩] 82))
  have K1 := Lib.hid (heap_alloc2_new w (.cells #[.string ⟨#[]⟩, .string ⟨#[]⟩] 82) (.cells #[.string ⟨#[]⟩, .string ⟨#[]⟩] 82))
  have HB0 := Lib.hid (((Below.refl w.heap.size w).alloc (Nat.le_refl _) (.cells #[.string ⟨#[]⟩, .string ⟨#[]⟩] 82)).alloc (by simp) (.cells #[.string ⟨#[]⟩, .string ⟨#[]⟩] 82))
  go_enter Try.func34, Try.ntmps34
  go_wp2_with fail
  generalize ((w.alloc (.cells #[.string ⟨#[]⟩, .string ⟨#[]⟩] 82)).alloc (.cells #[.string ⟨#[]⟩, .string ⟨#[]⟩] 82)) = W at *
  generalize hg : w.heap.size = g at *
  have G := Lib.hid hg
  clear hg
  go_loopw [4, 6] (fun r i wr => ∃ (k : Nat) (E : Ent), k ≤ n ∧ r = .string (bs (restN k)) ∧ i = .int .i64 (k : Int) ∧ Hid (1 ≤ k → E = lineE (restN (k - 1))) ∧ Hid (wr.heap[g + 1]? = some (.cells #[.string E.1, .string E.2] 82 (0, 0))) ∧ Hid (wr.heap[g]? = some (.cells #[.string ⟨#[]⟩, .string ⟨#[]⟩] 82 (0, 0))) ∧ Below g w wr) (fun _ i _ => n - (intOf i).toNat)
  case atStart => exact ⟨0, (⟨#[]⟩, ⟨#[]⟩), by omega, (congrArg Value.string (bs_self namesB)).symm, rfl, Lib.hid (fun h => by omega), K1, K0, HB0.out⟩
  case round =>
    obtain ⟨k, E, hk, rfl, rfl, hE, hC, hR, hB⟩ := hrel
    obtain ⟨c1, c2, c3, c4⟩ := two_cells hC.out
    obtain ⟨r1, r2, r3, r4⟩ := two_cells hR.out
    by_cases hlt : k < n
    · have hli : (k : Int) < (n : Int) := by omega
      have e1 : IntKind.i64.wrap ((k : Int) + 1) = ((k + 1 : Nat) : Int) := by rw [IntKind.wrap_i64]; omega
      have hl := restN_len k
      go_wp2_with fail
      refine (cut_is (restN k) _ rfl _ (by omega)).mono ?_
      rintro e w3 ⟨rfl, hB3⟩
      have hgl := world_lt hC.out
      have C3 := (hB3.block (g + 1) hgl).trans hC.out
      have R3 := (hB3.block g (by omega)).trans hR.out
      have B3 := hB.trans (hB3.mono (by omega))
      obtain ⟨f1, f2, f3, f4⟩ := two_cells C3
      have Z0 := zero_set (y := .string (lineE (restN k)).1) C3
      obtain ⟨g1, g2, g3, g4⟩ := two_cells Z0
      have Z1 := Lib.hid (two_set (x := .string (lineE (restN k)).1) (y := .string (lineE (restN k)).2) C3)
      have R5 := Lib.hid ((Below.heap_setCell (w3.setCell ⟨g + 1, 0, none⟩ (.string (lineE (restN k)).1)) ⟨g + 1, 1, none⟩ (.string (lineE (restN k)).2) g (by show g ≠ g + 1; omega)).trans ((Below.heap_setCell w3 ⟨g + 1, 0, none⟩ (.string (lineE (restN k)).1) g (by show g ≠ g + 1; omega)).trans R3))
      have B5 := Lib.hid ((B3.setCell (p := ⟨g + 1, 0, none⟩) (by show g ≤ g + 1; omega) (.string (lineE (restN k)).1)).setCell (p := ⟨g + 1, 1, none⟩) (by show g ≤ g + 1; omega) (.string (lineE (restN k)).2))
      have hr : bs (lineR (restN k)) = bs (restN (k + 1)) := rfl
      rw [hr]
      clear Z0 C3 R3 B3 hB3 hr
      go_wp2_with fail
      go_roundw
      case rel => exact ⟨k + 1, lineE (restN k), by omega, rfl, rfl, Lib.hid (fun _ => rfl), Z1, R5, B5.out⟩
      case measure => simp [intOf] <;> omega
    · have hkn : k = n := by omega
      have hli : ¬ ((k : Int) < (n : Int)) := by omega
      have hEE := hE.out (by omega)
      rw [hkn, ← fixed_at (by omega), he.out] at hEE
      subst hEE
      have Z0 := zero_set (y := .string x) hR.out
      obtain ⟨g1, g2, g3, g4⟩ := two_cells Z0
      have Z1 := Lib.hid (two_set (x := .string x) (y := .string y) hR.out)
      have B5 := Lib.hid ((hB.setCell (p := ⟨g, 0, none⟩) (Nat.le_refl _) (.string x)).setCell (p := ⟨g, 1, none⟩) (Nat.le_refl _) (.string y))
      clear Z0 hE
      go_wp2_with fail
      exact bodyPost_ret (v := .agg #[.string x, .string y]) (results_cell_row rfl _ _ g 82 #[.string x, .string y] (0, 0) _ rfl Z1.out Try.underlying82 rfl entInfoP) rfl ⟨rfl, by first | exact B5.out | (rw [G.out]; exact B5.out)⟩
end Go.Proofs.Ytamgnbjdeoklbaa
