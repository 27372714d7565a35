/- The contract of Code: a sign's code and its length. No condition. -/
import Derived.Test.YtfnfgjpeefagpaaProg
import Derived.Test.YtfnfgjpeefagpaaBytes
import Derived.Test.YtfnfgjpeefagpaaHfBook
import Derived.WalkKit
import Derived.Lib.Hide
import Derived.Outline
import Derived.IntWalk
import Derived.WalkSpells
import Derived.WalkLawsBesides
import Derived.Deep.QuietTactic
import Derived.BigQuiet
namespace Go.Proofs.Ytfnfgjpeefagpaa
open Go.RowKit Bytes Hf

namespace Hf
theorem tab_extract (n a b : Nat) (f : Nat → Value) (h : b ≤ n) : (tab n f).extract a b = tab (b - a) (fun i => f (a + i)) := by
  apply Array.ext
  · simp [tab_size]; omega
  · intro i h1 h2
    simp [tab]
/-- The codes of the book. -/
theorem book_codes (w : World) : (Instr.field 46 (.agg (tab 833 bookF)) 0).run Try.prog w = .ok (.agg (tab 514 bookF)) w := by
  have u := Try.underlying46
  have ha : (isAgg 42).run Try.prog w = .ok true w := by kernel_rfl
  have e := tab_extract 833 0 514 bookF (by decide)
  simp only [Nat.zero_add, Nat.sub_zero] at e
  simp [Instr.field, run_underlying u, asAgg, part, ha, e]
theorem codes_at {s : Nat} (h : s < 257) (w : World) : (Instr.index 42 (.agg (tab 514 bookF)) (.int .i64 (s : Int))).run Try.prog w = .ok (.agg #[cu (cd s), ci (len s)]) w := by
  have u := Try.underlying42
  have hs : (sizeOf 41).run Try.prog w = .ok 2 w := by kernel_rfl
  have e := tab_extract 514 (s * 2) (s * 2 + 2) bookF (by omega)
  rw [show s * 2 + 2 - s * 2 = 2 by omega] at e
  have e2 : tab 2 (fun i => bookF (s * 2 + i)) = #[cu (cd s), ci (len s)] := by
    unfold tab
    rw [show List.range 2 = [0, 1] from rfl, List.map_cons, List.map_cons, List.map_nil]
    unfold bookF
    rw [if_pos (show s * 2 + 0 < 514 by omega), if_pos (show (s * 2 + 0) % 2 = 0 by omega), if_pos (show s * 2 + 1 < 514 by omega), if_neg (show ¬ (s * 2 + 1) % 2 = 0 by omega), show (s * 2 + 0) / 2 = s by omega, show (s * 2 + 1) / 2 = s by omega]
  simp [Instr.index, run_underlying u, asIntOf, part, hs, h, e, e2]
theorem cells_new (w : World) (a b : Value) (t : TypeId) : (w.alloc (.cells #[a, b] t)).cell? ⟨w.heap.size, 0, none⟩ = some a ∧ (w.alloc (.cells #[a, b] t)).cell? ⟨w.heap.size, 1, none⟩ = some b := by
  have h := heap_alloc_new w (.cells #[a, b] t)
  exact ⟨cell_of_row _ _ _ _ _ _ h, cell_of_row _ _ _ _ _ _ h⟩
/-- What Code answers. -/
def codeC (b : Int) : Nat := if 0 ≤ b ∧ b ≤ 256 then cd b.toNat else 0
def codeL (b : Int) : Nat := if 0 ≤ b ∧ b ≤ 256 then len b.toNat else 0
end Hf

set_option maxHeartbeats 4000000 in
set_option maxRecDepth 100000 in
theorem code_is (b : Int) (w : World) (h1 : -9223372036854775808 ≤ b) (h2 : b ≤ 9223372036854775807) (c n : Nat) (hc : Hid (codeC b = c)) (hn : Hid (codeL b = n)) :
    Calls Try.prog 11 #[.int .i64 b] w fun e w' => e = .returned (.tuple #[.int .u32 (c : Int), .int .i64 (n : Int)]) ∧ Below w.heap.size w w' := by
  by_cases hin : 0 ≤ b ∧ b ≤ 256
  · have e1 := hc.out
    have e2 := hn.out
    unfold codeC at e1
    unfold codeL at e2
    rw [if_pos hin] at e1 e2
    obtain ⟨s, rfl⟩ := Int.eq_ofNat_of_zero_le hin.1
    have hs : s < 257 := by omega
    rw [Int.toNat_natCast] at e1 e2
    obtain ⟨fin, hfin⟩ : ∃ fin, Hid (tab 833 bookF = fin) := ⟨_, rfl⟩
    obtain ⟨cod, hcod⟩ : ∃ cod, Hid (tab 514 bookF = cod) := ⟨_, rfl⟩
    have hfd := book_codes
    have hix := codes_at hs
    rw [hfin.out, hcod.out] at hfd
    rw [hcod.out, e1, e2] at hix
    unfold cu ci at hix
    have hbk := book_is
    rw [hfin.out] at hbk
    have HBK := Lib.hid hbk
    clear hc hn e1 e2 hbk
    go_enter Try.func11, Try.ntmps11
    go_wp2_with fail
    refine (HBK.out _).mono ?_
    rintro e w' ⟨rfl, hB⟩
    go_wp2_with fail
    have hq := cells_new w' (.int .u32 (c : Int)) (.int .i64 (n : Int)) 41
    have hBn := hB.alloc hB.size (.cells #[.int .u32 (c : Int), .int .i64 (n : Int)] 41)
    obtain ⟨q1, q2⟩ := hq
    go_quiet (fail)
    go_wp2_with fail
    go_ret2
    exact ⟨rfl, below_drewN hBn _⟩
  · have e1 := hc.out
    have e2 := hn.out
    unfold codeC at e1
    unfold codeL at e2
    rw [if_neg hin] at e1 e2
    subst e1 e2
    clear hc hn
    by_cases hneg : b < 0
    · go_enter Try.func11, Try.ntmps11
      go_wp2_with fail
      go_ret2
      exact ⟨rfl, Below.refl _ _⟩
    · have hbig : 256 < b := by omega
      go_enter Try.func11, Try.ntmps11
      go_wp2_with fail
      go_ret2
      exact ⟨rfl, Below.refl _ _⟩
end Go.Proofs.Ytfnfgjpeefagpaa
