/- What the laws ask of a table: its length, size, greatest size; its entries by number. No condition. -/
import Derived.Test.YtchfineobpfinaaProg
import Derived.Test.YtchfineobpfinaaTbMath
import Derived.Test.YtchfineobpfinaaTbMem
import Derived.Test.YtchfineobpfinaaTbLeast
import Derived.Test.YtchfineobpfinaaTbFix
import Derived.Test.YtchfineobpfinaaTbAt
import Derived.Test.YtchfineobpfinaaTcMem
import Derived.Test.YtchfineobpfinaaTcLow
import Derived.Test.YtchfineobpfinaaTcShrink
import Derived.Test.YtchfineobpfinaaTcAdd
import Derived.Test.YtchfineobpfinaaTcAt
import Derived.Test.YtchfineobpfinaaTcActs
import Derived.Test.YtchfineobpfinaaTcPlay
import Derived.Test.YtchfineobpfinaaTcSame
import Derived.Test.YtchfineobpfinaaTcLoop
import Derived.WalkKit
import Derived.Lib.Hide
import Derived.Laws.Rows
namespace Go.Proofs.Ytchfineobpfinaa
open Go.RowKit Tb
namespace Tb
theorem TAt.row {w : World} {g b : Nat} {t : Tab} (h : TAt w g b t) : ∃ ao c, w.heap[g]? = some (.cells #[.int .i64 (t.1 : Int), .int .i64 (sumL t.2 : Int), .slice ao t.2.length c] 56 (0, 0)) := by
  obtain ⟨⟨ao, off, c, hT⟩, _⟩ := h
  have h1 := hT.1
  rw [sum_rev, List.length_reverse] at h1
  exact ⟨ao, c, h1⟩
/-- An entry behind the fixed ones. -/
theorem at_mine {L : List Ent} {i : Nat} (h : i < L.length) : atR (fixedT ++ L) (62 + (i : Int)) = (entAt L i, true) := by
  have hf : fixedT.length = 61 := rfl
  have hl : (fixedT ++ L).length = 61 + L.length := by rw [List.length_append, hf]
  unfold atR
  have e1 : entAt (fixedT ++ L) (61 + i) = entAt L i := by
    have h2 := entAt_right (A := fixedT) (B := L) (k := 61 + i) (by rw [hf]; omega)
    rw [hf, show 61 + i - 61 = i by omega] at h2
    exact h2
  rw [if_neg (by rw [hl]; omega), show (62 + (i : Int)).toNat - 1 = 61 + i by omega, e1]
theorem at_none {L : List Ent} {i : Nat} (h : L.length ≤ i) : atR (fixedT ++ L) (62 + (i : Int)) = ((⟨#[]⟩, ⟨#[]⟩), false) := by
  have hf : fixedT.length = 61 := rfl
  have hl : (fixedT ++ L).length = 61 + L.length := by rw [List.length_append, hf]
  unfold atR
  rw [if_pos (.inr (by rw [hl]; omega))]
theorem entAt_least {L : List Ent} {m i : Nat} (h : i < (leastL L m).length) : entAt (leastL L m) i = entAt L i := by
  obtain ⟨k, hk, he⟩ := leastL_pre L m
  rw [he] at h ⊢
  rw [List.length_take] at h
  unfold entAt
  rw [List.getD_eq_getElem?_getD, List.getD_eq_getElem?_getD, List.getElem?_take_of_lt (by omega)]
end Tb
theorem len_t (g b : Nat) (t : Tab) (n : Nat) (w : World) (h : Hid (TAt w g b t)) (hn : Hid (t.2.length = n)) :
    Calls Try.prog 19 #[.pointer (some ⟨g, 0, none⟩)] w fun e w' => e = .returned (.int .i64 (n : Int)) ∧ w' = w := by
  obtain ⟨ao, c, hr⟩ := h.out.row
  rw [hn.out] at hr
  exact len_is g _ _ _ _ _ _ w (Lib.hid hr)
theorem size_t (g b : Nat) (t : Tab) (S : Nat) (w : World) (h : Hid (TAt w g b t)) (hn : Hid (sumL t.2 = S)) :
    Calls Try.prog 23 #[.pointer (some ⟨g, 0, none⟩)] w fun e w' => e = .returned (.int .i64 (S : Int)) ∧ w' = w := by
  obtain ⟨ao, c, hr⟩ := h.out.row
  rw [hn.out] at hr
  exact size_is g _ _ _ _ w (Lib.hid hr)
theorem most_t (g b : Nat) (t : Tab) (M : Int) (w : World) (h : Hid (TAt w g b t)) (hn : Hid ((t.1 : Int) = M)) :
    Calls Try.prog 22 #[.pointer (some ⟨g, 0, none⟩)] w fun e w' => e = .returned (.int .i64 M) ∧ w' = w := by
  obtain ⟨ao, c, hr⟩ := h.out.row
  rw [hn.out] at hr
  exact most_is g _ _ _ _ w (Lib.hid hr)
end Go.Proofs.Ytchfineobpfinaa
