/- The contract of a table's At. For at most 1000 entries of at most 10^6 bytes a text, 10^9 together. -/
import Derived.Test.YtamgnbjdeoklbaaProg
import Derived.Test.YtamgnbjdeoklbaaTbMath
import Derived.Test.YtamgnbjdeoklbaaTbMem
import Derived.Test.YtamgnbjdeoklbaaTbLeast
import Derived.Test.YtamgnbjdeoklbaaTbRef
import Derived.Test.YtamgnbjdeoklbaaTbFix
import Derived.Test.YtamgnbjdeoklbaaTbAll
import Derived.Test.YtamgnbjdeoklbaaTbAt
import Derived.Test.YtamgnbjdeoklbaaTcMem
import Derived.Test.YtamgnbjdeoklbaaTcLow
import Derived.Test.YtamgnbjdeoklbaaTcCut
import Derived.Test.YtamgnbjdeoklbaaTcShrink
import Derived.Test.YtamgnbjdeoklbaaTcAdd
import Derived.WalkKit
import Derived.Lib.Hide
import Derived.Outline
import Derived.IntWalk
import Derived.WalkSpells
import Derived.WalkLawsBesides
import Derived.Deep.QuietTactic
import Derived.BigQuiet
import Derived.Laws.Rows
import Derived.Deep.RegionLaw
import Derived.Deep.CutBlock
import Derived.Deep.DeepCutAuto
import Derived.Deep.CutRange
namespace Go.Proofs.Ytamgnbjdeoklbaa
open Go.RowKit Tb

namespace Tb
theorem small_fixed : SmallE fixedT := by
  intro e he
  unfold fixedT at he
  obtain ⟨p, hp, rfl⟩ := List.mem_map.1 he
  have h : ∀ p ∈ entsB, p.1.length ≤ 1000000 ∧ p.2.length ≤ 1000000 := by decide +kernel
  have := h p hp
  exact ⟨by show (bs p.1).size ≤ _; rw [bs_size]; exact this.1, by show (bs p.2).size ≤ _; rw [bs_size]; exact this.2⟩
theorem small_cat {A B : List Ent} (ha : SmallE A) (hb : SmallE B) : SmallE (A ++ B) := fun e he => by
  rcases List.mem_append.1 he with h | h
  · exact ha e h
  · exact hb e h
theorem entAt_left {A B : List Ent} {k : Nat} (h : k < A.length) : entAt (A ++ B) k = entAt A k := by
  unfold entAt
  rw [List.getD_eq_getElem?_getD, List.getD_eq_getElem?_getD, List.getElem?_append_left h]
theorem entAt_right {A B : List Ent} {k : Nat} (h : A.length ≤ k) : entAt (A ++ B) k = entAt B (k - A.length) := by
  unfold entAt
  rw [List.getD_eq_getElem?_getD, List.getD_eq_getElem?_getD, List.getElem?_append_right h]
theorem entAt_rev {L : List Ent} {k : Nat} (h : k < L.length) : entAt L.reverse (L.length - 1 - k) = entAt L k := by
  unfold entAt
  rw [List.getD_eq_getElem?_getD, List.getD_eq_getElem?_getD, List.getElem?_reverse (by omega), show L.length - 1 - (L.length - 1 - k) = k by omega]
end Tb

set_option maxHeartbeats 4000000 in
set_option maxRecDepth 100000 in
theorem at_is (g b : Nat) (t : Tab) (i : Int) (x y : ByteArray) (q : Bool) (w : World) (h : Hid (TAt w g b t)) (hf : Hid (Fit t)) (hi1 : -9223372036854775808 ≤ i) (hi2 : i ≤ 9223372036854775807) (hR : Hid (atR (fixedT ++ t.2) i = ((x, y), q))) :
    Calls Try.prog 19 #[.pointer (some ⟨g, 0, none⟩), .int .i64 i] w fun e w' => e = .returned (.tuple #[.string x, .string y, .bool q]) ∧ Below w.heap.size w w' := by
  obtain ⟨⟨ao, off, c, hT0⟩, hok, hmx⟩ := h.out
  have hr := hR.out
  obtain ⟨n, hn⟩ : ∃ n, t.2.length = n := ⟨_, rfl⟩
  have hnb : n ≤ 1000 := by rw [← hn]; exact hf.out.1
  have hlen : (fixedT ++ t.2).length = 61 + n := by rw [List.length_append, hn]; rfl
  have hrl : t.2.reverse.length = n := by rw [List.length_reverse]; exact hn
  unfold atR at hr
  rw [hlen] at hr
  obtain ⟨E, hE⟩ : ∃ E, w.heap.size = E := ⟨_, rfl⟩
  have HE0 := heap_alloc_new w (.cells #[.string ⟨#[]⟩, .string ⟨#[]⟩] 82)
  have HA := (Below.refl w.heap.size w).alloc (Nat.le_refl _) (.cells #[.string ⟨#[]⟩, .string ⟨#[]⟩] 82)
  have hgl := world_lt hT0.1
  have hT1 := hT0.below HA
  unfold TRaw at hT1
  rw [hrl] at hT1
  obtain ⟨M, hM⟩ : ∃ M : Int, (t.1 : Int) = M := ⟨_, rfl⟩
  obtain ⟨S, hS⟩ : ∃ S : Int, (sumL t.2.reverse : Int) = S := ⟨_, rfl⟩
  rw [hM, hS] at hT1
  have HG := Lib.hid hT1.1
  have HR := Lib.hid hT1.2.1
  rw [hE] at HE0 HA hgl
  have HEE := Lib.hid HE0
  have G := Lib.hid hE
  have HAA := Lib.hid HA
  clear HE0 hT0 hT1 HA
  go_enter Try.func19, Try.ntmps19
  go_upto_region 3 with fail
  generalize (w.alloc (.cells #[.string ⟨#[]⟩, .string ⟨#[]⟩] 82)) = W at *
  by_cases hlo : i < 1
  · rw [if_pos (.inl hlo)] at hr
    injection hr with hr hq
    injection hr with hx hy
    subst hx hy hq
    go_wp2_with fail
    go_ret3
    exact ⟨rfl, by first | exact HAA.out | (rw [G.out]; exact HAA.out)⟩
  · have hlast := Lib.hid (fun w' h => last_is g (.int .i64 M) (.int .i64 S) ao n c 80 w' h (by omega))
    by_cases hhi : (61 : Int) + (n : Int) < i
    · rw [if_pos (.inr (by omega))] at hr
      injection hr with hr hq
      injection hr with hx hy
      subst hx hy hq
      go_wp2_with fail
      refine (hlast.out _ HG).mono ?_
      rintro e w3 ⟨rfl, rfl⟩
      go_wp2_with fail
      go_ret3
      exact ⟨rfl, by first | exact HAA.out | (rw [G.out]; exact HAA.out)⟩
    · rw [if_neg (by omega)] at hr
      injection hr with hr hq
      subst hq
      obtain ⟨k, rfl⟩ : ∃ k : Nat, i = (k : Int) + 1 := ⟨(i - 1).toNat, by omega⟩
      rw [show ((k : Int) + 1).toNat - 1 = k by omega] at hr
      have hsm := (small_cat small_fixed hf.out.2.1).at (k := k) (by rw [hlen]; omega)
      rw [hr] at hsm
      obtain ⟨hxs, hys⟩ := hsm
      by_cases hfx : k < 61
      · rw [entAt_left (by exact hfx)] at hr
        have hk61 : (k : Int) + 1 ≤ 61 := by omega
        have hkn : (k : Int) + 1 = ((k + 1 : Nat) : Int) := by omega
        have HFX := Lib.hid (fun w' => fixedAt_is (k + 1) x y w' (by omega) (by omega) (Lib.hid (by rw [Nat.add_sub_cancel]; exact hr)))
        clear hr hfx
        rw [hkn] at hk61 hlo hhi hi1 hi2 ⊢
        generalize k + 1 = m at *
        clear hkn
        go_wp2_with fail
        refine (hlast.out _ HG).mono ?_
        rintro e w3 ⟨rfl, rfl⟩
        go_wp2_with fail
        refine (HFX.out _).mono ?_
        rintro e w5 ⟨rfl, hB5'⟩
        have hE5 := (hB5'.block E (world_lt HEE.out)).trans HEE.out
        have hB5 := HAA.out.trans (hB5'.mono (Nat.le_of_lt (world_lt HEE.out)))
        clear hB5'
        obtain ⟨c1, c2, c3, c4⟩ := two_cells hE5
        have Z0 := zero_set (y := .string x) hE5
        have Z1 := two_set (x := .string x) (y := .string y) hE5
        obtain ⟨d1, d2, d3, d4⟩ := two_cells Z0
        obtain ⟨f1, f2, f3, f4⟩ := two_cells Z1
        have B6 := Lib.hid ((hB5.setCell (p := ⟨E, 0, none⟩) (Nat.le_refl _) (.string x)).setCell (p := ⟨E, 1, none⟩) (Nat.le_refl _) (.string y))
        have HZ1 := Lib.hid Z1
        clear Z0 Z1 hE5 hB5
        go_wp2_with fail
        refine (apart_is x y _ hxs hys).mono ?_
        rintro e w6 ⟨rfl, hB6⟩
        have hE6 := (hB6.block E (world_lt HZ1.out)).trans HZ1.out
        have hB7 := B6.out.trans (hB6.mono (Nat.le_of_lt (world_lt HZ1.out)))
        obtain ⟨c1, c2, c3, c4⟩ := two_cells hE6
        have Z0 := zero_set (y := .string x) hE6
        have Z1 := two_set (x := .string x) (y := .string y) hE6
        obtain ⟨d1, d2, d3, d4⟩ := two_cells Z0
        obtain ⟨f1, f2, f3, f4⟩ := two_cells Z1
        have B8 := Lib.hid ((hB7.setCell (p := ⟨E, 0, none⟩) (Nat.le_refl _) (.string x)).setCell (p := ⟨E, 1, none⟩) (Nat.le_refl _) (.string y))
        clear Z0 Z1 hE6 hB6 hB7 B6
        go_wp2_with fail
        go_region
        all_goals
          go_wp2_with fail
          go_ret3
          exact ⟨rfl, by first | exact B8.out.drew | (rw [G.out]; exact B8.out.drew)⟩
      · rw [entAt_right (by show 61 ≤ k; omega), show fixedT.length = 61 from rfl] at hr
        obtain ⟨j, hj⟩ : ∃ j, n - 1 - (k - 61) = j := ⟨_, rfl⟩
        have hjn : j < n := by omega
        have hjr : entAt t.2.reverse j = (x, y) := by
          rw [← hj, ← hr, ← hn]
          exact entAt_rev (by omega)
        obtain ⟨rfl, hbl, hc1, hc2, _, _⟩ := HR.out.get hjn
        rw [hjr] at hc1 hc2
        have hk61 : ¬ (k : Int) + 1 ≤ 61 := by omega
        obtain ⟨m, hm⟩ : ∃ m : Nat, k + 1 = m := ⟨_, rfl⟩
        have hkn : (k : Int) + 1 = (m : Int) := by omega
        have ew : IntKind.i64.wrap ((61 : Int) + (n : Int) - (m : Int)) = (j : Int) := by rw [IntKind.wrap_i64]; omega
        rw [hkn] at hk61 hlo hhi hi1 hi2 ⊢
        have hj0 : (0 : Int) ≤ (j : Int) := by omega
        have hji : (j : Int) < (n : Int) := by omega
        have hof := off_add_addr b off (j * 2)
        have q1 : W.drew.cell? ⟨b, off + j * 2, none⟩ = some (.string x) := hc1
        have q2 : W.drew.cell? ⟨b, off + j * 2 + 1, none⟩ = some (.string y) := hc2
        have HGd : Hid (W.drew.heap[g]? = some (.cells #[.int .i64 M, .int .i64 S, .slice (some ⟨b, off, none⟩) n c] 80 (0, 0))) := HG
        have HEd : Hid (W.drew.heap[E]? = some (.cells #[.string ⟨#[]⟩, .string ⟨#[]⟩] 82 (0, 0))) := HEE
        obtain ⟨a1, a2, a3, _, _, _⟩ := three_cells HGd.out
        obtain ⟨r1, r2, r3, r4⟩ := two_cells HEd.out
        obtain ⟨l1, l2, l3, _, _, _⟩ := three_cells HG.out
        obtain ⟨o1, o2, o3, o4⟩ := two_cells HEE.out
        have hE5 : W.drew.heap[E]? = some (.cells #[.string ⟨#[]⟩, .string ⟨#[]⟩] 82 (0, 0)) := HEE.out
        have s0 := zero_set (y := .string x) hE5
        obtain ⟨s1, s2, s3, s4⟩ := two_cells s0
        have HB5 := Lib.hid HAA.out.drew
        clear hr hj hjr hjn hfx s0 hkn hm
        go_wp2_with fail
        refine (hlast.out _ HG).mono ?_
        rintro e w3 ⟨rfl, rfl⟩
        go_wp2_with fail
        go_region_law (go_simp; go_at_call 33; (with_reducible refine (hlast.out _ HGd).mono ?_); rintro e w5 ⟨rfl, rfl⟩)
        all_goals
          obtain ⟨W5, hW5⟩ : ∃ W5, ((w3.setCell ⟨E, 0, none⟩ (.string x)).setCell ⟨E, 1, none⟩ (.string y)).drew = W5 := ⟨_, rfl⟩
          rw [hW5]
          have Z1 : W5.heap[E]? = some (.cells #[.string x, .string y] 82 (0, 0)) := by
            rw [← hW5]
            exact two_set (x := .string x) (y := .string y) HEE.out
          have B6 : Hid (Below E w W5) := Lib.hid (by
            rw [← hW5]
            exact ((HAA.out.setCell (p := ⟨E, 0, none⟩) (Nat.le_refl _) (.string x)).setCell (p := ⟨E, 1, none⟩) (Nat.le_refl _) (.string y)).drew)
          obtain ⟨f1, f2, f3, f4⟩ := two_cells Z1
          have HZ1 := Lib.hid Z1
          clear Z1 hW5
          go_wp2_with fail
          refine (apart_is x y _ hxs hys).mono ?_
          rintro e w6 ⟨rfl, hB6⟩
          have hE6 := (hB6.block E (world_lt HZ1.out)).trans HZ1.out
          have hB7 := B6.out.trans (hB6.mono (Nat.le_of_lt (world_lt HZ1.out)))
          obtain ⟨c1, c2, c3, c4⟩ := two_cells hE6
          have Z0 := zero_set (y := .string x) hE6
          have Z1 := two_set (x := .string x) (y := .string y) hE6
          obtain ⟨d1, d2, d3, d4⟩ := two_cells Z0
          obtain ⟨g1, g2, g3, g4⟩ := two_cells Z1
          have B8 := Lib.hid ((hB7.setCell (p := ⟨E, 0, none⟩) (Nat.le_refl _) (.string x)).setCell (p := ⟨E, 1, none⟩) (Nat.le_refl _) (.string y))
          clear Z0 Z1 hE6 hB6 hB7 B6
          go_wp2_with fail
          go_region
          all_goals
            go_wp2_with fail
            go_ret3
            exact ⟨rfl, by first | exact B8.out.drew | (rw [G.out]; exact B8.out.drew)⟩
end Go.Proofs.Ytamgnbjdeoklbaa
