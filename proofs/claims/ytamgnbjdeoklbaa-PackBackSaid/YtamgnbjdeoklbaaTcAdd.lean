/- Contracts of a table's New, Resize, Add. For at most 1000 entries of at most 10^6 bytes a text, 10^9 together. -/
import Derived.Test.YtamgnbjdeoklbaaProg
import Derived.Test.YtamgnbjdeoklbaaTcFit
import Derived.Test.YtamgnbjdeoklbaaTbMath
import Derived.Test.YtamgnbjdeoklbaaTbMem
import Derived.Test.YtamgnbjdeoklbaaTbLeast
import Derived.Test.YtamgnbjdeoklbaaTbRef
import Derived.Test.YtamgnbjdeoklbaaTcMem
import Derived.Test.YtamgnbjdeoklbaaTcLow
import Derived.Test.YtamgnbjdeoklbaaTcShrink
import Derived.WalkKit
import Derived.Lib.Hide
import Derived.Outline
import Derived.IntWalk
import Derived.WalkSpells
import Derived.WalkLawsBesides
import Derived.Deep.QuietTactic
import Derived.BigQuiet
import Derived.Laws.Rows
import Derived.Deep.RegionLaw
import Derived.Deep.CutBlock
import Derived.Deep.DeepCutAuto
import Derived.Deep.CutRange
namespace Go.Proofs.Ytamgnbjdeoklbaa
open Go.RowKit Tb

namespace Tb
/-- A table in memory: block g, its row in block b. -/
def TAt (w : World) (g b : Nat) (t : Tab) : Prop := (∃ ao off c, TRaw w g b (t.1 : Int) (sumL t.2.reverse : Int) ao off c t.2.reverse) ∧ OkT t ∧ t.1 ≤ 9223372036854775807
theorem TAt.kept {w w' : World} {g b : Nat} {t : Tab} (h : TAt w g b t) (hs : w.heap.size ≤ w'.heap.size) (hg : w'.heap[g]? = w.heap[g]?) (hb : b < w.heap.size → w'.heap[b]? = w.heap[b]?) : TAt w' g b t := by
  obtain ⟨⟨ao, off, c, h1⟩, h2⟩ := h
  exact ⟨⟨ao, off, c, h1.kept hs hg hb⟩, h2⟩
theorem TAt.below {w w' : World} {g b : Nat} {t : Tab} (h : TAt w g b t) (hB : Below w.heap.size w w') : TAt w' g b t := by
  obtain ⟨⟨ao, off, c, h1⟩, h2⟩ := h
  exact ⟨⟨ao, off, c, h1.below hB⟩, h2⟩
theorem TAt.lt {w : World} {g b : Nat} {t : Tab} (h : TAt w g b t) : g < w.heap.size ∧ b < w.heap.size := by
  obtain ⟨⟨ao, off, c, h1⟩, h2⟩ := h
  have hg := world_lt h1.1
  refine ⟨hg, ?_⟩
  rcases Nat.eq_zero_or_pos c with h0 | h0
  · rw [h1.2.2.1 h0]; exact hg
  · exact h1.2.1.lt h0
theorem Fit.rev {t : Tab} (h : Fit t) : SmallE t.2.reverse ∧ sumL t.2.reverse ≤ 1000000000 := ⟨fun e he => h.2.1 e (List.mem_reverse.1 he), by rw [sum_rev]; exact h.2.2⟩
theorem addT_rev {t : Tab} {x y : ByteArray} {L : List Ent} (h : leastL t.2 (t.1 - sz (x, y)) = L.reverse) (hs : sz (x, y) ≤ t.1) : (addT t (x, y)).2.reverse = L ++ [(x, y)] := by
  show (leastL ((x, y) :: t.2) t.1).reverse = _
  rw [leastL, if_pos hs, h, List.reverse_cons, List.reverse_reverse]
theorem addT_none {t : Tab} {x y : ByteArray} (hs : ¬ sz (x, y) ≤ t.1) : (addT t (x, y)).2 = [] := by
  show leastL ((x, y) :: t.2) t.1 = _
  rw [leastL, if_neg hs]
theorem leastL_mem {L : List Ent} {m : Nat} {e : Ent} (h : e ∈ leastL L m) : e ∈ L := by
  obtain ⟨k, _, hk⟩ := leastL_pre L m
  rw [hk] at h
  exact List.mem_of_mem_take h
end Tb
theorem new_is (most : Int) (w : World) (hb1 : -9223372036854775808 ≤ most) (hb2 : most ≤ 9223372036854775807) :
    Calls Try.prog 25 #[.int .i64 most] w fun e w' => e = .returned (.pointer (some ⟨w.heap.size, 0, none⟩)) ∧ TAt w' w.heap.size w.heap.size (newT most) ∧ Below w.heap.size w w' := by
  have hT : ∀ m : Int, m = (most.toNat : Int) → TAt (w.alloc (.cells #[.int .i64 m, .int .i64 0, .slice none 0 0] 80)) w.heap.size w.heap.size (newT most) := fun m hm => by
    subst hm
    exact ⟨⟨none, 0, 0, heap_alloc_new w _, Row.empty _ _ _ _, fun _ => rfl, fun h => absurd h (Nat.lt_irrefl 0)⟩, newT_ok most, by show most.toNat ≤ _; omega⟩
  have HB := (Below.refl w.heap.size w).alloc (Nat.le_refl _)
  have hx := hT _ rfl
  have hmax : max most 0 = (most.toNat : Int) := by omega
  clear hT
  generalize (most.toNat : Int) = mm at hx hmax
  go_enter Try.func25, Try.ntmps25
  go_wp2_with fail
  go_ret
  exact ⟨rfl, by first | exact hx | (rw [hmax]; exact hx), HB _⟩

set_option maxHeartbeats 4000000 in
set_option maxRecDepth 100000 in
theorem resize_is (g b : Nat) (t : Tab) (most : Int) (w : World) (h : Hid (TAt w g b t)) (hf : Hid (Fit t)) (hb1 : -9223372036854775808 ≤ most) (hb2 : most ≤ 9223372036854775807) :
    Calls Try.prog 26 #[.pointer (some ⟨g, 0, none⟩), .int .i64 most] w fun e w' => e = .returned (.tuple #[]) ∧ ∃ b', TAt w' g b' (resT t most) ∧ Kept2 g b w w' ∧ (b' = b ∨ b' = g) := by
  obtain ⟨⟨ao, off, c, hT⟩, hok, hmx⟩ := h.out
  have HF := hf.out.rev
  obtain ⟨a1, a2, a3, a4, a5, a6⟩ := three_cells hT.1
  have hone : ∀ m : Int, m = (most.toNat : Int) → Hid (TRaw (w.setCell ⟨g, 0, none⟩ (.int .i64 m)) g b (most.toNat : Int) (sumL t.2.reverse : Int) ao off c t.2.reverse) ∧ Hid (Kept2 g b w (w.setCell ⟨g, 0, none⟩ (.int .i64 m))) := fun m hm => by
    subst hm
    refine ⟨Lib.hid ⟨set3_0 hT.1, ?_, hT.2.2⟩, Lib.hid ((Kept2.refl g b w).setCell (p := ⟨g, 0, none⟩) (.inl rfl) _)⟩
    rcases Nat.eq_zero_or_pos c with h0 | h0
    · have hr := hT.2.1
      have hl : t.2.reverse = [] := List.length_eq_zero_iff.1 (by have := hr.le; omega)
      subst h0
      rw [hl]
      exact Row.empty _ _ _ _
    · exact hT.2.1.kept (by simp) (fun _ => Below.heap_setCell w ⟨g, 0, none⟩ _ b (hT.2.2.2 h0))
  have fin : ∀ (w1 w2 : World) (k b' : Nat) (ao' : Option Addr) (off' c' : Nat), Kept2 g b w w1 → k ≤ t.2.reverse.length → TRaw w2 g b' (most.toNat : Int) (sumL (t.2.reverse.drop k) : Int) ao' off' c' (t.2.reverse.drop k) → leastL t.2.reverse.reverse ((most.toNat : Int)).toNat = (t.2.reverse.drop k).reverse → Kept2 g b w1 w2 → (b' = b ∨ b' = g) → ∃ b', TAt w2 g b' (resT t most) ∧ Kept2 g b w w2 ∧ (b' = b ∨ b' = g) := by
    intro w1 w2 k b' ao' off' c' hK1 hk hT2 hl hK2 hbb
    rw [List.reverse_reverse, Int.toNat_natCast] at hl
    have e : (resT t most).2.reverse = t.2.reverse.drop k := by
      show (leastL t.2 most.toNat).reverse = _
      rw [hl, List.reverse_reverse]
    exact ⟨b', ⟨⟨ao', off', c', by rw [e]; exact hT2⟩, resT_ok t most, by show most.toNat ≤ _; omega⟩, hK1.trans hK2 (.inl rfl), hbb⟩
  have FIN := Lib.hid fin
  clear fin
  have hm2 : (most.toNat : Int) ≤ 9223372036854775807 := by omega
  obtain ⟨H1, H2⟩ := hone _ rfl
  obtain ⟨c1, c2, c3, c4, c5, c6⟩ := three_cells H1.out.1
  have hmax : max most 0 = (most.toNat : Int) := by omega
  have hm0 : -9223372036854775808 ≤ (most.toNat : Int) := by omega
  have HSH := Lib.hid (shrink_is g b (most.toNat : Int) (most.toNat : Int) ao off c _ t.2.reverse _ H1 (Lib.hid rfl) (Lib.hid HF.1) (Lib.hid HF.2) hm0 hm2)
  clear hone
  generalize (most.toNat : Int) = mm at *
  go_enter Try.func26, Try.ntmps26
  go_wp2_with fail
  refine HSH.out.mono ?_
  rintro e w2 ⟨rfl, k, b', ao', off', c', h1, h2, h3, _, h5, h6⟩
  have hx := FIN.out _ _ _ _ _ _ _ H2.out h1 h2 h3 h5 h6
  go_wp2_with fail
  go_end0
  exact ⟨rfl, hx⟩

/-- An entry's size, asked beside a table's block and the entry's own. -/
theorem entsize_two (g E : Nat) (u0 u1 u2 : Value) (t : TypeId) (x y : ByteArray) (w : World) (hx : x.size ≤ 1000000) (hy : y.size ≤ 1000000) (h : w.heap[g]? = some (.cells #[u0, u1, u2] t (0, 0))) (hE : w.heap[E]? = some (.cells #[.string x, .string y] 82 (0, 0))) :
    Calls Try.prog 57 #[.agg #[.string x, .string y]] w fun e w' => e = .returned (.int .i64 ((x.size : Int) + (y.size : Int) + 32)) ∧ w'.heap[g]? = some (.cells #[u0, u1, u2] t (0, 0)) ∧ w'.cell? ⟨g, 0, none⟩ = some u0 ∧ w'.cell? ⟨g, 1, none⟩ = some u1 ∧ w'.cell? ⟨g, 2, none⟩ = some u2 ∧ w'.frozen? ⟨g, 1, none⟩ = false ∧ w'.heap[E]? = some (.cells #[.string x, .string y] 82 (0, 0)) ∧ w'.cell? ⟨E, 0, none⟩ = some (.string x) ∧ w'.cell? ⟨E, 1, none⟩ = some (.string y) ∧ Below w.heap.size w w' :=
  (entsize_is x y w hx hy).mono fun e w' ⟨he, hB⟩ => by
    have h2 := (hB.block g (world_lt h)).trans h
    have h3 := (hB.block E (world_lt hE)).trans hE
    obtain ⟨a1, a2, a3, _, a5, _⟩ := three_cells h2
    obtain ⟨b1, b2, _, _⟩ := two_cells h3
    exact ⟨he, h2, a1, a2, a3, a5, h3, b1, b2, hB⟩

theorem apart_two (g : Nat) (u0 u1 u2 : Value) (t : TypeId) (x y : ByteArray) (w : World) (hx : x.size ≤ 1000000) (hy : y.size ≤ 1000000) (h : w.heap[g]? = some (.cells #[u0, u1, u2] t (0, 0))) :
    Calls Try.prog 35 #[.agg #[.string x, .string y]] w fun e w' => e = .returned (.agg #[.string x, .string y]) ∧ w'.heap[g]? = some (.cells #[u0, u1, u2] t (0, 0)) ∧ w'.cell? ⟨g, 2, none⟩ = some u2 ∧ w'.frozen? ⟨g, 2, none⟩ = false ∧ (w'.alloc (.cells #[.string x, .string y] 82)).heap[g]? = some (.cells #[u0, u1, u2] t (0, 0)) ∧ (w'.alloc (.cells #[.string x, .string y] 82)).cell? ⟨g, 2, none⟩ = some u2 ∧ Below w.heap.size w w' :=
  (apart_is x y w hx hy).mono fun e w' ⟨he, hB⟩ => by
    have h2 := (hB.block g (world_lt h)).trans h
    have h3 := (heap_alloc_old w' (.cells #[.string x, .string y] 82) (world_lt h2)).trans h2
    obtain ⟨_, _, a3, _, _, a6⟩ := three_cells h2
    obtain ⟨_, _, b3, _, _, _⟩ := three_cells h3
    exact ⟨he, h2, a3, a6, h3, b3, hB⟩

set_option maxHeartbeats 4000000 in
set_option maxRecDepth 100000 in
theorem add_is (g b : Nat) (t : Tab) (x y : ByteArray) (w : World) (h : Hid (TAt w g b t)) (hf : Hid (Fit t)) (hx : x.size ≤ 1000000) (hy : y.size ≤ 1000000) :
    Calls Try.prog 50 #[.pointer (some ⟨g, 0, none⟩), .string x, .string y] w fun e w' => e = .returned (.tuple #[]) ∧ ∃ b', TAt w' g b' (addT t (x, y)) ∧ Kept2 g b w w' ∧ (b' = b ∨ b' = g ∨ w.heap.size ≤ b') := by
  obtain ⟨⟨ao, off, c, hT⟩, hok, hmx⟩ := h.out
  have HF := hf.out.rev
  have hgl := world_lt hT.1
  have hbl := h.out.lt.2
  obtain ⟨E, hE⟩ : ∃ E, w.heap.size = E := ⟨_, rfl⟩
  have HE0 := heap_alloc_new w (.cells #[.string x, .string y] 82)
  have HA := (Below.refl w.heap.size w).alloc (Nat.le_refl _) (.cells #[.string x, .string y] 82)
  have hTA := Lib.hid (hT.below HA)
  have HKA := Lib.hid (Kept2.of_below (g := g) (b := b) HA)
  rw [hE] at HE0 hgl hbl
  obtain ⟨M, hM⟩ : ∃ M, t.1 = M := ⟨_, rfl⟩
  obtain ⟨Lr, hLr⟩ : ∃ Lr, t.2.reverse = Lr := ⟨_, rfl⟩
  rw [hM] at hTA hmx
  rw [hLr] at hTA HF
  have HEE := Lib.hid HE0
  have G := Lib.hid hE
  clear HE0 hT HA
  go_enter Try.func50, Try.ntmps50
  go_upto_region 1 with fail
  generalize (w.alloc (.cells #[.string x, .string y] 82)) = W at *
  have hm1 : (M : Int) ≤ 9223372036854775807 := by omega
  have hszv : sz (x, y) = x.size + y.size + 32 := rfl
  obtain ⟨D, hD⟩ : ∃ D : Int, (M : Int) - ((x.size : Int) + (y.size : Int) + 32) = D := ⟨_, rfl⟩
  have hDs : D = (M : Int) - (sz (x, y) : Int) := by rw [hszv]; omega
  have hD1 : -9223372036854775808 ≤ D := by omega
  have hD2 : D ≤ 9223372036854775807 := by omega
  have ew : IntKind.i64.wrap ((M : Int) - ((x.size : Int) + (y.size : Int) + 32)) = D := by rw [IntKind.wrap_i64]; omega
  have HDS := Lib.hid hDs
  clear hDs hD hszv
  go_cut [] from 10 to 18 (fun wx => ∃ k b' ao' off' c', k ≤ Lr.length ∧ Hid (TRaw wx g b' (M : Int) (sumL (Lr.drop k) : Int) ao' off' c' (Lr.drop k)) ∧ Hid (leastL Lr.reverse D.toNat = (Lr.drop k).reverse) ∧ Hid (Lr.drop k = [] ∨ (sumL (Lr.drop k) : Int) ≤ D) ∧ Hid (wx.heap[E]? = some (.cells #[.string x, .string y] 82 (0, 0))) ∧ Hid (Kept2 g b w wx) ∧ (b' = b ∨ b' = g))
  case first =>
    have HTD : Hid (TRaw W.drew g b (M : Int) (sumL Lr : Int) ao off c Lr) := Lib.hid (hTA.out.below (Below.refl _ W).drew)
    have HED : Hid (W.drew.heap[E]? = some (.cells #[.string x, .string y] 82 (0, 0))) := HEE
    obtain ⟨a1, a2, a3, _, _, _⟩ := three_cells hTA.out.1
    obtain ⟨q1, q2, q3, _, _, _⟩ := three_cells HTD.out.1
    obtain ⟨b1, b2, _, _⟩ := two_cells HEE.out
    obtain ⟨p1, p2, _, _⟩ := two_cells HED.out
    have HG := Lib.hid HTD.out.1
    have HS1 := Lib.hid HF.1
    have HS2 := Lib.hid HF.2
    clear HF hE
    go_region_law (first | (go_simp; go_at_call 57; (with_reducible refine (entsize_two g E _ _ _ _ x y _ hx hy HG.out HED.out).mono ?_); rintro e w5 ⟨rfl, h5, k0, k1, k2, k3, hE5, e0, e1, hB5⟩) | (go_simp; go_at_call 43; (with_reducible refine (shrink_is g b (M : Int) D ao off c _ Lr _ (Lib.hid (HTD.out.below hB5)) (Lib.hid rfl) HS1 HS2 hD1 hD2).mono ?_); rintro e w6 ⟨rfl, k, b', ao', off', c', n1, n2, n3, n4, n5, n6⟩))
    all_goals
      have hE6 := (n5.block E (world_lt hE5) (by omega) (by omega)).trans hE5
      have hK6 := (HKA.out.drew.trans (Kept2.of_below (g := g) (b := b) hB5) (.inl rfl)).trans n5 (.inl rfl)
      go_wp2_with fail
      go_meet
      exact ⟨k, b', ao', off', c', n1, Lib.hid n2, Lib.hid n3, Lib.hid n4, Lib.hid hE6, Lib.hid hK6, n6⟩
  case rest =>
    obtain ⟨k, b', ao', off', c', hk, hT, hL, hS, hE2, hK, hb⟩ := hcut
    have hlen : (Lr.drop k).length ≤ 1000 := by
      rw [List.length_drop, ← hLr, List.length_reverse]
      have := hf.out.1
      omega
    have hsum : sumL (Lr.drop k) ≤ 1000000000 := Nat.le_trans (sum_drop_le _ _) HF.2
    obtain ⟨L2, hL2⟩ : ∃ L2, Lr.drop k = L2 := ⟨_, rfl⟩
    rw [hL2] at hT hL hS hlen hsum
    obtain ⟨S, hSS⟩ : ∃ S, sumL L2 = S := ⟨_, rfl⟩
    rw [hSS] at hT hsum hS
    have HSS := Lib.hid hSS
    have HFIN := Lib.hid (show leastL t.2 D.toNat = L2.reverse by rw [← hL.out, ← hLr, List.reverse_reverse])
    clear hL2 hSS HF hTA HKA hL hE
    have hb'E : b' < E := by rcases hb with rfl | rfl <;> omega
    go_upto_region 2 with fail
    go_cut [25] from 19 to 25 (fun v wx => v = .bool (decide ((x.size : Int) + (y.size : Int) + 32 ≤ (M : Int))) ∧ Hid (TRaw wx g b' (M : Int) (S : Int) ao' off' c' L2) ∧ Hid (wx.heap[E]? = some (.cells #[.string x, .string y] 82 (0, 0))) ∧ Hid (Kept2 g b w wx))
    case first =>
      have HTD : Hid (TRaw wc.drew g b' (M : Int) (S : Int) ao' off' c' L2) := Lib.hid (hT.out.below (Below.refl _ wc).drew)
      have HED : Hid (wc.drew.heap[E]? = some (.cells #[.string x, .string y] 82 (0, 0))) := hE2
      have HG := Lib.hid HTD.out.1
      obtain ⟨a1, a2, a3, _, _, _⟩ := three_cells hT.out.1
      obtain ⟨q1, q2, q3, _, _, _⟩ := three_cells HTD.out.1
      obtain ⟨b1, b2, _, _⟩ := two_cells hE2.out
      obtain ⟨p1, p2, _, _⟩ := two_cells HED.out
      go_region_law (first | (go_simp; go_at_call 57; (with_reducible refine (entsize_two g E _ _ _ _ x y _ hx hy HG.out HED.out).mono ?_); rintro e w5 ⟨rfl, h5, k0, k1, k2, k3, hE5, e0, e1, hB5⟩))
      all_goals
        have hK6 := hK.out.drew.trans (Kept2.of_below (g := g) (b := b) hB5) (.inl rfl)
        have hT6 := HTD.out.below hB5
        go_wp2_with fail
        go_meet
        exact ⟨rfl, Lib.hid hT6, Lib.hid hE5, Lib.hid hK6⟩
    case rest =>
      obtain ⟨rfl, hT2, hE3, hK2⟩ := hcut
      clear hT hE2 hK
      by_cases hfit : (x.size : Int) + (y.size : Int) + 32 ≤ (M : Int)
      · have hdec : decide ((x.size : Int) + (y.size : Int) + 32 ≤ (M : Int)) = true := decide_eq_true hfit
        rw [hdec]
        go_upto_region 3 with fail
        go_cut [] from 26 to 36 (fun wx => ∃ b3 ao3 off3 c3, Hid (TRaw wx g b3 (M : Int) (S : Int) ao3 off3 c3 (L2 ++ [(x, y)])) ∧ Hid (wx.heap[E]? = some (.cells #[.string x, .string y] 82 (0, 0))) ∧ Hid (Kept2 g b w wx) ∧ Hid (b3 = b' ∨ E ≤ b3))
        case first =>
          have HTD : Hid (TRaw wc.drew g b' (M : Int) (S : Int) ao' off' c' L2) := Lib.hid (hT2.out.below (Below.refl _ wc).drew)
          have HED : Hid (wc.drew.heap[E]? = some (.cells #[.string x, .string y] 82 (0, 0))) := hE3
          have HG := Lib.hid HTD.out.1
          have HBG := Lib.hid HTD.out.2.2.2
          have HROW : Hid (∀ w5, Below wc.drew.heap.size wc.drew w5 → Row (w5.alloc (.cells #[.string x, .string y] 82)) b' ao' off' L2.length c' L2) := Lib.hid fun w5 hB => ((HTD.out.below hB).below ((Below.refl _ w5).alloc (Nat.le_refl _) _)).2.1
          have HEA : Hid (∀ w5, Below wc.drew.heap.size wc.drew w5 → (w5.alloc (.cells #[.string x, .string y] 82)).heap[E]? = some (.cells #[.string x, .string y] 82 (0, 0))) := Lib.hid fun w5 hB => by
            have h1 := (hB.block E (world_lt HED.out)).trans HED.out
            exact (heap_alloc_old w5 _ (world_lt h1)).trans h1
          have HKA : Hid (∀ w5, Below wc.drew.heap.size wc.drew w5 → Kept2 g b w (w5.alloc (.cells #[.string x, .string y] 82))) := Lib.hid fun w5 hB => (hK2.out.drew.trans (Kept2.of_below (g := g) (b := b) hB) (.inl rfl)).alloc _
          have hln : L2.length ≤ 100000 := by omega
          have HES := Lib.hid (world_lt HED.out)
          obtain ⟨a1, a2, a3, a4, a5, a6⟩ := three_cells hT2.out.1
          obtain ⟨q1, q2, q3, q4, q5, q6⟩ := three_cells HTD.out.1
          obtain ⟨b1, b2, _, _⟩ := two_cells hE3.out
          obtain ⟨p1, p2, _, _⟩ := two_cells HED.out
          go_region_law (first | (refine step_append_row (by rfl) _ _ (by rfl) z5 HBG.out (HROW.out _ hB5) hln (by rfl) (heap_alloc_new w5 _) (by rfl) ?_; intro ao3 b3 off3 c3 w7 hR7 h7 hb7 hbb hK7; obtain ⟨j1, j2, j3, j4, j5, j6⟩ := three_cells h7) | (go_simp; go_at_call 35; (with_reducible refine (apart_two g _ _ _ _ x y _ hx hy HG.out).mono ?_); rintro e w5 ⟨rfl, h5, k2, k3, z5, z2, hB5⟩))
          all_goals
            have hbE : b3 = b' ∨ E ≤ b3 := by
              rcases hbb with h | h
              · exact .inl h
              · have h1 := HES.out
                have h2 := hB5.size
                rw [World.size_alloc] at h
                exact .inr (by omega)
            have hE7 := (hK7.block E (world_lt (HEA.out _ hB5)) (by omega) (by omega)).trans (HEA.out _ hB5)
            have T8 := set3_2 (y := .slice ao3 (L2.length + 1) c3) h7
            have R8 := hR7.kept (w' := w7.setCell ⟨g, 2, none⟩ (.slice ao3 (L2.length + 1) c3)) (by simp) (fun _ => Below.heap_setCell w7 ⟨g, 2, none⟩ _ b3 hb7)
            have E8 := Lib.hid ((Below.heap_setCell w7 ⟨g, 2, none⟩ (.slice ao3 (L2.length + 1) c3) E (by show E ≠ g; omega)).trans hE7)
            have K8 := Lib.hid (((HKA.out _ hB5).trans hK7 (by rcases hb with rfl | rfl; exact .inl rfl; exact .inr (.inl rfl))).setCell (p := ⟨g, 2, none⟩) (.inl rfl) (.slice ao3 (L2.length + 1) c3))
            have hT8 : Hid (TRaw (w7.setCell ⟨g, 2, none⟩ (.slice ao3 (L2.length + 1) c3)) g b3 (M : Int) (S : Int) ao3 off3 c3 (L2 ++ [(x, y)])) := Lib.hid (by
              unfold TRaw
              rw [List.length_append, List.length_singleton]
              exact ⟨T8, R8, fun h0 => by have := R8.le; omega, fun _ => hb7⟩)
            have HBE := Lib.hid hbE
            clear T8 R8 hE7 hbE hR7 h7 hK7 hbb j1 j2 j3 j4 j5 j6 z5 z2 k2 k3 h5
            go_wp2_with fail
            go_meet
            exact ⟨b3, ao3, off3, c3, hT8, E8, K8, HBE⟩
        case rest =>
          obtain ⟨b3, ao3, off3, c3, hT3, hE4, hK3, hb3⟩ := hcut
          clear hE3 hK2 hT2
          have HTD : Hid (TRaw wc.drew g b3 (M : Int) (S : Int) ao3 off3 c3 (L2 ++ [(x, y)])) := Lib.hid (hT3.out.below (Below.refl _ wc).drew)
          have HED : Hid (wc.drew.heap[E]? = some (.cells #[.string x, .string y] 82 (0, 0))) := hE4
          have HG := Lib.hid HTD.out.1
          have HBG := Lib.hid HTD.out.2.2.2
          have HBZ := Lib.hid HTD.out.2.2.1
          obtain ⟨a1, a2, a3, a4, a5, a6⟩ := three_cells hT3.out.1
          obtain ⟨q1, q2, q3, q4, q5, q6⟩ := three_cells HTD.out.1
          obtain ⟨b1, b2, _, _⟩ := two_cells hE4.out
          obtain ⟨p1, p2, _, _⟩ := two_cells HED.out
          have hsz : sz (x, y) ≤ t.1 := by show x.size + y.size + 32 ≤ t.1; omega
          have hDt : D.toNat = t.1 - sz (x, y) := by have := HDS.out; omega
          have hrev := addT_rev (t := t) (x := x) (y := y) (L := L2) (by rw [← hDt]; exact HFIN.out) hsz
          have hsum2 : sumL (L2 ++ [(x, y)]) = S + (x.size + y.size + 32) := by rw [sumL_cat, HSS.out]; rfl
          obtain ⟨S2, hS2⟩ : ∃ S2, S + (x.size + y.size + 32) = S2 := ⟨_, rfl⟩
          rw [hS2] at hsum2
          have e1 : IntKind.i64.wrap ((S : Int) + ((x.size : Int) + (y.size : Int) + 32)) = (S2 : Int) := by rw [IntKind.wrap_i64]; omega
          have HREV := Lib.hid hrev
          have HSUM := Lib.hid hsum2
          clear hsz hDt hrev hsum2 hS2
          go_wp2_with fail
          go_region_law (first | (go_simp; go_at_call 57; (with_reducible refine (entsize_two g E _ _ _ _ x y _ hx hy HG.out HED.out).mono ?_); rintro e w5 ⟨rfl, h5, k0, k1, k2, k3, hE5, e0, e1', hB5⟩))
          all_goals
            have T8 := set3_1 (y := .int .i64 (S2 : Int)) h5
            have hR5 := (HTD.out.below hB5).2.1
            have R8 : Row (w5.setCell ⟨g, 1, none⟩ (.int .i64 (S2 : Int))) b3 ao3 off3 (L2 ++ [(x, y)]).length c3 (L2 ++ [(x, y)]) := by
              rcases Nat.eq_zero_or_pos c3 with h0 | h0
              · have := hR5.le
                rw [List.length_append, List.length_singleton] at this
                omega
              · exact hR5.kept (by simp) (fun _ => Below.heap_setCell w5 ⟨g, 1, none⟩ _ b3 (HBG.out h0))
            have K8 := Lib.hid ((hK3.out.drew.trans (Kept2.of_below (g := g) (b := b) hB5) (.inl rfl)).setCell (p := ⟨g, 1, none⟩) (.inl rfl) (.int .i64 (S2 : Int)))
            have hT8 : Hid (TAt (w5.setCell ⟨g, 1, none⟩ (.int .i64 (S2 : Int))) g b3 (addT t (x, y))) := Lib.hid (by
              refine ⟨⟨ao3, off3, c3, ?_⟩, addT_ok t (x, y), by show t.1 ≤ _; omega⟩
              rw [HREV.out, HSUM.out]
              show TRaw _ g b3 (t.1 : Int) _ _ _ _ _
              rw [hM]
              exact ⟨T8, R8, HBZ.out, HBG.out⟩)
            have HBE : Hid (b3 = b ∨ b3 = g ∨ w.heap.size ≤ b3) := Lib.hid (by
              rcases hb3.out with h1 | h1
              · rcases hb with h2 | h2
                · exact .inl (h1.trans h2)
                · exact .inr (.inl (h1.trans h2))
              · exact .inr (.inr (by rw [G.out]; exact h1)))
            clear T8 R8 hR5 h5 k0 k1 k2 k3 hE5 e0 e1'
            go_wp2_with fail
            go_end0
            exact ⟨rfl, b3, hT8.out, K8.out, HBE.out⟩
      · have hdec : decide ((x.size : Int) + (y.size : Int) + 32 ≤ (M : Int)) = false := decide_eq_false hfit
        rw [hdec]
        have hsz : ¬ sz (x, y) ≤ t.1 := by show ¬ x.size + y.size + 32 ≤ t.1; omega
        have hL20 : L2 = [] := by
          rcases hS.out with h0 | h0
          · exact h0
          · have := HDS.out
            have h1 : sz (x, y) = x.size + y.size + 32 := rfl
            omega
        have hfin : TAt wc g b' (addT t (x, y)) := by
          refine ⟨⟨ao', off', c', ?_⟩, addT_ok t (x, y), by show t.1 ≤ _; omega⟩
          rw [addT_none hsz]
          have := hT2.out
          rw [← HSS.out, hL20] at this
          show TRaw wc g b' (t.1 : Int) _ _ _ _ _
          rw [hM]
          exact this
        have HFN := Lib.hid hfin
        clear hfin hsz hL20
        go_wp2_with fail
        go_end0
        exact ⟨rfl, b', HFN.out, hK2.out, by rcases hb with h | h; exact .inl h; exact .inr (.inl h)⟩
end Go.Proofs.Ytamgnbjdeoklbaa
