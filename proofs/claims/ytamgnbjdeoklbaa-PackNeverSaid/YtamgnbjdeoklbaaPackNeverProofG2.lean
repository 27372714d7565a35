/- Texts of one proof, one behind the other: TbRefT, UpKnow, UpTells, PkShort, PfRefPut, Held, HfRefLow, HfOrd, HfRefCodes, HfRefEncode, PkRefTxt. -/
import Derived.Test.YtamgnbjdeoklbaaProg
import Derived.Test.YtamgnbjdeoklbaaBytes
import Derived.Test.YtamgnbjdeoklbaaGrown
import Derived.Test.YtamgnbjdeoklbaaTbAt
import Derived.Test.YtamgnbjdeoklbaaPackNeverProofG1
import Derived.Test.YtamgnbjdeoklbaaTcMem
import Derived.Test.YtamgnbjdeoklbaaUpMath
import Derived.Test.YtamgnbjdeoklbaaUpFit
import Derived.Test.YtamgnbjdeoklbaaTbMath
import Derived.Test.YtamgnbjdeoklbaaTbMem
import Derived.Test.YtamgnbjdeoklbaaTbLeast
import Derived.Test.YtamgnbjdeoklbaaTbFix
import Derived.Test.YtamgnbjdeoklbaaTcLow
import Derived.Test.YtamgnbjdeoklbaaTcShrink
import Derived.Test.YtamgnbjdeoklbaaTcAdd
import Derived.Test.YtamgnbjdeoklbaaTcAt
import Derived.Test.YtamgnbjdeoklbaaTbRef
import Derived.Test.YtamgnbjdeoklbaaTbAll
import Derived.Test.YtamgnbjdeoklbaaPfMath
import Derived.Test.YtamgnbjdeoklbaaPfFull
import Derived.Test.YtamgnbjdeoklbaaHfMath
import Derived.Test.YtamgnbjdeoklbaaHfLow
import Derived.Test.YtamgnbjdeoklbaaHfTab
import Derived.Test.YtamgnbjdeoklbaaHfTabs
import Derived.Test.YtamgnbjdeoklbaaHfSize
import Derived.WalkKit
import Derived.Lib.Hide
import Derived.Laws.Rows
import Derived.Outline
import Derived.IntWalk
import Derived.WalkSpells
import Derived.WalkLawsBesides
import Derived.Deep.RegionHeld3
import Derived.Below
import Derived.Laws.MakeOwn
import Derived.Deep.CutRange

/- The document's Resize and Add of a decoder's or an encoder's table; where such a table's row lies. For tables of 4096 at most. -/
namespace Go.Proofs.Ytamgnbjdeoklbaa
open Go Go.RowKit Bytes Tb Up

/-- A table of the document's that a call made of its own. -/
theorem tab_made {w : World} {base n : Nat} {v : Value} {L : List Ent} (h : w.ownsRow base 95 2 v n (entCs L)) (hn : n = L.length) (hp : L = [] → v = .slice none 0 0) :
    ∃ A c, v = .slice A n c ∧ TabE w w.heap.size A n c L ∧ ∀ b o, A = some ⟨b, o, none⟩ → base ≤ b := by
  obtain ⟨A, c, hv, hT⟩ := tabE_own h hn (fun h0 => hp (List.length_eq_zero_iff.1 (by omega)))
  refine ⟨A, c, hv, hT, fun b o hA => ?_⟩
  subst hA
  exact (h.lt b (by rw [hv]; rfl)).1
theorem tabE_rde {w : World} {B : Nat} {A : Option Addr} {n c : Nat} {L : List Ent} (h : TabE w B A n c L) : RdE w B A L ∧ L.length = n := by
  rcases h with ⟨rfl, _, rfl, rfl⟩ | ⟨b, o, rfl, _, h3, h4⟩
  · exact ⟨RdE.void w B none, rfl⟩
  · exact ⟨h4, h3⟩
theorem refRes_t (t : Tab) (m : Nat) (A : Option Addr) (c : Nat) (w : World) (h : Hid (TabE w w.heap.size A t.2.length c t.2)) (h4 : Hid (Up.Ok4 t)) (hm : m ≤ 4096) :
    Calls Try.prog 37 #[.agg #[.int .i64 (t.1 : Int), .slice A t.2.length c], .int .i64 (m : Int)] w fun e w' => ∃ A' c', e = .returned (.agg #[.int .i64 ((resT t m).1 : Int), .slice A' (resT t m).2.length c']) ∧ TabE w' w'.heap.size A' (resT t m).2.length c' (resT t m).2 ∧ Below w.heap.size w w' ∧ ∀ b o, A' = some ⟨b, o, none⟩ → w.heap.size ≤ b := by
  have hr := tabE_rde h.out
  have hf := (Ok4.fit h4.out).2.2
  refine (refResizeN_is (t.1 : Int) (m : Int) A t.2.length c t.2 (resT t m).2 w (Lib.hid rfl) (Lib.hid hr.1) (Lib.hid hf) (by omega) (by omega) (Lib.hid rfl)).mono ?_
  rintro e w' ⟨v, rfl, hO, hB, hp⟩
  obtain ⟨A', c', rfl, hT, hA⟩ := tab_made hO rfl hp.out
  exact ⟨A', c', rfl, hT, hB, hA⟩
theorem refAdd_t (t : Tab) (x y : ByteArray) (A : Option Addr) (c : Nat) (w : World) (h : Hid (TabE w w.heap.size A t.2.length c t.2)) (h4 : Hid (Up.Ok4 t)) (hx : x.size ≤ 1000000) (hy : y.size ≤ 1000000) :
    Calls Try.prog 41 #[.agg #[.int .i64 (t.1 : Int), .slice A t.2.length c], .string x, .string y] w fun e w' => ∃ A' c', e = .returned (.agg #[.int .i64 (t.1 : Int), .slice A' (addT t (x, y)).2.length c']) ∧ TabE w' w'.heap.size A' (addT t (x, y)).2.length c' (addT t (x, y)).2 ∧ Below w.heap.size w w' ∧ ∀ b o, A' = some ⟨b, o, none⟩ → w.heap.size ≤ b := by
  have hf := Ok4.fit h4.out
  have h41 := h4.out.1
  have hsz : sz (x, y) = x.size + y.size + 32 := rfl
  have hsum : sumL ((x, y) :: t.2) ≤ 1000000000 := by
    rw [sumL, hsz]
    have := h4.out.2
    unfold OkT at this
    omega
  have fin : ∀ (e : Ending) (w' : World), (∃ v, e = .returned (.agg #[.int .i64 (t.1 : Int), v]) ∧ w'.ownsRow w.heap.size 95 2 v (addT t (x, y)).2.length (entCs (addT t (x, y)).2) ∧ Below w.heap.size w w' ∧ Hid ((addT t (x, y)).2 = [] → v = .slice none 0 0)) →
      ∃ A' c', e = .returned (.agg #[.int .i64 (t.1 : Int), .slice A' (addT t (x, y)).2.length c']) ∧ TabE w' w'.heap.size A' (addT t (x, y)).2.length c' (addT t (x, y)).2 ∧ Below w.heap.size w w' ∧ ∀ b o, A' = some ⟨b, o, none⟩ → w.heap.size ≤ b := by
    rintro e w' ⟨v, rfl, hO, hB, hp⟩
    obtain ⟨A', c', rfl, hT, hA⟩ := tab_made hO rfl hp.out
    exact ⟨A', c', rfl, hT, hB, hA⟩
  obtain ⟨n, hn⟩ : ∃ n, t.2.length = n := ⟨_, rfl⟩
  rcases h.out with ⟨rfl, rfl, h3, h5⟩ | ⟨b, o, rfl, h2, h3, h5⟩
  · have hR : leastL [(x, y)] (t.1 : Int).toNat = (addT t (x, y)).2 := by unfold addT; rw [h5]; rfl
    rw [h3]
    refine (refAddN_nil (t.1 : Int) x y (addT t (x, y)).2 w (by rw [h5] at hsum; exact hsum) (by omega) (by omega) (Lib.hid hR)).mono fin
  · refine (refAddN_some (t.1 : Int) b o t.2.length c t.2 x y (addT t (x, y)).2 w (Lib.hid rfl) (Lib.hid h5) h2 (by have := hf.1; omega) hsum (by omega) (by omega) (Lib.hid rfl)).mono fin
theorem tabE_same {w w' : World} {A : Option Addr} {n c : Nat} {L : List Ent} (h : TabE w w.heap.size A n c L) (hs : w.heap.size ≤ w'.heap.size) (hb : ∀ b o, A = some ⟨b, o, none⟩ → w'.heap[b]? = w.heap[b]?) : TabE w' w'.heap.size A n c L := by
  rcases h with h0 | ⟨b, o, i1, i2, i3, i4⟩
  · exact .inl h0
  · refine .inr ⟨b, o, i1, i2, i3, fun hp => ?_⟩
    obtain ⟨b2, o2, e2, hbl, hc⟩ := i4 hp
    injection e2 with e2
    injection e2 with e2 e2'
    subst e2
    subst e2'
    have hk := hb b o i1
    exact ⟨b, o, rfl, Nat.lt_of_lt_of_le hbl hs, fun j hj => ⟨(World.cell?_of_block (a := ⟨b, o + j * 2, none⟩) hk).trans (hc j hj).1, (World.cell?_of_block (a := ⟨b, o + j * 2 + 1, none⟩) hk).trans (hc j hj).2⟩⟩
theorem tabE_lt {w : World} {B : Nat} {A : Option Addr} {n c : Nat} {L : List Ent} (h : TabE w B A n c L) (b o : Nat) (hA : A = some ⟨b, o, none⟩) : b < B := by
  rcases h with ⟨h0, _⟩ | ⟨b', o', i1, i2, i3, i4⟩
  · rw [hA] at h0; cases h0
  · rw [hA] at i1
    injection i1 with i1
    injection i1 with i1 _
    subst i1
    obtain ⟨b2, o2, e2, hbl, _⟩ := i4 (by omega)
    injection e2 with e2
    injection e2 with e2 _
    omega
end Go.Proofs.Ytamgnbjdeoklbaa

/- What the laws ask of a table: its length, size, greatest size; its entries by number. No condition. -/
namespace Go.Proofs.Ytamgnbjdeoklbaa
open Go.RowKit Tb
namespace Tb
theorem TAt.row {w : World} {g b : Nat} {t : Tab} (h : TAt w g b t) : ∃ ao c, w.heap[g]? = some (.cells #[.int .i64 (t.1 : Int), .int .i64 (sumL t.2 : Int), .slice ao t.2.length c] 80 (0, 0)) := by
  obtain ⟨⟨ao, off, c, hT⟩, _⟩ := h
  have h1 := hT.1
  rw [sum_rev, List.length_reverse] at h1
  exact ⟨ao, c, h1⟩
/-- An entry behind the fixed ones. -/
theorem at_mine {L : List Ent} {i : Nat} (h : i < L.length) : atR (fixedT ++ L) (62 + (i : Int)) = (entAt L i, true) := by
  have hf : fixedT.length = 61 := rfl
  have hl : (fixedT ++ L).length = 61 + L.length := by rw [List.length_append, hf]
  unfold atR
  have e1 : entAt (fixedT ++ L) (61 + i) = entAt L i := by
    have h2 := entAt_right (A := fixedT) (B := L) (k := 61 + i) (by rw [hf]; omega)
    rw [hf, show 61 + i - 61 = i by omega] at h2
    exact h2
  rw [if_neg (by rw [hl]; omega), show (62 + (i : Int)).toNat - 1 = 61 + i by omega, e1]
theorem at_none {L : List Ent} {i : Nat} (h : L.length ≤ i) : atR (fixedT ++ L) (62 + (i : Int)) = ((⟨#[]⟩, ⟨#[]⟩), false) := by
  have hf : fixedT.length = 61 := rfl
  have hl : (fixedT ++ L).length = 61 + L.length := by rw [List.length_append, hf]
  unfold atR
  rw [if_pos (.inr (by rw [hl]; omega))]
theorem entAt_least {L : List Ent} {m i : Nat} (h : i < (leastL L m).length) : entAt (leastL L m) i = entAt L i := by
  obtain ⟨k, hk, he⟩ := leastL_pre L m
  rw [he] at h ⊢
  rw [List.length_take] at h
  unfold entAt
  rw [List.getD_eq_getElem?_getD, List.getD_eq_getElem?_getD, List.getElem?_take_of_lt (by omega)]
end Tb
theorem len_t (g b : Nat) (t : Tab) (n : Nat) (w : World) (h : Hid (TAt w g b t)) (hn : Hid (t.2.length = n)) :
    Calls Try.prog 16 #[.pointer (some ⟨g, 0, none⟩)] w fun e w' => e = .returned (.int .i64 (n : Int)) ∧ w' = w := by
  obtain ⟨ao, c, hr⟩ := h.out.row
  rw [hn.out] at hr
  exact len_is g _ _ _ _ _ _ w (Lib.hid hr)
theorem size_t (g b : Nat) (t : Tab) (S : Nat) (w : World) (h : Hid (TAt w g b t)) (hn : Hid (sumL t.2 = S)) :
    Calls Try.prog 17 #[.pointer (some ⟨g, 0, none⟩)] w fun e w' => e = .returned (.int .i64 (S : Int)) ∧ w' = w := by
  obtain ⟨ao, c, hr⟩ := h.out.row
  rw [hn.out] at hr
  exact size_is g _ _ _ _ w (Lib.hid hr)
theorem most_t (g b : Nat) (t : Tab) (M : Int) (w : World) (h : Hid (TAt w g b t)) (hn : Hid ((t.1 : Int) = M)) :
    Calls Try.prog 18 #[.pointer (some ⟨g, 0, none⟩)] w fun e w' => e = .returned (.int .i64 M) ∧ w' = w := by
  obtain ⟨ao, c, hr⟩ := h.out.row
  rw [hn.out] at hr
  exact most_is g _ _ _ _ w (Lib.hid hr)
end Go.Proofs.Ytamgnbjdeoklbaa

/- A table of the program tells just what the document's does: the law's Tells. For tables that can be gone through. -/
namespace Go.Proofs.Ytamgnbjdeoklbaa
open Go.RowKit Tb

namespace Tb
/-- What same's calls keep. -/
def SmS (g E : Nat) (u0 u1 u2 m0 m1 : Value) (w w' : World) : Prop := w'.heap[g]? = some (.cells #[u0, u1, u2] 80 (0, 0)) ∧ w'.cell? ⟨E, 0, none⟩ = some m0 ∧ w'.cell? ⟨E, 1, none⟩ = some m1 ∧ Below w.heap.size w w'
end Tb

set_option maxHeartbeats 4000000 in
set_option maxRecDepth 100000 in
theorem tells_is (g b : Nat) (t : Tab) (A : Option Addr) (c : Nat) (w : World) (h : Hid (TAt w g b t)) (hf : Hid (Fit t)) (hm : Hid (TabE w w.heap.size A t.2.length c t.2)) :
    Calls Try.prog 24 #[.pointer (some ⟨g, 0, none⟩), .agg #[.int .i64 (t.1 : Int), .slice A t.2.length c]] w fun e w' => e = .returned (.bool true) ∧ Below w.heap.size w w' := by
  obtain ⟨⟨ao, off, cc, hT0⟩, hok, hmx⟩ := h.out
  have hln := hf.out.1
  have hsu := hf.out.2.2
  obtain ⟨n, hn⟩ : ∃ n, t.2.length = n := ⟨_, rfl⟩
  have hrl : t.2.reverse.length = n := by rw [List.length_reverse]; exact hn
  obtain ⟨M, hM⟩ : ∃ M : Int, (t.1 : Int) = M := ⟨_, rfl⟩
  obtain ⟨S, hS⟩ : ∃ S : Nat, sumL t.2 = S := ⟨_, rfl⟩
  unfold TRaw at hT0
  rw [hrl, sum_rev, hM, hS] at hT0
  have hm2 := hm.out
  rw [hn] at hln hm2 ⊢
  rw [hM]
  rw [hS] at hsu
  obtain ⟨E, hE⟩ : ∃ E, w.heap.size = E := ⟨_, rfl⟩
  obtain ⟨W, hW⟩ : ∃ W, w.alloc (.cells #[.int .i64 M, .slice A n c] 49) = W := ⟨_, rfl⟩
  have hBW : Below E w W := by rw [← hW, ← hE]; exact (Below.refl _ w).alloc (Nat.le_refl _) _
  have k0 : W.heap[E]? = some (.cells #[.int .i64 M, .slice A n c] 49 (0, 0)) := by rw [← hW, ← hE]; exact heap_alloc_new w _
  have hTW := h.out.below (w' := W) (by rw [hE]; exact hBW)
  have hMW : TabE W W.heap.size A n c t.2 := hm2.on (by rw [hE]; exact hBW) (by have := hBW.size; omega)
  have hgW : W.heap[g]? = some (.cells #[.int .i64 M, .int .i64 (S : Int), .slice ao n cc] 80 (0, 0)) := (hBW.block g (by rw [← hE]; exact world_lt hT0.1)).trans hT0.1
  obtain ⟨a1, a2, a3, a4⟩ := two_cells k0
  obtain ⟨q1, q2, _, _⟩ := two_cells (w := W.drew) k0
  have HS0 : SmS g E (.int .i64 M) (.int .i64 (S : Int)) (.slice ao n cc) (.int .i64 M) (.slice A n c) W W := ⟨hgW, a1, a2, Below.refl _ _⟩
  have HS1 : SmS g E (.int .i64 M) (.int .i64 (S : Int)) (.slice ao n cc) (.int .i64 M) (.slice A n c) W W.drew := ⟨hgW, q1, q2, (Below.refl _ _).drew⟩
  have HMo : Hid (∀ X, SmS g E (.int .i64 M) (.int .i64 (S : Int)) (.slice ao n cc) (.int .i64 M) (.slice A n c) W X → Calls Try.prog 18 #[.pointer (some ⟨g, 0, none⟩)] X fun e w' => e = .returned (.int .i64 M) ∧ w' = X) := Lib.hid fun X hX => most_is g _ _ _ _ X (Lib.hid hX.1)
  have HSi : Hid (∀ X, SmS g E (.int .i64 M) (.int .i64 (S : Int)) (.slice ao n cc) (.int .i64 M) (.slice A n c) W X → Calls Try.prog 17 #[.pointer (some ⟨g, 0, none⟩)] X fun e w' => e = .returned (.int .i64 (S : Int)) ∧ w' = X) := Lib.hid fun X hX => size_is g _ _ _ _ X (Lib.hid hX.1)
  have HLe : Hid (∀ X, SmS g E (.int .i64 M) (.int .i64 (S : Int)) (.slice ao n cc) (.int .i64 M) (.slice A n c) W X → Calls Try.prog 16 #[.pointer (some ⟨g, 0, none⟩)] X fun e w' => e = .returned (.int .i64 (n : Int)) ∧ w' = X) := Lib.hid fun X hX => len_is g _ _ _ _ _ _ X (Lib.hid hX.1)
  have hrd : ∀ X, Below W.heap.size W X → TabE X X.heap.size A n c t.2 := fun X hX => hMW.on hX hX.size
  have HRd := Lib.hid hrd
  have HRs : Hid (∀ X, SmS g E (.int .i64 M) (.int .i64 (S : Int)) (.slice ao n cc) (.int .i64 M) (.slice A n c) W X → Calls Try.prog 42 #[.agg #[.int .i64 M, .slice A n c]] X fun e w' => e = .returned (.int .i64 (S : Int)) ∧ w'.cell? ⟨E, 0, none⟩ = some (.int .i64 M) ∧ w'.cell? ⟨E, 1, none⟩ = some (.slice A n c) ∧ SmS g E (.int .i64 M) (.int .i64 (S : Int)) (.slice ao n cc) (.int .i64 M) (.slice A n c) W w') := Lib.hid fun X hX => by
    have hre : RdE X X.heap.size A t.2 := by
      rcases HRd.out X hX.2.2.2 with ⟨_, _, _, h4⟩ | ⟨r, o, h1, _, _, h4⟩
      · rw [h4]; exact RdE.void _ _ _
      · rw [h1]; exact h4
    refine (refSize_is M A n c t.2 S X (Lib.hid hn) (Lib.hid hre) (Lib.hid (by rw [hS]; exact hsu)) (Lib.hid hS)).mono fun e w' ⟨he, hB⟩ => ?_
    have e0 := (hB.cell (p := ⟨E, 0, none⟩) (World.block_lt_of_cell? _ _ hX.2.1)).trans hX.2.1
    have e1 := (hB.cell (p := ⟨E, 1, none⟩) (World.block_lt_of_cell? _ _ hX.2.2.1)).trans hX.2.2.1
    exact ⟨he, e0, e1, (hB.block g (world_lt hX.1)).trans hX.1, e0, e1, hX.2.2.2.trans (hB.mono hX.2.2.2.size)⟩
  have HBW := Lib.hid hBW
  have G := Lib.hid hE
  have HTW := Lib.hid hTW
  clear hrd hMW hTW hBW k0 hgW
  go_enter Try.func24, Try.ntmps24
  go_upto_region 1 with fail
  go_region_held3 (fun w' => w'.cell? ⟨E, 0, none⟩ = some (.int .i64 M) ∧ w'.cell? ⟨E, 1, none⟩ = some (.slice A n c) ∧ SmS g E (.int .i64 M) (.int .i64 (S : Int)) (.slice ao n cc) (.int .i64 M) (.slice A n c) W w') (first | go_keep | exact ⟨a1, a2, HS0⟩ | exact ⟨q1, q2, HS1⟩ | exact ⟨c0, c1, hS5⟩) (first | (go_at_call 18; (with_reducible refine (HMo.out _ ?_).mono ?_); (first | assumption | (simp [*])); rintro e w5 ⟨rfl, rfl⟩) | (go_at_call 17; (with_reducible refine (HSi.out _ ?_).mono ?_); (first | assumption | (simp [*])); rintro e w5 ⟨rfl, rfl⟩) | (go_at_call 16; (with_reducible refine (HLe.out _ ?_).mono ?_); (first | assumption | (simp [*])); rintro e w5 ⟨rfl, rfl⟩) | (go_at_call 42; (with_reducible refine (HRs.out _ ?_).mono ?_); (first | assumption | (simp [*])); rintro e w5 ⟨rfl, c0, c1, hS5⟩))
  have hB5 := hS5.2.2.2
  have HB5 := Lib.hid hB5
  have hWE : E < W.heap.size := by have := HBW.out.size; rw [← hW, World.size_alloc, hE]; omega
  have HWE := Lib.hid hWE
  have k0 : W.heap[E]? = some (.cells #[.int .i64 M, .slice A n c] 49 (0, 0)) := by rw [← hW, ← hE]; exact heap_alloc_new w _
  have HK0 := Lib.hid k0
  clear hB5 hS5 HS0 HS1 a1 a2 a3 a4 q1 q2 hWE k0 c0 c1
  go_wp2_with fail
  go_loopw [5, 6, 7, 8] (fun i u6 u7 u8 wr => ∃ k : Nat, k ≤ n ∧ i = .int .i64 (k : Int) ∧ Hid (Below W.heap.size W wr)) (fun i _ _ _ _ => n - (intOf i).toNat)
  case atStart => exact ⟨0, by omega, rfl, HB5⟩
  case round =>
    obtain ⟨k, hk, rfl, hBw⟩ := hrel
    obtain ⟨p1, p2, _, _⟩ := two_cells ((hBw.out.block E HWE.out).trans HK0.out)
    by_cases hlt : k < n
    · have hli : (k : Int) < (n : Int) := by omega
      have hk0 : (0 : Int) ≤ (k : Int) := by omega
      obtain ⟨e, he⟩ : ∃ e, entAt t.2 k = e := ⟨_, rfl⟩
      obtain ⟨x, y⟩ := e
      have hR := at_mine (L := t.2) (i := k) (by rw [hn]; exact hlt)
      rw [he] at hR
      have e1 : IntKind.i64.wrap ((k : Int) + 1) = ((k + 1 : Nat) : Int) := by rw [IntKind.wrap_i64]; omega
      obtain ⟨z, hz⟩ : ∃ z : Int, 62 + (k : Int) = z := ⟨_, rfl⟩
      have e2 : IntKind.i64.wrap (62 + (k : Int)) = z := by rw [IntKind.wrap_i64]; omega
      rw [hz] at hR
      have HR := Lib.hid hR
      have HTr := Lib.hid (HTW.out.below hBw.out)
      have hz1 : -9223372036854775808 ≤ z := by omega
      have hz2 : z ≤ 9223372036854775807 := by omega
      have HE := Lib.hid he
      clear hR hz he
      go_wp2_with fail
      refine (at_is g b t z x y true wr HTr hf hz1 hz2 HR).mono ?_
      rintro e w7 ⟨rfl, hB7⟩
      have hBW7 := hBw.out.trans (hB7.mono hBw.out.size)
      obtain ⟨r1, r2, _, _⟩ := two_cells ((hBW7.block E HWE.out).trans HK0.out)
      have hM7 := HRd.out w7 hBW7
      have HBW7 := Lib.hid hBW7
      clear hB7 hBW7 p1 p2
      rcases hM7 with ⟨_, _, h3, _⟩ | ⟨bb, oo, hA, _, _, h4⟩
      · omega
      · subst hA
        obtain ⟨b2, o2, e3, _, hc⟩ := h4 (by rw [hn]; omega)
        injection e3 with e3
        injection e3 with e3 e4
        subst e3
        subst e4
        have hck := hc k (by rw [hn]; exact hlt)
        rw [HE.out] at hck
        obtain ⟨m1, m2⟩ := hck
        have hof := off_add_addr bb oo (k * 2)
        have fx : (x.toList == x.toList) = true := beq_self_eq_true _
        have fy : (y.toList == y.toList) = true := beq_self_eq_true _
        clear h4 hc
        go_wp2_with fail
        go_roundw
        case rel => exact ⟨k + 1, by omega, rfl, HBW7⟩
        case measure => simp [intOf] <;> omega
    · have hli : ¬ (k : Int) < (n : Int) := by omega
      have hfin := Lib.hid (HBW.out.trans (hBw.out.mono (by have := HBW.out.size; have := G.out; omega)))
      go_wp2_with fail
      go_ret
      exact ⟨rfl, by first | exact hfin.out | (rw [G.out]; exact hfin.out)⟩
end Go.Proofs.Ytamgnbjdeoklbaa

/- Header blocks as they are sent, as mathematics: what is written a second time is a byte a field; a field that is never to be put into a table leaves it. No program. -/
namespace Go.Proofs.Ytamgnbjdeoklbaa.Pk
open Go.RowKit Bytes Pf Tb Up

def entF (x : Fld) : Ent := (x.name, x.val)
/-- What fields are as entries: the sum of their sizes. -/
def sumF (L : List Fld) : Nat := sumL (L.map entF)
theorem findW_mem (n v : ByteArray) : ∀ (l : List Ent) (i : Nat), (n, v) ∈ l → ∃ k, findW n v l i = some k
  | [], _, h => by cases h
  | e :: l, i, h => by
    rw [findW]
    by_cases he : e.1 = n ∧ e.2 = v
    · exact ⟨i + 1, by rw [if_pos he]⟩
    · rw [if_neg he]
      rcases List.mem_cons.1 h with h | h
      · exact absurd (by rw [← h]; exact ⟨rfl, rfl⟩) he
      · exact findW_mem n v l (i + 1) h
theorem findT_mem {n v : ByteArray} {l : List Ent} (h : (n, v) ∈ l) : ∃ k, findT n v l = (k, true) := by
  obtain ⟨k, hk⟩ := findW_mem n v l 0 h
  exact ⟨k, by unfold findT; rw [hk]⟩
theorem entAt_mem : ∀ {l : List Ent} {k : Nat}, k < l.length → entAt l k ∈ l
  | [], k, h => absurd h (Nat.not_lt_zero k)
  | e :: l, 0, _ => List.mem_cons_self
  | e :: l, k + 1, h => by rw [entAt_cons]; exact List.mem_cons_of_mem _ (entAt_mem (by rw [List.length_cons] at h; omega))
theorem mem_find {n v : ByteArray} {l : List Ent} {k : Nat} (h : findT n v l = (k, true)) : (n, v) ∈ l := by
  obtain ⟨h1, h2, h3⟩ := find_whole h
  rw [atR_in h1 h2] at h3
  injection h3 with h3 _
  rw [← h3]
  exact entAt_mem (by omega)
/-- A field that has room: it is there behind it, and all that was there. -/
theorem one_keeps (t : Tab) (x : Fld) (hn : x.never = false) (hr : sumL t.2 + sz (entF x) ≤ t.1) :
    (one t x).2.1 = t.1 ∧ entF x ∈ fixedT ++ (one t x).2.2 ∧ (∀ e, e ∈ t.2 → e ∈ (one t x).2.2) ∧ sumL (one t x).2.2 ≤ sumL t.2 + sz (entF x) ∧ (one t x).2.2.length ≤ t.2.length + 1 := by
  unfold one
  rw [if_neg (by rw [hn]; decide)]
  obtain ⟨⟨k, q⟩, hf⟩ : ∃ r, findT x.name x.val (fixedT ++ t.2) = r := ⟨_, rfl⟩
  rw [hf]
  simp only
  cases q with
  | true =>
    rw [if_pos rfl]
    exact ⟨rfl, mem_find hf, fun e h => h, Nat.le_add_right _ _, Nat.le_add_right _ _⟩
  | false =>
    rw [if_neg (by decide), if_pos (show sz (x.name, x.val) ≤ t.1 by show sz (entF x) ≤ t.1; omega)]
    have e : (addT t (x.name, x.val)).2 = (x.name, x.val) :: t.2 := by
      unfold addT
      exact leastL_fits _ _ (by rw [sumL]; show sz (entF x) + sumL t.2 ≤ t.1; omega)
    show t.1 = t.1 ∧ entF x ∈ fixedT ++ (addT t (x.name, x.val)).2 ∧ (∀ y, y ∈ t.2 → y ∈ (addT t (x.name, x.val)).2) ∧ sumL (addT t (x.name, x.val)).2 ≤ _ ∧ (addT t (x.name, x.val)).2.length ≤ _
    rw [e]
    refine ⟨rfl, List.mem_append_right _ List.mem_cons_self, fun y h => List.mem_cons_of_mem _ h, ?_, Nat.le_of_eq List.length_cons⟩
    rw [sumL]
    show sz (entF x) + sumL t.2 ≤ _
    omega
/-- Fields that all have room: each is there behind them. -/
theorem all_keeps : ∀ (L : List Fld) (t : Tab), (∀ x ∈ L, x.never = false) → sumL t.2 + sumF L ≤ t.1 →
    (all t L).2.1 = t.1 ∧ (∀ x ∈ L, entF x ∈ fixedT ++ (all t L).2.2) ∧ (∀ e, e ∈ t.2 → e ∈ (all t L).2.2) ∧ (all t L).2.2.length ≤ t.2.length + L.length
  | [], t, _, _ => by
    rw [all]
    exact ⟨rfl, fun x h => absurd h (List.not_mem_nil), fun e h => h, Nat.le_refl _⟩
  | x :: L, t, hn, hr => by
    have e0 : sumF (x :: L) = sz (entF x) + sumF L := rfl
    rw [e0] at hr
    obtain ⟨h1, h2, h3, h4, h5⟩ := one_keeps t x (hn x List.mem_cons_self) (by omega)
    obtain ⟨i1, i2, i3, i4⟩ := all_keeps L (one t x).2 (fun y h => hn y (List.mem_cons_of_mem _ h)) (by rw [h1]; omega)
    have e : (all t (x :: L)).2 = (all (one t x).2 L).2 := by rw [all]
    rw [e]
    refine ⟨i1.trans h1, fun y hy => ?_, fun y hy => i3 y (h3 y hy), by rw [List.length_cons]; omega⟩
    rcases List.mem_cons.1 hy with rfl | hy
    · rcases List.mem_append.1 h2 with h | h
      · exact List.mem_append_left _ h
      · exact List.mem_append_right _ (i3 _ h)
    · exact i2 y hy
theorem putL_one (k : Nat) (h : k < 127) : (putL 127 128 k).length = 1 := by
  unfold putL
  rw [if_pos h]
  rfl
/-- Fields that are all there, within reach of a byte: a byte each, and the table stands. -/
theorem all_again : ∀ (L : List Fld) (t : Tab), (∀ x ∈ L, x.never = false ∧ entF x ∈ fixedT ++ t.2) → (fixedT ++ t.2).length < 127 → (all t L).1.length = L.length ∧ (all t L).2 = t
  | [], _, _, _ => ⟨rfl, rfl⟩
  | x :: L, t, h, hl => by
    obtain ⟨hn, hm⟩ := h x List.mem_cons_self
    obtain ⟨k, hk⟩ := findT_mem hm
    have hk2 := (find_whole hk).2.1
    have e : one t x = (putL 127 128 k, t) := by
      unfold one
      rw [hk, if_neg (by rw [hn]; decide)]
      rfl
    obtain ⟨i1, i2⟩ := all_again L t (fun y hy => h y (List.mem_cons_of_mem _ hy)) hl
    rw [all, e]
    refine ⟨?_, i2⟩
    show (putL 127 128 k ++ (all t L).1).length = _
    rw [List.length_append, putL_one k (by omega), i1, List.length_cons, Nat.add_comm]
theorem heads_nil (t : Tab) : heads (t, []) = [] := by
  show ((if t.1 < t.1 then putL 31 32 t.1 else []) ++ if ([] : List Nat) = [] then [] else putL 31 32 t.1) = []
  rw [if_neg (Nat.lt_irrefl _), if_pos rfl]
  rfl
/-- What is written a second time, where the table has room for all of it: a byte a field; the table stands. -/
theorem short (L : List Fld) (hn : ∀ x ∈ L, x.never = false) (hs : sumF L ≤ 4096) (hl : L.length ≤ 40) :
    (wrote (behind (newT 4096, []) L) L).length = L.length ∧ behind (behind (newT 4096, []) L) L = behind (newT 4096, []) L := by
  obtain ⟨_, h2, _, h4⟩ := all_keeps L (newT 4096) hn (by show 0 + sumF L ≤ 4096; omega)
  have hlen : (fixedT ++ (all (newT 4096) L).2.2).length < 127 := by
    have : (newT 4096).2.length = 0 := rfl
    rw [List.length_append, fixedT_len]
    omega
  obtain ⟨a1, a2⟩ := all_again L (all (newT 4096) L).2 (fun x hx => ⟨hn x hx, h2 x hx⟩) hlen
  unfold wrote behind
  rw [heads_nil, List.nil_append]
  exact ⟨a1, by rw [a2]⟩
/-- A field that is never to be put into a table leaves it. -/
theorem never_stays (c : Enc) (x : Fld) (h : x.never = true) : behind c [x] = (c.1, []) := by
  unfold behind
  rw [all, all]
  unfold one
  rw [if_pos h]
end Go.Proofs.Ytamgnbjdeoklbaa.Pk

/- The contract of the document's Put: a text with an integer behind it. For texts of at most 10^6 bytes. -/
namespace Go.Proofs.Ytamgnbjdeoklbaa
open Go.RowKit Bytes Pf

set_option maxHeartbeats 1000000 in
set_option maxRecDepth 100000 in
theorem refPut_is (s : ByteArray) (r : List UInt8) (c n : Nat) (b : Int) (w : World) (hs : s.size ≤ 1000000) (hc : c < 256) (hn : n < 18446744073709551616) (h3 : -9223372036854775808 ≤ b) (h4 : b ≤ 9223372036854775807) (h : Hid (putL (fullN b) c n = r)) :
    Calls Try.prog 38 #[.string s, .int .u8 c, .int .i64 b, .int .u64 n] w fun e w' => e = .returned (.string (mk (s.data.toList ++ r))) ∧ Below w.heap.size w w' := by
  have hF := fullN_is b
  obtain ⟨f, hf⟩ : ∃ f, fullN b = f := ⟨_, rfl⟩
  have hh := h.out
  rw [hf] at hh hF
  have HF := Lib.hid hf
  have hfb := isF_bd hF
  have hB := (first_mod hF hc (Nat.le_refl f)).2
  unfold putL at hh
  obtain ⟨q, hq⟩ : ∃ q, c / (f + 1) = q := ⟨_, rfl⟩
  have hq2 : (c : Int) / ((f : Int) + 1) = (q : Int) := by rw [← hq, Int.natCast_ediv, Int.natCast_add]; rfl
  rw [hq] at hh hB
  obtain ⟨o, ho⟩ : ∃ o, q * (f + 1) = o := ⟨_, rfl⟩
  have ho2 : (q : Int) * ((f : Int) + 1) = (o : Int) := by rw [← ho, Int.natCast_mul, Int.natCast_add]; rfl
  rw [ho] at hh hB
  have hqb : q < 256 := by rw [← hq]; exact Nat.lt_of_le_of_lt (Nat.div_le_self _ _) hc
  clear hq ho hf
  have HH := Lib.hid hh; clear hh
  generalize hg : w.heap.size = g at *
  have G := Lib.hid hg; clear hg
  have hwc : IntKind.u64.wrap (c : Int) = (c : Int) := by rw [IntKind.wrap_u64]; omega
  have hwq : IntKind.u64.wrap (q : Int) = (q : Int) := by rw [IntKind.wrap_u64]; omega
  have hwo : IntKind.u64.wrap (o : Int) = (o : Int) := by rw [IntKind.wrap_u64]; omega
  have hrl := putL_few (fullN b) c n hn
  rw [h.out] at hrl
  by_cases hnf : n < f
  · have hr2 := HH.out
    rw [if_pos hnf] at hr2
    have hon : o + n < 256 := by omega
    have hc2 : (convert 71 9 (.slice (some ⟨w.heap.size, 0, none⟩) 1 1)).run Try.prog (w.alloc (.cells #[.int .u8 ((o : Int) + (n : Int))] 5)) = .ok (.string (mk [UInt8.ofNat (o + n)])) (w.alloc (.cells #[.int .u8 ((o : Int) + (n : Int))] 5)) := conv_new w [UInt8.ofNat (o + n)] _ 1 (by show _ = [Value.int .u8 ((UInt8.ofNat (o + n)).toNat : Int)]; rw [nat_of hon]; rfl) rfl
    rw [hr2] at hc2
    have hq0 := mk_size r
    have hcat : mk (s.data.toList ++ r) = s ++ mk r := by rw [← mk_cat, mk_data]
    rw [hcat]
    generalize mk r = t at *
    have ht : t.size ≤ 11 := by omega
    clear HH hr2 hcat hq0
    go_enter Try.func38, Try.ntmps38
    go_wp2_with fail
    refine (refFull_is b f _ h3 h4 HF).mono ?_
    rintro e w' ⟨rfl, rfl⟩
    go_wp2_with fail
    go_ret
    exact ⟨rfl, (Below.refl _ _).alloc (by have := G.out; omega) _⟩
  · have hr2 := HH.out
    rw [if_neg hnf] at hr2
    have hon : o + f < 256 := by omega
    have hc2 : (convert 71 9 (.slice (some ⟨w.heap.size, 0, none⟩) 1 1)).run Try.prog (w.alloc (.cells #[.int .u8 ((o : Int) + (f : Int))] 5)) = .ok (.string (mk [UInt8.ofNat (o + f)])) (w.alloc (.cells #[.int .u8 ((o : Int) + (f : Int))] 5)) := conv_new w [UInt8.ofNat (o + f)] _ 1 (by show _ = [Value.int .u8 ((UInt8.ofNat (o + f)).toNat : Int)]; rw [nat_of hon]; rfl) rfl
    obtain ⟨m, rfl⟩ : ∃ m, n = f + m := ⟨n - f, by omega⟩
    rw [Nat.add_sub_cancel_left] at hr2
    have hm : m < 18446744073709551616 := by omega
    have hsub : (f : Int) + (m : Int) - (f : Int) = (m : Int) := by omega
    have hq0 := mk_size [UInt8.ofNat (o + f)]
    have hD : Hid ((s ++ mk [UInt8.ofNat (o + f)]).data.toList ++ gs m = s.data.toList ++ r) := by
      show _ = _
      rw [cat_list, mk_list, List.append_assoc, List.singleton_append, hr2]
    generalize mk [UInt8.ofNat (o + f)] = t at *
    have ht : t.size ≤ 1 := by rw [hq0]; exact Nat.le_refl _
    obtain ⟨R0, hR0⟩ : ∃ R0, mk (s.data.toList ++ r) = R0 := ⟨_, rfl⟩
    rw [hR0]
    have HR0 := Lib.hid hR0
    clear HH hr2 hq0 hR0
    go_enter Try.func38, Try.ntmps38
    go_wp2_with fail
    refine (refFull_is b f _ h3 h4 HF).mono ?_
    rintro e w' ⟨rfl, rfl⟩
    go_wp2_with fail
    go_loopw [0, 3] (fun v u wr => ∃ (z : Nat) (T : ByteArray), u = .int .u64 z ∧ z ≤ m ∧ v = .string T ∧ Hid (T.data.toList ++ gs z = s.data.toList ++ r) ∧ Below g w wr) (fun _ u _ => (intOf u).toNat)
    case atStart => exact ⟨m, _, rfl, Nat.le_refl _, rfl, hD, (Below.refl _ _).alloc (by have := G.out; omega) _⟩
    case round =>
      obtain ⟨z, T, rfl, hz, rfl, hT, hBw⟩ := hrel
      have hTl := congrArg List.length hT.out
      rw [List.length_append, List.length_append, ← Lib.size_eq, ← Lib.size_eq] at hTl
      have hTs : T.size ≤ 1000011 := by omega
      clear hTl
      have hgr : g ≤ wr.heap.size := by have := hBw.size; have := G.out; omega
      by_cases hz2 : 127 < z
      · have hyb : 128 + z % 128 < 256 := by omega
        have hc3 : (convert 71 9 (.slice (some ⟨wr.heap.size, 0, none⟩) 1 1)).run Try.prog (wr.alloc (.cells #[.int .u8 (128 + (z : Int) % 128)] 5)) = .ok (.string (mk [UInt8.ofNat (128 + z % 128)])) (wr.alloc (.cells #[.int .u8 (128 + (z : Int) % 128)] 5)) := conv_new wr [UInt8.ofNat (128 + z % 128)] _ 1 (by show _ = [Value.int .u8 ((UInt8.ofNat (128 + z % 128)).toNat : Int)]; rw [nat_of hyb]; rfl) rfl
        have hq0 := mk_size [UInt8.ofNat (128 + z % 128)]
        have hT2 : Hid ((T ++ mk [UInt8.ofNat (128 + z % 128)]).data.toList ++ gs (z / 128) = s.data.toList ++ r) := by
          show _ = _
          rw [cat_list, mk_list, List.append_assoc, List.singleton_append, ← gs_ge (by omega), hT.out]
        generalize mk [UInt8.ofNat (128 + z % 128)] = t2 at *
        have ht2 : t2.size ≤ 1 := by rw [hq0]; exact Nat.le_refl _
        clear hq0 hT
        go_wp2_with fail
        go_roundw
        case rel => exact ⟨z / 128, _, by go_num, by omega, rfl, hT2, hBw.alloc hgr _⟩
        case measure => simp [intOf]; omega
      · have hzb : z < 128 := by omega
        have hc3 : (convert 71 9 (.slice (some ⟨wr.heap.size, 0, none⟩) 1 1)).run Try.prog (wr.alloc (.cells #[.int .u8 (z : Int)] 5)) = .ok (.string (mk [UInt8.ofNat z])) (wr.alloc (.cells #[.int .u8 (z : Int)] 5)) := conv_new wr [UInt8.ofNat z] _ 1 (by show _ = [Value.int .u8 ((UInt8.ofNat z).toNat : Int)]; rw [nat_of (by omega)]) rfl
        have hq0 := mk_size [UInt8.ofNat z]
        have hE : R0 = T ++ mk [UInt8.ofNat z] := by
          apply list_inj
          rw [cat_list, mk_list, ← gs_lt hzb, hT.out, ← HR0.out, mk_list]
        have HE := Lib.hid hE
        generalize mk [UInt8.ofNat z] = t2 at *
        have ht2 : t2.size ≤ 1 := by rw [hq0]; exact Nat.le_refl _
        clear hq0 hT hE
        go_wp2_with fail
        go_ret
        exact ⟨by rw [HE.out]; rfl, hBw.alloc hgr _⟩
end Go.Proofs.Ytamgnbjdeoklbaa

/- Nothing that stood has changed: under a name. No condition. -/
namespace Go.Proofs.Ytamgnbjdeoklbaa
open Go Go.RowKit

/-- Nothing that stood in world w has changed. -/
def Held (w w' : World) : Prop := Below w.heap.size w w'
end Go.Proofs.Ytamgnbjdeoklbaa

/- The contract of the document's Bits: a number as letters 0 and 1. For at most 64 of them. -/
namespace Go.Proofs.Ytamgnbjdeoklbaa
open Go.RowKit Bytes Hf

namespace Hf
/-- Bits as letters. -/
def bitL (l : List Bool) : List UInt8 := l.map fun b => if b then 49 else 48
theorem bitL_cat (a b : List Bool) : bitL (a ++ b) = bitL a ++ bitL b := List.map_append ..
theorem bitL_len (l : List Bool) : (bitL l).length = l.length := List.length_map ..
theorem bits_low (m k : Nat) : bits (m / 2 ^ k) 1 = [m / 2 ^ k % 2 == 1] := by
  show [m / 2 ^ k / 2 ^ 0 % 2 == 1] = _
  rw [Nat.pow_zero, Nat.div_one]
/-- The letter of one bit. -/
theorem bit_letter (q : Nat) : (UInt8.ofNat (48 + q % 2)) = if (q % 2 == 1) then 49 else 48 := by
  rcases Nat.mod_two_eq_zero_or_one q with h | h <;> rw [h] <;> rfl
theorem bitL_step (m k : Nat) : bitL (bits m (k + 1)) = UInt8.ofNat (48 + m / 2 ^ k % 2) :: bitL (bits m k) := by
  rw [bit_letter]
  rfl
end Hf

set_option maxHeartbeats 4000000 in
set_option maxRecDepth 100000 in
theorem bits_is (m n : Nat) (w : World) (hm : m < 18446744073709551616) (hn : n ≤ 64) :
    Calls Try.prog 80 #[.int .u64 (m : Int), .int .i64 (n : Int)] w fun e w' => e = .returned (.string (mk (bitL (Hf.bits m n)))) ∧ Below w.heap.size w w' := by
  obtain ⟨r, hr⟩ : ∃ r, mk (bitL (Hf.bits m n)) = r := ⟨_, rfl⟩
  rw [hr]
  have R := Lib.hid hr; clear hr
  go_enter Try.func80, Try.ntmps80
  go_wp2_with fail
  go_loopw [0, 5, 6] (fun a b i wr => ∃ (k q : Nat) (t : ByteArray), k ≤ n ∧ a = .int .u64 (q : Int) ∧ b = .string t ∧ i = .int .i64 (k : Int) ∧ t.size = k ∧ Hid (q = m / 2 ^ k) ∧ Hid (t = mk (bitL (Hf.bits m k))) ∧ Below w.heap.size w wr) (fun _ _ i _ => n - (intOf i).toNat)
  case atStart => exact ⟨0, m, mk [], Nat.zero_le _, rfl, rfl, rfl, rfl, Lib.hid (by rw [Nat.pow_zero, Nat.div_one]), Lib.hid rfl, Below.refl _ _⟩
  case round =>
    obtain ⟨k, q, t, hk, rfl, rfl, rfl, ht, hq, hT, hB⟩ := hrel
    by_cases hlt : k < n
    · have hqb : q < 18446744073709551616 := by rw [hq.out]; exact Nat.lt_of_le_of_lt (Nat.div_le_self _ _) hm
      have e1 : IntKind.u64.wrap (48 + (q : Int) % 2) = 48 + (q : Int) % 2 := by rw [IntKind.wrap_u64]; omega
      have e2 : IntKind.u8.wrap (48 + (q : Int) % 2) = 48 + (q : Int) % 2 := by rw [IntKind.wrap_u8]; omega
      have hz : ((UInt8.ofNat (48 + q % 2)).toNat : Int) = 48 + (q : Int) % 2 := by rw [UInt8.toNat_ofNat', Nat.mod_eq_of_lt (by omega)]; omega
      have hc2 : (convert 71 9 (.slice (some ⟨wr.heap.size, 0, none⟩) 1 1)).run Try.prog (wr.alloc (.cells #[.int .u8 (48 + (q : Int) % 2)] 5)) = .ok (.string (mk [UInt8.ofNat (48 + q % 2)])) (wr.alloc (.cells #[.int .u8 (48 + (q : Int) % 2)] 5)) := conv_new wr [UInt8.ofNat (48 + q % 2)] _ 1 (by show _ = [Value.int .u8 ((UInt8.ofNat (48 + q % 2)).toNat : Int)]; rw [hz]) rfl
      obtain ⟨y, hy⟩ : ∃ y, UInt8.ofNat (48 + q % 2) = y := ⟨_, rfl⟩
      rw [hy] at hz hc2
      have HY := Lib.hid hy
      clear hy
      have hu : (mk [y]).size = 1 := rfl
      clear hz
      go_wp2_with fail
      have hsz : (mk [y] ++ t).size = k + 1 := by rw [ByteArray.size_append, hu, ht]; omega
      have HQ := Lib.hid (show q / 2 = m / 2 ^ (k + 1) by rw [hq.out, Nat.pow_succ, Nat.div_div_eq_div_mul])
      have HT := Lib.hid (show mk [y] ++ t = mk (bitL (Hf.bits m (k + 1))) by rw [bitL_step, ← hq.out, HY.out, hT.out, mk_cat]; rfl)
      go_roundw
      case rel => exact ⟨k + 1, q / 2, _, by omega, by rw [Int.natCast_ediv]; rfl, rfl, rfl, hsz, HQ, HT, hB.alloc hB.size _⟩
      case measure => simp [intOf]; omega
    · have e : k = n := by omega
      subst e
      rw [R.out] at hT
      go_wp2_with fail
      go_ret
      exact ⟨by rw [hT.out]; rfl, hB⟩
end Go.Proofs.Ytamgnbjdeoklbaa

/- The codes of layer 10 as the document makes them: the signs in order of their lengths, each code the one ahead of it and 1, with noughts behind it. No program. -/
namespace Go.Proofs.Ytamgnbjdeoklbaa.Hf

/-- The signs of one length, from a sign on. -/
def row (n a : Nat) : List Nat := (List.range' a (257 - a)).filter fun s => len s == n
/-- The signs of all lengths from one on. -/
def rest : Nat → Nat → List Nat
  | 0, _ => []
  | k + 1, n => row n 0 ++ rest k (n + 1)
/-- What is still to come, ahead of a sign in a length's round. -/
def todo (n a : Nat) : List Nat := row n a ++ rest (30 - n) (n + 1)
theorem todo_all : todo 5 0 = ord := by decide +kernel
theorem row_step {n a : Nat} (h : a < 257) : row n a = if len a = n then a :: row n (a + 1) else row n (a + 1) := by
  unfold row
  rw [show 257 - a = (257 - (a + 1)) + 1 by omega, List.range'_succ, List.filter_cons]
  by_cases e : len a = n
  · rw [if_pos e, if_pos (by simp [e])]
  · rw [if_neg e, if_neg (by simp [e])]
theorem todo_yes {n a : Nat} (h : a < 257) (e : len a = n) : todo n a = a :: todo n (a + 1) := by
  unfold todo
  rw [row_step h, if_pos e, List.cons_append]
theorem todo_no {n a : Nat} (h : a < 257) (e : len a ≠ n) : todo n a = todo n (a + 1) := by
  unfold todo
  rw [row_step h, if_neg e]
theorem todo_next {n : Nat} (h : n < 30) : todo n 257 = todo (n + 1) 0 := by
  unfold todo
  rw [show row n 257 = [] from rfl, List.nil_append, show 30 - n = (30 - (n + 1)) + 1 by omega]
  rfl
theorem todo_end : todo 30 257 = [] := rfl
theorem chain_chk : ((List.range 256).all fun i => decide (len (ord.getD i 0) ≤ len (ord.getD (i + 1) 0)) && decide ((cd (ord.getD i 0) + 1) * 2 ^ (len (ord.getD (i + 1) 0) - len (ord.getD i 0)) = cd (ord.getD (i + 1) 0)) && decide (cd (ord.getD i 0) < 1073741824)) = true := by decide +kernel
theorem ord_len : ord.length = 257 := by decide +kernel
theorem chain_first {s : Nat} {T : List Nat} (h : s :: T = ord) : s = 48 ∧ cd s = 0 ∧ len s = 5 := by
  have e : s = ord.getD 0 0 := by rw [← h]; rfl
  rw [e]
  decide +kernel
theorem chain_next {P T : List Nat} {p s : Nat} (h : (P ++ [p]) ++ s :: T = ord) : len p ≤ len s ∧ (cd p + 1) * 2 ^ (len s - len p) = cd s ∧ cd p < 1073741824 := by
  have hl := congrArg List.length h
  rw [List.length_append, List.length_append, List.length_singleton, List.length_cons, ord_len] at hl
  have e1 : ord.getD P.length 0 = p := by
    rw [← h, List.append_assoc, List.getD_eq_getElem?_getD, List.getElem?_append_right (Nat.le_refl _), Nat.sub_self]
    rfl
  have e2 : ord.getD (P.length + 1) 0 = s := by
    rw [← h, List.getD_eq_getElem?_getD, List.getElem?_append_right (by rw [List.length_append, List.length_singleton]; exact Nat.le_refl _), List.length_append, List.length_singleton, Nat.sub_self]
    rfl
  have := all_lt chain_chk P.length (by omega)
  rw [e1, e2] at this
  simp only [Bool.and_eq_true, decide_eq_true_eq] at this
  exact ⟨this.1.1, this.1.2, this.2⟩
/-- The codes that were laid: those of these signs. -/
def laid (P : List Nat) : List Nat := P.foldl (fun o s => o.set s (cd s)) (List.replicate 257 0)
theorem laid_snoc (P : List Nat) (s : Nat) : laid (P ++ [s]) = (laid P).set s (cd s) := by
  unfold laid
  rw [List.foldl_append]
  rfl
theorem laid_len (P : List Nat) : (laid P).length = 257 := by
  have h : ∀ (P : List Nat) (o : List Nat), (P.foldl (fun o s => o.set s (cd s)) o).length = o.length := by
    intro P
    induction P with
    | nil => intro o; rfl
    | cons p P ih => intro o; rw [List.foldl_cons, ih, List.length_set]
  exact (h P _).trans List.length_replicate
theorem laid_all : laid ord = cds := by decide +kernel
/-- The last code that was laid, its length, and whether none was. -/
def lastC (P : List Nat) : Nat := match P.getLast? with | some p => cd p | none => 0
def lastL (P : List Nat) : Nat := match P.getLast? with | some p => len p | none => 5
theorem lastC_snoc (P : List Nat) (s : Nat) : lastC (P ++ [s]) = cd s := by unfold lastC; rw [List.getLast?_concat]
theorem lastL_snoc (P : List Nat) (s : Nat) : lastL (P ++ [s]) = len s := by unfold lastL; rw [List.getLast?_concat]
/-- The next code out of the last one. -/
theorem next_code {P T : List Nat} {s : Nat} (h : P ++ s :: T = ord) (h0 : P ≠ []) : lastL P ≤ len s ∧ (lastC P + 1) * 2 ^ (len s - lastL P) = cd s ∧ lastC P < 1073741824 := by
  obtain ⟨Q, p, rfl⟩ : ∃ Q p, P = Q ++ [p] := ⟨P.dropLast, P.getLast h0, (List.dropLast_concat_getLast h0).symm⟩
  rw [lastC_snoc, lastL_snoc]
  exact chain_next h
theorem first_code {T : List Nat} {s : Nat} (h : [] ++ s :: T = ord) : lastL [] = len s ∧ lastC [] = cd s := by
  have := chain_first h
  exact ⟨this.2.2.symm, this.2.1.symm⟩
end Go.Proofs.Ytamgnbjdeoklbaa.Hf

/- The contract of the document's Codes: the codes of all signs, made in order of their lengths. No condition. -/
namespace Go.Proofs.Ytamgnbjdeoklbaa
open Go.RowKit Bytes Hf

namespace Hf
theorem info25 : (Try.prog.info? 88).map (fun i => (i.zero, i.size, i.bytes)) = some (some (.int .u64 0), 1, 8) := by kernel_rfl
/-- The cells while the signs P are laid. -/
def celP (P : List Nat) (i : Nat) : Value := .int .u64 ((laid P).getD i 0 : Int)
theorem celP_snoc (P : List Nat) {s : Nat} (h : s < 257) : tab 257 (upd (celP P) s (.int .u64 (cd s : Int))) = tab 257 (celP (P ++ [s])) := by
  apply tab_congr
  intro i hi
  unfold celP
  rw [laid_snoc, List.getD_eq_getElem?_getD (l := (laid P).set s (cd s)), List.getElem?_set]
  by_cases e : s = i
  · subst e
    rw [upd_same, if_pos rfl, if_pos (by rw [laid_len]; exact h)]
    rfl
  · rw [upd_ne _ _ (fun h => e h.symm), if_neg e, List.getD_eq_getElem?_getD]
theorem made_cells : madeCells (Value.int .u64 0).cells 257 = tab 257 (celP []) := by kernel_rfl
/-- The codes' row. -/
structure CdB (g : Nat) (w w' : World) (f : Nat → Value) : Prop where
  below : Below g w w'
  row : w'.heap[g]? = some (.cells (tab 257 f) 88 (0, 0))
theorem CdB.set {g : Nat} {w w' : World} {P : List Nat} (h : CdB g w w' (celP P)) {s : Nat} (hs : s < 257) : CdB g w (w'.setCell ⟨g, s, none⟩ (.int .u64 (cd s : Int))) (celP (P ++ [s])) :=
  ⟨h.below.setCell (Nat.le_refl _) _, by rw [heap_setCell_same _ _ _ _ _ _ h.row, tab_set, celP_snoc P hs]⟩
theorem make_codes (W : World) : (Instr.makeSlice 131 (.int .i64 257) (.int .i64 257)).run Try.prog W = .ok (.slice (some ⟨W.heap.size, 0, none⟩) 257 257) (W.alloc (.cells (tab 257 (celP [])) 88)) := by
  obtain ⟨i0, hi, hz0, hz1, hz2⟩ := info_parts info25
  have h := run_make (P := Try.prog) W 131 88 i0 (.int .u64 0) Try.underlying131 hi hz0 .i64 .i64 257 257 (by omega) (by omega) (by rw [hz2]; omega) (by omega)
  rw [hz1] at h
  rw [← made_cells]
  simpa using h
theorem todo_over : todo 31 0 = [] := by decide +kernel
theorem todo_up {n : Nat} (h : n ≤ 30) : todo n 257 = todo (n + 1) 0 := by
  rcases Nat.lt_or_ge n 30 with h1 | h1
  · exact todo_next h1
  · rw [show n = 30 by omega, todo_end, todo_over]
theorem cdB_all {g : Nat} {w w' : World} {P : List Nat} (h : CdB g w w' (celP P)) (hP : P ++ todo 31 0 = ord) : w'.heap[g]? = some (.cells (tab 257 fun i => .int .u64 (cd i : Int)) 88 (0, 0)) := by
  rw [todo_over, List.append_nil] at hP
  rw [h.row, hP]
  have : tab 257 (celP ord) = tab 257 fun i => .int .u64 (cd i : Int) := by
    apply tab_congr
    intro i _
    unfold celP
    rw [laid_all]
    rfl
  rw [this]
end Hf

set_option maxHeartbeats 4000000 in
set_option maxRecDepth 100000 in
theorem refCodes_is (w : World) :
    Calls Try.prog 79 #[] w fun e w' => e = .returned (.slice (some ⟨w.heap.size, 0, none⟩) 257 257) ∧ w'.heap[w.heap.size]? = some (.cells (tab 257 fun i => .int .u64 (cd i : Int)) 88 (0, 0)) ∧ Below w.heap.size w w' := by
  have hmk := make_codes
  have H0 := Lib.hid (show CdB w.heap.size w (w.alloc (.cells (tab 257 (celP [])) 88)) (celP []) from ⟨(Below.refl _ w).alloc (Nat.le_refl _) _, heap_alloc_new w _⟩)
  obtain ⟨c0, hc0⟩ : ∃ c0, tab 257 (celP []) = c0 := ⟨_, rfl⟩
  rw [hc0] at hmk H0
  clear hc0
  go_enter Try.func79, Try.ntmps79
  go_wp2_with fail
  go_loopw [2, 3, 4, 5] (fun c l b n wr => ∃ (P : List Nat) (N : Nat), 5 ≤ N ∧ N ≤ 31 ∧ c = .int .u64 (lastC P : Int) ∧ l = .int .i64 (lastL P : Int) ∧ b = .bool P.isEmpty ∧ n = .int .i64 (N : Int) ∧ Hid (P ++ todo N 0 = ord) ∧ Hid (CdB w.heap.size w wr (celP P))) (fun _ _ _ n _ => 31 - (intOf n).toNat)
  case atStart => exact ⟨[], 5, by omega, by omega, rfl, rfl, rfl, rfl, Lib.hid todo_all, H0⟩
  clear H0 hmk
  case round =>
    obtain ⟨P, N, h5, h31, rfl, rfl, rfl, rfl, hP, hC⟩ := hrel
    by_cases hlt : N ≤ 30
    · have hdN : decide ((N : Int) ≤ 30) = true := by rw [decide_eq_true_eq]; omega
      go_wp2_with fail
      obtain ⟨wo, rfl⟩ : ∃ wo : World, wo = wr := ⟨_, rfl⟩
      go_loopw [2, 3, 4, 6] (fun c l b n wi => ∃ (P : List Nat) (a : Nat), a ≤ 257 ∧ c = .int .u64 (lastC P : Int) ∧ l = .int .i64 (lastL P : Int) ∧ b = .bool P.isEmpty ∧ n = .int .i64 (a : Int) ∧ Hid (P ++ todo N a = ord) ∧ Hid (CdB w.heap.size w wi (celP P))) (fun _ _ _ n _ => 257 - (intOf n).toNat)
      case atStart => exact ⟨P, 0, by omega, rfl, rfl, rfl, rfl, hP, hC⟩
      clear hP hC
      case round =>
        obtain ⟨P, a, ha, rfl, rfl, rfl, rfl, hP, hC⟩ := hrel
        by_cases hat : a < 257
        · by_cases hno : len a = N
          · by_cases hemp : P = []
            · have hP2 := Lib.hid (show (P ++ [a]) ++ todo N (a + 1) = ord by rw [List.append_assoc]; show P ++ (a :: todo N (a + 1)) = ord; rw [← todo_yes hat hno]; exact hP.out)
              have hpa := hP.out
              rw [todo_yes hat hno] at hpa
              subst hemp
              have hcd : lastL [] ≤ N ∧ 0 * 2 ^ (N - lastL []) = cd a := by
                have := first_code hpa
                rw [← hno]
                exact ⟨Nat.le_of_eq this.1, by rw [Nat.zero_mul]; exact this.2⟩
              have hz0 : (lastC [] : Int) = (0 : Nat) := rfl
              obtain ⟨z, hz⟩ : ∃ z, 0 = z := ⟨_, rfl⟩
              rw [hz] at hcd hz0
              have hzz : (0 : Int) = (z : Int) := by omega
              clear hz
              have hbd := (len_bd hat).2.2.1
              have hl30 := (len_bd hat).2.1
              have hcdb : cd a < 1073741824 := Nat.lt_of_lt_of_le hbd (Nat.pow_le_pow_right (by decide) hl30)
              obtain ⟨L, hL⟩ : ∃ L, lastL [] = L := ⟨_, rfl⟩
              rw [hL] at hcd
              have hC2 := Lib.hid (hC.out.set hat)
              have hx1 : wr.cell? ⟨w.heap.size, a, none⟩ = some (celP [] a) := by rw [cell_of_row _ _ _ _ _ _ hC.out.row, tab_get _ hat]
              have hx2 : wr.frozen? ⟨w.heap.size, a, none⟩ = false := frozen_of_row _ _ _ _ _ hC.out.row
              have heq : ((N : Int) != (N : Int)) = false := bne_self_eq_false _
              have HCD := Lib.hid hcd.2
              have hLN := hcd.1
              have hcN : len a = N := hno
              clear hpa hP hcd hbd hl30 hC
              have RL := refLength_is a wr hat
              rw [hno] at RL
              go_wp2_with fail
              refine RL.mono ?_
              rintro e w' ⟨rfl, rfl⟩
              go_wp2_with fail
              go_loop [2, 3] (fun c l => ∃ (j y : Nat), L + j ≤ N ∧ c = .int .u64 (y : Int) ∧ l = .int .i64 ((L + j : Nat) : Int) ∧ Hid (z * 2 ^ j = y)) (fun _ l => N - (intOf l).toNat)
              case atStart => exact ⟨0, z, by omega, rfl, rfl, Lib.hid (Nat.mul_one z)⟩
              case round =>
                obtain ⟨j, y, hj, rfl, rfl, hy⟩ := hrel
                by_cases hjn : L + j < N
                · have hyb : y * 2 ≤ cd a := by
                    rw [← HCD.out, ← hy.out, Nat.mul_assoc, ← Nat.pow_succ]
                    exact Nat.mul_le_mul_left _ (Nat.pow_le_pow_right (by decide) (by omega))
                  have e1 : IntKind.u64.wrap ((y : Int) * 2) = ((y * 2 : Nat) : Int) := by rw [IntKind.wrap_u64]; omega
                  have HY := Lib.hid (show z * 2 ^ (j + 1) = y * 2 by rw [← hy.out, Nat.pow_succ, Nat.mul_assoc])
                  go_wp2_with fail
                  go_round
                  case rel => exact ⟨j + 1, y * 2, by omega, rfl, rfl, HY⟩
                  case measure => simp [intOf]; omega
                · have e : j = N - L := by omega
                  subst e
                  have hyc : y = cd a := by rw [← hy.out]; exact HCD.out
                  subst hyc
                  go_wp2_with fail
                  go_roundw
                  case rel =>
                    exact ⟨[] ++ [a], a + 1, by omega, by rw [lastC_snoc], by rw [lastL_snoc, hcN]; congr 1; omega, by simp, rfl, hP2, hC2⟩
                  case measure => simp [intOf]; omega
            · have hP2 := Lib.hid (show (P ++ [a]) ++ todo N (a + 1) = ord by rw [List.append_assoc]; show P ++ (a :: todo N (a + 1)) = ord; rw [← todo_yes hat hno]; exact hP.out)
              have hpa := hP.out
              rw [todo_yes hat hno] at hpa
              have hcd : lastL P ≤ N ∧ (lastC P + 1) * 2 ^ (N - lastL P) = cd a := by
                have := next_code hpa hemp
                rw [← hno]
                exact ⟨this.1, this.2.1⟩
              have hzb := (next_code hpa hemp).2.2
              obtain ⟨z, hz⟩ : ∃ z, lastC P + 1 = z := ⟨_, rfl⟩
              rw [hz] at hcd
              have hz0 : IntKind.u64.wrap ((lastC P : Int) + 1) = (z : Int) := by rw [IntKind.wrap_u64]; omega
              clear hzb
              have hpe : P.isEmpty = false := by cases P with
                | nil => exact absurd rfl hemp
                | cons p P => rfl
              have hbd := (len_bd hat).2.2.1
              have hl30 := (len_bd hat).2.1
              have hcdb : cd a < 1073741824 := Nat.lt_of_lt_of_le hbd (Nat.pow_le_pow_right (by decide) hl30)
              obtain ⟨L, hL⟩ : ∃ L, lastL P = L := ⟨_, rfl⟩
              rw [hL] at hcd
              have hC2 := Lib.hid (hC.out.set hat)
              have hx1 : wr.cell? ⟨w.heap.size, a, none⟩ = some (celP P a) := by rw [cell_of_row _ _ _ _ _ _ hC.out.row, tab_get _ hat]
              have hx2 : wr.frozen? ⟨w.heap.size, a, none⟩ = false := frozen_of_row _ _ _ _ _ hC.out.row
              have heq : ((N : Int) != (N : Int)) = false := bne_self_eq_false _
              have HCD := Lib.hid hcd.2
              have hLN := hcd.1
              have hcN : len a = N := hno
              clear hpa hP hcd hbd hl30 hC
              have RL := refLength_is a wr hat
              rw [hno] at RL
              go_wp2_with fail
              refine RL.mono ?_
              rintro e w' ⟨rfl, rfl⟩
              go_wp2_with fail
              go_loop [2, 3] (fun c l => ∃ (j y : Nat), L + j ≤ N ∧ c = .int .u64 (y : Int) ∧ l = .int .i64 ((L + j : Nat) : Int) ∧ Hid (z * 2 ^ j = y)) (fun _ l => N - (intOf l).toNat)
              case atStart => exact ⟨0, z, by omega, rfl, rfl, Lib.hid (Nat.mul_one z)⟩
              case round =>
                obtain ⟨j, y, hj, rfl, rfl, hy⟩ := hrel
                by_cases hjn : L + j < N
                · have hyb : y * 2 ≤ cd a := by
                    rw [← HCD.out, ← hy.out, Nat.mul_assoc, ← Nat.pow_succ]
                    exact Nat.mul_le_mul_left _ (Nat.pow_le_pow_right (by decide) (by omega))
                  have e1 : IntKind.u64.wrap ((y : Int) * 2) = ((y * 2 : Nat) : Int) := by rw [IntKind.wrap_u64]; omega
                  have HY := Lib.hid (show z * 2 ^ (j + 1) = y * 2 by rw [← hy.out, Nat.pow_succ, Nat.mul_assoc])
                  go_wp2_with fail
                  go_round
                  case rel => exact ⟨j + 1, y * 2, by omega, rfl, rfl, HY⟩
                  case measure => simp [intOf]; omega
                · have e : j = N - L := by omega
                  subst e
                  have hyc : y = cd a := by rw [← hy.out]; exact HCD.out
                  subst hyc
                  go_wp2_with fail
                  go_roundw
                  case rel =>
                    exact ⟨P ++ [a], a + 1, by omega, by rw [lastC_snoc], by rw [lastL_snoc, hcN]; congr 1; omega, by simp, rfl, hP2, hC2⟩
                  case measure => simp [intOf]; omega
          · have hP2 := Lib.hid (show P ++ todo N (a + 1) = ord by rw [← todo_no hat hno]; exact hP.out)
            have hne : ((len a : Int) != (N : Int)) = true := by rw [bne_iff_ne]; omega
            go_wp2_with fail
            refine (refLength_is a _ hat).mono ?_
            rintro e w' ⟨rfl, rfl⟩
            go_wp2_with fail
            go_roundw
            case rel =>
              exact ⟨P, a + 1, by omega, rfl, rfl, rfl, rfl, hP2, hC⟩
            case measure => simp [intOf]; omega
        · have e : a = 257 := by omega
          subst e
          have hP2 := Lib.hid (show P ++ todo (N + 1) 0 = ord by rw [← todo_up hlt]; exact hP.out)
          go_wp2_with fail
          go_roundw
          case rel => exact ⟨P, N + 1, by omega, by omega, rfl, rfl, rfl, rfl, hP2, hC⟩
          case measure => simp [intOf]; omega
    · have e : N = 31 := by omega
      subst e
      go_wp2_with fail
      go_ret
      exact ⟨rfl, cdB_all hC.out hP.out, hC.out.below⟩
end Go.Proofs.Ytamgnbjdeoklbaa

/- The contract of the document's Encode. For texts of at most 10^6 bytes. -/
namespace Go.Proofs.Ytamgnbjdeoklbaa
open Go.RowKit Bytes Hf

namespace Hf
theorem pack_cons (x h : Nat) (b : Bool) (r : List Bool) : pack x h (b :: r) = if h = 7 then UInt8.ofNat (2 * x + bn b) :: pack 0 0 r else pack (2 * x + bn b) (h + 1) r := by rw [pack]
theorem pack_fill {x h : Nat} (h1 : 1 ≤ h) (h7 : h < 7) : pack (2 * x + 1) (h + 1) [] = pack x h [] := by
  have hp : 0 < 2 ^ (7 - h) := Nat.pow_pos (by decide)
  rw [pack, pack, if_neg (by omega), if_neg (by omega), show 8 - (h + 1) = 7 - h by omega, show 8 - h = 7 - h + 1 by omega, Nat.pow_succ]
  congr 2
  rw [Nat.add_mul, Nat.one_mul, Nat.mul_comm 2 x, Nat.mul_assoc, Nat.mul_comm 2 (2 ^ (7 - h)), ← Nat.mul_assoc]
  omega
theorem pack_last (x : Nat) : pack x 7 [] = [UInt8.ofNat (2 * x + 1)] := by
  rw [pack, if_neg (by decide), show 8 - 7 = 1 by rfl, Nat.pow_one]
  congr 2
  omega
theorem pack_none (x : Nat) : pack x 0 [] = [] := by rw [pack, if_pos rfl]
theorem enc_bound {l : List UInt8} {s : List UInt8} {x h : Nat} {B : List Bool} (e : l ++ pack x h B = enc s) : l.length ≤ 4 * s.length + 1 := by
  have h1 := congrArg List.length e
  have h2 := (encB_len s).2
  rw [List.length_append, enc_len] at h1
  omega
theorem bitL_get {bs : List Bool} {j : Nat} (h : j < bs.length) : (((bitL bs).getD j 0).toNat : Int) = 48 + (bn (bs.getD j false) : Int) := by
  unfold bitL
  rw [List.getD_eq_getElem?_getD, List.getElem?_map, List.getD_eq_getElem?_getD, List.getElem?_eq_getElem h]
  show (((if bs[j] = true then (49 : UInt8) else 48).toNat : Nat) : Int) = _
  cases bs[j] <;> rfl
theorem drop_bit {bs : List Bool} {j : Nat} (h : j < bs.length) : bs.drop j = bs.getD j false :: bs.drop (j + 1) := by
  rw [List.drop_eq_getElem_cons h, List.getD_eq_getElem?_getD, List.getElem?_eq_getElem h]
  rfl
theorem two_pow {h : Nat} (h7 : h ≤ 7) {x : Nat} (hx : x < 2 ^ h) : x < 128 := Nat.lt_of_lt_of_le hx (Nat.pow_le_pow_right (by decide) h7 : 2 ^ h ≤ 2 ^ 7)
end Hf

theorem len_held (s : Nat) (p : Addr) (v : Value) (w W : World) (h : s < 257) (hS : W.cell? p = some v ∧ Held w W) :
    Calls Try.prog 81 #[.int .i64 (s : Int)] W fun e w' => e = .returned (.int .i64 (len s : Int)) ∧ w'.cell? p = some v ∧ Held w w' :=
  (refLength_is s W h).mono fun _ _ ⟨he, hw⟩ => by subst hw; exact ⟨he, hS⟩
theorem bits_held (m n : Nat) (t : ByteArray) (p : Addr) (v : Value) (w W : World) (hm : m < 18446744073709551616) (hn : n ≤ 64) (ht : Hid (t = mk (bitL (Hf.bits m n)))) (hp : p.block < w.heap.size) (hS : W.cell? p = some v ∧ Held w W) :
    Calls Try.prog 80 #[.int .u64 (m : Int), .int .i64 (n : Int)] W fun e w' => e = .returned (.string t) ∧ w'.cell? p = some v ∧ Held w w' := by
  rw [ht.out]
  have h3 : Below w.heap.size w W := hS.2
  have hle := h3.size
  exact (bits_is m n W hm hn).mono fun _ _ ⟨he, hB⟩ => ⟨he, (hB.cell (by omega)).trans hS.1, h3.trans (hB.mono hle)⟩

set_option maxHeartbeats 4000000 in
set_option maxRecDepth 100000 in
theorem refEncode_is (s : ByteArray) (r : ByteArray) (w : World) (hs : s.size ≤ 1000000) (h : Hid (mk (enc s.data.toList) = r)) :
    Calls Try.prog 68 #[.string s] w fun e w' => e = .returned (.string r) ∧ Below w.heap.size w w' := by
  obtain ⟨i0, hi, hz0, hz1, hz2⟩ := info_parts info5
  have HI := Lib.hid hi; clear hi
  have HZ0 := Lib.hid hz0; clear hz0
  have HZ1 := Lib.hid hz1; clear hz1
  have HZ2 := Lib.hid hz2; clear hz2
  obtain ⟨E, hE⟩ : ∃ E, Hid (enc s.data.toList = E) := ⟨_, rfl⟩
  go_enter Try.func68, Try.ntmps68
  go_wp2_with fail
  refine (refCodes_is _).mono ?_
  rintro e w1 ⟨rfl, hrow, hB0⟩
  have HROW := Lib.hid hrow
  have HB0 := Lib.hid hB0
  have hlt1 : w.heap.size < w1.heap.size := by
    have := (Array.getElem?_eq_some_iff.1 hrow).1
    exact this
  clear hrow hB0
  generalize hg : w1.heap.size = g at *
  have G := Lib.hid hg; clear hg
  go_wp2_with fail
  go_loopw [4, 5, 6, 7] (fun o x h i wr => ∃ (k : Nat) (l : List UInt8) (xn hn : Nat), k ≤ s.size + 1 ∧ x = .int .i64 (xn : Int) ∧ h = .int .i64 (hn : Int) ∧ i = .int .i64 (k : Int) ∧ hn ≤ 7 ∧ Hid (xn < 2 ^ hn) ∧ Hid (wr.ownsRow g 5 1 o l.length (Bytes.byteCells l)) ∧ Hid (l ++ pack xn hn (encB (s.data.toList.drop k)) = E) ∧ Below g w1 wr) (fun _ _ _ i _ => s.size + 1 - (intOf i).toNat)
  case atStart => exact ⟨0, [], 0, 0, by omega, rfl, rfl, rfl, by omega, Lib.hid (by decide), Lib.hid (World.ownsRow_nil _ _ _ _), hE, Below.refl _ _⟩
  case round =>
    obtain ⟨k, l, xn, hn, hk, rfl, rfl, rfl, h7, hx, hO, hF, hB⟩ := hrel
    by_cases hle : k ≤ s.size
    · have hdk : decide ((k : Int) ≤ (s.size : Int)) = true := by rw [decide_eq_true_eq]; omega
      go_upto_if 20 with fail
      go_cut [8] from 11 to 55 (fun v wx => ∃ (bs : List Bool) (t : ByteArray), v = .string t ∧ Hid (t.data.toList = bitL bs) ∧ Hid (bs ++ encB (s.data.toList.drop (k + 1)) = encB (s.data.toList.drop k)) ∧ Hid (Below wr.heap.size wr wx) ∧ bs.length ≤ 30)
      case first =>
        by_cases hlt : k < s.size
        · obtain ⟨y, hy⟩ : ∃ y, s[k] = y := ⟨_, rfl⟩
          have hyl := byte_lt y
          have hyb := y.toNat_lt
          have hlb := len_bd hyl
          have hcb : cd y.toNat < 18446744073709551616 := Nat.lt_of_lt_of_le hlb.2.2.1 (Nat.le_trans (Nat.pow_le_pow_right (by decide) hlb.2.1) (by decide))
          have hcc : wr.cell? ⟨w.heap.size, y.toNat, none⟩ = some (.int .u64 (cd y.toNat : Int)) := by
            rw [cell_of_row _ _ _ _ _ _ ((hB.block _ hlt1).trans HROW.out), tab_get _ hyl]
          have hw1 : IntKind.i64.wrap (y.toNat : Int) = (y.toNat : Int) := by rw [IntKind.wrap_i64]; omega
          have hk1 : (0 : Int) ≤ (k : Int) := by omega
          have hk2 : (k : Int) < (s.size : Int) := by omega
          have hy1 : (0 : Int) ≤ (y.toNat : Int) := by omega
          have hy2 : (y.toNat : Int) < 257 := by omega
          have hH : Held wr wr := Below.refl _ _
          have hHd : Held wr wr.drew := (Below.refl _ _).drew
          have hwl : w.heap.size < wr.heap.size := by have := hB.size; have := G.out; omega
          obtain ⟨bs, hbs⟩ : ∃ bs, Hf.bits (cd y.toNat) (len y.toNat) = bs := ⟨_, rfl⟩
          have hbl : bs.length = len y.toNat := by rw [← hbs, bits_len]
          obtain ⟨t, ht⟩ : ∃ t, Hid (t = mk (bitL (Hf.bits (cd y.toNat) (len y.toNat)))) := ⟨_, rfl⟩
          have htl : Hid (t.data.toList = bitL bs) := Lib.hid (by rw [ht.out, hbs]; rfl)
          have hts : t.size = bs.length := by rw [Lib.size_eq, htl.out, bitL_len]
          have hbe : bs ++ encB (s.data.toList.drop (k + 1)) = encB (s.data.toList.drop k) := by
            rw [drop_cons (l := s.data.toList) (k := k) (by rw [← Lib.size_eq]; exact hlt), getD_byte hlt, hy, ← hbs]
            rfl
          have HBE := Lib.hid hbe
          clear hbe hbs
          have HBL := Lib.hid hbl
          clear hbl
          generalize hm : len y.toNat = m at *
          generalize cd y.toNat = c at *
          have RL := fun W (hS : W.cell? ⟨w.heap.size, y.toNat, none⟩ = some (.int .u64 (c : Int)) ∧ Held wr W) => len_held y.toNat ⟨w.heap.size, y.toNat, none⟩ _ wr W hyl hS
          rw [hm] at RL
          have HM := Lib.hid hm
          have HRL := Lib.hid RL
          clear hm RL
          go_wp2_with fail
          go_region_held3 (fun w' => w'.cell? ⟨w.heap.size, y.toNat, none⟩ = some (.int .u64 (c : Int)) ∧ Held wr w') (go_keep)
            (first | (go_at_call 81; (with_reducible refine (HRL.out _ ?_).mono ?_); (simp [*]); rintro e w3 ⟨rfl, k0, hH3⟩) | (go_at_call 80; (with_reducible refine (bits_held c m t ⟨w.heap.size, y.toNat, none⟩ (.int .u64 (c : Int)) wr _ hcb (by omega) ht hwl ?_).mono ?_); (simp [*]); rintro e w3 ⟨rfl, k0, hH3⟩))
          all_goals
            have hbm : bs.length ≤ 30 := by rw [HBL.out]; omega
            have HH3 := Lib.hid (show Below wr.heap.size wr w3 from hH3)
            go_wp2_with fail
            go_meet
            exact ⟨bs, t, rfl, htl, HBE, HH3, hbm⟩
        · have HBE := Lib.hid (show [] ++ encB (s.data.toList.drop (k + 1)) = encB (s.data.toList.drop k) by
            rw [List.drop_of_length_le (l := s.data.toList) (i := k) (by rw [← Lib.size_eq]; omega), List.drop_of_length_le (l := s.data.toList) (i := k + 1) (by rw [← Lib.size_eq]; omega)]
            rfl)
          go_wp2_with fail
          go_meet
          exact ⟨[], _, rfl, Lib.hid rfl, HBE, Lib.hid (Below.refl _ _), by decide⟩
      case rest =>
        obtain ⟨bs, t, rfl, htl, HBE, hH3, hbm⟩ := hcut
        generalize wc = w3 at *
        have hB3 : Below g w1 w3 := hB.trans (hH3.out.mono (by have := hB.size; have := G.out; omega))
        have hO3 := Lib.hid (own_below hO.out hH3.out)
        have HF := Lib.hid (show l ++ pack xn hn (bs ++ encB (s.data.toList.drop (k + 1))) = E by rw [HBE.out]; exact hF.out)
        have hts : t.size = bs.length := by rw [Lib.size_eq, htl.out, bitL_len]
        obtain ⟨R, hR⟩ : ∃ R, Hid (encB (s.data.toList.drop (k + 1)) = R) := ⟨_, rfl⟩
        rw [hR.out] at HF
        obtain ⟨m, hm⟩ : ∃ m, bs.length = m := ⟨_, rfl⟩
        rw [hm] at hts hbm
        have HBL := Lib.hid hm
        clear hm HBE hB hO hF hH3
        go_wp2_with fail
        go_loopw [4, 5, 6, 9] (fun o x h i wi => ∃ (j : Nat) (l : List UInt8) (xn hn : Nat), j ≤ m ∧ x = .int .i64 (xn : Int) ∧ h = .int .i64 (hn : Int) ∧ i = .int .i64 (j : Int) ∧ hn ≤ 7 ∧ Hid (xn < 2 ^ hn) ∧ Hid (wi.ownsRow g 5 1 o l.length (Bytes.byteCells l)) ∧ Hid (l ++ pack xn hn (bs.drop j ++ R) = E) ∧ Below g w1 wi) (fun _ _ _ i _ => m - (intOf i).toNat)
        case atStart => exact ⟨0, l, xn, hn, by omega, rfl, rfl, rfl, h7, hx, hO3, HF, hB3⟩
        clear hO3 HF hB3 h7 hx
        case round =>
          obtain ⟨j, l, xn, hn, hj, rfl, rfl, rfl, h7, hx, hO, hF, hB⟩ := hrel
          have hx128 := two_pow h7 hx.out
          by_cases hjm : j < m
          · have hjb : j < bs.length := by rw [HBL.out]; exact hjm
            have hjt : j < t.size := by rw [hts]; exact hjm
            obtain ⟨z, hz⟩ : ∃ z, t[j] = z := ⟨_, rfl⟩
            have hzn : (z.toNat : Int) = 48 + (bn (bs.getD j false) : Int) := by rw [← hz, ← getD_byte hjt, htl.out, bitL_get hjb]
            have hbn := bn_le (bs.getD j false)
            have hF1 := hF.out
            have hlb3 := enc_bound (hF.out.trans hE.out.symm)
            rw [← Lib.size_eq] at hlb3
            rw [drop_bit hjb, List.cons_append, pack_cons] at hF1
            obtain ⟨bt, hbt⟩ : ∃ bt, bn (bs.getD j false) = bt := ⟨_, rfl⟩
            rw [hbt] at hF1 hbn hzn
            obtain ⟨v, hv⟩ : ∃ v, 2 * xn + bt = v := ⟨_, rfl⟩
            rw [hv] at hF1
            have e0 : IntKind.i64.wrap (48 + (bt : Int)) = 48 + (bt : Int) := by rw [IntKind.wrap_i64]; omega
            have e1 : IntKind.i64.wrap ((xn : Int) * 2) = (xn : Int) * 2 := by rw [IntKind.wrap_i64]; omega
            have e2 : IntKind.i64.wrap ((xn : Int) * 2 + (48 + (bt : Int))) = (xn : Int) * 2 + (48 + (bt : Int)) := by rw [IntKind.wrap_i64]; omega
            have e3 : IntKind.i64.wrap ((xn : Int) * 2 + (48 + (bt : Int)) - 48) = (v : Int) := by rw [IntKind.wrap_i64]; omega
            have hj1 : (0 : Int) ≤ (j : Int) := by omega
            have hj2 : (j : Int) < (t.size : Int) := by omega
            clear hbt
            by_cases h70 : hn = 7
            · subst h70
              rw [if_pos rfl] at hF1
              have HF1 := Lib.hid (show (l ++ [UInt8.ofNat v]) ++ pack 0 0 (bs.drop (j + 1) ++ R) = E by rw [List.append_assoc]; exact hF1)
              have e4 : IntKind.u8.wrap (v : Int) = (v : Int) := by rw [IntKind.wrap_u8]; omega
              have hvn : ((UInt8.ofNat v).toNat : Int) = (v : Int) := by rw [UInt8.toNat_ofNat', Nat.mod_eq_of_lt (by omega)]
              have HVN := Lib.hid hvn
              clear hF hF1 hv hx hvn
              go_wp2_with (at_builtin; refine wpList_append_own _ rfl _ _ 71 rfl g 5 i0 (.int .u8 0) 1 1 Try.underlying71 HI.out HZ0.out HZ1.out HZ2.out rfl (by decide) _ _ _ rfl (hO.out.alloc _) ⟨wr.heap.size, 0, none⟩ 1 1 [.int .u8 ((v : Int))] rfl rfl ?d11 ?d21 ?d31 ?d41 ?d51 ?_)
              case d11 =>
                intro j u hj
                match j, hj with
                | 0, hj => simp at hj; subst hj; simp [Addr.add]
              case d21 => first | rfl | (intro u hu; simp at hu; subst hu; rfl)
              case d31 => unfold maxLen; omega
              case d41 => omega
              case d51 => have := hB.size; have := G.out; simp; omega
              intro v' w2 hown hgrow _
              have RS := own_step (x := UInt8.ofNat v) hO.out hB G.out HVN.out hown hgrow
              have R1 := Lib.hid RS.1
              have R2 := RS.2
              clear RS hown hgrow
              go_wp2_with fail
              go_roundw
              case rel => exact ⟨j + 1, l ++ [UInt8.ofNat v], 0, 0, by omega, rfl, rfl, rfl, by omega, Lib.hid (by decide), Lib.hid (by rw [List.length_append]; exact R1.out), HF1, R2⟩
              case measure => simp [intOf]; omega
            · rw [if_neg h70] at hF1
              have HF1 := Lib.hid hF1
              have f8 : ((hn : Int) + 1 == 8) = false := by rw [beq_eq_false_iff_ne]; omega
              have hxv := Lib.hid (show v < 2 ^ (hn + 1) by have := hx.out; rw [Nat.pow_succ]; omega)
              clear hF hF1 hv hx
              go_wp2_with fail
              go_roundw
              case rel => exact ⟨j + 1, l, v, hn + 1, by omega, rfl, rfl, rfl, by omega, hxv, hO, HF1, hB⟩
              case measure => simp [intOf]; omega
          · have e : j = m := by omega
            subst e
            have HF1 := Lib.hid (show l ++ pack xn hn R = E by have h1 := hF.out; rw [← HBL.out, List.drop_length] at h1; exact h1)
            rw [← hR.out] at HF1
            clear hF
            go_wp2_with fail
            go_roundw
            case rel => exact ⟨k + 1, l, xn, hn, by omega, rfl, rfl, rfl, h7, hx, hO, HF1, hB⟩
            case measure => simp [intOf]; omega
    · have hdk : decide ((k : Int) ≤ (s.size : Int)) = false := by rw [decide_eq_false_iff_not]; omega
      have hF2 := hF.out
      rw [List.drop_of_length_le (by rw [← Lib.size_eq]; omega), show encB [] = [] from rfl] at hF2
      have HF := Lib.hid hF2
      clear hF hF2
      go_wp2_with fail
      go_loopw [4, 5, 6] (fun o x h wi => ∃ (l : List UInt8) (xn hn : Nat), x = .int .i64 (xn : Int) ∧ h = .int .i64 (hn : Int) ∧ Hid (hn ≤ 7 ∧ xn < 2 ^ hn ∧ l ++ pack xn hn [] = E ∨ hn = 8 ∧ l = E) ∧ Hid (wi.ownsRow g 5 1 o l.length (Bytes.byteCells l)) ∧ Below g w1 wi) (fun _ _ h _ => 9 - (intOf h).toNat)
      case atStart => exact ⟨l, xn, hn, rfl, rfl, Lib.hid (.inl ⟨h7, hx.out, HF.out⟩), hO, hB⟩
      clear h7 hx hO HF hB
      case round =>
        obtain ⟨l, xn, hn, rfl, rfl, hF, hO, hB⟩ := hrel
        by_cases hend : hn = 0 ∨ hn = 8
        · have hl : l = E := by
            rcases hF.out with ⟨h7, _, h1⟩ | ⟨_, h1⟩
            · obtain rfl : hn = 0 := by omega
              rw [pack_none, List.append_nil] at h1
              exact h1
            · exact h1
          have hcv := convert_own hO.out
          rw [hl, ← hE.out, h.out] at hcv
          have hfin := (HB0.out.trans (hB.mono (Nat.le_of_lt hlt1)))
          clear hF hO hl
          rcases hend with rfl | rfl
          · go_wp2_with fail
            go_ret
            exact ⟨rfl, hfin⟩
          · go_wp2_with fail
            go_ret
            exact ⟨rfl, hfin⟩
        · have hh : 1 ≤ hn ∧ hn ≤ 7 ∧ xn < 2 ^ hn ∧ l ++ pack xn hn [] = E := by
            rcases hF.out with ⟨h7, hx, h1⟩ | ⟨h8, _⟩
            · exact ⟨by omega, h7, hx, h1⟩
            · omega
          obtain ⟨h1, h7, hx, hF1⟩ := hh
          have hx128 := two_pow h7 hx
          have hlb3 := enc_bound (hF1.trans hE.out.symm)
          rw [← Lib.size_eq] at hlb3
          have e1 : IntKind.i64.wrap ((xn : Int) * 2) = (xn : Int) * 2 := by rw [IntKind.wrap_i64]; omega
          obtain ⟨v, hv⟩ : ∃ v, 2 * xn + 1 = v := ⟨_, rfl⟩
          have e3 : IntKind.i64.wrap ((xn : Int) * 2 + 1) = (v : Int) := by rw [IntKind.wrap_i64]; omega
          by_cases h70 : hn = 7
          · subst h70
            rw [pack_last, hv] at hF1
            have HF1 := Lib.hid hF1
            have e4 : IntKind.u8.wrap (v : Int) = (v : Int) := by rw [IntKind.wrap_u8]; omega
            have hvn : ((UInt8.ofNat v).toNat : Int) = (v : Int) := by rw [UInt8.toNat_ofNat', Nat.mod_eq_of_lt (by omega)]
            have HVN := Lib.hid hvn
            clear hF hF1 hv hx hvn hend
            go_wp2_with (at_builtin; refine wpList_append_own _ rfl _ _ 71 rfl g 5 i0 (.int .u8 0) 1 1 Try.underlying71 HI.out HZ0.out HZ1.out HZ2.out rfl (by decide) _ _ _ rfl (hO.out.alloc _) ⟨wr.heap.size, 0, none⟩ 1 1 [.int .u8 ((v : Int))] rfl rfl ?d12 ?d22 ?d32 ?d42 ?d52 ?_)
            case d12 =>
              intro j u hj
              match j, hj with
              | 0, hj => simp at hj; subst hj; simp [Addr.add]
            case d22 => first | rfl | (intro u hu; simp at hu; subst hu; rfl)
            case d32 => unfold maxLen; omega
            case d42 => omega
            case d52 => have := hB.size; have := G.out; simp; omega
            intro v' w2 hown hgrow _
            have RS := own_step (x := UInt8.ofNat v) hO.out hB G.out HVN.out hown hgrow
            have R1 := Lib.hid RS.1
            have R2 := RS.2
            clear RS hown hgrow
            go_wp2_with fail
            go_roundw
            case rel => exact ⟨l ++ [UInt8.ofNat v], v, 8, rfl, rfl, Lib.hid (.inr ⟨rfl, HF1.out⟩), Lib.hid (by rw [List.length_append]; exact R1.out), R2⟩
            case measure => simp [intOf]
          · have hF2 := Lib.hid (show hn + 1 ≤ 7 ∧ v < 2 ^ (hn + 1) ∧ l ++ pack v (hn + 1) [] = E ∨ hn + 1 = 8 ∧ l = E from .inl ⟨by omega, by rw [Nat.pow_succ]; omega, by rw [← hv, pack_fill h1 (by omega)]; exact hF1⟩)
            have f8 : ((hn : Int) + 1 == 8) = false := by rw [beq_eq_false_iff_ne]; omega
            clear hF hF1 hv hx hend
            go_wp2_with fail
            go_roundw
            case rel => exact ⟨l, v, hn + 1, rfl, rfl, hF2, hO, hB⟩
            case measure => simp [intOf]; omega
end Go.Proofs.Ytamgnbjdeoklbaa

/- Contracts of the document's text and literal (layer 13): how a text is laid, a field by texts. -/
namespace Go.Proofs.Ytamgnbjdeoklbaa
open Go.RowKit Bytes Pf Up

theorem mk_cat3 (s : ByteArray) (a b : List UInt8) : mk (s.data.toList ++ a) ++ mk b = mk (s.data.toList ++ (a ++ b)) := by
  apply list_inj
  simp [ByteArray.data_append, mk_list]
set_option maxHeartbeats 4000000 in
set_option maxRecDepth 100000 in
theorem refTxt_is (s t : ByteArray) (r : List UInt8) (w : World) (hs : s.size ≤ 900000) (ht : t.size ≤ 900000) (h : Hid (Pk.layT t.data.toList = r)) :
    Calls Try.prog 56 #[.string s, .string t] w fun e w' => e = .returned (.string (mk (s.data.toList ++ r))) ∧ Below w.heap.size w w' := by
  obtain ⟨c, hc⟩ : ∃ c, mk (Hf.enc t.data.toList) = c := ⟨_, rfl⟩
  have hr := h.out
  unfold Pk.layT at hr
  have hcl : (Hf.enc t.data.toList).length = c.size := by rw [← hc, Pk.size_mk]
  have htl : t.data.toList.length = t.size := (size_list t).symm
  rw [hcl, htl] at hr
  have HC := Lib.hid hc
  by_cases hlt : c.size < t.size
  · rw [if_pos hlt] at hr
    have hp := putL_few 127 128 c.size (by omega)
    obtain ⟨p, hpp⟩ : ∃ p, putL 127 128 c.size = p := ⟨_, rfl⟩
    rw [hpp] at hr hp
    have hce : Hf.enc t.data.toList = c.data.toList := by rw [← hc, mk_list]
    rw [hce] at hr
    subst hr
    have hw : IntKind.u64.wrap ((c.size : Nat) : Int) = (c.size : Int) := by rw [IntKind.wrap_u64]; omega
    have hsz : (mk (s.data.toList ++ p)).size ≤ 900012 := by rw [Pk.size_mk, List.length_append, ← size_list]; omega
    have HE := Lib.hid (show mk (s.data.toList ++ p) ++ c = mk (s.data.toList ++ (p ++ c.data.toList)) by rw [← mk_cat3, mk_data])
    clear hce hcl htl hc hp
    go_enter Try.func56, Try.ntmps56
    go_wp2_with fail
    refine (refEncode_is t c _ (by omega) HC).mono ?_
    rintro e w1 ⟨rfl, hB1⟩
    go_wp2_with fail
    refine (refPut_is s p 128 c.size 7 _ (by omega) (by decide) (by omega) (by omega) (by omega) (Lib.hid hpp)).mono ?_
    rintro e w2 ⟨rfl, hB2⟩
    go_wp2_with fail
    go_ret
    exact ⟨by rw [HE.out]; rfl, hB1.trans (hB2.mono hB1.size)⟩
  · rw [if_neg hlt] at hr
    have hp := putL_few 127 0 t.size (by omega)
    obtain ⟨p, hpp⟩ : ∃ p, putL 127 0 t.size = p := ⟨_, rfl⟩
    rw [hpp] at hr hp
    subst hr
    have hw : IntKind.u64.wrap ((t.size : Nat) : Int) = (t.size : Int) := by rw [IntKind.wrap_u64]; omega
    have hsz : (mk (s.data.toList ++ p)).size ≤ 900012 := by rw [Pk.size_mk, List.length_append, ← size_list]; omega
    have HE := Lib.hid (show mk (s.data.toList ++ p) ++ t = mk (s.data.toList ++ (p ++ t.data.toList)) by rw [← mk_cat3, mk_data])
    clear hcl htl hc hp
    go_enter Try.func56, Try.ntmps56
    go_wp2_with fail
    refine (refEncode_is t c _ (by omega) HC).mono ?_
    rintro e w1 ⟨rfl, hB1⟩
    go_wp2_with fail
    refine (refPut_is s p 0 t.size 7 _ (by omega) (by decide) (by omega) (by omega) (by omega) (Lib.hid hpp)).mono ?_
    rintro e w2 ⟨rfl, hB2⟩
    go_wp2_with fail
    go_ret
    exact ⟨by rw [HE.out]; rfl, hB1.trans (hB2.mono hB1.size)⟩
/-- A field of the call's own in a block. -/
theorem fld_cells {w : World} {E : Nat} {x : Fld} (h : w.heap[E]? = some (.cells #[.string x.name, .string x.val, .bool x.never] 45 (0, 0))) :
    w.cell? ⟨E, 0, none⟩ = some (.string x.name) ∧ w.cell? ⟨E, 1, none⟩ = some (.string x.val) ∧ w.cell? ⟨E, 2, none⟩ = some (.bool x.never) :=
  ⟨cell_of_row _ _ _ _ _ _ h, cell_of_row _ _ _ _ _ _ h, cell_of_row _ _ _ _ _ _ h⟩
set_option maxHeartbeats 4000000 in
set_option maxRecDepth 100000 in
theorem refLay_is (s : ByteArray) (c n : Nat) (b : Int) (x : Fld) (r : List UInt8) (w : World) (hs : s.size ≤ 400000) (hc : c < 256) (hn : n ≤ 4294967295) (hb1 : 0 ≤ b) (hb2 : b ≤ 8) (hx : x.name.size ≤ 200000) (hv : x.val.size ≤ 200000) (h : Hid (Pk.layF (fullN b) c n x = r)) :
    Calls Try.prog 40 #[.string s, .int .u8 c, .int .i64 b, .int .i64 n, .agg #[.string x.name, .string x.val, .bool x.never]] w fun e w' => e = .returned (.string (mk (s.data.toList ++ r))) ∧ Below w.heap.size w w' := by
  have hr := h.out
  unfold Pk.layF at hr
  obtain ⟨p, hp⟩ : ∃ p, putL (fullN b) c n = p := ⟨_, rfl⟩
  obtain ⟨t, ht⟩ : ∃ t, Pk.layT x.name.data.toList = t := ⟨_, rfl⟩
  obtain ⟨u, hu⟩ : ∃ u, Pk.layT x.val.data.toList = u := ⟨_, rfl⟩
  have hpl := putL_few (fullN b) c n (by omega)
  have htl := layT_len x.name.data.toList (by rw [← size_list]; omega)
  rw [← size_list, ht] at htl
  rw [hp] at hpl
  rw [hp, ht, hu] at hr
  have HP := Lib.hid hp
  have HT := Lib.hid ht
  have HU := Lib.hid hu
  have hw : IntKind.u64.wrap (n : Int) = (n : Int) := by rw [IntKind.wrap_u64]; omega
  clear hp ht hu
  have HB0 := Lib.hid ((Below.refl w.heap.size w).alloc (Nat.le_refl _) (.cells #[.string x.name, .string x.val, .bool x.never] 45))
  have HK := Lib.hid (heap_alloc_new w (.cells #[.string x.name, .string x.val, .bool x.never] 45))
  have s1 : (mk (s.data.toList ++ p)).size ≤ 500000 := by rw [Pk.size_mk, List.length_append, ← size_list]; omega
  have HS := Lib.hid (show (w.alloc (.cells #[.string x.name, .string x.val, .bool x.never] 45)).heap.size = w.heap.size + 1 by simp)
  by_cases h0 : n = 0
  · subst h0
    rw [if_pos rfl] at hr
    subst hr
    have s2 : (mk (s.data.toList ++ (p ++ t))).size ≤ 800000 := by rw [Pk.size_mk, List.length_append, List.length_append, ← size_list]; omega
    go_enter Try.func40, Try.ntmps40
    go_wp2_with fail
    refine (refPut_is s p c 0 b _ (by omega) hc (by omega) (by omega) (by omega) HP).mono ?_
    generalize w.alloc (.cells #[.string x.name, .string x.val, .bool x.never] 45) = W at *
    rintro e w1 ⟨rfl, hB1⟩
    have HK1 := Lib.hid ((hB1.block w.heap.size (by rw [HS.out]; omega)).trans HK.out)
    obtain ⟨k1, k2, k3⟩ := fld_cells HK1.out
    go_wp2_with fail
    refine (refTxt_is (mk (s.data.toList ++ p)) x.name t _ (by omega) (by omega) HT).mono ?_
    rintro e w2 ⟨rfl, hB2⟩
    rw [mk_list, List.append_assoc]
    have HK2 := Lib.hid ((hB2.block w.heap.size (by have := hB1.size; rw [HS.out] at this; omega)).trans HK1.out)
    clear k1 k2 k3
    obtain ⟨k1, k2, k3⟩ := fld_cells HK2.out
    go_wp2_with fail
    refine (refTxt_is (mk (s.data.toList ++ (p ++ t))) x.val u _ (by omega) (by omega) HU).mono ?_
    rintro e w3 ⟨rfl, hB3⟩
    go_wp2_with fail
    go_ret
    refine ⟨?_, HB0.out.trans ((hB1.trans ((hB2.trans (hB3.mono hB2.size)).mono hB1.size)).mono HB0.out.size)⟩
    rw [mk_list, List.append_assoc, List.append_assoc]
    rfl
  · rw [if_neg h0, List.nil_append] at hr
    subst hr
    have hd : ((n : Int) == 0) = false := by rw [beq_eq_false_iff_ne]; omega
    go_enter Try.func40, Try.ntmps40
    go_wp2_with fail
    refine (refPut_is s p c n b _ (by omega) hc (by omega) (by omega) (by omega) HP).mono ?_
    generalize w.alloc (.cells #[.string x.name, .string x.val, .bool x.never] 45) = W at *
    rintro e w1 ⟨rfl, hB1⟩
    have HK1 := Lib.hid ((hB1.block w.heap.size (by rw [HS.out]; omega)).trans HK.out)
    obtain ⟨k1, k2, k3⟩ := fld_cells HK1.out
    go_wp2_with fail
    refine (refTxt_is (mk (s.data.toList ++ p)) x.val u _ (by omega) (by omega) HU).mono ?_
    rintro e w3 ⟨rfl, hB3⟩
    go_wp2_with fail
    go_ret
    refine ⟨?_, HB0.out.trans ((hB1.trans (hB3.mono hB1.size)).mono HB0.out.size)⟩
    rw [mk_list, List.append_assoc]
    rfl
end Go.Proofs.Ytamgnbjdeoklbaa
