/- The contract of a header block's reader: a field. For blocks of at most 10^6 bytes. -/
import Derived.Test.YtamgnbjdeoklbaaProg
import Derived.Test.YtamgnbjdeoklbaaBytes
import Derived.Test.YtamgnbjdeoklbaaGrown
import Derived.Test.YtamgnbjdeoklbaaTcAt
import Derived.Test.YtamgnbjdeoklbaaUpMath
import Derived.Test.YtamgnbjdeoklbaaUpRdr
import Derived.Test.YtamgnbjdeoklbaaUpTxt
import Derived.Test.YtamgnbjdeoklbaaUpEnt
import Derived.Test.YtamgnbjdeoklbaaUpSpelt
import Derived.Test.YtamgnbjdeoklbaaUpFld
import Derived.WalkKit
import Derived.Lib.Hide
import Derived.Laws.Rows
import Derived.Outline
import Derived.IntWalk
import Derived.WalkSpells
import Derived.WalkLawsBesides
import Derived.Deep.QuietTactic
import Derived.BigQuiet
import Derived.Deep.RegionHeld3
import Derived.Deep.Draws
namespace Go.Proofs.Ytamgnbjdeoklbaa
open Go.RowKit Bytes Tb Up

abbrev FZ : Obj := .cells #[.string ⟨#[]⟩, .string ⟨#[]⟩, .bool false] 45
/-- A field as a value. -/
def fldV (x : Fld) : Value := .agg #[.string x.name, .string x.val, .bool x.never]
/-- A field came, or the reading gave up. -/
def FlEnd (w : World) (r g b : Nat) (s : ByteArray) : Except Nat (Tab × Fld × Nat) → Ending → World → Prop
  | .error x, e, w' => e = gave x ∧ w.grownBy w' (some r)
  | .ok (t', x, q), e, w' => e = .returned (fldV x) ∧ RdAt w' r g s q ∧ ∃ b', TAt w' g b' t' ∧ Kept3 r g b w w' ∧ (b' = b ∨ b' = g ∨ w.heap.size ≤ b')
/-- What stands while a field is read: a block of the call's own, from where it began. -/
structure Fs (w w1 : World) (r g b : Nat) (s : ByteArray) (t : Tab) (q : Nat) (x y z : Value) : Prop where
  rd : RdAt w1 r g s q
  tab : TAt w1 g b t
  grown : w.grownBy w1 (some r)
  ret : w1.heap[w.heap.size]? = some (.cells #[x, y, z] 45 (0, 0))
  lt : r < w.heap.size ∧ g < w.heap.size ∧ b < w.heap.size
  ne : r ≠ g ∧ r ≠ b
section
variable {w w1 w2 : World} {r g b : Nat} {s : ByteArray} {t : Tab} {p q : Nat} {x y z : Value}
theorem Fs.start (h : RdAt w r g s p) (hT : TAt w g b t) (h1 : r ≠ g) (h2 : r ≠ b) : Fs w (w.alloc FZ) r g b s t p (.string ⟨#[]⟩) (.string ⟨#[]⟩) (.bool false) := by
  have hB : Below w.heap.size w (w.alloc FZ) := (Below.refl _ w).alloc (Nat.le_refl _) _
  exact ⟨h.held hB, hT.below hB, only_of_below hB _, new_at w _ _ rfl, ⟨h.lt, hT.lt.1, hT.lt.2⟩, ⟨h1, h2⟩⟩
theorem Fs.num (h : Fs w w1 r g b s t p x y z) (hR : RdAt w2 r g s q) (hG : w1.grownBy w2 (some r)) : Fs w w2 r g b s t q x y z := by
  have h1 := h.lt
  have h2 := h.ne
  have l1 := world_lt h.ret
  exact ⟨hR, h.tab.kept hG.size (grown_block hG (by omega) (fun e => h2.1 e.symm)) (fun hb => grown_block hG hb (fun e => h2.2 e.symm)), grown_trans h.grown hG, (grown_block hG l1 (by omega)).trans h.ret, h1, h2⟩
theorem Fs.below (h : Fs w w1 r g b s t p x y z) (hB : Below w1.heap.size w1 w2) : Fs w w2 r g b s t p x y z := h.num (h.rd.held hB) (only_of_below hB _)
/-- A block that is new is written. -/
theorem Fs.far (h : Fs w w1 r g b s t p x y z) {a : Addr} (ha : w.heap.size < a.block) (u : Value) : Fs w (w1.setCell a u) r g b s t p x y z := by
  have h1 := h.lt
  exact ⟨h.rd.far (by omega) u, h.tab.kept (by simp) (Below.heap_setCell w1 a u g (by omega)) (fun _ => Below.heap_setCell w1 a u b (by omega)), only_setCell (g := r) h.grown (.inr (by omega)) u, (Below.heap_setCell w1 a u w.heap.size (by omega)).trans h.ret, h1, h.ne⟩
theorem set_three {w : World} {k : Nat} {a b c x y z : Value} {t : TypeId} (h : w.heap[k]? = some (.cells #[a, b, c] t (0, 0))) : (((w.setCell ⟨k, 0, none⟩ x).setCell ⟨k, 1, none⟩ y).setCell ⟨k, 2, none⟩ z).heap[k]? = some (.cells #[x, y, z] t (0, 0)) := set3_2 (set3_1 (set3_0 h))
theorem set_other (w : World) (k i : Nat) (x y z : Value) (hi : i ≠ k) : (((w.setCell ⟨k, 0, none⟩ x).setCell ⟨k, 1, none⟩ y).setCell ⟨k, 2, none⟩ z).heap[i]? = w.heap[i]? :=
  ((Below.heap_setCell _ ⟨k, 2, none⟩ z i hi).trans (Below.heap_setCell _ ⟨k, 1, none⟩ y i hi)).trans (Below.heap_setCell _ ⟨k, 0, none⟩ x i hi)
/-- What is told. -/
theorem Fs.done (h : Fs w w1 r g b s t p x y z) (u0 u1 u2 : Value) : (((w1.setCell ⟨w.heap.size, 0, none⟩ u0).setCell ⟨w.heap.size, 1, none⟩ u1).setCell ⟨w.heap.size, 2, none⟩ u2).heap[w.heap.size]? = some (.cells #[u0, u1, u2] 45 (0, 0)) ∧
    RdAt (((w1.setCell ⟨w.heap.size, 0, none⟩ u0).setCell ⟨w.heap.size, 1, none⟩ u1).setCell ⟨w.heap.size, 2, none⟩ u2) r g s p ∧ TAt (((w1.setCell ⟨w.heap.size, 0, none⟩ u0).setCell ⟨w.heap.size, 1, none⟩ u1).setCell ⟨w.heap.size, 2, none⟩ u2) g b t ∧ w.grownBy (((w1.setCell ⟨w.heap.size, 0, none⟩ u0).setCell ⟨w.heap.size, 1, none⟩ u1).setCell ⟨w.heap.size, 2, none⟩ u2) (some r) := by
  have h1 := h.lt
  have e : ∀ k, k ≠ w.heap.size → (((w1.setCell ⟨w.heap.size, 0, none⟩ u0).setCell ⟨w.heap.size, 1, none⟩ u1).setCell ⟨w.heap.size, 2, none⟩ u2).heap[k]? = w1.heap[k]? := fun k hk => set_other w1 _ k _ _ _ hk
  refine ⟨set_three h.ret, (e r (by omega)).trans h.rd, h.tab.kept (by simp) (e g (by omega)) (fun _ => e b (by omega)), ?_⟩
  have g1 := only_setCell (g := r) h.grown (p := ⟨w.heap.size, 0, none⟩) (.inr (Nat.le_refl _)) u0
  have g2 := only_setCell (g := r) g1 (p := ⟨w.heap.size, 1, none⟩) (.inr (Nat.le_refl _)) u1
  exact only_setCell (g := r) g2 (p := ⟨w.heap.size, 2, none⟩) (.inr (Nat.le_refl _)) u2
end
/-- Add, asked beside the reader and a field. -/
theorem add_keep (r g b E : Nat) (s : ByteArray) (q : Nat) (t : Tab) (x y : ByteArray) (z : Value) (w : World) (h : RdAt w r g s q) (hE : w.heap[E]? = some (.cells #[.string x, .string y, z] 45 (0, 0))) (hT : TAt w g b t) (hf : Hid (Fit t)) (hx : x.size ≤ 1000000) (hy : y.size ≤ 1000000) (h1 : r ≠ g) (h2 : r ≠ b) (h3 : E ≠ g) (h5 : E ≠ b) :
    Calls Try.prog 50 #[.pointer (some ⟨g, 0, none⟩), .string x, .string y] w fun e w' => e = .returned (.tuple #[]) ∧ w'.cell? ⟨r, 2, none⟩ = some (.pointer (some ⟨g, 0, none⟩)) ∧ w'.cell? ⟨E, 0, none⟩ = some (.string x) ∧ w'.cell? ⟨E, 1, none⟩ = some (.string y) ∧ Hid (∃ b', TAt w' g b' (addT t (x, y)) ∧ Kept2 g b w w' ∧ (b' = b ∨ b' = g ∨ w.heap.size ≤ b')) :=
  (add_is g b t x y w (Lib.hid hT) hf hx hy).mono fun e w' ⟨he, b', hT', hK, hb⟩ => by
    have hr := (hK.block r h.lt h1 h2).trans h
    have hE' := (hK.block E (world_lt hE) h3 h5).trans hE
    exact ⟨he, RdAt.c2 hr, cell_of_row _ _ 0 _ _ _ hE', cell_of_row _ _ 1 _ _ _ hE', b', hT', hK, hb⟩
/-- A name and a value that came have room in memory. -/
theorem txt_size {s : ByteArray} {p : Nat} {y : ByteArray} {q : Nat} (h : txt s p = .ok (y, q)) (hs : s.size ≤ 10000) : y.size ≤ 1000000 := by
  unfold txt at h
  split at h
  · cases h
  · split at h
    · split at h
      · injection h with h; injection h with h _; rw [← h, ByteArray.size_extract]; omega
      · split at h
        · rename_i m q' _ hq _ _ y' hy
          injection h with h
          injection h with h _
          subst h
          unfold unp at hy
          obtain ⟨l, hl, rfl⟩ := Option.map_eq_some_iff.1 hy
          have h1 := Hf.enc_decode hl
          have h2 := Hf.enc_len l
          have h3 := (Hf.encB_len l).1
          rw [h1] at h2
          have h4 : (s.extract q' (q' + m)).data.toList.length ≤ 10000 := by rw [← size_list, ByteArray.size_extract]; omega
          have h5 : (mk l).size = l.length := by rw [size_list]; rfl
          omega
        · cases h
    · cases h
theorem ent_size {t : Tab} {m : Nat} {e : Ent} (h : ent t m = .ok e) (ht : Up.Ok4 t) : e.1.size ≤ 1000000 ∧ e.2.size ≤ 1000000 := by
  unfold ent at h
  split at h
  · rename_i hq
    injection h with h
    subst h
    unfold atR at hq ⊢
    split
    · rename_i hc
      rw [if_pos hc] at hq
      cases hq
    · rename_i hc
      exact (small_cat small_fixed (Ok4.fit ht).2.1).at (by omega)
  · cases h
theorem spelt_size {s : ByteArray} {t : Tab} {p : Nat} {k : Int} {e : Ent} {q : Nat} (h : spelt s t p k = .ok (e, q)) (hs : s.size ≤ 10000) (ht : Up.Ok4 t) : e.1.size ≤ 1000000 ∧ e.2.size ≤ 1000000 := by
  unfold spelt at h
  split at h
  · cases h
  · rename_i m q' hn
    split at h
    · cases h
    · rename_i n q1 hm
      split at h
      · cases h
      · rename_i v q2 hv
        injection h with h
        injection h with h _
        subst h
        refine ⟨?_, txt_size hv hs⟩
        unfold nam at hm
        split at hm
        · split at hm
          · cases hm
          · rename_i e he
            injection hm with hm
            injection hm with hm _
            subst hm
            exact (ent_size he ht).1
        · exact txt_size hm hs

set_option maxHeartbeats 4000000 in
set_option maxRecDepth 100000 in
theorem field_any (r g b : Nat) (s : ByteArray) (p : Nat) (t : Tab) (c : Nat) (R : Except Nat (Tab × Fld × Nat)) (w : World) (h : RdAt w r g s p) (hT : TAt w g b t) (h4 : Up.Ok4 t) (h1 : r ≠ g) (h2 : r ≠ b) (hs : s.size ≤ 10000) (hp : p ≤ s.size) (hc : byteAt s.data.toList p = c) (hR : Hid (fld s t p = R)) :
    Calls Try.prog 45 #[.pointer (some ⟨r, 0, none⟩), .int .u8 (c : Int)] w (FlEnd w r g b s R) := by
  have hr := hR.out
  clear hR
  unfold fld at hr
  rw [hc] at hr
  have HS := Lib.hid (Fs.start h hT h1 h2)
  have H4 := Lib.hid h4
  have hs6 : s.size ≤ 1000000 := by omega
  clear h hT h4
  by_cases ha : 128 ≤ c
  · rw [if_pos ha] at hr
    have hai : (128 : Int) ≤ (c : Int) := by omega
    obtain ⟨N, hN⟩ : ∃ N, num s.data.toList p 7 = N := ⟨_, rfl⟩
    have HI := Lib.hid (fun W (hA : RdAt W r g s p) => integer_any r g s p 7 N W hA hs6 hp (by omega) (by omega) (Lib.hid hN))
    rw [hN] at hr
    clear hc ha
    go_enter Try.func45, Try.ntmps45
    go_wp2_with fail
    generalize w.alloc (.cells #[.string ⟨#[]⟩, .string ⟨#[]⟩, .bool false] 45) = W at *
    refine (HI.out W HS.out.rd).mono ?_
    cases N with
    | error x =>
      have hRe : R = .error x := hr.symm
      subst hRe
      rintro e w1 ⟨rfl, hG⟩
      have HG := Lib.hid (grown_trans HS.out.grown hG)
      clear hG
      go_wp2_with fail
      exact ⟨rfl, rfl, HG.out⟩
    | ok mq =>
      obtain ⟨m, q⟩ := mq
      obtain ⟨b1, b2, b3, b4⟩ := num_ok hN
      simp only at hr
      rintro e w1 ⟨rfl, hA, hG⟩
      have HS1 := Lib.hid (HS.out.num hA hG)
      clear hA hG hN
      obtain ⟨E, hE⟩ : ∃ E, ent t m = E := ⟨_, rfl⟩
      have HE := Lib.hid (entry_any r g b s q t m E w1 HS1.out.rd HS1.out.tab H4.out b4 (Lib.hid hE))
      rw [hE] at hr
      clear hE
      go_wp2_with fail
      refine HE.out.mono ?_
      cases E with
      | error x =>
        have hRe : R = .error x := hr.symm
        subst hRe
        rintro e w2 ⟨rfl, hB⟩
        have HG := Lib.hid (HS1.out.below hB).grown
        clear hB
        go_wp2_with fail
        exact ⟨rfl, rfl, HG.out⟩
      | ok en =>
        obtain ⟨x, y⟩ := en
        simp only at hr
        subst hr
        rintro e w2 ⟨rfl, hB⟩
        have hS2 := HS1.out.below hB
        obtain ⟨n1, n2, n3, n4, n5, n6⟩ := three_cells hS2.ret
        have HD := Lib.hid (hS2.done (.string x) (.string y) (.bool false))
        clear hB hS2
        go_wp2_with fail
        obtain ⟨z1, z2, z3, z4⟩ := HD.out
        exact bodyPost_ret (v := .agg #[.string x, .string y, .bool false]) (results_cell_row rfl _ _ w.heap.size 45 #[.string x, .string y, .bool false] (0, 0) _ rfl z1 Try.underlying45 rfl fldInfo) rfl ⟨rfl, z2, b, z3, Kept3.of_grown z4, .inl rfl⟩
  · rw [if_neg ha] at hr
    have hai : ¬ ((128 : Int) ≤ (c : Int)) := by omega
    by_cases hm : 64 ≤ c
    · rw [if_pos hm] at hr
      have hmi : (64 : Int) ≤ (c : Int) := by omega
      obtain ⟨N, hN⟩ : ∃ N, spelt s t p 6 = N := ⟨_, rfl⟩
      have HI := Lib.hid (fun W (hA : RdAt W r g s p) (hTT : TAt W g b t) => spelt_any r g b s p t 6 N W hA hTT H4.out h1 h2 hs6 hp (by omega) (by omega) (Lib.hid hN))
      rw [hN] at hr
      clear hc ha hm
      go_enter Try.func45, Try.ntmps45
      go_wp2_with fail
      generalize w.alloc (.cells #[.string ⟨#[]⟩, .string ⟨#[]⟩, .bool false] 45) = W at *
      refine (HI.out W HS.out.rd HS.out.tab).mono ?_
      cases N with
      | error x =>
        have hRe : R = .error x := hr.symm
        subst hRe
        rintro e w1 ⟨rfl, hG⟩
        have HG := Lib.hid (grown_trans HS.out.grown hG)
        clear hG
        go_wp2_with fail
        exact ⟨rfl, rfl, HG.out⟩
      | ok eq =>
        obtain ⟨⟨x, y⟩, q⟩ := eq
        obtain ⟨hsx, hsy⟩ := spelt_size hN hs H4.out
        simp only at hr
        subst hr
        rintro e w1 ⟨rfl, hA, _, hG⟩
        have HS1 := Lib.hid (HS.out.num hA hG)
        obtain ⟨E, hEn⟩ : ∃ E, w1.heap.size = E := ⟨_, rfl⟩
        have HEn := Lib.hid hEn
        have hES : w.heap.size < E := by rw [← hEn]; exact world_lt HS1.out.ret
        have hE5 : (w1.alloc (.cells #[.string x, .string y, .bool false] 45)).heap[E]? = some (.cells #[.string x, .string y, .bool false] 45 (0, 0)) := new_at w1 _ _ hEn.symm
        obtain ⟨f1, f2, f3, f4, f5, f6⟩ := three_cells hE5
        have hS5 := HS1.out.below ((Below.refl _ w1).alloc (Nat.le_refl _) (.cells #[.string x, .string y, .bool false] 45))
        have HS5 := Lib.hid hS5
        have HE5 := Lib.hid hE5
        have d2 := hS5.rd.c2
        have hlt := HS5.out.lt
        have h3 : E ≠ g := by omega
        have h5 : E ≠ b := by omega
        clear hA hG hN hS5 hE5 hlt
        go_wp2_with fail
        generalize w1.alloc (.cells #[.string x, .string y, .bool false] 45) = W5 at *
        go_region_held3 (fun w' => w'.cell? ⟨r, 2, none⟩ = some (.pointer (some ⟨g, 0, none⟩)) ∧ w'.cell? ⟨E, 0, none⟩ = some (.string x) ∧ w'.cell? ⟨E, 1, none⟩ = some (.string y)) (go_keep)
          (first | (go_at_call 50; refine (add_keep r g b E s q t x y (.bool false) _ ?_ ?_ ?_ (Lib.hid (Ok4.fit H4.out)) hsx hsy h1 h2 h3 h5).mono ?_; exact HS5.out.rd; exact HE5.out; exact HS5.out.tab.below ((Below.refl _ W5).drew); rintro e w6 ⟨rfl, k1, k2, k3, hAd⟩))
        obtain ⟨b', hT6, hK6, hb6⟩ := hAd.out
        have hKd : Kept2 g b W5 w6 := ((Kept2.refl g b W5).drew).trans hK6 (.inl rfl)
        have hr6 : RdAt w6 r g s q := (hKd.block r HS5.out.rd.lt h1 h2).trans HS5.out.rd
        have hE6 := (hKd.block E (world_lt HE5.out) h3 h5).trans HE5.out
        have hlt := HS5.out.lt
        have hG6 := (hKd.block w.heap.size (world_lt HS5.out.ret) (by omega) (by omega)).trans HS5.out.ret
        have hK3 : Kept3 r g b w w6 := (Kept3.of_grown HS5.out.grown).trans (Kept3.of_kept2 hKd) (.inl rfl)
        obtain ⟨e1, e2, e3, e4, e5, e6⟩ := three_cells hE6
        obtain ⟨n1, n2, n3, n4, n5, n6⟩ := three_cells hG6
        have hD1 := set_three (x := .string x) (y := .string y) (z := .bool false) hG6
        have hb8 : b' = b ∨ b' = g ∨ w.heap.size ≤ b' := by
          have := HS5.out.grown.size
          rcases hb6 with e | e | e
          · exact .inl e
          · exact .inr (.inl e)
          · exact .inr (.inr (Nat.le_trans this e))
        have hbn : b' ≠ w.heap.size := by
          have hz := world_lt HS5.out.ret
          rcases hb6 with e | e | e
          · omega
          · omega
          · have hd : W5.drew.heap.size = W5.heap.size := rfl
            omega
        have hs9 := fun k hk => set_other w6 w.heap.size k (.string x) (.string y) (.bool false) hk
        have HD := Lib.hid (And.intro hD1 (And.intro ((hs9 r (by omega)).trans hr6) (And.intro (hT6.kept (w' := ((w6.setCell ⟨w.heap.size, 0, none⟩ (.string x)).setCell ⟨w.heap.size, 1, none⟩ (.string y)).setCell ⟨w.heap.size, 2, none⟩ (.bool false)) (by simp) (hs9 g (by omega)) (fun _ => hs9 b' hbn)) (((hK3.setCell (p := ⟨w.heap.size, 0, none⟩) (Nat.le_refl _) (.string x)).setCell (p := ⟨w.heap.size, 1, none⟩) (Nat.le_refl _) (.string y)).setCell (p := ⟨w.heap.size, 2, none⟩) (Nat.le_refl _) (.bool false)))))
        clear hT6 hK6 hb6 hKd hr6 hE6 hG6 hK3 hD1 hlt hs9 hbn k1 k2 k3 f1 f2 f3 f4 f5 f6 d2
        go_wp2_with fail
        obtain ⟨z1, z2, z3, z4⟩ := HD.out
        exact bodyPost_ret (v := .agg #[.string x, .string y, .bool false]) (results_cell_row rfl _ _ w.heap.size 45 #[.string x, .string y, .bool false] (0, 0) _ rfl z1 Try.underlying45 rfl fldInfo) rfl ⟨rfl, z2, b', z3, z4, hb8⟩
    · rw [if_neg hm] at hr
      have hmi : ¬ ((64 : Int) ≤ (c : Int)) := by omega
      obtain ⟨N, hN⟩ : ∃ N, spelt s t p 4 = N := ⟨_, rfl⟩
      have HI := Lib.hid (fun W (hA : RdAt W r g s p) (hTT : TAt W g b t) => spelt_any r g b s p t 4 N W hA hTT H4.out h1 h2 hs6 hp (by omega) (by omega) (Lib.hid hN))
      rw [hN] at hr
      clear hc
      go_enter Try.func45, Try.ntmps45
      go_wp2_with fail
      generalize w.alloc (.cells #[.string ⟨#[]⟩, .string ⟨#[]⟩, .bool false] 45) = W at *
      refine (HI.out W HS.out.rd HS.out.tab).mono ?_
      cases N with
      | error x =>
        have hRe : R = .error x := hr.symm
        subst hRe
        rintro e w1 ⟨rfl, hG⟩
        have HG := Lib.hid (grown_trans HS.out.grown hG)
        clear hG
        go_wp2_with fail
        exact ⟨rfl, rfl, HG.out⟩
      | ok eq =>
        obtain ⟨⟨x, y⟩, q⟩ := eq
        simp only at hr
        obtain ⟨nv, hnv⟩ : ∃ nv, decide (16 ≤ c) = nv := ⟨_, rfl⟩
        rw [hnv] at hr
        subst hr
        have hdc : decide ((16 : Int) ≤ (c : Int)) = nv := by rw [← hnv]; exact decide_eq_decide.2 (by omega)
        rintro e w1 ⟨rfl, hA, _, hG⟩
        have HS1 := Lib.hid (HS.out.num hA hG)
        clear hnv
        obtain ⟨E, hEn⟩ : ∃ E, w1.heap.size = E := ⟨_, rfl⟩
        have HEn := Lib.hid hEn
        have hES : w.heap.size < E := by rw [← hEn]; exact world_lt HS1.out.ret
        have hE5 : (w1.alloc (.cells #[.string x, .string y, .bool nv] 45)).heap[E]? = some (.cells #[.string x, .string y, .bool nv] 45 (0, 0)) := new_at w1 _ _ hEn.symm
        obtain ⟨f1, f2, f3, f4, f5, f6⟩ := three_cells hE5
        have hS5 := HS1.out.below ((Below.refl _ w1).alloc (Nat.le_refl _) (.cells #[.string x, .string y, .bool nv] 45))
        have HS5 := Lib.hid hS5
        have HE5 := Lib.hid hE5
        have d2 := hS5.rd.c2
        have hlt := HS5.out.lt
        have h3 : E ≠ g := by omega
        have h5 : E ≠ b := by omega
        clear hA hG hN hS5 hE5 hlt
        obtain ⟨n1, n2, n3, n4, n5, n6⟩ := three_cells HS5.out.ret
        have hD := HS1.out.done (.string x) (.string y) (.bool nv)
        have hBA := (Below.refl _ (((w1.setCell ⟨w.heap.size, 0, none⟩ (.string x)).setCell ⟨w.heap.size, 1, none⟩ (.string y)).setCell ⟨w.heap.size, 2, none⟩ (.bool nv))).alloc (Nat.le_refl _) (.cells #[.string x, .string y, .bool nv] 45)
        have HD := Lib.hid (And.intro (old_at (o := .cells #[.string x, .string y, .bool nv] 45) hD.1) (And.intro (hD.2.1.held hBA) (And.intro (hD.2.2.1.below hBA) (grown_trans hD.2.2.2 (only_of_below hBA (some r))))))
        have hm1 := old_at (o := .cells #[.string x, .string y, .bool nv] 45) (set3_0 (y := .string x) HS1.out.ret)
        have hm2 := old_at (o := .cells #[.string x, .string y, .bool nv] 45) (set3_1 (y := .string y) (set3_0 (y := .string x) HS1.out.ret))
        obtain ⟨m1, m2, m3, m4, m5, m6⟩ := three_cells hm1
        obtain ⟨p1, p2, p3, p4, p5, p6⟩ := three_cells hm2
        clear hm1 hm2 hBA hD
        go_wp2_with fail
        obtain ⟨z1, z2, z3, z4⟩ := HD.out
        exact bodyPost_ret (v := .agg #[.string x, .string y, .bool nv]) (results_cell_row rfl _ _ w.heap.size 45 #[.string x, .string y, .bool nv] (0, 0) _ rfl z1 Try.underlying45 rfl fldInfo) rfl ⟨rfl, z2, b, z3, Kept3.of_grown z4, .inl rfl⟩
end Go.Proofs.Ytamgnbjdeoklbaa
