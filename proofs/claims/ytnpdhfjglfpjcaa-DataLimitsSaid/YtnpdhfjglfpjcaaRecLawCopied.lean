/- The contract of the law's own Copied: a record in memory of its own, its lists with spare room. For records of at most 10^5 texts of at most 10^5 bytes. -/
import Derived.Test.YtnpdhfjglfpjcaaProg
import Derived.Test.YtnpdhfjglfpjcaaRecAt
import Derived.Test.YtnpdhfjglfpjcaaRecCopy
import Derived.WalkKit
import Derived.Lib.Hide
import Derived.Outline
import Derived.IntWalk
import Derived.WalkSpells
import Derived.WalkLawsBesides
import Derived.Deep.Heap
import Derived.Deep.AppendLies
import Derived.Deep.RegionLaw
import Derived.Deep.CutRange
import Derived.Deep.DrawnRows
namespace Go.Proofs.Ytnpdhfjglfpjcaa
open Go.RowKit Bytes Strs Nums NameMath RecMath

theorem grown_block2 {w0 w2 : World} {o O : Obj} {g : Nat} (h : w0.heap[g]? = some O) (hgrow : (w0.alloc o).drew.grownBy w2 (some w0.heap.size)) : w2.heap[g]? = some O := by
  have hl : g < w0.heap.size := by
    rcases Nat.lt_or_ge g w0.heap.size with hl | hl
    · exact hl
    · rw [Array.getElem?_eq_none hl] at h; cases h
  have e : (w0.alloc o).drew.heap[g]? = some O := (heap_alloc_old w0 o hl).trans h
  rw [hgrow.block g (by simp; omega) (by intro e; injection e with e; omega)]
  exact e
/-- The two blocks of a call that hands back a record: the parameter's, and the result's; nothing below has changed. -/
def CutInv (w : World) (g : Nat) (vals zero : Array Value) (wx : World) : Prop :=
  wx.heap[g]? = some (.cells vals 27 (0, 0)) ∧ wx.heap[g + 1]? = some (.cells zero 27 (0, 0)) ∧ g + 2 ≤ wx.heap.size ∧ Below g w wx
theorem cut_step {w w0 w2 : World} {g i : Nat} {vals ds zero : Array Value} {o : Obj} {u : Value} (h : CutInv w g vals zero w0) (hgrow : (w0.alloc o).drew.grownBy w2 (some w0.heap.size)) (hd : vals.setIfInBounds i u = ds) : CutInv w g ds zero (w2.setCell ⟨g, i, none⟩ u) := by
  obtain ⟨h1, h2, h3, h4⟩ := h
  have hs : w0.heap.size ≤ w2.heap.size := by have := hgrow.size; simp at this; omega
  refine ⟨set_block (grown_block2 h1 hgrow) hd, other_block (grown_block2 h2 hgrow) (by omega), by rw [Go.Deep.nblk_setCell]; omega, ?_⟩
  have hb : Below g w (w0.alloc o).drew := (h4.alloc (by omega) o).drew
  exact (hb.grown hgrow (by simp; omega) (fun k hk => by injection hk with hk; omega)).setCell (p := ⟨g, i, none⟩) (Nat.le_refl g) u
theorem own_step2 {w0 w2 : World} {g i n b : Nat} {e : TypeId} {v u : Value} {xs : List Value} {o : Obj} (h : w0.ownsRow (g + 2) e 1 v n xs) (hgrow : (w0.alloc o).drew.grownBy w2 (some b)) (hb : b = w0.heap.size) : (w2.setCell ⟨g, i, none⟩ u).ownsRow (g + 2) e 1 v n xs := by
  subst hb
  have h1 : (w0.alloc o).drew.ownsRow (g + 2) e 1 v n xs := own_below h ⟨rfl, rfl, rfl, by simp, fun k hk => heap_alloc_old w0 o hk⟩
  have h2 := h1.kept hgrow (by
    rcases hv : v.ownBlock with _ | k
    · exact Or.inl rfl
    · refine Or.inr (fun e => ?_)
      injection e with e
      have := (h.lt k hv).2
      omega)
  exact own_set h2 (by show g < g + 2; omega)

/-- A record came back in memory of the call's own, its names and its texts apart. -/
def RecRes2 (w : World) (R : Rec) (x : ByteArray) (k l t n1 n2 n3 : Nat) (e : Ending) (w' : World) : Prop :=
  ∃ B1 d1 B2 d2 B3 d3, e = .returned (.agg #[.string x, .int .u16 k, .int .u16 l, .int .u32 t, .slice B1 n1 d1, .slice B2 n2 d2, .slice B3 n3 d3]) ∧ w'.ownsRow w.heap.size 9 1 (.slice B1 n1 d1) n1 (strCs R.names) ∧ w'.ownsRow w.heap.size 23 1 (.slice B2 n2 d2) n2 (numCs R.nums) ∧ w'.ownsRow w.heap.size 9 1 (.slice B3 n3 d3) n3 (strCs R.texts) ∧ Below w.heap.size w w' ∧ (∀ a b, B1 = some a → B3 = some b → a.block ≠ b.block)
theorem apart_of {w w2 : World} {b n m c d base : Nat} {e : TypeId} {A B : Option Addr} {xs ys : List Value} (h : w.ownsRow base e 1 (.slice A n c) n xs) (h2 : w2.ownsRow b e 1 (.slice B m d) m ys) (hb : b = w.heap.size) : ∀ p q, A = some p → B = some q → p.block ≠ q.block := fun p q hp hq hpq => by
  subst hp hq hb
  have h1 := (h.lt p.block rfl).2
  have h3 := (h2.lt q.block rfl).1
  omega

attribute [local go_sem ↓] Go.wp_at_zero Go.wp_at_succ

set_option maxHeartbeats 8000000 in
set_option maxRecDepth 100000 in
theorem lawCopied_is (R : Rec) (x : ByteArray) (k l t : Nat) (A1 : Option Addr) (n1 c1 : Nat) (A2 : Option Addr) (n2 c2 : Nat) (A3 : Option Addr) (n3 c3 : Nat) (w : World) (hR : Hid (RecAt w w.heap.size R x k l t A1 n1 A2 n2 A3 n3)) (hS : Hid (Small R)) (hf1 : A1 = none → c1 = 0) (hf2 : A2 = none → c2 = 0) (hf3 : A3 = none → c3 = 0) :
    Calls Try.prog 15 #[.agg #[.string x, .int .u16 k, .int .u16 l, .int .u32 t, .slice A1 n1 c1, .slice A2 n2 c2, .slice A3 n3 c3]] w (RecRes2 w R x k l t n1 n2 n3) := by
  have hm1 := hR.out.m1 hS.out
  have hm2 := hR.out.m2 hS.out
  have hm3 := hR.out.m3 hS.out
  have HF1 := Lib.hid hf1
  have HF2 := Lib.hid hf2
  have HF3 := Lib.hid hf3
  clear hf1 hf2 hf3
  have HL1 := Lib.hid hR.out.len1
  have HL2 := Lib.hid hR.out.len2
  have HL3 := Lib.hid hR.out.len3
  obtain ⟨m1, hm10⟩ : ∃ m, n1 + 1 = m := ⟨_, rfl⟩
  have hw1 : IntKind.i64.wrap ((n1 : Int) + 1) = (m1 : Int) := by rw [IntWalk.i64_in _ (by omega)]; omega
  obtain ⟨M1, hM1, hmk1⟩ := make0_strs m1 (by omega)
  have HM1 := Lib.hid hM1
  have hm1le : m1 ≤ 1000000 := by omega
  clear hM1 hm10
  obtain ⟨m2, hm20⟩ : ∃ m, n2 + 1 = m := ⟨_, rfl⟩
  have hw2 : IntKind.i64.wrap ((n2 : Int) + 1) = (m2 : Int) := by rw [IntWalk.i64_in _ (by omega)]; omega
  obtain ⟨M2, hM2, hmk2⟩ := make0_nums m2 (by omega)
  have HM2 := Lib.hid hM2
  have hm2le : m2 ≤ 1000000 := by omega
  clear hM2 hm20
  obtain ⟨m3, hm30⟩ : ∃ m, n3 + 1 = m := ⟨_, rfl⟩
  have hw3 : IntKind.i64.wrap ((n3 : Int) + 1) = (m3 : Int) := by rw [IntWalk.i64_in _ (by omega)]; omega
  obtain ⟨M3, hM3, hmk3⟩ := make0_strs m3 (by omega)
  have HM3 := Lib.hid hM3
  have hm3le : m3 ≤ 1000000 := by omega
  clear hM3 hm30
  go_enter Try.func15, Try.ntmps15
  go_wp2_with fail
  have hG0 : ((w.alloc (.cells #[.string x, .int .u16 k, .int .u16 l, .int .u32 t, .slice A1 n1 c1, .slice A2 n2 c2, .slice A3 n3 c3] 27)).alloc (.cells #[.string ⟨#[]⟩, .int .u16 0, .int .u16 0, .int .u32 0, .slice none 0 0, .slice none 0 0, .slice none 0 0] 27)).heap[w.heap.size]? = some (.cells #[.string x, .int .u16 k, .int .u16 l, .int .u32 t, .slice A1 n1 c1, .slice A2 n2 c2, .slice A3 n3 c3] 27 (0, 0)) := (heap_alloc_old (w.alloc (.cells #[.string x, .int .u16 k, .int .u16 l, .int .u32 t, .slice A1 n1 c1, .slice A2 n2 c2, .slice A3 n3 c3] 27)) (.cells #[.string ⟨#[]⟩, .int .u16 0, .int .u16 0, .int .u32 0, .slice none 0 0, .slice none 0 0, .slice none 0 0] 27) (by simp)).trans (heap_alloc_new w _)
  have hH0 : ((w.alloc (.cells #[.string x, .int .u16 k, .int .u16 l, .int .u32 t, .slice A1 n1 c1, .slice A2 n2 c2, .slice A3 n3 c3] 27)).alloc (.cells #[.string ⟨#[]⟩, .int .u16 0, .int .u16 0, .int .u32 0, .slice none 0 0, .slice none 0 0, .slice none 0 0] 27)).heap[w.heap.size + 1]? = some (.cells #[.string ⟨#[]⟩, .int .u16 0, .int .u16 0, .int .u32 0, .slice none 0 0, .slice none 0 0, .slice none 0 0] 27 (0, 0)) := by
    have := heap_alloc_new (w.alloc (.cells #[.string x, .int .u16 k, .int .u16 l, .int .u32 t, .slice A1 n1 c1, .slice A2 n2 c2, .slice A3 n3 c3] 27)) (.cells #[.string ⟨#[]⟩, .int .u16 0, .int .u16 0, .int .u32 0, .slice none 0 0, .slice none 0 0, .slice none 0 0] 27)
    simpa using this
  have hB0 : Below w.heap.size w ((w.alloc (.cells #[.string x, .int .u16 k, .int .u16 l, .int .u32 t, .slice A1 n1 c1, .slice A2 n2 c2, .slice A3 n3 c3] 27)).alloc (.cells #[.string ⟨#[]⟩, .int .u16 0, .int .u16 0, .int .u32 0, .slice none 0 0, .slice none 0 0, .slice none 0 0] 27)) := ((Below.refl _ _).alloc (Nat.le_refl _) _).alloc (by simp) _
  have hs0 : w.heap.size + 2 ≤ ((w.alloc (.cells #[.string x, .int .u16 k, .int .u16 l, .int .u32 t, .slice A1 n1 c1, .slice A2 n2 c2, .slice A3 n3 c3] 27)).alloc (.cells #[.string ⟨#[]⟩, .int .u16 0, .int .u16 0, .int .u32 0, .slice none 0 0, .slice none 0 0, .slice none 0 0] 27)).heap.size := by simp
  have HRg := Lib.hid hR.out
  have HC : Hid (CutInv w w.heap.size #[.string x, .int .u16 k, .int .u16 l, .int .u32 t, .slice A1 n1 c1, .slice A2 n2 c2, .slice A3 n3 c3] #[.string ⟨#[]⟩, .int .u16 0, .int .u16 0, .int .u32 0, .slice none 0 0, .slice none 0 0, .slice none 0 0] ((w.alloc (.cells #[.string x, .int .u16 k, .int .u16 l, .int .u32 t, .slice A1 n1 c1, .slice A2 n2 c2, .slice A3 n3 c3] 27)).alloc (.cells #[.string ⟨#[]⟩, .int .u16 0, .int .u16 0, .int .u32 0, .slice none 0 0, .slice none 0 0, .slice none 0 0] 27))) := ⟨hG0, hH0, hs0, hB0⟩
  clear hG0 hH0 hB0 hs0 hR
  generalize ((w.alloc (.cells #[.string x, .int .u16 k, .int .u16 l, .int .u32 t, .slice A1 n1 c1, .slice A2 n2 c2, .slice A3 n3 c3] 27)).alloc (.cells #[.string ⟨#[]⟩, .int .u16 0, .int .u16 0, .int .u32 0, .slice none 0 0, .slice none 0 0, .slice none 0 0] 27)) = w0 at *
  generalize hgw : w.heap.size = g at *
  have HGW := Lib.hid hgw
  clear hgw
  have hcut0 := HC.out
  have hgl : g < w0.heap.size := by have := hcut0.2.2.1; omega
  have hg2 : g + 2 ≤ w0.heap.size := hcut0.2.2.1
  have p4 : w0.cell? ⟨g, 4, none⟩ = some (.slice A1 n1 c1) := by rw [Lib.cell_of_heap hcut0.1]; rfl
  have HSRC := Lib.hid (strs_below (strs_of (HRg.out.on (hcut0.2.2.2) (Nat.le_of_lt hgl)).rd1 HL1.out HF1.out) (w' := (w0.alloc (.cells M1 9)).drew) ((Below.refl _ w0).alloc (Nat.le_refl _) _).drew)
  have hown0 : (w0.alloc (.cells M1 9)).drew.ownsRow w0.heap.size 9 1 (.slice (some ⟨w0.heap.size, 0, none⟩) 0 m1) 0 [] := made0_strs w0 M1 m1 w0.heap.size HM1.out hm1le (Nat.le_refl _)
  have HOWN := Lib.hid hown0
  clear hcut0 hown0
  go_upto_region 1 with fail
  go_cut [] from 3 to 30 (fun wx => ∃ B1 d1, Hid (CutInv w g #[.string x, .int .u16 k, .int .u16 l, .int .u32 t, .slice B1 n1 d1, .slice A2 n2 c2, .slice A3 n3 c3] #[.string ⟨#[]⟩, .int .u16 0, .int .u16 0, .int .u32 0, .slice none 0 0, .slice none 0 0, .slice none 0 0] wx) ∧ Hid (wx.ownsRow (g + 2) 9 1 (.slice B1 n1 d1) n1 (strCs R.names)))
  case first =>
    go_region_law (first
      | (refine step_append_strs (by rfl) _ _ (by rfl) w0.heap.size (.slice (some ⟨w0.heap.size, 0, none⟩) 0 m1) 0 [] (by rfl) HOWN.out (.slice A1 n1 c1) (by rfl) n1 R.names HSRC.out (by omega) (by simp) ?_; intro v' w2 hown2 hgrow; rw [Nat.zero_add, List.nil_append] at hown2; obtain ⟨B1, d1, rfl, _, _, _⟩ := own_rds hown2 HL1.out.symm; have hb2 := grown_block2 HC.out.1 hgrow; have q4 : w2.cell? ⟨g, 4, none⟩ = some (.slice A1 n1 c1) := (by rw [Lib.cell_of_heap hb2]; rfl); have z4 : w2.frozen? ⟨g, 4, none⟩ = false := Lib.frozen_of_heap hb2 4))
    all_goals
      go_wp2_with fail
      go_meet
      exact ⟨B1, d1, Lib.hid (cut_step HC.out hgrow (by rfl)), Lib.hid (own_set (own_low hown2 hg2) (by show g < g + 2; omega))⟩
  case rest =>
    clear HSRC HOWN p4 hgl hg2  HC
    obtain ⟨B1, d1, HC, HO1⟩ := hcut
    generalize wc = w1 at *
    have hcut0 := HC.out
    have hgl : g < w1.heap.size := by have := hcut0.2.2.1; omega
    have hg2 : g + 2 ≤ w1.heap.size := hcut0.2.2.1
    have p5 : w1.cell? ⟨g, 5, none⟩ = some (.slice A2 n2 c2) := by rw [Lib.cell_of_heap hcut0.1]; rfl
    have HSRC := Lib.hid (nums_below (nums_of (HRg.out.on (hcut0.2.2.2) (Nat.le_of_lt hgl)).rd2 HL2.out HF2.out) (w' := (w1.alloc (.cells M2 23)).drew) ((Below.refl _ w1).alloc (Nat.le_refl _) _).drew)
    have hown0 : (w1.alloc (.cells M2 23)).drew.ownsRow w1.heap.size 23 1 (.slice (some ⟨w1.heap.size, 0, none⟩) 0 m2) 0 [] := made0_nums w1 M2 m2 w1.heap.size HM2.out hm2le (Nat.le_refl _)
    have HOWN := Lib.hid hown0
    clear hcut0 hown0
    go_upto_region 2 with fail
    go_cut [] from 3 to 30 (fun wx => ∃ B2 d2, Hid (CutInv w g #[.string x, .int .u16 k, .int .u16 l, .int .u32 t, .slice B1 n1 d1, .slice B2 n2 d2, .slice A3 n3 c3] #[.string ⟨#[]⟩, .int .u16 0, .int .u16 0, .int .u32 0, .slice none 0 0, .slice none 0 0, .slice none 0 0] wx) ∧ Hid (wx.ownsRow (g + 2) 9 1 (.slice B1 n1 d1) n1 (strCs R.names)) ∧ Hid (wx.ownsRow (g + 2) 23 1 (.slice B2 n2 d2) n2 (numCs R.nums)))
    case first =>
      go_region_law (first
        | (refine step_append_nums (by rfl) _ _ (by rfl) w1.heap.size (.slice (some ⟨w1.heap.size, 0, none⟩) 0 m2) 0 [] (by rfl) HOWN.out (.slice A2 n2 c2) (by rfl) n2 R.nums HSRC.out (by omega) (by simp) ?_; intro v' w2 hown2 hgrow; rw [Nat.zero_add, List.nil_append] at hown2; obtain ⟨B2, d2, rfl, _, _, _⟩ := own_rdn hown2 HL2.out.symm; have hb2 := grown_block2 HC.out.1 hgrow; have q4 : w2.cell? ⟨g, 5, none⟩ = some (.slice A2 n2 c2) := (by rw [Lib.cell_of_heap hb2]; rfl); have z4 : w2.frozen? ⟨g, 5, none⟩ = false := Lib.frozen_of_heap hb2 5))
      all_goals
        go_wp2_with fail
        go_meet
        exact ⟨B2, d2, Lib.hid (cut_step HC.out hgrow (by rfl)), Lib.hid (own_step2 HO1.out hgrow rfl), Lib.hid (own_set (own_low hown2 hg2) (by show g < g + 2; omega))⟩
    case rest =>
      clear HSRC HOWN p5 hgl hg2 HO1 HC
      obtain ⟨B2, d2, HC, HO1, HO2⟩ := hcut
      generalize wc = w2 at *
      have hcut0 := HC.out
      have hgl : g < w2.heap.size := by have := hcut0.2.2.1; omega
      have hg2 : g + 2 ≤ w2.heap.size := hcut0.2.2.1
      have p6 : w2.cell? ⟨g, 6, none⟩ = some (.slice A3 n3 c3) := by rw [Lib.cell_of_heap hcut0.1]; rfl
      have HSRC := Lib.hid (strs_below (strs_of (HRg.out.on (hcut0.2.2.2) (Nat.le_of_lt hgl)).rd3 HL3.out HF3.out) (w' := (w2.alloc (.cells M3 9)).drew) ((Below.refl _ w2).alloc (Nat.le_refl _) _).drew)
      have hown0 : (w2.alloc (.cells M3 9)).drew.ownsRow w2.heap.size 9 1 (.slice (some ⟨w2.heap.size, 0, none⟩) 0 m3) 0 [] := made0_strs w2 M3 m3 w2.heap.size HM3.out hm3le (Nat.le_refl _)
      have HOWN := Lib.hid hown0
      clear hcut0 hown0
      go_upto_region 3 with fail
      go_cut [] from 3 to 30 (fun wx => ∃ B3 d3, Hid (CutInv w g #[.string x, .int .u16 k, .int .u16 l, .int .u32 t, .slice B1 n1 d1, .slice B2 n2 d2, .slice B3 n3 d3] #[.string ⟨#[]⟩, .int .u16 0, .int .u16 0, .int .u32 0, .slice none 0 0, .slice none 0 0, .slice none 0 0] wx) ∧ Hid (wx.ownsRow (g + 2) 9 1 (.slice B1 n1 d1) n1 (strCs R.names)) ∧ Hid (wx.ownsRow (g + 2) 23 1 (.slice B2 n2 d2) n2 (numCs R.nums)) ∧ Hid (wx.ownsRow (g + 2) 9 1 (.slice B3 n3 d3) n3 (strCs R.texts)) ∧ Hid (∀ a b, B1 = some a → B3 = some b → a.block ≠ b.block))
      case first =>
        go_region_law (first
          | (refine step_append_strs (by rfl) _ _ (by rfl) w2.heap.size (.slice (some ⟨w2.heap.size, 0, none⟩) 0 m3) 0 [] (by rfl) HOWN.out (.slice A3 n3 c3) (by rfl) n3 R.texts HSRC.out (by omega) (by simp) ?_; intro v' w2 hown2 hgrow; rw [Nat.zero_add, List.nil_append] at hown2; obtain ⟨B3, d3, rfl, _, _, _⟩ := own_rds hown2 HL3.out.symm; have hb2 := grown_block2 HC.out.1 hgrow; have q4 : w2.cell? ⟨g, 6, none⟩ = some (.slice A3 n3 c3) := (by rw [Lib.cell_of_heap hb2]; rfl); have z4 : w2.frozen? ⟨g, 6, none⟩ = false := Lib.frozen_of_heap hb2 6))
        all_goals
          go_wp2_with fail
          go_meet
          exact ⟨B3, d3, Lib.hid (cut_step HC.out hgrow (by rfl)), Lib.hid (own_step2 HO1.out hgrow rfl), Lib.hid (own_step2 HO2.out hgrow rfl), Lib.hid (own_set (own_low hown2 hg2) (by show g < g + 2; omega)), Lib.hid (apart_of HO1.out hown2 rfl)⟩
      case rest =>
        clear HSRC HOWN p6 hgl hg2 HO1 HO2 HC
        obtain ⟨B3, d3, HC, HO1, HO2, HO3, HAP⟩ := hcut
        generalize wc = w3 at *
        have hcut0 := HC.out
        have hh0 := hcut0.2.1
        have p0 : w3.cell? ⟨g, 0, none⟩ = some (.string x) := by rw [Lib.cell_of_heap hcut0.1]; rfl
        have p1 : w3.cell? ⟨g, 1, none⟩ = some (.int .u16 k) := by rw [Lib.cell_of_heap hcut0.1]; rfl
        have p2 : w3.cell? ⟨g, 2, none⟩ = some (.int .u16 l) := by rw [Lib.cell_of_heap hcut0.1]; rfl
        have p3 : w3.cell? ⟨g, 3, none⟩ = some (.int .u32 t) := by rw [Lib.cell_of_heap hcut0.1]; rfl
        have p4 : w3.cell? ⟨g, 4, none⟩ = some (.slice B1 n1 d1) := by rw [Lib.cell_of_heap hcut0.1]; rfl
        have p5 : w3.cell? ⟨g, 5, none⟩ = some (.slice B2 n2 d2) := by rw [Lib.cell_of_heap hcut0.1]; rfl
        have p6 : w3.cell? ⟨g, 6, none⟩ = some (.slice B3 n3 d3) := by rw [Lib.cell_of_heap hcut0.1]; rfl
        have r0 : w3.cell? ⟨(g + 1), 0, none⟩ = some (.string ⟨#[]⟩) := by rw [Lib.cell_of_heap hh0]; rfl
        have r1 : w3.cell? ⟨(g + 1), 1, none⟩ = some (.int .u16 0) := by rw [Lib.cell_of_heap hh0]; rfl
        have r2 : w3.cell? ⟨(g + 1), 2, none⟩ = some (.int .u16 0) := by rw [Lib.cell_of_heap hh0]; rfl
        have r3 : w3.cell? ⟨(g + 1), 3, none⟩ = some (.int .u32 0) := by rw [Lib.cell_of_heap hh0]; rfl
        have r4 : w3.cell? ⟨(g + 1), 4, none⟩ = some (.slice none 0 0) := by rw [Lib.cell_of_heap hh0]; rfl
        have r5 : w3.cell? ⟨(g + 1), 5, none⟩ = some (.slice none 0 0) := by rw [Lib.cell_of_heap hh0]; rfl
        have r6 : w3.cell? ⟨(g + 1), 6, none⟩ = some (.slice none 0 0) := by rw [Lib.cell_of_heap hh0]; rfl
        have rz0 : w3.frozen? ⟨(g + 1), 0, none⟩ = false := Lib.frozen_of_heap hh0 0
        have rz1 : w3.frozen? ⟨(g + 1), 1, none⟩ = false := Lib.frozen_of_heap hh0 1
        have rz2 : w3.frozen? ⟨(g + 1), 2, none⟩ = false := Lib.frozen_of_heap hh0 2
        have rz3 : w3.frozen? ⟨(g + 1), 3, none⟩ = false := Lib.frozen_of_heap hh0 3
        have rz4 : w3.frozen? ⟨(g + 1), 4, none⟩ = false := Lib.frozen_of_heap hh0 4
        have rz5 : w3.frozen? ⟨(g + 1), 5, none⟩ = false := Lib.frozen_of_heap hh0 5
        have rz6 : w3.frozen? ⟨(g + 1), 6, none⟩ = false := Lib.frozen_of_heap hh0 6
        have HH4 := Lib.hid hh0
        have HBw4 := Lib.hid hcut0.2.2.2
        clear hcut0 hh0 HC
        go_wp2_with fail
        have hF : (((((((w3.setCell ⟨g + 1, 0, none⟩ (.string x)).setCell ⟨g + 1, 1, none⟩ (.int .u16 k)).setCell ⟨g + 1, 2, none⟩ (.int .u16 l)).setCell ⟨g + 1, 3, none⟩ (.int .u32 t)).setCell ⟨g + 1, 4, none⟩ (.slice B1 n1 d1)).setCell ⟨g + 1, 5, none⟩ (.slice B2 n2 d2)).setCell ⟨g + 1, 6, none⟩ (.slice B3 n3 d3)).heap[g + 1]? = some (.cells #[.string x, .int .u16 k, .int .u16 l, .int .u32 t, .slice B1 n1 d1, .slice B2 n2 d2, .slice B3 n3 d3] 27 (0, 0)) := (set_block (i := 6) (v := .slice B3 n3 d3) (set_block (i := 5) (v := .slice B2 n2 d2) (set_block (i := 4) (v := .slice B1 n1 d1) (set_block (i := 3) (v := .int .u32 t) (set_block (i := 2) (v := .int .u16 l) (set_block (i := 1) (v := .int .u16 k) (set_block (i := 0) (v := .string x) HH4.out rfl) rfl) rfl) rfl) rfl) rfl) rfl)
        have hU1 : (((((((w3.setCell ⟨g + 1, 0, none⟩ (.string x)).setCell ⟨g + 1, 1, none⟩ (.int .u16 k)).setCell ⟨g + 1, 2, none⟩ (.int .u16 l)).setCell ⟨g + 1, 3, none⟩ (.int .u32 t)).setCell ⟨g + 1, 4, none⟩ (.slice B1 n1 d1)).setCell ⟨g + 1, 5, none⟩ (.slice B2 n2 d2)).setCell ⟨g + 1, 6, none⟩ (.slice B3 n3 d3)).ownsRow (g + 2) 9 1 (.slice B1 n1 d1) n1 (strCs R.names) := (own_set (p := ⟨g + 1, 6, none⟩) (u := .slice B3 n3 d3) (own_set (p := ⟨g + 1, 5, none⟩) (u := .slice B2 n2 d2) (own_set (p := ⟨g + 1, 4, none⟩) (u := .slice B1 n1 d1) (own_set (p := ⟨g + 1, 3, none⟩) (u := .int .u32 t) (own_set (p := ⟨g + 1, 2, none⟩) (u := .int .u16 l) (own_set (p := ⟨g + 1, 1, none⟩) (u := .int .u16 k) (own_set (p := ⟨g + 1, 0, none⟩) (u := .string x) HO1.out (Nat.lt_succ_self (g + 1))) (Nat.lt_succ_self (g + 1))) (Nat.lt_succ_self (g + 1))) (Nat.lt_succ_self (g + 1))) (Nat.lt_succ_self (g + 1))) (Nat.lt_succ_self (g + 1))) (Nat.lt_succ_self (g + 1)))
        have hU2 : (((((((w3.setCell ⟨g + 1, 0, none⟩ (.string x)).setCell ⟨g + 1, 1, none⟩ (.int .u16 k)).setCell ⟨g + 1, 2, none⟩ (.int .u16 l)).setCell ⟨g + 1, 3, none⟩ (.int .u32 t)).setCell ⟨g + 1, 4, none⟩ (.slice B1 n1 d1)).setCell ⟨g + 1, 5, none⟩ (.slice B2 n2 d2)).setCell ⟨g + 1, 6, none⟩ (.slice B3 n3 d3)).ownsRow (g + 2) 23 1 (.slice B2 n2 d2) n2 (numCs R.nums) := (own_set (p := ⟨g + 1, 6, none⟩) (u := .slice B3 n3 d3) (own_set (p := ⟨g + 1, 5, none⟩) (u := .slice B2 n2 d2) (own_set (p := ⟨g + 1, 4, none⟩) (u := .slice B1 n1 d1) (own_set (p := ⟨g + 1, 3, none⟩) (u := .int .u32 t) (own_set (p := ⟨g + 1, 2, none⟩) (u := .int .u16 l) (own_set (p := ⟨g + 1, 1, none⟩) (u := .int .u16 k) (own_set (p := ⟨g + 1, 0, none⟩) (u := .string x) HO2.out (Nat.lt_succ_self (g + 1))) (Nat.lt_succ_self (g + 1))) (Nat.lt_succ_self (g + 1))) (Nat.lt_succ_self (g + 1))) (Nat.lt_succ_self (g + 1))) (Nat.lt_succ_self (g + 1))) (Nat.lt_succ_self (g + 1)))
        have hU3 : (((((((w3.setCell ⟨g + 1, 0, none⟩ (.string x)).setCell ⟨g + 1, 1, none⟩ (.int .u16 k)).setCell ⟨g + 1, 2, none⟩ (.int .u16 l)).setCell ⟨g + 1, 3, none⟩ (.int .u32 t)).setCell ⟨g + 1, 4, none⟩ (.slice B1 n1 d1)).setCell ⟨g + 1, 5, none⟩ (.slice B2 n2 d2)).setCell ⟨g + 1, 6, none⟩ (.slice B3 n3 d3)).ownsRow (g + 2) 9 1 (.slice B3 n3 d3) n3 (strCs R.texts) := (own_set (p := ⟨g + 1, 6, none⟩) (u := .slice B3 n3 d3) (own_set (p := ⟨g + 1, 5, none⟩) (u := .slice B2 n2 d2) (own_set (p := ⟨g + 1, 4, none⟩) (u := .slice B1 n1 d1) (own_set (p := ⟨g + 1, 3, none⟩) (u := .int .u32 t) (own_set (p := ⟨g + 1, 2, none⟩) (u := .int .u16 l) (own_set (p := ⟨g + 1, 1, none⟩) (u := .int .u16 k) (own_set (p := ⟨g + 1, 0, none⟩) (u := .string x) HO3.out (Nat.lt_succ_self (g + 1))) (Nat.lt_succ_self (g + 1))) (Nat.lt_succ_self (g + 1))) (Nat.lt_succ_self (g + 1))) (Nat.lt_succ_self (g + 1))) (Nat.lt_succ_self (g + 1))) (Nat.lt_succ_self (g + 1)))
        have hBL : Below g w (((((((w3.setCell ⟨g + 1, 0, none⟩ (.string x)).setCell ⟨g + 1, 1, none⟩ (.int .u16 k)).setCell ⟨g + 1, 2, none⟩ (.int .u16 l)).setCell ⟨g + 1, 3, none⟩ (.int .u32 t)).setCell ⟨g + 1, 4, none⟩ (.slice B1 n1 d1)).setCell ⟨g + 1, 5, none⟩ (.slice B2 n2 d2)).setCell ⟨g + 1, 6, none⟩ (.slice B3 n3 d3)) := (((((((HBw4.out.setCell (p := ⟨g + 1, 0, none⟩) (Nat.le_succ g) (.string x)).setCell (p := ⟨g + 1, 1, none⟩) (Nat.le_succ g) (.int .u16 k)).setCell (p := ⟨g + 1, 2, none⟩) (Nat.le_succ g) (.int .u16 l)).setCell (p := ⟨g + 1, 3, none⟩) (Nat.le_succ g) (.int .u32 t)).setCell (p := ⟨g + 1, 4, none⟩) (Nat.le_succ g) (.slice B1 n1 d1)).setCell (p := ⟨g + 1, 5, none⟩) (Nat.le_succ g) (.slice B2 n2 d2)).setCell (p := ⟨g + 1, 6, none⟩) (Nat.le_succ g) (.slice B3 n3 d3))
        generalize (((((((w3.setCell ⟨g + 1, 0, none⟩ (.string x)).setCell ⟨g + 1, 1, none⟩ (.int .u16 k)).setCell ⟨g + 1, 2, none⟩ (.int .u16 l)).setCell ⟨g + 1, 3, none⟩ (.int .u32 t)).setCell ⟨g + 1, 4, none⟩ (.slice B1 n1 d1)).setCell ⟨g + 1, 5, none⟩ (.slice B2 n2 d2)).setCell ⟨g + 1, 6, none⟩ (.slice B3 n3 d3)) = w8 at *
        have f0 : w8.cell? ⟨(g + 1), 0, none⟩ = some (.string x) := by rw [Lib.cell_of_heap hF]; rfl
        have f1 : w8.cell? ⟨(g + 1), 1, none⟩ = some (.int .u16 k) := by rw [Lib.cell_of_heap hF]; rfl
        have f2 : w8.cell? ⟨(g + 1), 2, none⟩ = some (.int .u16 l) := by rw [Lib.cell_of_heap hF]; rfl
        have f3 : w8.cell? ⟨(g + 1), 3, none⟩ = some (.int .u32 t) := by rw [Lib.cell_of_heap hF]; rfl
        have f4 : w8.cell? ⟨(g + 1), 4, none⟩ = some (.slice B1 n1 d1) := by rw [Lib.cell_of_heap hF]; rfl
        have f5 : w8.cell? ⟨(g + 1), 5, none⟩ = some (.slice B2 n2 d2) := by rw [Lib.cell_of_heap hF]; rfl
        have f6 : w8.cell? ⟨(g + 1), 6, none⟩ = some (.slice B3 n3 d3) := by rw [Lib.cell_of_heap hF]; rfl
        exact bodyPost_ret (v := .agg #[.string x, .int .u16 k, .int .u16 l, .int .u32 t, .slice B1 n1 d1, .slice B2 n2 d2, .slice B3 n3 d3]) (by simp [results, Try.results15, go_sem, f0, f1, f2, f3, f4, f5, f6]) rfl ⟨_, _, _, _, _, _, rfl, by rw [HGW.out]; exact own_low hU1 (by omega), by rw [HGW.out]; exact own_low hU2 (by omega), by rw [HGW.out]; exact own_low hU3 (by omega), by rw [HGW.out]; exact hBL, HAP.out⟩
end Go.Proofs.Ytnpdhfjglfpjcaa
