/- The contract of a decoder's Read: a block's fields, or the error; the table behind it. For blocks of at most 10^4 bytes. -/
import Derived.Test.YtamgnbjdeoklbaaProg
import Derived.Test.YtamgnbjdeoklbaaBytes
import Derived.Test.YtamgnbjdeoklbaaGrown
import Derived.Test.YtamgnbjdeoklbaaTcAt
import Derived.Test.YtamgnbjdeoklbaaUpMath
import Derived.Test.YtamgnbjdeoklbaaUpRdr
import Derived.Test.YtamgnbjdeoklbaaUpFld
import Derived.Test.YtamgnbjdeoklbaaUpField
import Derived.Test.YtamgnbjdeoklbaaUpOwn
import Derived.Test.YtamgnbjdeoklbaaUpFields
import Derived.WalkKit
import Derived.Lib.Hide
import Derived.Laws.Rows
import Derived.Outline
import Derived.IntWalk
import Derived.WalkSpells
import Derived.WalkLawsBesides
import Derived.Defers
import Derived.Recover
namespace Go.Proofs.Ytamgnbjdeoklbaa
open Go.RowKit Bytes Tb Up

theorem assert_hit (v : Value) (w : World) : (Instr.typeAssert (.iface 34 v) 20 34 false).run Try.prog w = .ok v w := by kernel_rfl

theorem catch_panicking (q1 q2 : Addr) (d k : Nat) (x y : Value) (w : World) (hb : w.cell? q1 = some (.pointer (some ⟨d, 0, none⟩))) (hd : w.cell? ⟨d, 1, none⟩ = some y) (hdz : w.frozen? ⟨d, 1, none⟩ = false)
    (hc : (w.setCell ⟨d, 1, none⟩ (.bool true)).cell? q2 = some x) (hz : (w.setCell ⟨d, 1, none⟩ (.bool true)).frozen? q2 = false) :
    CallsD Try.prog 27 #[.pointer (some q1), .pointer (some q2)] (.panicking [{ v := .iface 34 (.int .i64 k), recovered := false }]) w fun e u' w' =>
      e = .returned (.tuple #[]) ∧ u' = .panicking [{ v := .iface 34 (.int .i64 k), recovered := true }] ∧ w' = (w.setCell ⟨d, 1, none⟩ (.bool true)).setCell q2 (.int .i64 k) := by
  refine callsD_of_wpS Try.func27 rfl fun c₀ cs hu => ?_
  apply wpS_seq
  apply wpS_region
  simp [wpOpsS, go_sem, recoverD, hu, Try.ntmps27, Exit.thenS]
  apply wpS_seq
  apply wpS_region
  simp [wpOpsS, go_sem, Exit.thenS]
  refine wpS_cond (t := true) rfl ?_
  simp only [if_true]
  apply wpS_seq
  apply wpS_region
  simp [wpOpsS, go_sem, Exit.thenS, hb, hd, hdz]
  apply wpS_region
  simp [wpOpsS, go_sem, assert_hit, hc, hz, bodyPostS, results, Try.results27]

theorem catch_idle (q1 q2 : Addr) (w : World) :
    CallsD Try.prog 27 #[.pointer (some q1), .pointer (some q2)] .returning w fun e u' w' => e = .returned (.tuple #[]) ∧ u' = .returning ∧ w' = w := by
  refine callsD_of_wpS Try.func27 rfl fun c₀ cs hu => ?_
  apply wpS_seq
  apply wpS_region
  simp [wpOpsS, go_sem, recoverD, hu, Try.ntmps27, Exit.thenS]
  apply wpS_seq
  apply wpS_region
  simp [wpOpsS, go_sem, Exit.thenS]
  refine wpS_cond (t := false) rfl ?_
  apply wpS_of_wp
  go_wp2_with fail
  simp [bodyPostS, results, Try.results27]
  cases c₀
  simp at hu
  subst hu
  rfl

/-- A decoder in memory: its block d, its table's block g, the table's row in block b. -/
structure DcAt (w : World) (d g b : Nat) (D : Dec) : Prop where
  cells : w.heap[d]? = some (.cells #[.pointer (some ⟨g, 0, none⟩), .bool D.2] 63 (0, 0))
  tab : TAt w g b D.1
  ok4 : Up.Ok4 D.1
  ne : d ≠ g ∧ d ≠ b
theorem DcAt.lt {w : World} {d g b : Nat} {D : Dec} (h : DcAt w d g b D) : d < w.heap.size ∧ g < w.heap.size ∧ b < w.heap.size := ⟨world_lt h.cells, h.tab.lt.1, h.tab.lt.2⟩
theorem DcAt.kept {w w' : World} {d g b : Nat} {D : Dec} (h : DcAt w d g b D) (hs : w.heap.size ≤ w'.heap.size) (hk : ∀ k, k = d ∨ k = g ∨ k = b → w'.heap[k]? = w.heap[k]?) : DcAt w' d g b D :=
  ⟨(hk d (.inl rfl)).trans h.cells, h.tab.kept hs (hk g (.inr (.inl rfl))) (fun _ => hk b (.inr (.inr rfl))), h.ok4, h.ne⟩
theorem DcAt.below {w w' : World} {d g b : Nat} {D : Dec} (h : DcAt w d g b D) (hB : Below w.heap.size w w') : DcAt w' d g b D := by
  have hl := h.lt
  exact h.kept hB.size (fun k hk => hB.block k (by omega))
theorem DcAt.drewN {w : World} {d g b : Nat} {D : Dec} (h : DcAt w d g b D) (n : Nat) : DcAt (w.drewN n) d g b D := h.kept (Nat.le_refl _) (fun _ _ => rfl)
/-- A block was read. -/
def RdEnd (w : World) (d g b : Nat) : Dec × List Fld × Nat → Ending → World → Prop
  | (D, out, c), e, w' => ∃ v, e = .returned (.tuple #[v, .int .i64 (c : Int)]) ∧ w'.ownsRow w.heap.size 45 3 v out.length (fldCs out) ∧ ∃ b', DcAt w' d g b' D ∧ Kept3 d g b w w' ∧ (b' = b ∨ b' = g ∨ w.heap.size ≤ b') ∧ ∀ k, v.ownBlock = some k → k ≠ b'

set_option maxHeartbeats 4000000 in
set_option maxRecDepth 100000 in
theorem read_any (d g b : Nat) (D : Dec) (s : ByteArray) (R : Dec × List Fld × Nat) (w : World) (h : DcAt w d g b D) (hs : s.size ≤ 10000) (hR : Hid (Up.read D s = R)) :
    Calls Try.prog 11 #[.pointer (some ⟨d, 0, none⟩), .string s] w (RdEnd w d g b R) := by
  have hmf : ∀ (fn : Fn) (first cap : Array Value) (w : World), (Instr.makeFunc fn first cap).run Try.prog w = .ok (.func fn first cap) w := fun _ _ _ _ => rfl
  obtain ⟨G, hG⟩ : ∃ G, w.heap.size = G := ⟨_, rfl⟩
  obtain ⟨t, dn⟩ := D
  have hl := h.lt
  have hr := hR.out
  obtain ⟨W, hW⟩ : ∃ W, ((w.alloc (.cells #[.pointer (some ⟨d, 0, none⟩)] 27)).alloc (.cells #[.int .i64 0] 34)) = W := ⟨_, rfl⟩
  have hWs : W.heap.size = G + 2 := by rw [← hW, ← hG]; simp
  have hB : Below G w W := by
    rw [← hW, ← hG]
    exact ((Below.refl _ w).alloc (Nat.le_refl _) _).alloc (by simp) _
  have k0 : W.heap[G]? = some (.cells #[.pointer (some ⟨d, 0, none⟩)] 27 (0, 0)) := by rw [← hW, ← hG]; exact old_at (new_at _ _ _ rfl)
  have k1 : W.heap[G + 1]? = some (.cells #[.int .i64 0] 34 (0, 0)) := by rw [← hW, ← hG]; exact new_at _ _ _ (by simp)
  have hD : DcAt W d g b (t, dn) := h.below (by rw [hG]; exact hB)
  have e0 := cell_of_row _ _ 0 _ _ _ k0
  have e1 := cell_of_row _ _ 0 _ _ _ k1
  have f0 := cell_of_row _ _ 0 _ _ _ hD.cells
  have f1 := cell_of_row _ _ 1 _ _ _ hD.cells
  have z1 : W.frozen? ⟨G + 1, 0, none⟩ = false := by simp [World.frozen?, k1]
  cases dn with
  | true =>
    have hRe : R = ((t, true), [], 8) := by rw [← hr]; unfold Up.read; simp
    subst hRe
    have hk2 : (W.setCell ⟨G + 1, 0, none⟩ (.int .i64 8)).cell? ⟨G + 1, 0, none⟩ = some (.int .i64 8) := World.cell?_setCell_same _ _ _ e1
    have HD := Lib.hid (hD.kept (w' := W.setCell ⟨G + 1, 0, none⟩ (.int .i64 8)) (by simp) (fun k hk => Below.heap_setCell W ⟨G + 1, 0, none⟩ _ k (by show k ≠ G + 1; omega)))
    have HK := Lib.hid ((Kept3.of_below (r := d) (g := g) (b := b) (by rw [hG]; exact hB)).setCell (p := ⟨G + 1, 0, none⟩) (by show w.heap.size ≤ G + 1; omega) (.int .i64 8))
    clear h hR hr hl hWs hB k0 k1 hD
    go_enter_defers Try.func11, Try.ntmps11
    go_wp2_with fail
    refine ⟨.tuple #[.slice none 0 0, .int .i64 8], by simp [results, Try.results11, go_sem, hk2], _, rfl, World.ownsRow_nil _ _ _ _, b, HD.out, HK.out, .inl rfl, fun k hk => by cases hk⟩
  | false =>
    obtain ⟨⟨t', RR⟩, hX⟩ : ∃ X, go s t 0 [] = X := ⟨_, rfl⟩
    have hA3 : RdAt (W.alloc (.cells #[.string s, .int .i64 0, .pointer (some ⟨g, 0, none⟩)] 67)) (G + 2) g s 0 := new_at _ _ _ hWs.symm
    have hB3 : Below W.heap.size W (W.alloc (.cells #[.string s, .int .i64 0, .pointer (some ⟨g, 0, none⟩)] 67)) := (Below.refl _ W).alloc (Nat.le_refl _) _
    have hs3 : (W.alloc (.cells #[.string s, .int .i64 0, .pointer (some ⟨g, 0, none⟩)] 67)).heap.size = G + 3 := by rw [World.size_alloc, hWs]
    have hl3 : d < G ∧ g < G ∧ b < G := by rw [← hG]; exact hl
    have HF := Lib.hid (fields_any (G + 2) g b s 0 t (t', RR) _ hA3 (hD.tab.below hB3) hD.ok4 (by omega) (by omega) hs (Nat.zero_le _) (Lib.hid hX))
    have h4 : Up.Ok4 t' := by
      have := run_ok4 s (s.size - 0) t 0 [] hD.ok4
      unfold go at hX
      rw [hX] at this
      exact this
    have H4 := Lib.hid h4
    have HNE := Lib.hid h.ne
    -- all that stood, but for the table, the row and the reader
    have HST := Lib.hid (fun (w1 : World) (hK : Kept3 (G + 2) g b (W.alloc (.cells #[.string s, .int .i64 0, .pointer (some ⟨g, 0, none⟩)] 67)) w1) => show (∀ k, k < G + 2 → k ≠ g → k ≠ b → w1.heap[k]? = W.heap[k]?) ∧ G + 3 ≤ w1.heap.size from
      ⟨fun k hk h1 h2 => (hK.block k (by omega) (by omega) h1 h2).trans (hB3.block k (by omega)), by have := hK.size; omega⟩)
    have HW := Lib.hid (show (∀ k, k < G → W.heap[k]? = w.heap[k]?) from fun k hk => hB.block k hk)
    have HOS := Lib.hid (show W.os = w.os ∧ W.tape = w.tape ∧ W.output = w.output from ⟨hB.os, hB.tape, hB.output⟩)
    have K0 := Lib.hid k0
    have K1 := Lib.hid k1
    have KD := Lib.hid hD.cells
    clear hA3 hB3 hD h4 hB k0 k1 h hl hs3
    cases RR with
    | error x =>
      have hRe : R = ((t', true), [], x) := by rw [← hr]; unfold Up.read; rw [if_neg Bool.false_ne_true, hX]
      subst hRe
      clear hr hR hX
      go_enter_defers Try.func11, Try.ntmps11
      go_wp2_with fail
      refine HF.out.mono ?_
      rintro e w1 ⟨rfl, ⟨b', hT1, hb1⟩, hK1⟩
      obtain ⟨hst, hsz⟩ := HST.out w1 hK1
      have j0 := (hst G (by omega) (by omega) (by omega)).trans K0.out
      have j1 := (hst (G + 1) (by omega) (by omega) (by omega)).trans K1.out
      have jd := (hst d (by omega) HNE.out.1 HNE.out.2).trans KD.out
      have j1' := (Below.heap_setCell w1 ⟨d, 1, none⟩ (.bool true) (G + 1) (by show G + 1 ≠ d; omega)).trans j1
      have jd' := one_set (y := .bool true) jd
      have jd2 := (Below.heap_setCell (w1.setCell ⟨d, 1, none⟩ (.bool true)) ⟨G + 1, 0, none⟩ (.int .i64 x) d (by show d ≠ G + 1; omega)).trans jd'
      have hk2 : ((w1.setCell ⟨d, 1, none⟩ (.bool true)).setCell ⟨G + 1, 0, none⟩ (.int .i64 x)).cell? ⟨G + 1, 0, none⟩ = some (.int .i64 x) := World.cell?_setCell_same _ _ _ (cell_of_row _ _ 0 _ _ _ j1')
      have hoth : ∀ k, k ≠ d → k ≠ G + 1 → ((w1.setCell ⟨d, 1, none⟩ (.bool true)).setCell ⟨G + 1, 0, none⟩ (.int .i64 x)).heap[k]? = w1.heap[k]? := fun k h1 h2 => (Below.heap_setCell _ ⟨G + 1, 0, none⟩ _ k h2).trans (Below.heap_setCell w1 ⟨d, 1, none⟩ _ k h1)
      have hb2 : b' ≠ d ∧ b' ≠ G + 1 := by
        have := HNE.out
        have hs4 : (W.alloc (.cells #[.string s, .int .i64 0, .pointer (some ⟨g, 0, none⟩)] 67)).heap.size = W.heap.size + 1 := by simp
        have hs5 := world_lt K1.out
        omega
      have HD := Lib.hid (show DcAt ((w1.setCell ⟨d, 1, none⟩ (.bool true)).setCell ⟨G + 1, 0, none⟩ (.int .i64 x)) d g b' (t', true) from ⟨jd2, hT1.kept (by simp) (hoth g (fun e => HNE.out.1 e.symm) (by omega)) (fun _ => hoth b' hb2.1 hb2.2), H4.out, HNE.out.1, fun e => hb2.1 e.symm⟩)
      have HK := Lib.hid (show Kept3 d g b w ((w1.setCell ⟨d, 1, none⟩ (.bool true)).setCell ⟨G + 1, 0, none⟩ (.int .i64 x)) from
        ⟨hK1.os.trans HOS.out.1, hK1.tape.trans HOS.out.2.1, hK1.output.trans HOS.out.2.2, by rw [hG]; simp; omega, fun k hk h0 h1 h2 => ((hoth k h0 (by omega)).trans (hst k (by omega) h1 h2)).trans (HW.out k (by omega))⟩)
      have HB2 := Lib.hid (show b' = b ∨ b' = g ∨ w.heap.size ≤ b' from by
        have hs4 : (W.alloc (.cells #[.string s, .int .i64 0, .pointer (some ⟨g, 0, none⟩)] 67)).heap.size = W.heap.size + 1 := by simp
        have hs5 := world_lt K1.out
        omega)
      have HC := Lib.hid (catch_panicking ⟨G, 0, none⟩ ⟨G + 1, 0, none⟩ d x (.int .i64 0) (.bool false) w1 (cell_of_row _ _ 0 _ _ _ j0) (cell_of_row _ _ 1 _ _ _ jd) (frozen_of_row _ _ _ _ _ jd) (cell_of_row _ _ 0 _ _ _ j1') (frozen_of_row _ _ _ _ _ j1'))
      clear hst hsz j0 j1 jd j1' jd' jd2 hoth hb2 hT1 hb1 hK1
      go_wp2_with fail
      refine leaves_cons (f := 27) (args := #[.pointer (some ⟨G, 0, none⟩), .pointer (some ⟨G + 1, 0, none⟩)]) (by simp) (by simp [go_sem]) ?_
      refine HC.out.mono ?_
      rintro e u' w'' ⟨rfl, rfl, rfl⟩
      simp [Leaves, settle, results, Try.results11, go_sem, hk2]
      exact ⟨_, rfl, World.ownsRow_nil _ _ _ _, b', HD.out, HK.out, HB2.out, fun k hk => by cases hk⟩
    | ok out =>
      have hRe : R = ((t', false), out, 0) := by rw [← hr]; unfold Up.read; rw [if_neg Bool.false_ne_true, hX]
      subst hRe
      clear hr hR hX
      go_enter_defers Try.func11, Try.ntmps11
      go_wp2_with fail
      refine HF.out.mono ?_
      rintro e w1 ⟨v, rfl, hO, ⟨b', hT1, hb1, hsp⟩, hK1⟩
      have HSP := Lib.hid hsp
      clear hsp
      obtain ⟨hst, hsz⟩ := HST.out w1 hK1
      have j1 := (hst (G + 1) (by omega) (by omega) (by omega)).trans K1.out
      have jd := (hst d (by omega) HNE.out.1 HNE.out.2).trans KD.out
      have jd2 := (Below.heap_setCell w1 ⟨G + 1, 0, none⟩ (.int .i64 0) d (by show d ≠ G + 1; omega)).trans jd
      have c1 := cell_of_row _ _ 0 _ _ _ j1
      have c2 := frozen_of_row _ (G + 1) 0 _ _ j1
      have hk2 : (w1.setCell ⟨G + 1, 0, none⟩ (.int .i64 0)).cell? ⟨G + 1, 0, none⟩ = some (.int .i64 0) := World.cell?_setCell_same _ _ _ c1
      have hoth : ∀ k, k ≠ G + 1 → (w1.setCell ⟨G + 1, 0, none⟩ (.int .i64 0)).heap[k]? = w1.heap[k]? := fun k h2 => Below.heap_setCell _ ⟨G + 1, 0, none⟩ _ k h2
      have hs4 : (W.alloc (.cells #[.string s, .int .i64 0, .pointer (some ⟨g, 0, none⟩)] 67)).heap.size = W.heap.size + 1 := by simp
      have hs5 := world_lt K1.out
      have hne := HNE.out
      have hb2 : b' ≠ d ∧ b' ≠ G + 1 := by omega
      have HO := Lib.hid (own_lower (own_same (w' := w1.setCell ⟨G + 1, 0, none⟩ (.int .i64 0)) hO (fun k hk => hoth k (by have := (hO.lt k hk).1; omega))) (g' := w.heap.size) (by omega))
      have HD := Lib.hid (show DcAt (w1.setCell ⟨G + 1, 0, none⟩ (.int .i64 0)) d g b' (t', false) from ⟨jd2, hT1.kept (by simp) (hoth g (by omega)) (fun _ => hoth b' hb2.2), H4.out, HNE.out.1, fun e => hb2.1 e.symm⟩)
      have HK := Lib.hid (show Kept3 d g b w (w1.setCell ⟨G + 1, 0, none⟩ (.int .i64 0)) from
        ⟨hK1.os.trans HOS.out.1, hK1.tape.trans HOS.out.2.1, hK1.output.trans HOS.out.2.2, by rw [hG]; simp; omega, fun k hk h0 h1 h2 => ((hoth k (by omega)).trans (hst k (by omega) h1 h2)).trans (HW.out k (by omega))⟩)
      have HB2 := Lib.hid (show b' = b ∨ b' = g ∨ w.heap.size ≤ b' from by omega)
      have HC := Lib.hid (catch_idle ⟨G, 0, none⟩ ⟨G + 1, 0, none⟩ (w1.setCell ⟨G + 1, 0, none⟩ (.int .i64 0)))
      clear hst hsz j1 jd jd2 hoth hb2 hT1 hb1 hK1 hO hs4 hs5 hne
      go_wp2_with fail
      refine leaves_cons (f := 27) (args := #[.pointer (some ⟨G, 0, none⟩), .pointer (some ⟨G + 1, 0, none⟩)]) (by simp) (by simp [go_sem]) ?_
      refine HC.out.mono ?_
      rintro e u' w'' ⟨rfl, rfl, rfl⟩
      simp [Leaves, settle, results, Try.results11, go_sem, hk2]
      exact ⟨_, rfl, HO.out, b', HD.out, HK.out, HB2.out, HSP.out⟩
end Go.Proofs.Ytamgnbjdeoklbaa
