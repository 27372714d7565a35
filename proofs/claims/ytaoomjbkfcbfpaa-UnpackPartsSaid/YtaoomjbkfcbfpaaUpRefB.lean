/- The document's reading of a block: what stands in memory while it goes on. No condition but that fields are few. -/
import Derived.Test.YtaoomjbkfcbfpaaProg
import Derived.Test.YtaoomjbkfcbfpaaBytes
import Derived.Test.YtaoomjbkfcbfpaaGrown
import Derived.Test.YtaoomjbkfcbfpaaTbAt
import Derived.Test.YtaoomjbkfcbfpaaTbNil
import Derived.Test.YtaoomjbkfcbfpaaTcMem
import Derived.Test.YtaoomjbkfcbfpaaUpMath
import Derived.Test.YtaoomjbkfcbfpaaUpEnt
import Derived.Test.YtaoomjbkfcbfpaaUpField
import Derived.Test.YtaoomjbkfcbfpaaUpOwn
import Derived.Test.YtaoomjbkfcbfpaaUpRef
import Derived.WalkKit
import Derived.Lib.Hide
import Derived.Laws.Rows
namespace Go.Proofs.Ytaoomjbkfcbfpaa
open Go Go.RowKit Bytes Tb Up

/-- A table of the document's that a call made of its own. -/
theorem tab_made {w : World} {base n : Nat} {v : Value} {L : List Ent} (h : w.ownsRow base 62 2 v n (entCs L)) (hn : n = L.length) (hp : L = [] → v = .slice none 0 0) :
    ∃ A c, v = .slice A n c ∧ TabE w w.heap.size A n c L ∧ ∀ b o, A = some ⟨b, o, none⟩ → base ≤ b := by
  obtain ⟨A, c, hv, hT⟩ := tabE_own h hn (fun h0 => hp (List.length_eq_zero_iff.1 (by omega)))
  refine ⟨A, c, hv, hT, fun b o hA => ?_⟩
  subst hA
  exact (h.lt b (by rw [hv]; rfl)).1
theorem tabE_rde {w : World} {B : Nat} {A : Option Addr} {n c : Nat} {L : List Ent} (h : TabE w B A n c L) : RdE w B A L ∧ L.length = n := by
  rcases h with ⟨rfl, _, rfl, rfl⟩ | ⟨b, o, rfl, _, h3, h4⟩
  · exact ⟨RdE.void w B none, rfl⟩
  · exact ⟨h4, h3⟩
theorem refRes_t (t : Tab) (m : Nat) (A : Option Addr) (c : Nat) (w : World) (h : Hid (TabE w w.heap.size A t.2.length c t.2)) (h4 : Hid (Up.Ok4 t)) (hm : m ≤ 4096) :
    Calls Try.prog 25 #[.agg #[.int .i64 (t.1 : Int), .slice A t.2.length c], .int .i64 (m : Int)] w fun e w' => ∃ A' c', e = .returned (.agg #[.int .i64 ((resT t m).1 : Int), .slice A' (resT t m).2.length c']) ∧ TabE w' w'.heap.size A' (resT t m).2.length c' (resT t m).2 ∧ Below w.heap.size w w' ∧ ∀ b o, A' = some ⟨b, o, none⟩ → w.heap.size ≤ b := by
  have hr := tabE_rde h.out
  have hf := (Ok4.fit h4.out).2.2
  refine (refResizeN_is (t.1 : Int) (m : Int) A t.2.length c t.2 (resT t m).2 w (Lib.hid rfl) (Lib.hid hr.1) (Lib.hid hf) (by omega) (by omega) (Lib.hid rfl)).mono ?_
  rintro e w' ⟨v, rfl, hO, hB, hp⟩
  obtain ⟨A', c', rfl, hT, hA⟩ := tab_made hO rfl hp.out
  exact ⟨A', c', rfl, hT, hB, hA⟩
theorem refAdd_t (t : Tab) (x y : ByteArray) (A : Option Addr) (c : Nat) (w : World) (h : Hid (TabE w w.heap.size A t.2.length c t.2)) (h4 : Hid (Up.Ok4 t)) (hx : x.size ≤ 1000000) (hy : y.size ≤ 1000000) :
    Calls Try.prog 28 #[.agg #[.int .i64 (t.1 : Int), .slice A t.2.length c], .string x, .string y] w fun e w' => ∃ A' c', e = .returned (.agg #[.int .i64 (t.1 : Int), .slice A' (addT t (x, y)).2.length c']) ∧ TabE w' w'.heap.size A' (addT t (x, y)).2.length c' (addT t (x, y)).2 ∧ Below w.heap.size w w' ∧ ∀ b o, A' = some ⟨b, o, none⟩ → w.heap.size ≤ b := by
  have hf := Ok4.fit h4.out
  have h41 := h4.out.1
  have hsz : sz (x, y) = x.size + y.size + 32 := rfl
  have hsum : sumL ((x, y) :: t.2) ≤ 1000000000 := by
    rw [sumL, hsz]
    have := h4.out.2
    unfold OkT at this
    omega
  have fin : ∀ (e : Ending) (w' : World), (∃ v, e = .returned (.agg #[.int .i64 (t.1 : Int), v]) ∧ w'.ownsRow w.heap.size 62 2 v (addT t (x, y)).2.length (entCs (addT t (x, y)).2) ∧ Below w.heap.size w w' ∧ Hid ((addT t (x, y)).2 = [] → v = .slice none 0 0)) →
      ∃ A' c', e = .returned (.agg #[.int .i64 (t.1 : Int), .slice A' (addT t (x, y)).2.length c']) ∧ TabE w' w'.heap.size A' (addT t (x, y)).2.length c' (addT t (x, y)).2 ∧ Below w.heap.size w w' ∧ ∀ b o, A' = some ⟨b, o, none⟩ → w.heap.size ≤ b := by
    rintro e w' ⟨v, rfl, hO, hB, hp⟩
    obtain ⟨A', c', rfl, hT, hA⟩ := tab_made hO rfl hp.out
    exact ⟨A', c', rfl, hT, hB, hA⟩
  obtain ⟨n, hn⟩ : ∃ n, t.2.length = n := ⟨_, rfl⟩
  rcases h.out with ⟨rfl, rfl, h3, h5⟩ | ⟨b, o, rfl, h2, h3, h5⟩
  · have hR : leastL [(x, y)] (t.1 : Int).toNat = (addT t (x, y)).2 := by unfold addT; rw [h5]; rfl
    rw [h3]
    refine (refAddN_nil (t.1 : Int) x y (addT t (x, y)).2 w (by rw [h5] at hsum; exact hsum) (by omega) (by omega) (Lib.hid hR)).mono fin
  · refine (refAddN_some (t.1 : Int) b o t.2.length c t.2 x y (addT t (x, y)).2 w (Lib.hid rfl) (Lib.hid h5) h2 (by have := hf.1; omega) hsum (by omega) (by omega) (Lib.hid rfl)).mono fin

/-- What stands while a block is read: the state in block X, the last of the world W in which the reading began; nothing below it has changed. -/
structure Rf (W w1 : World) (X : Nat) (s : ByteArray) (t : Tab) (p e : Nat) (A0 A : Option Addr) (c : Nat) : Prop where
  at_ : XAt w1 X s t p e A c
  fr : Below X W w1
  prov : A = A0 ∨ ∀ b o, A = some ⟨b, o, none⟩ → X < b
  ok4 : Up.Ok4 t
  size : W.heap.size = X + 1
/-- The row of what came lies apart from the table's. -/
def Sep (v : Value) (A : Option Addr) : Prop := ∀ k, v.ownBlock = some k → ∀ b o, A = some ⟨b, o, none⟩ → b ≠ k
section
variable {W w1 w2 : World} {X : Nat} {s : ByteArray} {t t' : Tab} {p q e e' n : Nat} {A0 A A' : Option Addr} {c c' : Nat} {v : Value} {out : List Fld}
theorem Rf.num (h : Rf W w1 X s t p e A0 A c) (hR : XAt w2 X s t q e' A c) (hG : w1.grownBy w2 (some X)) : Rf W w2 X s t q e' A0 A c :=
  ⟨hR, below_of_grown h.fr hG (Nat.le_refl _) (by have := h.fr.size; have := h.size; omega), h.prov, h.ok4, h.size⟩
theorem Rf.below (h : Rf W w1 X s t p e A0 A c) (hB : Below w1.heap.size w1 w2) : Rf W w2 X s t p e A0 A c := h.num (h.at_.below hB) (only_of_below hB _)
theorem Rf.le (h : Rf W w1 X s t p e A0 A c) : X + 1 ≤ w1.heap.size := by have := h.fr.size; have := h.size; omega
/-- A block that is new is written. -/
theorem Rf.far (h : Rf W w1 X s t p e A0 A c) {a : Addr} (ha : X < a.block) (hA : ∀ b o, A = some ⟨b, o, none⟩ → b ≠ a.block) (u : Value) : Rf W (w1.setCell a u) X s t p e A0 A c := by
  refine ⟨⟨(Below.heap_setCell w1 a u X (by omega)).trans h.at_.cells, ?_⟩, h.fr.setCell (by omega) u, h.prov, h.ok4, h.size⟩
  exact tabE_grown (r := a.block) h.at_.tab (only_setCell (grown_refl w1 (some a.block)) (.inl rfl) u) hA
/-- The row that came stands. -/
theorem own_num (hO : w1.ownsRow (X + 1) 47 3 v n (fldCs out)) (hG : w1.grownBy w2 (some X)) : w2.ownsRow (X + 1) 47 3 v n (fldCs out) :=
  own_same hO (fun k hk => grown_block hG (hO.lt k hk).2 (by have := (hO.lt k hk).1; omega))
/-- The table was turned: laid by the call itself, then stored. -/
theorem Rf.turn (h : Rf W w1 X s t p e A0 A c) (hB : Below w1.heap.size w1 w2) (hT : TabE w2 w2.heap.size A' t'.2.length c' t'.2) (hA : ∀ b o, A' = some ⟨b, o, none⟩ → w1.heap.size ≤ b) (h4 : Up.Ok4 t') :
    Rf W ((w2.setCell ⟨X, 0, none⟩ (.int .i64 (t'.1 : Int))).setCell ⟨X, 1, none⟩ (.slice A' t'.2.length c')) X s t' p e A0 A' c' := by
  have hc := (h.at_.below hB).cells
  have hl := h.le
  have g1 := only_setCell (grown_refl w2 (some X)) (p := ⟨X, 0, none⟩) (.inl rfl) (.int .i64 (t'.1 : Int))
  have g2 := only_setCell g1 (p := ⟨X, 1, none⟩) (.inl rfl) (.slice A' t'.2.length c')
  refine ⟨⟨set5_1 (set5_0 hc), tabE_grown hT g2 (fun b o hA' => by have := hA b o hA'; omega)⟩, below_of_grown (h.fr.trans (hB.mono (by omega))) g2 (Nat.le_refl _) (by have := hB.size; omega), .inr (fun b o hA' => by have := hA b o hA'; omega), h4, h.size⟩
/-- One more field. -/
theorem Rf.app (h : Rf W w1 X s t p e A0 A c) (hO : w1.ownsRow (X + 1) 47 3 v n (fldCs out)) (hs : Sep v A) (hn : n ≤ 100) (x : Fld) :
    ∃ k cap w2, (Builtin.append_ #[33, 33] 33 #[v, .slice (some ⟨w1.heap.size, 0, none⟩) 1 1]).run Try.prog (w1.alloc (.cells #[.string x.name, .string x.val, .bool x.never] 47)) = .ok (.slice (some ⟨k, 0, none⟩) (n + 1) cap) w2 ∧
      Rf W w2 X s t p e A0 A c ∧ w2.ownsRow (X + 1) 47 3 (.slice (some ⟨k, 0, none⟩) (n + 1) cap) (n + 1) (fldCs (out ++ [x])) ∧ Sep (.slice (some ⟨k, 0, none⟩) (n + 1) cap) A := by
  have hlit := new_at w1 (.cells #[.string x.name, .string x.val, .bool x.never] 47) w1.heap.size rfl
  have hBL := (Below.refl _ w1).alloc (Nat.le_refl _) (.cells #[.string x.name, .string x.val, .bool x.never] 47)
  have hOL := own_same (w' := w1.alloc (.cells #[.string x.name, .string x.val, .bool x.never] 47)) hO (fun k hk => hBL.block k (hO.lt k hk).2)
  have hFL := h.below hBL
  have hl := hFL.le
  obtain ⟨k, cap, w2, hrun, hO2, hG2, hloc⟩ := run_append_fld hOL hlit (by omega) hl 33
  have hown : ∀ j, v.ownBlock = some j → X + 1 ≤ j := fun j hj => (hO.lt j hj).1
  refine ⟨k, cap, w2, hrun, ⟨⟨?_, ?_⟩, ?_, h.prov, h.ok4, h.size⟩, hO2, fun j hj b o hA => ?_⟩
  · exact (hG2.block X (by omega) (fun e => by have := hown X e.symm; omega)).trans hFL.at_.cells
  · rcases hFL.at_.tab with h0 | ⟨b, o, i1, i2, i3, i4⟩
    · exact .inl h0
    · refine .inr ⟨b, o, i1, i2, i3, fun hp => ?_⟩
      obtain ⟨b2, o2, e2, hbl, hc⟩ := i4 hp
      injection e2 with e2
      injection e2 with e2 e2'
      subst e2
      subst e2'
      have hb := hG2.block b hbl (fun e => hs b e.symm b o i1 rfl)
      exact ⟨b, o, rfl, Nat.lt_of_lt_of_le hbl hG2.size, fun j hj => ⟨(World.cell?_of_block (a := ⟨b, o + j * 2, none⟩) hb).trans (hc j hj).1, (World.cell?_of_block (a := ⟨b, o + j * 2 + 1, none⟩) hb).trans (hc j hj).2⟩⟩
  · exact hFL.fr.grown hG2 (by omega) (fun j hj => by have := hown j hj; omega)
  · injection hj with hj
    have hj' : k = j := hj
    subst hj'
    rcases hloc with e | e
    · exact hs _ e b o hA
    · intro hbk
      subst hbk
      rcases h.at_.tab with ⟨h1, _⟩ | ⟨b', o', i1, i2, i3, i4⟩
      · rw [hA] at h1; cases h1
      · rw [hA] at i1
        injection i1 with i1
        injection i1 with i1 i1'
        subst i1
        subst i1'
        obtain ⟨b2, o2, e2, hbl, _⟩ := i4 (by omega)
        injection e2 with e2
        injection e2 with e2 _
        subst e2
        have := hBL.size
        omega
end
end Go.Proofs.Ytaoomjbkfcbfpaa
