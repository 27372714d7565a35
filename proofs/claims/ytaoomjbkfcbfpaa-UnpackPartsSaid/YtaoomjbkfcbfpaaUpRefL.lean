/- The document's reader of a header block: a name and a value. For blocks of at most 10^6 bytes. -/
import Derived.Test.YtaoomjbkfcbfpaaProg
import Derived.Test.YtaoomjbkfcbfpaaBytes
import Derived.Test.YtaoomjbkfcbfpaaGrown
import Derived.Test.YtaoomjbkfcbfpaaTbAt
import Derived.Test.YtaoomjbkfcbfpaaUpMath
import Derived.Test.YtaoomjbkfcbfpaaUpRdr
import Derived.Test.YtaoomjbkfcbfpaaUpEnt
import Derived.Test.YtaoomjbkfcbfpaaUpField
import Derived.Test.YtaoomjbkfcbfpaaUpRef
import Derived.Test.YtaoomjbkfcbfpaaUpRefT
import Derived.WalkKit
import Derived.Lib.Hide
import Derived.Laws.Rows
import Derived.Outline
import Derived.IntWalk
import Derived.WalkSpells
import Derived.WalkLawsBesides
namespace Go.Proofs.Ytaoomjbkfcbfpaa
open Go.RowKit Bytes Tb Up

/-- The name of an entry, by value. -/
theorem field_name (x y : ByteArray) (w : World) : (Instr.field 62 (.agg #[.string x, .string y]) 0).run Try.prog w = .ok (.string x) w := by kernel_rfl
/-- A name and a value came, or an error stands. -/
def XLit (w : World) (X : Nat) (s : ByteArray) (t : Tab) (A : Option Addr) (c : Nat) : Except Nat (Ent × Nat) → Ending → World → Prop
  | .error x, e, w' => (∃ y z, e = .returned (.agg #[.string y, .string z, .bool false])) ∧ (∃ q, XAt w' X s t q x A c) ∧ w.grownBy w' (some X)
  | .ok (y, q), e, w' => e = .returned (.agg #[.string y.1, .string y.2, .bool false]) ∧ XAt w' X s t q 0 A c ∧ w.grownBy w' (some X)
/-- What stands while a name and a value are read. -/
structure Xs (w w1 : World) (X : Nat) (s : ByteArray) (t : Tab) (q e : Nat) (A : Option Addr) (c : Nat) (x y z : Value) : Prop where
  base : ∃ p0 e0, XAt w X s t p0 e0 A c
  cells : w1.heap[X]? = some (.cells #[.int .i64 (t.1 : Int), .slice A t.2.length c, .string s, .int .i64 (q : Int), .int .i64 (e : Int)] 58 (0, 0))
  grown : w.grownBy w1 (some X)
  ret : w1.heap[w.heap.size]? = some (.cells #[.string ⟨#[]⟩, .string ⟨#[]⟩, .bool false] 47 (0, 0))
  fld : w1.heap[w.heap.size + 1]? = some (.cells #[x, y, z] 47 (0, 0))
section
variable {w w1 w2 : World} {X : Nat} {s : ByteArray} {t : Tab} {p q e e' : Nat} {A : Option Addr} {c : Nat} {x y z : Value}
theorem Xs.at (h : Xs w w1 X s t q e A c x y z) : XAt w1 X s t q e A c := by
  obtain ⟨p0, e0, hb⟩ := h.base
  exact hb.turn h.grown h.cells
theorem Xs.lt (h : Xs w w1 X s t q e A c x y z) : X < w.heap.size := by
  obtain ⟨p0, e0, hb⟩ := h.base
  exact hb.lt
theorem Xs.start (h : XAt w X s t p e A c) : Xs w ((w.alloc FZ).alloc FZ) X s t p e A c (.string ⟨#[]⟩) (.string ⟨#[]⟩) (.bool false) := by
  have hB : Below w.heap.size w ((w.alloc FZ).alloc FZ) := ((Below.refl _ w).alloc (Nat.le_refl _) _).alloc (by simp) _
  exact ⟨⟨_, _, h⟩, (hB.block X h.lt).trans h.cells, only_of_below hB _, old_at (new_at w _ _ rfl), new_at _ _ _ (by simp)⟩
theorem Xs.num (h : Xs w w1 X s t p e A c x y z) (hR : XAt w2 X s t q e' A c) (hG : w1.grownBy w2 (some X)) : Xs w w2 X s t q e' A c x y z := by
  have h1 := h.lt
  have l1 := world_lt h.ret
  have l2 := world_lt h.fld
  exact ⟨h.base, hR.cells, grown_trans h.grown hG, (grown_block hG l1 (by omega)).trans h.ret, (grown_block hG l2 (by omega)).trans h.fld⟩
theorem Xs.setAt (h : Xs w w1 X s t p e A c x y z) {i : Nat} {u x' y' z' : Value} (hf : (w1.setCell ⟨w.heap.size + 1, i, none⟩ u).heap[w.heap.size + 1]? = some (.cells #[x', y', z'] 47 (0, 0))) : Xs w (w1.setCell ⟨w.heap.size + 1, i, none⟩ u) X s t p e A c x' y' z' := by
  have h1 := h.lt
  exact ⟨h.base, (Below.heap_setCell w1 ⟨w.heap.size + 1, i, none⟩ u X (by show X ≠ w.heap.size + 1; omega)).trans h.cells, only_setCell h.grown (p := ⟨w.heap.size + 1, i, none⟩) (.inr (by show w.heap.size ≤ w.heap.size + 1; omega)) u,
    (Below.heap_setCell w1 ⟨w.heap.size + 1, i, none⟩ u w.heap.size (by show w.heap.size ≠ w.heap.size + 1; omega)).trans h.ret, hf⟩
theorem Xs.set0 (h : Xs w w1 X s t p e A c x y z) (u : Value) : Xs w (w1.setCell ⟨w.heap.size + 1, 0, none⟩ u) X s t p e A c u y z := h.setAt (set3_0 h.fld)
theorem Xs.set1 (h : Xs w w1 X s t p e A c x y z) (u : Value) : Xs w (w1.setCell ⟨w.heap.size + 1, 1, none⟩ u) X s t p e A c x u z := h.setAt (set3_1 h.fld)
theorem Xs.done (h : Xs w w1 X s t p e A c x y z) (u0 u1 u2 : Value) : (((w1.setCell ⟨w.heap.size, 0, none⟩ u0).setCell ⟨w.heap.size, 1, none⟩ u1).setCell ⟨w.heap.size, 2, none⟩ u2).heap[w.heap.size]? = some (.cells #[u0, u1, u2] 47 (0, 0)) ∧
    XAt (((w1.setCell ⟨w.heap.size, 0, none⟩ u0).setCell ⟨w.heap.size, 1, none⟩ u1).setCell ⟨w.heap.size, 2, none⟩ u2) X s t p e A c ∧ w.grownBy (((w1.setCell ⟨w.heap.size, 0, none⟩ u0).setCell ⟨w.heap.size, 1, none⟩ u1).setCell ⟨w.heap.size, 2, none⟩ u2) (some X) := by
  have h1 := h.lt
  have g1 := only_setCell h.grown (p := ⟨w.heap.size, 0, none⟩) (.inr (Nat.le_refl _)) u0
  have g2 := only_setCell g1 (p := ⟨w.heap.size, 1, none⟩) (.inr (Nat.le_refl _)) u1
  have g3 := only_setCell g2 (p := ⟨w.heap.size, 2, none⟩) (.inr (Nat.le_refl _)) u2
  obtain ⟨p0, e0, hb⟩ := h.base
  exact ⟨set_three h.ret, hb.turn g3 ((set_other w1 _ X _ _ _ (by omega)).trans h.cells), g3⟩
end

set_option maxHeartbeats 4000000 in
set_option maxRecDepth 100000 in
theorem xliteral_any (X : Nat) (s : ByteArray) (t : Tab) (p : Nat) (A : Option Addr) (c : Nat) (k : Int) (R : Except Nat (Ent × Nat)) (w : World) (h : XAt w X s t p 0 A c) (h4 : Up.Ok4 t) (hs : s.size ≤ 1000000) (hp : p ≤ s.size) (hk1 : 1 ≤ k) (hk2 : k ≤ 8) (hR : Hid (spelt s t p k = R)) :
    Calls Try.prog 27 #[.pointer (some ⟨X, 0, none⟩), .int .i64 k] w (XLit w X s t A c R) := by
  have hr := hR.out
  clear hR
  unfold spelt at hr
  obtain ⟨N, hN⟩ : ∃ N, num s.data.toList p k = N := ⟨_, rfl⟩
  have HS := Lib.hid (Xs.start h)
  have HI := Lib.hid (fun W (hA : XAt W X s t p 0 A c) => xnumber_any X s t p A c k N W hA hs hp hk1 hk2 (Lib.hid hN))
  rw [hN] at hr
  have H4 := Lib.hid h4
  have hfn := field_name
  clear h h4
  go_enter Try.func27, Try.ntmps27
  go_wp2_with fail
  generalize ((w.alloc (.cells #[.string ⟨#[]⟩, .string ⟨#[]⟩, .bool false] 47)).alloc (.cells #[.string ⟨#[]⟩, .string ⟨#[]⟩, .bool false] 47)) = W at *
  refine (HI.out W HS.out.at).mono ?_
  cases N with
  | error x =>
    have hRe : R = .error x := hr.symm
    subst hRe
    have hx : x ≠ 0 := by rcases num_err hN with e | e <;> omega
    rintro e w1 ⟨rfl, ⟨q, hA⟩, hG⟩
    have HS1 := Lib.hid (HS.out.num hA hG)
    clear hA hG hN
    go_wp2_with fail
    refine (xtext_bad X s t q x A c w1 HS1.out.at hx).mono ?_
    rintro e w2 ⟨rfl, rfl⟩
    have HS2 := Lib.hid (HS1.out.set0 (.string ⟨#[]⟩))
    obtain ⟨a1, a2, a3, a4, a5, a6⟩ := three_cells HS1.out.fld
    go_wp2_with fail
    refine (xtext_bad X s t q x A c _ HS2.out.at hx).mono ?_
    rintro e w3 ⟨rfl, rfl⟩
    obtain ⟨f1, f2, f3, f4, f5, f6⟩ := three_cells HS2.out.fld
    have hS4 := HS2.out.set1 (.string ⟨#[]⟩)
    obtain ⟨k1, k2, k3, k4, k5, k6⟩ := three_cells hS4.fld
    obtain ⟨n1, n2, n3, n4, n5, n6⟩ := three_cells hS4.ret
    have HD := Lib.hid (hS4.done (.string ⟨#[]⟩) (.string ⟨#[]⟩) (.bool false))
    clear hS4 a1 a2 a3 a4 a5 a6
    go_wp2_with fail
    obtain ⟨z1, z2, z3⟩ := HD.out
    exact bodyPost_ret (v := .agg #[.string ⟨#[]⟩, .string ⟨#[]⟩, .bool false]) (results_cell_row rfl _ _ w.heap.size 47 #[.string ⟨#[]⟩, .string ⟨#[]⟩, .bool false] (0, 0) _ rfl z1 Try.underlying47 rfl fldInfo) rfl ⟨⟨_, _, rfl⟩, ⟨_, z2⟩, z3⟩
  | ok mq =>
    obtain ⟨m, q⟩ := mq
    obtain ⟨b1, b2, b3, b4⟩ := num_ok hN
    rw [← size_list] at b1 b3
    simp only at hr
    unfold nam at hr
    rintro e w1 ⟨rfl, hA, hG⟩
    have HS1 := Lib.hid (HS.out.num hA hG)
    clear hA hG hN
    by_cases h0 : 0 < m
    · rw [if_pos h0] at hr
      have hm0 : (0 : Int) < (m : Int) := by omega
      obtain ⟨E, hE⟩ : ∃ E, ent t m = E := ⟨_, rfl⟩
      have HE := Lib.hid (xentry_any X s t q A c m E w1 HS1.out.at H4.out b4 (Lib.hid hE))
      rw [hE] at hr
      go_wp2_with fail
      refine HE.out.mono ?_
      cases E with
      | error x =>
        have hRe : R = .error x := hr.symm
        subst hRe
        have hx : x ≠ 0 := by
          unfold ent at hE
          split at hE
          · cases hE
          · injection hE with hE; omega
        rintro e w2 ⟨⟨n, n', rfl⟩, hA, hG⟩
        have hS2 := HS1.out.num hA hG
        have HS2 := Lib.hid (hS2.set0 (.string n))
        obtain ⟨a1, a2, a3, a4, a5, a6⟩ := three_cells hS2.fld
        clear hA hG hS2 hE
        go_wp2_with fail
        refine (xtext_bad X s t q x A c _ HS2.out.at hx).mono ?_
        rintro e w3 ⟨rfl, rfl⟩
        obtain ⟨f1, f2, f3, f4, f5, f6⟩ := three_cells HS2.out.fld
        have hS4 := HS2.out.set1 (.string ⟨#[]⟩)
        obtain ⟨k1, k2, k3, k4, k5, k6⟩ := three_cells hS4.fld
        obtain ⟨n1, n2, n3, n4, n5, n6⟩ := three_cells hS4.ret
        have HD := Lib.hid (hS4.done (.string n) (.string ⟨#[]⟩) (.bool false))
        clear hS4 a1 a2 a3 a4 a5 a6
        go_wp2_with fail
        obtain ⟨z1, z2, z3⟩ := HD.out
        exact bodyPost_ret (v := .agg #[.string n, .string ⟨#[]⟩, .bool false]) (results_cell_row rfl _ _ w.heap.size 47 #[.string n, .string ⟨#[]⟩, .bool false] (0, 0) _ rfl z1 Try.underlying47 rfl fldInfo) rfl ⟨⟨_, _, rfl⟩, ⟨_, z2⟩, z3⟩
      | ok en =>
        obtain ⟨x, y⟩ := en
        simp only at hr
        rintro e w2 ⟨rfl, hA, hG⟩
        have hS2 := HS1.out.num hA hG
        have HS2 := Lib.hid (hS2.set0 (.string x))
        obtain ⟨a1, a2, a3, a4, a5, a6⟩ := three_cells hS2.fld
        clear hA hG hS2 hE
        obtain ⟨V, hV⟩ : ∃ V, txt s q = V := ⟨_, rfl⟩
        have HV := Lib.hid (fun W (hA : XAt W X s t q 0 A c) => xtext_any X s t q A c V W hA hs (by omega) (Lib.hid hV))
        rw [hV] at hr
        clear hV
        go_wp2_with fail
        refine (HV.out _ HS2.out.at).mono ?_
        cases V with
        | error e5 =>
          have hRe : R = .error e5 := hr.symm
          subst hRe
          rintro e w3 ⟨⟨n, rfl⟩, ⟨q5, hA⟩, hG⟩
          have hS3 := HS2.out.num hA hG
          obtain ⟨f1, f2, f3, f4, f5, f6⟩ := three_cells hS3.fld
          have hS4 := hS3.set1 (.string n)
          obtain ⟨k1, k2, k3, k4, k5, k6⟩ := three_cells hS4.fld
          obtain ⟨n1, n2, n3, n4, n5, n6⟩ := three_cells hS4.ret
          have HD := Lib.hid (hS4.done (.string x) (.string n) (.bool false))
          clear hA hG hS3 hS4 a1 a2 a3 a4 a5 a6
          go_wp2_with fail
          obtain ⟨z1, z2, z3⟩ := HD.out
          exact bodyPost_ret (v := .agg #[.string x, .string n, .bool false]) (results_cell_row rfl _ _ w.heap.size 47 #[.string x, .string n, .bool false] (0, 0) _ rfl z1 Try.underlying47 rfl fldInfo) rfl ⟨⟨_, _, rfl⟩, ⟨_, z2⟩, z3⟩
        | ok vq =>
          obtain ⟨v, q2⟩ := vq
          have hRe : R = .ok ((x, v), q2) := hr.symm
          subst hRe
          rintro e w3 ⟨rfl, hA, hG⟩
          have hS3 := HS2.out.num hA hG
          obtain ⟨f1, f2, f3, f4, f5, f6⟩ := three_cells hS3.fld
          have hS4 := hS3.set1 (.string v)
          obtain ⟨k1, k2, k3, k4, k5, k6⟩ := three_cells hS4.fld
          obtain ⟨n1, n2, n3, n4, n5, n6⟩ := three_cells hS4.ret
          have HD := Lib.hid (hS4.done (.string x) (.string v) (.bool false))
          clear hA hG hS3 hS4 a1 a2 a3 a4 a5 a6
          go_wp2_with fail
          obtain ⟨z1, z2, z3⟩ := HD.out
          exact bodyPost_ret (v := .agg #[.string x, .string v, .bool false]) (results_cell_row rfl _ _ w.heap.size 47 #[.string x, .string v, .bool false] (0, 0) _ rfl z1 Try.underlying47 rfl fldInfo) rfl ⟨rfl, z2, z3⟩
    · rw [if_neg h0] at hr
      have hm0 : ¬ ((0 : Int) < (m : Int)) := by omega
      obtain ⟨T, hT⟩ : ∃ T, txt s q = T := ⟨_, rfl⟩
      have HE := Lib.hid (xtext_any X s t q A c T w1 HS1.out.at hs b3 (Lib.hid hT))
      rw [hT] at hr
      go_wp2_with fail
      refine HE.out.mono ?_
      cases T with
      | error x =>
        have hRe : R = .error x := hr.symm
        subst hRe
        have hx : x ≠ 0 := txt_err hT
        rintro e w2 ⟨⟨n, rfl⟩, ⟨q1, hA⟩, hG⟩
        have hS2 := HS1.out.num hA hG
        have HS2 := Lib.hid (hS2.set0 (.string n))
        obtain ⟨a1, a2, a3, a4, a5, a6⟩ := three_cells hS2.fld
        clear hA hG hS2 hT
        go_wp2_with fail
        refine (xtext_bad X s t q1 x A c _ HS2.out.at hx).mono ?_
        rintro e w3 ⟨rfl, rfl⟩
        obtain ⟨f1, f2, f3, f4, f5, f6⟩ := three_cells HS2.out.fld
        have hS4 := HS2.out.set1 (.string ⟨#[]⟩)
        obtain ⟨k1, k2, k3, k4, k5, k6⟩ := three_cells hS4.fld
        obtain ⟨n1, n2, n3, n4, n5, n6⟩ := three_cells hS4.ret
        have HD := Lib.hid (hS4.done (.string n) (.string ⟨#[]⟩) (.bool false))
        clear hS4 a1 a2 a3 a4 a5 a6
        go_wp2_with fail
        obtain ⟨z1, z2, z3⟩ := HD.out
        exact bodyPost_ret (v := .agg #[.string n, .string ⟨#[]⟩, .bool false]) (results_cell_row rfl _ _ w.heap.size 47 #[.string n, .string ⟨#[]⟩, .bool false] (0, 0) _ rfl z1 Try.underlying47 rfl fldInfo) rfl ⟨⟨_, _, rfl⟩, ⟨_, z2⟩, z3⟩
      | ok en =>
        obtain ⟨x, q1⟩ := en
        obtain ⟨d1, d2, d3⟩ := txt_ok hT
        simp only at hr
        rintro e w2 ⟨rfl, hA, hG⟩
        have hS2 := HS1.out.num hA hG
        have HS2 := Lib.hid (hS2.set0 (.string x))
        obtain ⟨a1, a2, a3, a4, a5, a6⟩ := three_cells hS2.fld
        clear hA hG hS2 hT
        obtain ⟨V, hV⟩ : ∃ V, txt s q1 = V := ⟨_, rfl⟩
        have HV := Lib.hid (fun W (hA : XAt W X s t q1 0 A c) => xtext_any X s t q1 A c V W hA hs (by omega) (Lib.hid hV))
        rw [hV] at hr
        clear hV
        go_wp2_with fail
        refine (HV.out _ HS2.out.at).mono ?_
        cases V with
        | error e5 =>
          have hRe : R = .error e5 := hr.symm
          subst hRe
          rintro e w3 ⟨⟨n, rfl⟩, ⟨q5, hA⟩, hG⟩
          have hS3 := HS2.out.num hA hG
          obtain ⟨f1, f2, f3, f4, f5, f6⟩ := three_cells hS3.fld
          have hS4 := hS3.set1 (.string n)
          obtain ⟨k1, k2, k3, k4, k5, k6⟩ := three_cells hS4.fld
          obtain ⟨n1, n2, n3, n4, n5, n6⟩ := three_cells hS4.ret
          have HD := Lib.hid (hS4.done (.string x) (.string n) (.bool false))
          clear hA hG hS3 hS4 a1 a2 a3 a4 a5 a6
          go_wp2_with fail
          obtain ⟨z1, z2, z3⟩ := HD.out
          exact bodyPost_ret (v := .agg #[.string x, .string n, .bool false]) (results_cell_row rfl _ _ w.heap.size 47 #[.string x, .string n, .bool false] (0, 0) _ rfl z1 Try.underlying47 rfl fldInfo) rfl ⟨⟨_, _, rfl⟩, ⟨_, z2⟩, z3⟩
        | ok vq =>
          obtain ⟨v, q2⟩ := vq
          have hRe : R = .ok ((x, v), q2) := hr.symm
          subst hRe
          rintro e w3 ⟨rfl, hA, hG⟩
          have hS3 := HS2.out.num hA hG
          obtain ⟨f1, f2, f3, f4, f5, f6⟩ := three_cells hS3.fld
          have hS4 := hS3.set1 (.string v)
          obtain ⟨k1, k2, k3, k4, k5, k6⟩ := three_cells hS4.fld
          obtain ⟨n1, n2, n3, n4, n5, n6⟩ := three_cells hS4.ret
          have HD := Lib.hid (hS4.done (.string x) (.string v) (.bool false))
          clear hA hG hS3 hS4 a1 a2 a3 a4 a5 a6
          go_wp2_with fail
          obtain ⟨z1, z2, z3⟩ := HD.out
          exact bodyPost_ret (v := .agg #[.string x, .string v, .bool false]) (results_cell_row rfl _ _ w.heap.size 47 #[.string x, .string v, .bool false] (0, 0) _ rfl z1 Try.underlying47 rfl fldInfo) rfl ⟨rfl, z2, z3⟩
end Go.Proofs.Ytaoomjbkfcbfpaa
