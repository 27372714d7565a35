/- The document's reader of a header block: the next text, an entry. For blocks of at most 10^6 bytes. -/
import Derived.Test.YtaoomjbkfcbfpaaProg
import Derived.Test.YtaoomjbkfcbfpaaBytes
import Derived.Test.YtaoomjbkfcbfpaaGrown
import Derived.Test.YtaoomjbkfcbfpaaQuiet
import Derived.Test.YtaoomjbkfcbfpaaNumHolds
import Derived.Test.YtaoomjbkfcbfpaaNumPartRef
import Derived.Test.YtaoomjbkfcbfpaaHfRefDecode
import Derived.Test.YtaoomjbkfcbfpaaTbAt
import Derived.Test.YtaoomjbkfcbfpaaTbRef
import Derived.Test.YtaoomjbkfcbfpaaTcMem
import Derived.Test.YtaoomjbkfcbfpaaUpMath
import Derived.Test.YtaoomjbkfcbfpaaUpRdr
import Derived.Test.YtaoomjbkfcbfpaaUpTxt
import Derived.Test.YtaoomjbkfcbfpaaUpEnt
import Derived.Test.YtaoomjbkfcbfpaaUpRef
import Derived.WalkKit
import Derived.Lib.Hide
import Derived.Laws.Rows
import Derived.Outline
import Derived.IntWalk
import Derived.WalkSpells
import Derived.WalkLawsBesides
import Derived.Deep.QuietTactic
import Derived.BigQuiet
import Derived.Deep.Draws
namespace Go.Proofs.Ytaoomjbkfcbfpaa
open Go.RowKit Bytes Tb Up

theorem txt_err {s : ByteArray} {p x : Nat} (h : txt s p = .error x) : x ≠ 0 := by
  unfold txt at h
  split at h
  · rename_i hn
    injection h with h
    have := num_err hn
    omega
  · split at h
    · split at h
      · cases h
      · split at h
        · cases h
        · injection h with h; omega
    · injection h with h; omega
/-- A text came, or an error stands. -/
def XTxt (w : World) (X : Nat) (s : ByteArray) (t : Tab) (A : Option Addr) (c : Nat) : Except Nat (ByteArray × Nat) → Ending → World → Prop
  | .error x, e, w' => (∃ y, e = .returned (.string y)) ∧ (∃ q, XAt w' X s t q x A c) ∧ w.grownBy w' (some X)
  | .ok (y, q), e, w' => e = .returned (.string y) ∧ XAt w' X s t q 0 A c ∧ w.grownBy w' (some X)
theorem quiet_run {f : FuncId} {args : Array Value} {w : World} {n : Nat} {v : Value}
    (h : Calls Try.prog f args (w.drewN n) fun e w' => e = .returned v ∧ w.drewN n = w') : Calls Try.prog f args (w.drewN n) fun e w'' => e = .returned v ∧ ∃ m, w'' = w.drewN m := quiet_left h

set_option maxHeartbeats 4000000 in
set_option maxRecDepth 100000 in
theorem xtext_any (X : Nat) (s : ByteArray) (t : Tab) (p : Nat) (A : Option Addr) (c : Nat) (R : Except Nat (ByteArray × Nat)) (w : World) (h : XAt w X s t p 0 A c) (hs : s.size ≤ 1000000) (hp : p ≤ s.size) (hR : Hid (txt s p = R)) :
    Calls Try.prog 37 #[.pointer (some ⟨X, 0, none⟩)] w (XTxt w X s t A c R) := by
  obtain ⟨N, hN⟩ : ∃ N, num s.data.toList p 7 = N := ⟨_, rfl⟩
  have HI := Lib.hid (fun n => xnumber_any X s t p A c 7 N (w.drewN n) (h.drewN n) hs hp (by omega) (by omega) (Lib.hid hN))
  have hr := hR.out
  unfold txt at hr
  obtain ⟨c0, c1, c2, c3, c4, cf⟩ := five_cells h.cells
  have hz0 : (((0 : Nat) : Int) == 0) = true := rfl
  have hp0 : (0 : Int) ≤ (p : Int) := by omega
  clear hR cf
  by_cases hlt : p < s.size
  · have hpi : (p : Int) < (s.size : Int) := by omega
    have hdk : decide ((p : Int) < (s.size : Int)) = true := decide_eq_true hpi
    have hb := byte_at hlt
    obtain ⟨b, hbb⟩ : ∃ b, byteAt s.data.toList p = b := ⟨_, rfl⟩
    rw [hbb] at hr hb
    obtain ⟨u, hu⟩ : ∃ u, s[p]'hlt = u := ⟨_, rfl⟩
    rw [hu] at hb
    obtain ⟨pk, hpk⟩ : ∃ pk, decide (128 ≤ b) = pk := ⟨_, rfl⟩
    have hpki : decide ((128 : Int) ≤ (u.toNat : Int)) = pk := by rw [← hpk]; exact decide_eq_decide.2 (by omega)
    cases N with
    | error x =>
      rw [hN] at hr
      simp only at hr
      subst hr
      have hx : x ≠ 0 := by rcases num_err hN with e | e <;> omega
      have hxz : ((x : Int) == 0) = false := beq_eq_false_iff_ne.2 (by omega)
      clear hN hbb h
      go_enter Try.func37, Try.ntmps37
      go_wp2_with fail
      go_quiet (fail)
      go_wp2_with fail
      refine (HI.out _).mono ?_
      rintro e w1 ⟨rfl, ⟨q, hA⟩, hG⟩
      obtain ⟨d0, d1, d2, d3, d4, df⟩ := five_cells hA.cells
      have HA := Lib.hid hA
      have HG := Lib.hid (grown_trans (grown_drewN (grown_refl w (some X)) _) hG)
      clear hA hG c0 c1 c2 c3 c4 df
      go_wp2_with fail
      go_ret
      exact ⟨⟨_, rfl⟩, ⟨_, HA.out⟩, HG.out⟩
    | ok mq =>
      obtain ⟨m, q⟩ := mq
      obtain ⟨b1, b2, b3, b4⟩ := num_ok hN
      rw [← size_list] at b1 b3
      rw [hN] at hr
      simp only at hr
      have HR := Lib.hid hr
      have HPK := Lib.hid hpk
      clear hN hbb h hr hpk
      go_enter Try.func37, Try.ntmps37
      go_wp2_with fail
      go_quiet (fail)
      go_wp2_with fail
      refine (HI.out _).mono ?_
      rintro e w1 ⟨rfl, hA, hG⟩
      obtain ⟨d0, d1, d2, d3, d4, df⟩ := five_cells hA.cells
      have df3 := df 3
      have df4 := df 4
      have HA := Lib.hid hA
      have HG := Lib.hid (grown_trans (grown_drewN (grown_refl w (some X)) _) hG)
      clear hA hG c0 c1 c2 c3 c4 df
      by_cases hin : q + m ≤ s.size
      · have hr := HR.out
        rw [if_pos hin] at hr
        obtain ⟨y, hy⟩ : ∃ y, s.extract q (q + m) = y := ⟨_, rfl⟩
        have hyl : y.size ≤ 1000000 := by rw [← hy, ByteArray.size_extract]; omega
        rw [hy] at hr
        have HPY := Lib.hid (fun W => refpart_yes s q m W (by unfold maxLen; omega) hin)
        rw [hy] at HPY
        have had : IntKind.i64.wrap ((q : Int) + (m : Int)) = ((q + m : Nat) : Int) := by rw [IntKind.wrap_i64]; omega
        have HX := Lib.hid (fun n => (HA.out.drewN n).set3 (q + m))
        have HXG := Lib.hid (fun n => only_setCell (grown_drewN HG.out n) (p := ⟨X, 3, none⟩) (.inl rfl) (.int .i64 ((q + m : Nat) : Int)))
        have HR2 := Lib.hid hr
        clear hr HR hy
        cases pk with
        | false =>
          have hb128 : b < 128 := by have := of_decide_eq_false HPK.out; omega
          have hRe : R = .ok (y, q + m) := by rw [← HR2.out, if_pos hb128]
          subst hRe
          go_wp2_with fail
          go_quiet ((go_at_call 48; exact quiet_left (HPY.out _)))
          go_wp2_with fail
          go_ret
          exact ⟨rfl, HX.out _, HXG.out _⟩
        | true =>
          have hb128 : ¬ b < 128 := by have := of_decide_eq_true HPK.out; omega
          have hr := HR2.out
          rw [if_neg hb128] at hr
          unfold unp at hr
          have HD := Lib.hid (fun w' => refDecode_is y (mk (Hf.decT (Hf.decode y.data.toList))) (Hf.decC (Hf.decode y.data.toList)) w' hyl (Lib.hid rfl) (Lib.hid rfl))
          obtain ⟨D, hD⟩ : ∃ D, Hf.decode y.data.toList = D := ⟨_, rfl⟩
          rw [hD] at hr HD
          have HR3 := Lib.hid hr
          clear hr hD HR2
          go_wp2_with fail
          go_quiet ((go_at_call 48; exact quiet_left (HPY.out _)))
          go_wp2_with fail
          refine (HD.out _).mono ?_
          rintro e w3 ⟨rfl, hB⟩
          have hX3 := (HX.out _).below hB
          have HX4 := Lib.hid (hX3.set4 (Hf.decC D))
          have HG4 := Lib.hid (only_setCell (grown_trans (HXG.out _) (only_of_below hB (some X))) (p := ⟨X, 4, none⟩) (.inl rfl) (.int .i64 (Hf.decC D : Int)))
          obtain ⟨g0, g1, g2, g3, g4, gf⟩ := five_cells hX3.cells
          have gf4 := gf 4
          clear hX3 hB gf
          go_wp2_with fail
          go_ret
          cases D with
          | none =>
            have hRe : R = .error 91 := HR3.out.symm
            subst hRe
            exact ⟨⟨_, rfl⟩, ⟨_, HX4.out⟩, HG4.out⟩
          | some z =>
            have hRe : R = .ok (mk z, q + m) := HR3.out.symm
            subst hRe
            exact ⟨rfl, HX4.out, HG4.out⟩
      · have hr := HR.out
        rw [if_neg hin] at hr
        subst hr
        have hno : holdsB s.size q m = false := by simp [holdsB]; omega
        have HPN := Lib.hid (fun W => refpart_no s q m W (by unfold maxLen; omega) hno)
        have HX := Lib.hid (fun n => (HA.out.drewN n).set4 2)
        have HXG := Lib.hid (fun n => only_setCell (grown_drewN HG.out n) (p := ⟨X, 4, none⟩) (.inl rfl) (.int .i64 ((2 : Nat) : Int)))
        clear hno
        go_wp2_with fail
        go_quiet ((go_at_call 48; exact quiet_left (HPN.out _)))
        go_wp2_with fail
        go_ret
        exact ⟨⟨_, rfl⟩, ⟨_, HX.out _⟩, HXG.out _⟩
  · have hpi : ¬ ((p : Int) < (s.size : Int)) := by omega
    have hdk : decide ((p : Int) < (s.size : Int)) = false := decide_eq_false hpi
    have hNe : ∃ x, N = .error x ∧ x ≠ 0 := by
      cases N with
      | error x => exact ⟨x, rfl, by rcases num_err hN with e | e <;> omega⟩
      | ok mq =>
        obtain ⟨m, q⟩ := mq
        have := (num_ok hN).1
        rw [← size_list] at this
        omega
    obtain ⟨x, rfl, hx⟩ := hNe
    rw [hN] at hr
    simp only at hr
    subst hr
    have hxz : ((x : Int) == 0) = false := beq_eq_false_iff_ne.2 (by omega)
    clear hN h
    go_enter Try.func37, Try.ntmps37
    go_wp2_with fail
    go_quiet (fail)
    go_wp2_with fail
    refine (HI.out _).mono ?_
    rintro e w1 ⟨rfl, ⟨q, hA⟩, hG⟩
    obtain ⟨d0, d1, d2, d3, d4, df⟩ := five_cells hA.cells
    have HA := Lib.hid hA
    have HG := Lib.hid (grown_trans (grown_drewN (grown_refl w (some X)) _) hG)
    clear hA hG c0 c1 c2 c3 c4 df
    go_wp2_with fail
    go_ret
    exact ⟨⟨_, rfl⟩, ⟨_, HA.out⟩, HG.out⟩
theorem xtext_bad (X : Nat) (s : ByteArray) (t : Tab) (p x : Nat) (A : Option Addr) (c : Nat) (w : World) (h : XAt w X s t p x A c) (hx : x ≠ 0) :
    Calls Try.prog 37 #[.pointer (some ⟨X, 0, none⟩)] w fun e w' => e = .returned (.string ⟨#[]⟩) ∧ w' = w := by
  obtain ⟨c0, c1, c2, c3, c4, cf⟩ := five_cells h.cells
  have hz0 : ((x : Int) == 0) = false := beq_eq_false_iff_ne.2 (by omega)
  clear h
  go_enter Try.func37, Try.ntmps37
  go_wp2_with fail
  go_ret
  exact ⟨rfl, rfl⟩

/-- An entry came, or an error stands. -/
def XEnt (w : World) (X : Nat) (s : ByteArray) (t : Tab) (p : Nat) (A : Option Addr) (c : Nat) : Except Nat Ent → Ending → World → Prop
  | .error x, e, w' => (∃ y z, e = .returned (.agg #[.string y, .string z])) ∧ XAt w' X s t p x A c ∧ w.grownBy w' (some X)
  | .ok y, e, w' => e = .returned (.agg #[.string y.1, .string y.2]) ∧ XAt w' X s t p 0 A c ∧ w.grownBy w' (some X)
abbrev EZ : Obj := .cells #[.string ⟨#[]⟩, .string ⟨#[]⟩] 62
/-- What is told is laid in a block that is new. -/
theorem ent_done {w U : World} {X : Nat} {x y : Value} (hg : w.grownBy U (some X)) (hG : U.heap[w.heap.size]? = some EZ) (hX : X < w.heap.size) :
    (U.setCell ⟨w.heap.size, 0, none⟩ x).heap[w.heap.size]? = some (.cells #[x, .string ⟨#[]⟩] 62 (0, 0)) ∧
    ((U.setCell ⟨w.heap.size, 0, none⟩ x).setCell ⟨w.heap.size, 1, none⟩ y).heap[w.heap.size]? = some (.cells #[x, y] 62 (0, 0)) ∧
    ((U.setCell ⟨w.heap.size, 0, none⟩ x).setCell ⟨w.heap.size, 1, none⟩ y).heap[X]? = U.heap[X]? ∧ w.grownBy ((U.setCell ⟨w.heap.size, 0, none⟩ x).setCell ⟨w.heap.size, 1, none⟩ y) (some X) :=
  ⟨zero_set hG, two_set hG, (Below.heap_setCell _ ⟨w.heap.size, 1, none⟩ y X (by show X ≠ w.heap.size; omega)).trans (Below.heap_setCell _ ⟨w.heap.size, 0, none⟩ x X (by show X ≠ w.heap.size; omega)),
    only_setCell (only_setCell hg (p := ⟨w.heap.size, 0, none⟩) (.inr (Nat.le_refl _)) x) (p := ⟨w.heap.size, 1, none⟩) (.inr (Nat.le_refl _)) y⟩

set_option maxHeartbeats 4000000 in
set_option maxRecDepth 100000 in
theorem xentry_any (X : Nat) (s : ByteArray) (t : Tab) (p : Nat) (A : Option Addr) (c : Nat) (m : Nat) (R : Except Nat Ent) (w : World) (h : XAt w X s t p 0 A c) (h4 : Up.Ok4 t) (hm : m ≤ 4294967295) (hR : Hid (ent t m = R)) :
    Calls Try.prog 26 #[.pointer (some ⟨X, 0, none⟩), .int .i64 (m : Int)] w (XEnt w X s t p A c R) := by
  have hr := hR.out
  clear hR
  unfold ent at hr
  obtain ⟨a, ha⟩ : ∃ a, atR (fixedT ++ t.2) (m : Int) = a := ⟨_, rfl⟩
  rw [ha] at hr
  obtain ⟨⟨x, y⟩, q⟩ := a
  have B0 : Below w.heap.size w (w.alloc EZ) := (Below.refl _ w).alloc (Nat.le_refl _) _
  have hA := h.below B0
  obtain ⟨c0, c1, c2, c3, c4, cf⟩ := five_cells hA.cells
  have K := Lib.hid (heap_alloc_new w EZ)
  have HB0 := Lib.hid B0
  have HXA := Lib.hid hA
  have hfit := (Ok4.fit h4).1
  have HAT := Lib.hid (refAt_is (t.1 : Int) A t.2.length c t.2 (m : Int) x y q _ (Lib.hid hA.tab) (Lib.hid rfl) (by omega) (by omega) (by omega) (Lib.hid ha))
  have hz0 : (((0 : Nat) : Int) == 0) = true := rfl
  have hXl := h.lt
  have HW := Lib.hid h
  have HLT := Lib.hid (show w.heap.size < (w.alloc EZ).heap.size by simp)
  clear B0 h hA ha cf hfit
  go_enter Try.func26, Try.ntmps26
  go_wp2_with fail
  generalize w.alloc (.cells #[.string ⟨#[]⟩, .string ⟨#[]⟩] 62) = W at *
  refine HAT.out.mono ?_
  rintro e w1 ⟨rfl, hB⟩
  have hK1 := (hB.block w.heap.size HLT.out).trans K.out
  have hs1 : w.heap.size < w1.heap.size := world_lt hK1
  have hE := (Below.refl _ w1).alloc (Nat.le_refl _) (.cells #[.string x, .string y] 62)
  have HX5 := Lib.hid ((HXA.out.below hB).below hE)
  have HK5 := Lib.hid ((hE.block w.heap.size hs1).trans hK1)
  have HG5 := Lib.hid (only_of_below ((HB0.out.trans (hB.mono (Nat.le_of_lt HLT.out))).trans (hE.mono (Nat.le_of_lt hs1))) (some X))
  have HE5 := Lib.hid (new_at w1 (.cells #[.string x, .string y] 62) w1.heap.size rfl)
  clear hE hK1 hB c0 c1 c2 c3 c4
  go_upto_region 4 with fail
  generalize w1.alloc (.cells #[.string x, .string y] 62) = W5 at *
  generalize w1.heap.size = E at *
  obtain ⟨c0, c1, c2, c3, c4, cf⟩ := five_cells HX5.out.cells
  have cf4 := cf 4
  obtain ⟨z1, z2, z3, z4⟩ := two_cells HE5.out
  cases q with
  | false =>
    have hRe : R = .error 92 := hr.symm
    subst hRe
    have hU := set5_4 (y := .int .i64 92) HX5.out.cells
    have hUG := (Below.heap_setCell W5 ⟨X, 4, none⟩ (.int .i64 92) w.heap.size (by show w.heap.size ≠ X; omega)).trans HK5.out
    have hUE := (Below.heap_setCell W5 ⟨X, 4, none⟩ (.int .i64 92) E (by show E ≠ X; omega)).trans HE5.out
    obtain ⟨y1, y2, y3, y4⟩ := two_cells hUE
    have hgU := only_setCell HG5.out (p := ⟨X, 4, none⟩) (.inl rfl) (.int .i64 92)
    clear hUE
    obtain ⟨m2, m3, m4, m5⟩ := ent_done (x := .string x) (y := .string y) hgU hUG hXl
    obtain ⟨n1, n2, n3, n4⟩ := two_cells hUG
    obtain ⟨q1, q2, q3, q4⟩ := two_cells m2
    have HV := Lib.hid m3
    have HX := Lib.hid (HW.out.turn (p' := p) (e' := 92) m5 (m4.trans hU))
    have HG := Lib.hid m5
    clear hU hUG hgU m2 m3 m4 m5
    go_wp2_with fail
    exact bodyPost_ret (v := .agg #[.string x, .string y]) (results_cell_row rfl _ _ w.heap.size 62 #[.string x, .string y] (0, 0) _ rfl HV.out Try.underlying62 rfl entInfo) rfl ⟨⟨_, _, rfl⟩, HX.out, HG.out⟩
  | true =>
    have hRe : R = .ok (x, y) := hr.symm
    subst hRe
    have hU := HX5.out.cells
    have hUG := HK5.out
    have hgU := HG5.out
    obtain ⟨m2, m3, m4, m5⟩ := ent_done (x := .string x) (y := .string y) hgU hUG hXl
    obtain ⟨n1, n2, n3, n4⟩ := two_cells hUG
    obtain ⟨q1, q2, q3, q4⟩ := two_cells m2
    have HV := Lib.hid m3
    have HX := Lib.hid (HW.out.turn (p' := p) (e' := 0) m5 (m4.trans hU))
    have HG := Lib.hid m5
    clear hU hUG hgU m2 m3 m4 m5
    go_wp2_with fail
    exact bodyPost_ret (v := .agg #[.string x, .string y]) (results_cell_row rfl _ _ w.heap.size 62 #[.string x, .string y] (0, 0) _ rfl HV.out Try.underlying62 rfl entInfo) rfl ⟨rfl, HX.out, HG.out⟩
/-- Where an error stands, nothing is told. -/
theorem xentry_bad (X : Nat) (s : ByteArray) (t : Tab) (p x : Nat) (A : Option Addr) (c : Nat) (m : Int) (w : World) (h : XAt w X s t p x A c) (hx : x ≠ 0) :
    Calls Try.prog 26 #[.pointer (some ⟨X, 0, none⟩), .int .i64 m] w fun e w' => e = .returned (.agg #[.string ⟨#[]⟩, .string ⟨#[]⟩]) ∧ Below w.heap.size w w' := by
  have hB := (Below.refl _ w).alloc (Nat.le_refl _) EZ
  obtain ⟨c0, c1, c2, c3, c4, cf⟩ := five_cells (h.below hB).cells
  have hz0 : ((x : Int) == 0) = false := beq_eq_false_iff_ne.2 (by omega)
  have HK := Lib.hid (heap_alloc_new w EZ)
  have HB := Lib.hid hB
  clear h hB
  go_enter Try.func26, Try.ntmps26
  go_wp2_with fail
  exact bodyPost_ret (v := .agg #[.string ⟨#[]⟩, .string ⟨#[]⟩]) (results_cell_row rfl _ _ w.heap.size 62 #[.string ⟨#[]⟩, .string ⟨#[]⟩] (0, 0) _ rfl HK.out Try.underlying62 rfl entInfo) rfl ⟨rfl, HB.out⟩
end Go.Proofs.Ytaoomjbkfcbfpaa
