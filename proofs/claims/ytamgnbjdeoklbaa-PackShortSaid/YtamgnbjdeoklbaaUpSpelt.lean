/- The contract of a header block's reader: a name and a value. For blocks of at most 10^6 bytes. -/
import Derived.Test.YtamgnbjdeoklbaaProg
import Derived.Test.YtamgnbjdeoklbaaBytes
import Derived.Test.YtamgnbjdeoklbaaGrown
import Derived.Test.YtamgnbjdeoklbaaTcAt
import Derived.Test.YtamgnbjdeoklbaaUpMath
import Derived.Test.YtamgnbjdeoklbaaUpRdr
import Derived.Test.YtamgnbjdeoklbaaUpTxt
import Derived.Test.YtamgnbjdeoklbaaUpEnt
import Derived.WalkKit
import Derived.Lib.Hide
import Derived.Laws.Rows
import Derived.Outline
import Derived.IntWalk
import Derived.WalkSpells
import Derived.WalkLawsBesides
namespace Go.Proofs.Ytamgnbjdeoklbaa
open Go.RowKit Bytes Tb Up

set_option maxHeartbeats 4000000 in
set_option maxRecDepth 100000 in
theorem spelt_any (r g b : Nat) (s : ByteArray) (p : Nat) (t : Tab) (k : Int) (R : Except Nat (Ent × Nat)) (w : World) (h : RdAt w r g s p) (hT : TAt w g b t) (h4 : Up.Ok4 t) (h1 : r ≠ g) (h2 : r ≠ b) (hs : s.size ≤ 1000000) (hp : p ≤ s.size) (hk1 : 1 ≤ k) (hk2 : k ≤ 8) (hR : Hid (spelt s t p k = R)) :
    Calls Try.prog 60 #[.pointer (some ⟨r, 0, none⟩), .int .i64 k] w (SpEnd w r g b s t R) := by
  have hr := hR.out
  clear hR
  unfold spelt at hr
  obtain ⟨N, hN⟩ : ∃ N, num s.data.toList p k = N := ⟨_, rfl⟩
  have HS := Lib.hid (Sp.start h hT h1 h2)
  have HI := Lib.hid (fun W (hA : RdAt W r g s p) => integer_any r g s p k N W hA hs hp hk1 hk2 (Lib.hid hN))
  rw [hN] at hr
  have H4 := Lib.hid h4
  clear h hT h1 h2 h4
  go_enter Try.func60, Try.ntmps60
  go_wp2_with fail
  generalize ((w.alloc (.cells #[.string ⟨#[]⟩, .string ⟨#[]⟩, .bool false] 45)).alloc (.cells #[.string ⟨#[]⟩, .string ⟨#[]⟩, .bool false] 45)) = W at *
  refine (HI.out W HS.out.rd).mono ?_
  cases N with
  | error x =>
    have hRe : R = .error x := hr.symm
    subst hRe
    rintro e w1 ⟨rfl, hG⟩
    have HG := Lib.hid (grown_trans HS.out.grown hG)
    clear hG
    go_wp2_with fail
    exact ⟨rfl, rfl, HG.out⟩
  | ok mq =>
    obtain ⟨m, q⟩ := mq
    obtain ⟨b1, b2, b3, b4⟩ := num_ok hN
    rw [← size_list] at b1 b3
    simp only at hr
    unfold nam at hr
    rintro e w1 ⟨rfl, hA, hG⟩
    have HS1 := Lib.hid (HS.out.num hA hG)
    clear hA hG hN
    by_cases h0 : 0 < m
    · rw [if_pos h0] at hr
      have hm0 : (0 : Int) < (m : Int) := by omega
      obtain ⟨E, hE⟩ : ∃ E, ent t m = E := ⟨_, rfl⟩
      have HE := Lib.hid (entry_any r g b s q t m E w1 HS1.out.rd HS1.out.tab H4.out b4 (Lib.hid hE))
      rw [hE] at hr
      clear hE h0
      go_wp2_with fail
      refine HE.out.mono ?_
      cases E with
      | error x =>
        have hRe : R = .error x := hr.symm
        subst hRe
        rintro e w2 ⟨rfl, hB⟩
        have HG := Lib.hid (HS1.out.below hB).grown
        clear hB
        go_wp2_with fail
        exact ⟨rfl, rfl, HG.out⟩
      | ok en =>
        obtain ⟨x, y⟩ := en
        simp only at hr
        rintro e w2 ⟨rfl, hB⟩
        have hS2 := HS1.out.below hB
        have HS2 := Lib.hid (((hS2.set0 (.string x)).set1 (.string y)).set2 (.bool false))
        obtain ⟨a1, a2, a3, a4, a5, a6⟩ := three_cells hS2.fld
        clear hB hS2
        obtain ⟨V, hV⟩ : ∃ V, txt s q = V := ⟨_, rfl⟩
        have HV := Lib.hid (fun W (hA : RdAt W r g s q) => text_any r g s q V W hA hs (by omega) (Lib.hid hV))
        rw [hV] at hr
        clear hV
        go_wp2_with fail
        refine (HV.out _ HS2.out.rd).mono ?_
        cases V with
        | error x =>
          have hRe : R = .error x := hr.symm
          subst hRe
          rintro e w3 ⟨rfl, hG⟩
          have HG := Lib.hid (grown_trans HS2.out.grown hG)
          clear hG
          go_wp2_with fail
          exact ⟨rfl, rfl, HG.out⟩
        | ok vq =>
          obtain ⟨v, q2⟩ := vq
          have hRe : R = .ok ((x, v), q2) := hr.symm
          subst hRe
          rintro e w3 ⟨rfl, hA, hG⟩
          have hS3 := HS2.out.num hA hG
          obtain ⟨f1, f2, f3, f4, f5, f6⟩ := three_cells hS3.fld
          have hS4 := hS3.set1 (.string v)
          obtain ⟨k1, k2, k3, k4, k5, k6⟩ := three_cells hS4.fld
          obtain ⟨n1, n2, n3, n4, n5, n6⟩ := three_cells hS4.ret
          have HD := Lib.hid (hS4.done (.string x) (.string v) (.bool false))
          clear hA hG hS3 hS4 a1 a2 a3 a4 a5 a6
          go_wp2_with fail
          obtain ⟨z1, z2, z3, z4⟩ := HD.out
          exact bodyPost_ret (v := .agg #[.string x, .string v, .bool false]) (results_cell_row rfl _ _ w.heap.size 45 #[.string x, .string v, .bool false] (0, 0) _ rfl z1 Try.underlying45 rfl fldInfo) rfl ⟨rfl, z2, z3, z4⟩
    · rw [if_neg h0] at hr
      have hm0 : ¬ ((0 : Int) < (m : Int)) := by omega
      obtain ⟨T, hT⟩ : ∃ T, txt s q = T := ⟨_, rfl⟩
      have HE := Lib.hid (text_any r g s q T w1 HS1.out.rd hs b3 (Lib.hid hT))
      rw [hT] at hr
      go_wp2_with fail
      refine HE.out.mono ?_
      cases T with
      | error x =>
        have hRe : R = .error x := hr.symm
        subst hRe
        rintro e w2 ⟨rfl, hG⟩
        have HG := Lib.hid (grown_trans HS1.out.grown hG)
        clear hG
        go_wp2_with fail
        exact ⟨rfl, rfl, HG.out⟩
      | ok en =>
        obtain ⟨x, q1⟩ := en
        obtain ⟨d1, d2, d3⟩ := txt_ok hT
        simp only at hr
        rintro e w2 ⟨rfl, hA, hG⟩
        have hS2 := HS1.out.num hA hG
        have HS2 := Lib.hid (hS2.set0 (.string x))
        obtain ⟨a1, a2, a3, a4, a5, a6⟩ := three_cells hS2.fld
        clear hA hG hS2 hT
        obtain ⟨V, hV⟩ : ∃ V, txt s q1 = V := ⟨_, rfl⟩
        have HV := Lib.hid (fun W (hA : RdAt W r g s q1) => text_any r g s q1 V W hA hs (by omega) (Lib.hid hV))
        rw [hV] at hr
        clear hV
        go_wp2_with fail
        refine (HV.out _ HS2.out.rd).mono ?_
        cases V with
        | error x =>
          have hRe : R = .error x := hr.symm
          subst hRe
          rintro e w3 ⟨rfl, hG⟩
          have HG := Lib.hid (grown_trans HS2.out.grown hG)
          clear hG
          go_wp2_with fail
          exact ⟨rfl, rfl, HG.out⟩
        | ok vq =>
          obtain ⟨v, q2⟩ := vq
          have hRe : R = .ok ((x, v), q2) := hr.symm
          subst hRe
          rintro e w3 ⟨rfl, hA, hG⟩
          have hS3 := HS2.out.num hA hG
          obtain ⟨f1, f2, f3, f4, f5, f6⟩ := three_cells hS3.fld
          have hS4 := hS3.set1 (.string v)
          obtain ⟨k1, k2, k3, k4, k5, k6⟩ := three_cells hS4.fld
          obtain ⟨n1, n2, n3, n4, n5, n6⟩ := three_cells hS4.ret
          have HD := Lib.hid (hS4.done (.string x) (.string v) (.bool false))
          clear hA hG hS3 hS4 a1 a2 a3 a4 a5 a6
          go_wp2_with fail
          obtain ⟨z1, z2, z3, z4⟩ := HD.out
          exact bodyPost_ret (v := .agg #[.string x, .string v, .bool false]) (results_cell_row rfl _ _ w.heap.size 45 #[.string x, .string v, .bool false] (0, 0) _ rfl z1 Try.underlying45 rfl fldInfo) rfl ⟨rfl, z2, z3, z4⟩
end Go.Proofs.Ytamgnbjdeoklbaa
