/- The contracts of a message's reader: a question, several of them. For texts of at most 10^6 bytes. -/
import Derived.Test.YtpmmjmnleoicjaaProg
import Derived.Test.YtpmmjmnleoicjaaBytes
import Derived.Test.YtpmmjmnleoicjaaNmMath
import Derived.Test.YtpmmjmnleoicjaaNmAt
import Derived.Test.YtpmmjmnleoicjaaMsgMath
import Derived.Test.YtpmmjmnleoicjaaKept
import Derived.Test.YtpmmjmnleoicjaaRdr
import Derived.Test.YtpmmjmnleoicjaaRdrText
import Derived.Test.YtpmmjmnleoicjaaRdrPart
import Derived.Test.YtpmmjmnleoicjaaRdrName
import Derived.WalkKit
import Derived.Lib.Hide
import Derived.Laws.Rows
import Derived.Laws.AppendOwn
import Derived.Outline
import Derived.IntWalk
import Derived.WalkSpells
import Derived.WalkLawsBesides
namespace Go.Proofs.Ytpmmjmnleoicjaa
open Go.RowKit NumMath NmMath Bytes MsgMath

theorem info_qn : (Try.prog.info? 62).map (fun i => (i.zero, i.size, i.bytes)) = some (some (.agg #[.string ⟨#[]⟩, .int .u16 0, .int .u16 0]), 3, 24) := by kernel_rfl
/-- A question's cells. -/
def qnV (q : Qn) : List Value := [.string (mk q.name), .int .u16 q.kind, .int .u16 q.cls]
def qnCs (L : List Qn) : List Value := L.flatMap qnV
theorem qnCs_snoc (L : List Qn) (q : Qn) : qnCs (L ++ [q]) = qnCs L ++ qnV q := by unfold qnCs; rw [List.flatMap_append]; simp
/-- A question came back, or the reading gave up. -/
def QnEnd (w : World) (r : Nat) (s : ByteArray) : Except Nat (Qn × Nat) → Ending → World → Prop
  | .error x, e, w' => e = gave x ∧ w.grownBy w' (some r)
  | .ok (Q, q), e, w' => e = .returned (.agg #[.string (mk Q.name), .int .u16 Q.kind, .int .u16 Q.cls]) ∧ RdrAt w' r s s (q : Int) 2 ∧ w.grownBy w' (some r)
theorem held_grown {w w0 w' : World} {r : Nat} (hB : Below w.heap.size w w0) (hg : w0.grownBy w' (some r)) : w.grownBy w' (some r) := (Kept.to_grown ((Kept.refl _ _ _).below hB |>.grown hg hB.size))

set_option maxHeartbeats 2000000 in
set_option maxRecDepth 100000 in
theorem question_any (s : ByteArray) (r p : Nat) (R : Except Nat (Qn × Nat)) (w : World) (h : RdrAt w r s s p 2) (hs : s.size ≤ 1000000) (hp : p ≤ 9223372036854775807) (hR : Hid (qn s.data.toList p = R)) :
    Calls Try.prog 98 #[.pointer (some ⟨r, 0, none⟩)] w (QnEnd w r s R) := by
  have SZ := Lib.hid (Lib.size_eq s)
  have hrl := h.lt
  obtain ⟨N, hN⟩ : ∃ N, nm s.data.toList s.data.toList.length 2 p p none [] = N := ⟨_, rfl⟩
  obtain ⟨B, hB⟩ : ∃ B, w.heap.size = B := ⟨_, rfl⟩
  have hBl : Below B w (w.alloc (.cells #[.string ⟨#[]⟩, .int .u16 0, .int .u16 0] 62)) := (Below.refl _ _).alloc (by omega) _
  have hblk : (w.alloc (.cells #[.string ⟨#[]⟩, .int .u16 0, .int .u16 0] 62)).heap[B]? = some (.cells #[.string ⟨#[]⟩, .int .u16 0, .int .u16 0] 62 (0, 0)) := by rw [← hB]; exact heap_alloc_new w _
  have hsz : (w.alloc (.cells #[.string ⟨#[]⟩, .int .u16 0, .int .u16 0] 62)).heap.size = B + 1 := by simp [hB]
  have HN := Lib.hid (pointed_any s s r 2 p N _ (h.below hBl (by omega)) (nmAt_list rfl) hs hs hp (by (show _ = _; rw [SZ.out]; exact hN)))
  have HBK := Lib.hid hblk
  have HBL := Lib.hid hBl
  have hne : B ≠ r := by omega
  have HB := Lib.hid hB
  clear h hBl hblk
  cases N with
  | error x =>
    have hRe : Hid (R = .error x) := by show _ = _; rw [← hR.out]; exact qn_err hN
    clear hN hR
    go_enter Try.func98, Try.ntmps98
    go_wp2_with fail
    refine HN.out.mono ?_
    rintro e w1 ⟨rfl, hG⟩
    have HG := Lib.hid hG; clear hG
    go_wp2_with fail
    rw [hRe.out]
    refine ⟨rfl, rfl, held_grown ?_ HG.out⟩
    rw [HB.out]; exact HBL.out
  | ok oq =>
    obtain ⟨o, q⟩ := oq
    by_cases h4 : q + 4 ≤ s.size
    · have hRe : Hid (R = .ok (⟨o, nu s.data.toList q 2, nu s.data.toList (q + 2) 2⟩, q + 4)) := by show _ = _; rw [← hR.out]; exact qn_ok hN (by rw [← SZ.out]; exact h4)
      obtain ⟨x, hx⟩ : ∃ x, nu s.data.toList q 2 = x := ⟨_, rfl⟩
      obtain ⟨y, hy⟩ : ∃ y, nu s.data.toList (q + 2) 2 = y := ⟨_, rfl⟩
      have hxl : x < 65536 := by rw [← hx]; exact nu2_lt _ _
      have hyl : y < 65536 := by rw [← hy]; exact nu2_lt _ _
      have H1 := Lib.hid (fun w' (hd : RdrAt w' r s s (q : Int) 2) => number_yes s s r q 2 2 x w' hd (by decide) (by decide) (by omega) hs hx)
      have H2 := Lib.hid (fun w' (hd : RdrAt w' r s s ((q + 2 : Nat) : Int) 2) => number_yes s s r (q + 2) 2 2 y w' hd (by decide) (by decide) (by omega) hs hy)
      rw [hx, hy] at hRe
      clear hx hy hN hR
      go_enter Try.func98, Try.ntmps98
      go_wp2_with fail
      refine HN.out.mono ?_
      rintro e w1 ⟨rfl, hD1, hG1⟩
      have HD1 := Lib.hid hD1
      have HG1 := Lib.hid hG1
      clear hD1 hG1 HN
      go_wp2_with fail
      refine (H1.out _ HD1.out).mono ?_
      rintro e w2 ⟨rfl, hD2, hG2⟩
      have HD2 := Lib.hid hD2
      have HG2 := Lib.hid (grown_trans HG1.out hG2)
      clear hD2 hG2 H1
      go_wp2_with fail
      refine (H2.out _ HD2.out).mono ?_
      rintro e w3 ⟨rfl, hD3, hG3⟩
      have hG3' := grown_trans HG2.out hG3
      have hb3 : w3.heap[B]? = some (.cells #[.string ⟨#[]⟩, .int .u16 0, .int .u16 0] 62 (0, 0)) := (grown_block hG3' (by omega) hne).trans HBK.out
      have c0 := cell_of_row w3 B 0 _ _ _ hb3
      have c1 := cell_of_row w3 B 1 _ _ _ hb3
      have c2 := cell_of_row w3 B 2 _ _ _ hb3
      have z0 : ∀ i, w3.frozen? ⟨B, i, none⟩ = false := fun i => by simp [World.frozen?, hb3]
      have HE : Hid (RdrAt (((w3.setCell ⟨B, 0, none⟩ (.string (mk o))).setCell ⟨B, 1, none⟩ (.int .u16 x)).setCell ⟨B, 2, none⟩ (.int .u16 y)) r s s ((q + 4 : Nat) : Int) 2 ∧ w.grownBy (((w3.setCell ⟨B, 0, none⟩ (.string (mk o))).setCell ⟨B, 1, none⟩ (.int .u16 x)).setCell ⟨B, 2, none⟩ (.int .u16 y)) (some r)) := by
        refine ⟨((hD3.far (q := ⟨B, 0, none⟩) (fun e => hne e.symm) _).far (q := ⟨B, 1, none⟩) (fun e => hne e.symm) _).far (q := ⟨B, 2, none⟩) (fun e => hne e.symm) _, ?_⟩
        have := held_grown (by rw [HB.out]; exact HBL.out) hG3'
        exact only_setCell (only_setCell (only_setCell this (.inr (by rw [HB.out]; exact Nat.le_refl _)) _) (.inr (by rw [HB.out]; exact Nat.le_refl _)) _) (.inr (by rw [HB.out]; exact Nat.le_refl _)) _
      clear hD3 hG3 hG3' hb3
      go_wp2_with fail
      rw [hRe.out]
      refine bodyPost_ret (v := .agg #[.string (mk o), .int .u16 x, .int .u16 y]) (by simp [results, Try.results98, go_sem, c0, c1, c2]) rfl ⟨rfl, HE.out.1, HE.out.2⟩
    · have hRe : Hid (R = .error 2) := by show _ = _; rw [← hR.out]; exact qn_short hN (by rw [← SZ.out]; omega)
      by_cases h2 : q + 2 ≤ s.size
      · obtain ⟨x, hx⟩ : ∃ x, nu s.data.toList q 2 = x := ⟨_, rfl⟩
        have hxl : x < 65536 := by rw [← hx]; exact nu2_lt _ _
        have H1 := Lib.hid (fun w' (hd : RdrAt w' r s s (q : Int) 2) => number_yes s s r q 2 2 x w' hd (by decide) (by decide) (by omega) hs hx)
        have H2 := Lib.hid (fun w' (hd : RdrAt w' r s s ((q + 2 : Nat) : Int) 2) => number_no s s r 2 ((q + 2 : Nat) : Int) 2 w' hd hs (by decide) (by omega) (by omega) (holds_no (n := s.size) (p := q + 2) (m := 2) (by omega)))
        clear hx hN hR
        go_enter Try.func98, Try.ntmps98
        go_wp2_with fail
        refine HN.out.mono ?_
        rintro e w1 ⟨rfl, hD1, hG1⟩
        have HD1 := Lib.hid hD1
        have HG1 := Lib.hid hG1
        clear hD1 hG1 HN
        go_wp2_with fail
        refine (H1.out _ HD1.out).mono ?_
        rintro e w2 ⟨rfl, hD2, hG2⟩
        have HD2 := Lib.hid hD2
        have HG2 := Lib.hid (grown_trans HG1.out hG2)
        clear hD2 hG2 H1
        go_wp2_with fail
        refine (H2.out _ HD2.out).mono ?_
        rintro e w3 ⟨rfl, m, rfl⟩
        go_wp2_with fail
        rw [hRe.out]
        refine ⟨rfl, rfl, held_grown (by rw [HB.out]; exact HBL.out) (grown_drewN HG2.out m)⟩
      · have H1 := Lib.hid (fun w' (hd : RdrAt w' r s s (q : Int) 2) => number_no s s r 2 (q : Int) 2 w' hd hs (by decide) (by omega) (by have := nm_next (Nat.le_refl _) (fun x e => by cases e) hN; rw [← SZ.out] at this; omega) (holds_no (n := s.size) (p := q) (m := 2) (by omega)))
        clear hN hR
        go_enter Try.func98, Try.ntmps98
        go_wp2_with fail
        refine HN.out.mono ?_
        rintro e w1 ⟨rfl, hD1, hG1⟩
        have HD1 := Lib.hid hD1
        have HG1 := Lib.hid hG1
        clear hD1 hG1 HN
        go_wp2_with fail
        refine (H1.out _ HD1.out).mono ?_
        rintro e w3 ⟨rfl, m, rfl⟩
        go_wp2_with fail
        rw [hRe.out]
        refine ⟨rfl, rfl, held_grown (by rw [HB.out]; exact HBL.out) (grown_drewN HG1.out m)⟩
end Go.Proofs.Ytpmmjmnleoicjaa
