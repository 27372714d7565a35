/- Texts of one proof, one behind the other: RdrNameOf, RdrAsks, RdrMsgSt. -/
import Derived.Test.YtihkmdojakalbaaProg
import Derived.Test.YtihkmdojakalbaaReadMessagesProofG1
import Derived.Test.YtihkmdojakalbaaReadMessagesProofG2
import Derived.Test.YtihkmdojakalbaaReadMessagesProofG3
import Derived.WalkKit
import Derived.Lib.Hide
import Derived.Laws.Rows
import Derived.Outline
import Derived.IntWalk
import Derived.WalkSpells
import Derived.WalkLawsBesides
import Derived.RegionTactic
import Derived.ChangeAlike
import Derived.Laws.AppendOwn

/- The contract of dnsread's Name: the name at any place, or its error. For texts of at most 10^6 bytes. -/
namespace Go.Proofs.Ytihkmdojakalbaa
open Go.RowKit NumMath NmMath Bytes

theorem part_neg (a s : ByteArray) (r k : Nat) (p : Int) (v0 : Value) (w : World) (h : RdrAt w r a s p k) (hs : s.size ≤ 1000000) (hp : p < 0) (hp1 : -9223372036854775808 ≤ p) :
    Calls Try.prog 69 #[.pointer (some ⟨r, 0, none⟩), v0] w fun e w' => e = gave k ∧ ∃ m, w' = w.drewN m := by
  have hno : Hid (holdsB s.size p ((1 : Nat) : Int) = false) := by show _ = _; simp [holdsB]; omega
  have HN := Lib.hid (number_no a s r k p 1 w h hs (by decide) (by omega) (by omega) hno)
  clear h
  go_enter Try.func69, Try.ntmps69
  go_wp2_with fail
  go_loopw [1] (fun v wr => v = v0 ∧ wr = w) (fun _ _ => 0)
  case atStart => exact ⟨rfl, rfl⟩
  case round =>
    obtain ⟨rfl, rfl⟩ := hrel
    go_wp2_with fail
    refine HN.out.mono ?_
    rintro e w1 ⟨rfl, m, rfl⟩
    go_wp2_with fail
    exact ⟨rfl, rfl, _, rfl⟩
theorem pointed_neg (a s : ByteArray) (r k : Nat) (p : Int) (w : World) (h : RdrAt w r a s p k) (hs : s.size ≤ 1000000) (hp : p < 0) (hp1 : -9223372036854775808 ≤ p) :
    Calls Try.prog 44 #[.pointer (some ⟨r, 0, none⟩)] w fun e w' => e = gave k ∧ w.grownBy w' (some r) := by
  have hc0 := h.c0
  have hc2 := h.c2
  have HN := Lib.hid (part_neg a s r k p (.slice none 0 0) w h hs hp hp1)
  clear h
  go_enter Try.func44, Try.ntmps44
  go_wp2_with fail
  refine HN.out.mono ?_
  rintro e w1 ⟨rfl, m, rfl⟩
  go_wp2_with fail
  exact ⟨rfl, rfl, grown_drewN (grown_refl _ _) _⟩
/-- A reader of a whole text at any place. -/
theorem pointed_at (s : ByteArray) (r : Nat) (p : Int) (R : Except Nat (List UInt8 × Nat)) (w : World) (h : RdrAt w r s s p 2) (hs : s.size ≤ 1000000) (hp1 : -9223372036854775808 ≤ p) (hp2 : p ≤ 9223372036854775807) (hR : Hid (nmAt s.data.toList p = R)) :
    Calls Try.prog 44 #[.pointer (some ⟨r, 0, none⟩)] w (NmEnd w r s s 2 R) := by
  by_cases hp : p < 0
  · have hRe : R = .error 2 := by rw [← hR.out]; unfold nmAt; rw [if_pos hp]
    rw [hRe]
    exact pointed_neg s s r 2 p w h hs hp hp1
  · obtain ⟨n, rfl⟩ : ∃ n : Nat, p = n := ⟨p.toNat, by omega⟩
    refine pointed_any s s r 2 n R w h (nmAt_list rfl) hs hs (by omega) ?_
    show _ = _
    rw [← hR.out]
    unfold nmAt
    rw [if_neg (by omega), ← Lib.size_eq]
    rfl

/-- What the closure of Name leaves: its two results, nothing else that stood has changed. -/
structure NameDone (b : Nat) (t : ByteArray) (n : Nat) (w w' : World) : Prop where
  os : w'.os = w.os
  tape : w'.tape = w.tape
  output : w'.output = w.output
  size : w.heap.size ≤ w'.heap.size
  block : ∀ k, k < w.heap.size → k ≠ b + 2 → k ≠ b + 3 → w'.heap[k]? = w.heap[k]?
  at2 : w'.heap[b + 2]? = some (.cells #[.string t] 9 (0, 0))
  at3 : w'.heap[b + 3]? = some (.cells #[.int .i64 n] 3 (0, 0))
/-- The four blocks of a call of Name. -/
structure NameRoom (b : Nat) (s : ByteArray) (p : Int) (w : World) : Prop where
  lt : b + 3 < w.heap.size
  at0 : w.heap[b]? = some (.cells #[.string s] 9 (0, 0))
  at1 : w.heap[b + 1]? = some (.cells #[.int .i64 p] 3 (0, 0))
  at2 : w.heap[b + 2]? = some (.cells #[.string ⟨#[]⟩] 9 (0, 0))
  at3 : w.heap[b + 3]? = some (.cells #[.int .i64 0] 3 (0, 0))
def NameEnd (b : Nat) (w : World) : Except Nat (List UInt8 × Nat) → Ending → World → Prop
  | .error x, e, w' => e = gave x ∧ Below w.heap.size w w'
  | .ok (o, n), e, w' => e = .returned (.tuple #[]) ∧ NameDone b (mk o) n w w'
theorem heap_set {W : World} {b : Nat} {x y : Value} {t : TypeId} (h : W.heap[b]? = some (.cells #[x] t (0, 0))) : (W.setCell ⟨b, 0, none⟩ y).heap[b]? = some (.cells #[y] t (0, 0)) := by
  simp [World.setCell, Array.getElem?_modify, h]

set_option maxHeartbeats 1000000 in
theorem nameIn_any (s : ByteArray) (b : Nat) (p : Int) (R : Except Nat (List UInt8 × Nat)) (w : World) (h : NameRoom b s p w) (hs : s.size ≤ 1000000) (hp1 : -9223372036854775808 ≤ p) (hp2 : p ≤ 9223372036854775807) (hR : Hid (nmAt s.data.toList p = R)) :
    Calls Try.prog 43 #[.pointer (some ⟨b, 0, none⟩), .pointer (some ⟨b + 1, 0, none⟩), .pointer (some ⟨b + 2, 0, none⟩), .pointer (some ⟨b + 3, 0, none⟩)] w (NameEnd b w R) := by
  have h0 := cell_of_row w _ 0 _ _ _ h.at0
  have h1 := cell_of_row w _ 0 _ _ _ h.at1
  have hlt := h.lt
  have HA : Hid (RdrAt (w.alloc (.cells #[.string s, .string s, .int .i64 p, .int .i64 2] 56)) w.heap.size s s p 2) := heap_alloc_new w _
  have HN := Lib.hid (pointed_at s w.heap.size p R _ HA.out hs hp1 hp2 hR)
  have HB := Lib.hid ((Below.refl w.heap.size w).alloc (Nat.le_refl _) (.cells #[.string s, .string s, .int .i64 p, .int .i64 2] 56))
  have H := Lib.hid h; clear h
  cases R with
  | error x =>
    go_enter Try.func43, Try.ntmps43
    go_wp2_with fail
    refine HN.out.mono ?_
    rintro e w1 ⟨rfl, hG⟩
    have HE := Lib.hid (below_of_grown HB.out hG (Nat.le_refl _) (by simp))
    clear hG
    go_wp2_with fail
    exact ⟨rfl, rfl, HE.out⟩
  | ok on =>
    obtain ⟨o, n⟩ := on
    go_enter Try.func43, Try.ntmps43
    go_wp2_with fail
    refine HN.out.mono ?_
    rintro e w1 ⟨rfl, hD, hG⟩
    have hE := below_of_grown HB.out hG (Nat.le_refl _) (by simp)
    have k2 := (hE.block (b + 2) (by omega)).trans H.out.at2
    have k3 := (hE.block (b + 3) (by omega)).trans H.out.at3
    have c2 := cell_of_row w1 _ 0 _ _ _ k2
    have c3 := cell_of_row w1 _ 0 _ _ _ k3
    have z2 : w1.frozen? ⟨b + 2, 0, none⟩ = false := by simp [World.frozen?, k2]
    have z3 : w1.frozen? ⟨b + 3, 0, none⟩ = false := by simp [World.frozen?, k3]
    have cp : (w1.setCell ⟨b + 2, 0, none⟩ (.string (mk o))).cell? ⟨w.heap.size, 2, none⟩ = some (.int .i64 n) := (hD.far (by simp only; omega) _).c2
    have c3' : (w1.setCell ⟨b + 2, 0, none⟩ (.string (mk o))).cell? ⟨b + 3, 0, none⟩ = some (.int .i64 0) := cell_of_row _ _ 0 _ _ _ ((Below.heap_setCell w1 ⟨b + 2, 0, none⟩ (.string (mk o)) (b + 3) (by simp)).trans k3)
    have HE := Lib.hid hE
    have K2 := Lib.hid k2
    have K3 := Lib.hid k3
    clear hG hE k2 k3 hD
    go_wp2_with fail
    go_end0
    refine ⟨rfl, HE.out.os, HE.out.tape, HE.out.output, ?_, fun k hk n2 n3 => ?_, ?_, ?_⟩
    · have := HE.out.size; simpa [World.setCell] using this
    · rw [Below.heap_setCell _ _ _ _ (by simpa using n3), Below.heap_setCell _ _ _ _ (by simpa using n2)]
      exact HE.out.block k hk
    · rw [Below.heap_setCell _ _ _ _ (by simp)]
      exact heap_set K2.out
    · exact heap_set (x := .int .i64 0) ((Below.heap_setCell w1 ⟨b + 2, 0, none⟩ (.string (mk o)) (b + 3) (by simp)).trans K3.out)

theorem room_made (s : ByteArray) (p : Int) (w : World) :
    NameRoom w.heap.size s p ((((w.alloc (.cells #[.string s] 9)).alloc (.cells #[.int .i64 p] 3)).alloc (.cells #[.string ⟨#[]⟩] 9)).alloc (.cells #[.int .i64 0] 3)) :=
  ⟨by simp, old_at (old_at (old_at (new_at _ _ _ rfl))), old_at (old_at (new_at _ _ _ (by simp))), old_at (new_at _ _ _ (by simp)), new_at _ _ _ (by simp)⟩

theorem two_set {w W : World} {g : Nat} {t u : ByteArray} {n m : Int} (hB : Below g w W) (k2 : W.heap[g + 2]? = some (.cells #[.string t] 9 (0, 0))) (k3 : W.heap[g + 3]? = some (.cells #[.int .i64 n] 3 (0, 0))) :
    ((W.setCell ⟨g + 1 + 1, 0, none⟩ (.string u)).setCell ⟨g + 1 + 1 + 1, 0, none⟩ (.int .i64 m)).drew.cell? ⟨g + 1 + 1, 0, none⟩ = some (.string u) ∧ ((W.setCell ⟨g + 1 + 1, 0, none⟩ (.string u)).setCell ⟨g + 1 + 1 + 1, 0, none⟩ (.int .i64 m)).drew.cell? ⟨g + 1 + 1 + 1, 0, none⟩ = some (.int .i64 m) ∧ Below g w ((W.setCell ⟨g + 1 + 1, 0, none⟩ (.string u)).setCell ⟨g + 1 + 1 + 1, 0, none⟩ (.int .i64 m)).drew := by
  have j2 : (W.setCell ⟨g + 1 + 1, 0, none⟩ (.string u)).heap[g + 1 + 1]? = some (.cells #[.string u] 9 (0, 0)) := heap_set k2
  have j3 : (W.setCell ⟨g + 1 + 1, 0, none⟩ (.string u)).heap[g + 1 + 1 + 1]? = some (.cells #[.int .i64 n] 3 (0, 0)) := (Below.heap_setCell W ⟨g + 1 + 1, 0, none⟩ (.string u) (g + 1 + 1 + 1) (by simp)).trans k3
  refine ⟨cell_of_row _ _ 0 _ _ _ ((Below.heap_setCell _ ⟨g + 1 + 1 + 1, 0, none⟩ (.int .i64 m) (g + 1 + 1) (by simp)).trans j2), cell_of_row _ _ 0 _ _ _ (heap_set (y := .int .i64 m) j3), ?_⟩
  exact ((hB.setCell (by simp only; omega) _).setCell (by simp only; omega) _).drew

/-- The name came back, with the place behind it, or the error. -/
def NameRet (w : World) : Except Nat (List UInt8 × Nat) → Ending → World → Prop
  | .error x, e, w' => e = .returned (.tuple #[.string ⟨#[]⟩, .int .i64 0, .int .i64 x]) ∧ Below w.heap.size w w'
  | .ok (o, n), e, w' => e = .returned (.tuple #[.string (mk o), .int .i64 n, .int .i64 0]) ∧ Below w.heap.size w w'

set_option maxHeartbeats 1000000 in
theorem name_any (s : ByteArray) (p : Int) (R : Except Nat (List UInt8 × Nat)) (w : World) (hs : s.size ≤ 1000000) (hp1 : -9223372036854775808 ≤ p) (hp2 : p ≤ 9223372036854775807) (hR : Hid (nmAt s.data.toList p = R)) :
    Calls Try.prog 21 #[.string s, .int .i64 p] w (NameRet w R) := by
  have hmf : ∀ (fn : Fn) (first cap : Array Value) (w : World), (Instr.makeFunc fn first cap).run Try.prog w = .ok (.func fn first cap) w := fun _ _ _ _ => rfl
  obtain ⟨g, hg⟩ : ∃ g, w.heap.size = g := ⟨_, rfl⟩
  obtain ⟨w4, hw4⟩ : ∃ w4, (((w.alloc (.cells #[.string s] 9)).alloc (.cells #[.int .i64 p] 3)).alloc (.cells #[.string ⟨#[]⟩] 9)).alloc (.cells #[.int .i64 0] 3) = w4 := ⟨_, rfl⟩
  have hw4s : w4.heap.size = g + 4 := by rw [← hw4, ← hg]; simp
  have hB4 : Below g w w4 := by
    rw [← hw4, ← hg]
    exact ((((Below.refl _ _).alloc (Nat.le_refl _) _).alloc (by simp) _).alloc (by simp; omega) _).alloc (by simp; omega) _
  obtain ⟨w5, hw5⟩ : ∃ w5, w4.alloc (.cells #[.int .i64 0] 28) = w5 := ⟨_, rfl⟩
  have hw5s : w5.heap.size = g + 5 := by rw [← hw5]; simp [hw4s]
  have hB5 : Below (g + 4) w4 w5 := by rw [← hw5]; exact (Below.refl _ _).alloc (by omega) _
  have hroom4 : NameRoom g s p w4 := by rw [← hw4, ← hg]; exact room_made s p w
  have hroom : NameRoom g s p w5 := ⟨by omega, (hB5.block _ (by omega)).trans hroom4.at0, (hB5.block _ (by omega)).trans hroom4.at1, (hB5.block _ (by omega)).trans hroom4.at2, (hB5.block _ (by omega)).trans hroom4.at3⟩
  have hq5 : w5.heap[g + 4]? = some (.cells #[.int .i64 0] 28 (0, 0)) := by rw [← hw5, ← hw4s]; exact heap_alloc_new w4 _
  have hin := nameIn_any s g p R w5 hroom hs hp1 hp2 hR
  cases R with
  | error x =>
    have HC := Lib.hid (caught_noName x #[.pointer (some ⟨g, 0, none⟩), .pointer (some ⟨g + 1, 0, none⟩), .pointer (some ⟨g + 2, 0, none⟩), .pointer (some ⟨g + 3, 0, none⟩)] (fun w6 => Below (g + 5) w5 w6) w4 (by
      rw [hw5, hw4s]
      refine hin.mono ?_
      rintro e w6 ⟨rfl, hB⟩
      rw [hw5s] at hB
      exact ⟨rfl, (hB.block _ (by omega)).trans hq5, hB⟩))
    rw [hw4s] at HC
    have HF : Hid (∀ w6, Below (g + 5) w5 w6 → Below g w (w6.setCell ⟨g + 4, 0, none⟩ (.int .i64 x)) ∧ (w6.setCell ⟨g + 4, 0, none⟩ (.int .i64 x)).heap[g + 2]? = some (.cells #[.string ⟨#[]⟩] 9 (0, 0)) ∧ (w6.setCell ⟨g + 4, 0, none⟩ (.int .i64 x)).heap[g + 3]? = some (.cells #[.int .i64 0] 3 (0, 0))) := fun w6 hB => by
      refine ⟨((hB4.trans (hB5.mono (by omega))).trans (hB.mono (by omega))).setCell (by simp) _, ?_, ?_⟩
      · rw [Below.heap_setCell _ _ _ _ (by simp)]; exact (hB.block _ (by omega)).trans hroom.at2
      · rw [Below.heap_setCell _ _ _ _ (by simp)]; exact (hB.block _ (by omega)).trans hroom.at3
    have HG := Lib.hid hg
    clear hin hq5 hroom hroom4 hB4 hB5 hw5 hw5s hw4s
    go_enter Try.func21, Try.ntmps21
    go_wp2_with fail
    refine HC.out.mono ?_
    rintro e w7 ⟨rfl, w6, hB6, rfl⟩
    obtain ⟨hB7, k2, k3⟩ := HF.out w6 hB6
    have c2 := cell_of_row _ _ 0 _ _ _ k2
    have c3 := cell_of_row _ _ 0 _ _ _ k3
    generalize w6.setCell ⟨g + 4, 0, none⟩ (.int .i64 x) = w7 at *
    have z2 : w7.frozen? ⟨g + 2, 0, none⟩ = false := by simp [World.frozen?, k2]
    have z3 : w7.frozen? ⟨g + 3, 0, none⟩ = false := by simp [World.frozen?, k3]
    have HW := Lib.hid (two_set (u := ⟨#[]⟩) (m := 0) hB7 k2 k3)
    clear hB6 hB7 k2 k3
    go_wp2_with fail
    go_region
    go_wp2_with fail
    obtain ⟨e2, e3, e4⟩ := HW.out
    refine bodyPost_ret (v := .tuple #[.string ⟨#[]⟩, .int .i64 0, .int .i64 x]) (by simp [results, Try.results21, go_sem, e2, e3]) rfl ⟨rfl, e4.mono (Nat.le_of_eq HG.out)⟩
  | ok on =>
    obtain ⟨o, n⟩ := on
    have HC := Lib.hid (caught_yesName #[.pointer (some ⟨g, 0, none⟩), .pointer (some ⟨g + 1, 0, none⟩), .pointer (some ⟨g + 2, 0, none⟩), .pointer (some ⟨g + 3, 0, none⟩)] (fun w6 => NameDone g (mk o) n w5 w6) w4 (by
      rw [hw5, hw4s]
      refine hin.mono ?_
      rintro e w6 ⟨rfl, hD⟩
      exact ⟨rfl, (hD.block _ (by omega) (by omega) (by omega)).trans hq5, hD⟩))
    rw [hw4s] at HC
    have HF : Hid (∀ w6, NameDone g (mk o) n w5 w6 → Below g w (w6.setCell ⟨g + 4, 0, none⟩ (.int .i64 0)) ∧ (w6.setCell ⟨g + 4, 0, none⟩ (.int .i64 0)).heap[g + 2]? = some (.cells #[.string (mk o)] 9 (0, 0)) ∧ (w6.setCell ⟨g + 4, 0, none⟩ (.int .i64 0)).heap[g + 3]? = some (.cells #[.int .i64 n] 3 (0, 0))) := fun w6 hD => by
      have hB : Below g w5 w6 := ⟨hD.os, hD.tape, hD.output, hD.size, fun k hk => hD.block k (by omega) (by omega) (by omega)⟩
      refine ⟨((hB4.trans (hB5.mono (by omega))).trans hB).setCell (by simp) _, ?_, ?_⟩
      · rw [Below.heap_setCell _ _ _ _ (by simp)]; exact hD.at2
      · rw [Below.heap_setCell _ _ _ _ (by simp)]; exact hD.at3
    have HG := Lib.hid hg
    clear hin hq5 hroom hroom4 hB4 hB5 hw5 hw5s hw4s
    go_enter Try.func21, Try.ntmps21
    go_wp2_with fail
    refine HC.out.mono ?_
    rintro e w7 ⟨rfl, w6, hB6, rfl⟩
    obtain ⟨hB7, k2, k3⟩ := HF.out w6 hB6
    have c2 := cell_of_row _ _ 0 _ _ _ k2
    have c3 := cell_of_row _ _ 0 _ _ _ k3
    generalize w6.setCell ⟨g + 4, 0, none⟩ (.int .i64 0) = w7 at *
    have z2 : w7.frozen? ⟨g + 2, 0, none⟩ = false := by simp [World.frozen?, k2]
    have z3 : w7.frozen? ⟨g + 3, 0, none⟩ = false := by simp [World.frozen?, k3]
    have HW := Lib.hid (two_set (u := mk o) (m := n) hB7 k2 k3)
    clear hB6 hB7 k2 k3
    go_wp2_with fail
    go_region
    go_wp2_with fail
    obtain ⟨e2, e3, e4⟩ := HW.out
    refine bodyPost_ret (v := .tuple #[.string (mk o), .int .i64 n, .int .i64 0]) (by simp [results, Try.results21, go_sem, e2, e3]) rfl ⟨rfl, e4.mono (Nat.le_of_eq HG.out)⟩
end Go.Proofs.Ytihkmdojakalbaa

/- The contract of several questions. For texts of at most 10^6 bytes. -/
namespace Go.Proofs.Ytihkmdojakalbaa
open Go.RowKit NumMath NmMath Bytes MsgMath

theorem qn_next {l : List UInt8} {p q : Nat} {Q : Qn} (h : qn l p = .ok (Q, q)) : q ≤ l.length := by
  unfold qn at h
  cases hn : nm l l.length 2 p p none [] with
  | error k => rw [hn] at h; cases h
  | ok oq =>
    obtain ⟨o, q0⟩ := oq
    rw [hn] at h
    simp only at h
    by_cases h4 : q0 + 4 ≤ l.length
    · rw [if_pos h4] at h
      injection h with h
      injection h with h1 h2
      omega
    · rw [if_neg h4] at h; cases h
/-- Several questions came back, or the reading gave up. -/
def QsEnd (w : World) (r : Nat) (s : ByteArray) : Except Nat (List Qn × Nat) → Ending → World → Prop
  | .error x, e, w' => e = gave x ∧ w.grownBy w' (some r)
  | .ok (L, q), e, w' => ∃ v, e = .returned v ∧ w'.ownsRow w.heap.size 44 3 v L.length (qnCs L) ∧ RdrAt w' r s s (q : Int) 2 ∧ w.grownBy w' (some r)
set_option maxHeartbeats 2000000 in
set_option maxRecDepth 100000 in
theorem questions_any (s : ByteArray) (r n p0 : Nat) (R : Except Nat (List Qn × Nat)) (w : World) (h : RdrAt w r s s p0 2) (hs : s.size ≤ 1000000) (hp0 : p0 ≤ 9223372036854775807) (hn : n ≤ 1000000) (hR : Hid (many (qn s.data.toList) n p0 = R)) :
    Calls Try.prog 47 #[.int .i64 n, .func (.func 48) #[.pointer (some ⟨r, 0, none⟩)] #[]] w (QsEnd w r s R) := by
  have SZ := Lib.hid (Lib.size_eq s)
  have hrl := h.lt
  have H := Lib.hid h; clear h
  obtain ⟨g, hg⟩ : ∃ g, w.heap.size = g := ⟨_, rfl⟩
  have G := Lib.hid hg
  rw [hg] at hrl
  obtain ⟨i0, hi, hz0, hz1, hz2⟩ := info_parts info_qn
  have HI := Lib.hid hi; clear hi
  have HZ0 := Lib.hid hz0; clear hz0
  have HZ1 := Lib.hid hz1; clear hz1
  have HZ2 := Lib.hid hz2; clear hz2
  have HR0 : Hid (more (qn s.data.toList) [] n p0 = R) := by show _ = _; rw [more_none]; exact hR.out
  clear hg hR
  go_enter Try.func47, Try.ntmps47
  go_wp2_with fail
  go_loopw [5, 7] (fun v i wr => ∃ (j p : Nat) (L : List Qn), i = .int .i64 j ∧ j ≤ n ∧ p ≤ 9223372036854775807 ∧ Hid (wr.ownsRow g 44 3 v j (qnCs L)) ∧ Hid (L.length = j) ∧ Hid (RdrAt wr r s s p 2) ∧ Hid (more (qn s.data.toList) L (n - j) p = R) ∧ Hid (Kept g r w wr)) (fun _ i _ => n - (intOf i).toNat)
  case atStart => exact ⟨0, p0, [], rfl, Nat.zero_le _, hp0, World.ownsRow_nil _ _ _ _, rfl, H, HR0, Kept.refl _ _ _⟩
  case round =>
    obtain ⟨j, p, L, rfl, hj, hp, hO, hL, hD, hR, hK⟩ := hrel
    have hgw : Hid (g ≤ wr.heap.size) := by have := hK.out.size; rw [G.out] at this; exact this
    by_cases hlt : j < n
    · obtain ⟨Q1, hQ1⟩ : ∃ Q1, qn s.data.toList p = Q1 := ⟨_, rfl⟩
      have HQ := Lib.hid (question_any s r p Q1 wr hD.out hs hp hQ1)
      obtain ⟨m, hm⟩ : ∃ m, n - j = m + 1 := ⟨n - j - 1, by omega⟩
      cases Q1 with
      | error x =>
        have hRe : Hid (R = .error x) := by show _ = _; rw [← hR.out, hm]; exact more_err hQ1
        clear hm hQ1
        go_wp2_with fail
        refine HQ.out.mono ?_
        rintro e w1 ⟨rfl, hG1⟩
        have HE : Hid (w.grownBy w1 (some r)) := by
          have := hK.out.grown hG1 hgw.out
          rw [← G.out] at this
          exact this.to_grown
        clear hG1
        go_wp2_with fail
        rw [hRe.out]
        exact ⟨rfl, rfl, HE.out⟩
      | ok Qq =>
        obtain ⟨Q, q⟩ := Qq
        have hql : q ≤ 1000000 := by have := qn_next hQ1; rw [← SZ.out] at this; omega
        have hRm : Hid (more (qn s.data.toList) (L ++ [Q]) (n - (j + 1)) q = R) := by show _ = _; rw [← hR.out, hm, more_one hQ1]; congr 1; omega
        clear hm hQ1
        go_wp2_with fail
        refine HQ.out.mono ?_
        rintro e w1 ⟨rfl, hD1, hG1⟩
        have hO1 := Lib.hid (row_rdr hD.out hO.out hG1 (by decide))
        have hK1 := Lib.hid (hK.out.grown hG1 hgw.out)
        have hg1 : Hid (g ≤ w1.heap.size) := Nat.le_trans hgw.out hG1.size
        have HD1 := Lib.hid hD1
        clear hD1 hG1 hO hD hK HQ
        go_wp2_with (at_builtin; refine wpList_append_own _ rfl _ _ 24 rfl g 44 i0 (.agg #[.string ⟨#[]⟩, .int .u16 0, .int .u16 0]) 3 24 Try.underlying24 HI.out HZ0.out HZ1.out HZ2.out rfl (by decide) _ _ _ rfl (hO1.out.alloc _) ⟨w1.heap.size, 0, none⟩ 1 1 (qnV Q) rfl rfl ?c1 ?c2 ?c3 ?c4 ?c5 ?_)
        case c1 =>
          intro j u hj
          match j, hj with
          | 0, hj => simp [qnV] at hj; subst hj; simp [Addr.add]
          | 1, hj => simp [qnV] at hj; subst hj; simp [Addr.add]
          | 2, hj => simp [qnV] at hj; subst hj; simp [Addr.add]
        case c2 => intro u hu; simp [qnV] at hu; rcases hu with rfl | rfl | rfl <;> rfl
        case c3 => unfold maxLen; omega
        case c4 => omega
        case c5 => have := hg1.out; simp; omega
        intro v' w2 hown hgrow _
        have E1 : Hid (w2.ownsRow g 44 3 v' (j + 1) (qnCs (L ++ [Q]))) := by
          show World.ownsRow _ _ _ _ _ _ _
          rw [qnCs_snoc]
          exact hown
        have E2 := Lib.hid (rdr_row HD1.out hO1.out ((Below.refl _ _).alloc (Nat.le_refl _) _) hgrow (by decide))
        have E3 := Lib.hid ((hK1.out.alloc hg1.out _).own hgrow (by have := hg1.out; simp; omega) (fun k hk => (hO1.out.lt k hk).1))
        clear hown hgrow hO1 HD1 hK1
        go_wp2_with fail
        go_roundw
        case rel => exact ⟨j + 1, q, L ++ [Q], by go_num, by omega, by omega, E1, by (show _ = _; rw [List.length_append, hL.out]; rfl), E2, hRm, E3⟩
        case measure => simp [intOf]; omega
    · have hjn : j = n := by omega
      have hRe : Hid (R = .ok (L, p)) := by show _ = _; rw [← hR.out, show n - j = 0 by omega]; exact more_end _ _ _
      have HE : Hid (w.grownBy wr (some r)) := by
        have := hK.out
        rw [← G.out] at this
        exact this.to_grown
      clear hjn
      go_wp2_with fail
      go_ret
      rw [hRe.out]
      refine ⟨_, rfl, ?_, hD.out, HE.out⟩
      rw [hL.out, G.out]
      exact hO.out
end Go.Proofs.Ytihkmdojakalbaa

/- The contract of a message's reader, where a message's six numbers are cut off. For texts of at most 10^6 bytes. -/
namespace Go.Proofs.Ytihkmdojakalbaa
open Go.RowKit NumMath NmMath Bytes MsgMath RecMath

/-- A message came back, or the reading gave up. -/
def MsgEnd (w : World) (r : Nat) : Except Nat Msg → Ending → World → Prop
  | .error x, e, w' => e = gave x ∧ w.grownBy w' (some r)
  | .ok M, e, w' => ∃ vq va vn vx, e = .returned (.agg #[.int .u16 M.id, .int .u16 M.flags, vq, va, vn, vx]) ∧ w'.ownsRow w.heap.size 44 3 vq M.qs.length (qnCs M.qs) ∧ RowRecs w' w.heap.size va M.an ∧ RowRecs w' w.heap.size vn M.ns ∧ RowRecs w' w.heap.size vx M.ad ∧ w.grownBy w' (some r)
/-- The state within a message's reading: three blocks of its own, the reader. -/
structure MsgSt (w wr : World) (g r : Nat) (s : ByteArray) (p B0 B1 B2 : Nat) (c d : Array Value) (t : TypeId) : Prop where
  rg : r < g
  g0 : g ≤ B0
  b01 : B0 < B1
  b12 : B1 < B2
  b2l : B2 < wr.heap.size
  rd : RdrAt wr r s s (p : Int) 2
  b0 : wr.heap[B0]? = some (.cells #[.int .u16 0, .int .u16 0, .slice none 0 0, .slice none 0 0, .slice none 0 0, .slice none 0 0] 27 (0, 0))
  b1 : wr.heap[B1]? = some (.cells c 27 (0, 0))
  b2 : wr.heap[B2]? = some (.cells d t (0, 0))
  kept : Kept g r w wr
section
variable {w wr w' : World} {g r : Nat} {s : ByteArray} {p B0 B1 B2 : Nat} {c d : Array Value} {t : TypeId}
theorem MsgSt.call (h : MsgSt w wr g r s p B0 B1 B2 c d t) {q : Nat} (hd : RdrAt w' r s s (q : Int) 2) (hg : wr.grownBy w' (some r)) : MsgSt w w' g r s q B0 B1 B2 c d t :=
  ⟨h.rg, h.g0, h.b01, h.b12, Nat.lt_of_lt_of_le h.b2l hg.size, hd, (grown_block hg (by have := h.b01; have := h.b12; have := h.b2l; omega) (by have := h.rg; have := h.g0; omega)).trans h.b0, (grown_block hg (by have := h.b12; have := h.b2l; omega) (by have := h.rg; have := h.g0; have := h.b01; omega)).trans h.b1, (grown_block hg h.b2l (by have := h.rg; have := h.g0; have := h.b01; have := h.b12; omega)).trans h.b2,
    h.kept.grown hg (by have := h.g0; have := h.b01; have := h.b12; have := h.b2l; omega)⟩
theorem MsgSt.set1 (h : MsgSt w wr g r s p B0 B1 B2 c d t) (i : Nat) (v : Value) : MsgSt w (wr.setCell ⟨B1, i, none⟩ v) g r s p B0 B1 B2 (c.setIfInBounds i v) d t := by
  have h1 := h.rg; have h2 := h.g0; have h3 := h.b01; have h4 := h.b12
  refine ⟨h1, h2, h3, h4, by simpa [World.setCell] using h.b2l, h.rd.far (by simp only; omega) _, ?_, ?_, ?_, h.kept.setCell (.inr (by simp only; omega)) _⟩
  · rw [Below.heap_setCell _ _ _ _ (by simp only; omega)]; exact h.b0
  · simp [World.setCell, Array.getElem?_modify, h.b1]
  · rw [Below.heap_setCell _ _ _ _ (by simp only; omega)]; exact h.b2
theorem MsgSt.set2 (h : MsgSt w wr g r s p B0 B1 B2 c d t) (i : Nat) (v : Value) : MsgSt w (wr.setCell ⟨B2, i, none⟩ v) g r s p B0 B1 B2 c (d.setIfInBounds i v) t := by
  have h1 := h.rg; have h2 := h.g0; have h3 := h.b01; have h4 := h.b12
  refine ⟨h1, h2, h3, h4, by simpa [World.setCell] using h.b2l, h.rd.far (by simp only; omega) _, ?_, ?_, ?_, h.kept.setCell (.inr (by simp only; omega)) _⟩
  · rw [Below.heap_setCell _ _ _ _ (by simp only; omega)]; exact h.b0
  · rw [Below.heap_setCell _ _ _ _ (by simp only; omega)]; exact h.b1
  · simp [World.setCell, Array.getElem?_modify, h.b2]
theorem MsgSt.drewN (h : MsgSt w wr g r s p B0 B1 B2 c d t) (n : Nat) : MsgSt w (wr.drewN n) g r s p B0 B1 B2 c d t := ⟨h.rg, h.g0, h.b01, h.b12, h.b2l, h.rd, h.b0, h.b1, h.b2, h.kept.drewN n⟩
theorem MsgSt.only (h : MsgSt w wr g r s p B0 B1 B2 c d t) (hg : w.heap.size = g) : w.grownBy wr (some r) := by
  have := h.kept
  rw [← hg] at this
  exact this.to_grown
theorem MsgSt.size (h : MsgSt w wr g r s p B0 B1 B2 c d t) : g ≤ wr.heap.size := by have := h.g0; have := h.b01; have := h.b12; have := h.b2l; omega
end
/-- The counts that were read. -/
def cntC (l : List UInt8) (j : Nat) : Array Value := #[.int .i64 (if 0 < j then (nu l 4 2 : Int) else 0), .int .i64 (if 1 < j then (nu l 6 2 : Int) else 0), .int .i64 (if 2 < j then (nu l 8 2 : Int) else 0), .int .i64 (if 3 < j then (nu l 10 2 : Int) else 0)]
def cntS (l : List UInt8) (j : Nat) : Nat := (if 0 < j then nu l 4 2 else 0) + (if 1 < j then nu l 6 2 else 0) + (if 2 < j then nu l 8 2 else 0) + (if 3 < j then nu l 10 2 else 0)
theorem cnt_step (l : List UInt8) {j : Nat} (hj : j < 4) : (cntC l j).setIfInBounds j (.int .i64 (nu l (4 + 2 * j) 2)) = cntC l (j + 1) ∧ cntS l (j + 1) = cntS l j + nu l (4 + 2 * j) 2 := by
  match j, hj with
  | 0, _ => exact ⟨rfl, by simp [cntS]⟩
  | 1, _ => exact ⟨rfl, by simp [cntS]⟩
  | 2, _ => exact ⟨rfl, by simp [cntS]⟩
  | 3, _ => exact ⟨rfl, by simp [cntS]⟩
theorem cntS_lt (l : List UInt8) (j : Nat) : cntS l j ≤ 262140 := by
  have := nu2_lt l 4; have := nu2_lt l 6; have := nu2_lt l 8; have := nu2_lt l 10
  unfold cntS
  repeat' split
  all_goals omega

set_option maxHeartbeats 2000000 in
set_option maxRecDepth 100000 in
theorem message_short (s : ByteArray) (r : Nat) (R : Except Nat Msg) (w : World) (hs : s.size ≤ 1000000) {g : Nat} (hrl : r < w.heap.size) (hg : w.heap.size = g) (hd0 : RdrAt (w.alloc (.cells #[.int .u16 0, .int .u16 0, .slice none 0 0, .slice none 0 0, .slice none 0 0, .slice none 0 0] 27)) r s s 0 2) (hbl : Below g w (w.alloc (.cells #[.int .u16 0, .int .u16 0, .slice none 0 0, .slice none 0 0, .slice none 0 0, .slice none 0 0] 27))) (h12 : s.size < 12) (hR : Hid (R = .error 2)) :
    Calls Try.prog 24 #[.pointer (some ⟨r, 0, none⟩)] w (MsgEnd w r R) := by
  have hno : ∀ (q : Nat) (w' : World), s.size < q + 2 → q ≤ 1000000 → RdrAt w' r s s (q : Int) 2 → Calls Try.prog 46 #[.pointer (some ⟨r, 0, none⟩), .int .i64 2] w' fun e w'' => e = gave 2 ∧ ∃ m, w'' = w'.drewN m :=
    fun q w' h1 h2 hd => number_no s s r 2 (q : Int) 2 w' hd hs (by decide) (by omega) (by omega) (holds_no (n := s.size) (p := q) (m := 2) h1)
  have hyes : ∀ (q : Nat) (w' : World), q + 2 ≤ s.size → RdrAt w' r s s (q : Int) 2 → Calls Try.prog 46 #[.pointer (some ⟨r, 0, none⟩), .int .i64 2] w' fun e w'' => e = .returned (.int .u32 (nu s.data.toList q 2 : Nat)) ∧ RdrAt w'' r s s ((q + 2 : Nat) : Int) 2 ∧ w'.grownBy w'' (some r) :=
    fun q w' h1 hd => number_yes s s r q 2 2 _ w' hd (by decide) (by decide) h1 hs rfl
  have HNO := Lib.hid hno
  have HYES := Lib.hid hyes
  have HD0 := Lib.hid hd0
  have HE0 := Lib.hid (show (w.alloc (.cells #[.int .u16 0, .int .u16 0, .slice none 0 0, .slice none 0 0, .slice none 0 0, .slice none 0 0] 27)).heap.size = g + 1 by simp [hg])
  have HB0 := Lib.hid (show (w.alloc (.cells #[.int .u16 0, .int .u16 0, .slice none 0 0, .slice none 0 0, .slice none 0 0, .slice none 0 0] 27)).heap[g]? = some (.cells #[.int .u16 0, .int .u16 0, .slice none 0 0, .slice none 0 0, .slice none 0 0, .slice none 0 0] 27 (0, 0)) by rw [← hg]; exact heap_alloc_new w _)
  have HK0 := Lib.hid ((Kept.refl g r w).below hbl)
  have G := Lib.hid hg
  clear hno hyes hd0 hbl
  obtain ⟨x0, hx0⟩ : ∃ x, nu s.data.toList 0 2 = x := ⟨_, rfl⟩
  have hx0l : x0 < 65536 := by rw [← hx0]; exact nu2_lt _ _
  obtain ⟨x2, hx2⟩ : ∃ x, nu s.data.toList 2 2 = x := ⟨_, rfl⟩
  have hx2l : x2 < 65536 := by rw [← hx2]; exact nu2_lt _ _
  have HX0 := Lib.hid hx0
  have HX2 := Lib.hid hx2
  clear hx0 hx2
  by_cases h2 : 2 ≤ s.size
  · have H1 := HYES.out 0 _ h2 HD0.out
    rw [HX0.out] at H1
    have H1' := Lib.hid H1
    clear H1
    go_enter Try.func24, Try.ntmps24
    go_wp2_with fail
    refine H1'.out.mono ?_
    rintro e w1 ⟨rfl, hD1, hG1⟩
    have HD1 := Lib.hid hD1
    have HG1 := Lib.hid hG1
    clear hD1 hG1
    by_cases h4 : 4 ≤ s.size
    · have H2 := HYES.out 2 _ h4 HD1.out
      rw [HX2.out] at H2
      have H2' := Lib.hid H2
      clear H2
      go_wp2_with fail
      refine H2'.out.mono ?_
      rintro e w2 ⟨rfl, hD2, hG2⟩
      have hg2 := grown_trans HG1.out hG2
      have he0 := HE0.out
      have hb0 : w2.heap[g]? = some (.cells #[.int .u16 0, .int .u16 0, .slice none 0 0, .slice none 0 0, .slice none 0 0, .slice none 0 0] 27 (0, 0)) := (grown_block hg2 (by omega) (by omega)).trans HB0.out
      have hs2 : g + 1 ≤ w2.heap.size := by have := hg2.size; omega
      have hk2 : Kept g r w w2 := HK0.out.grown hg2 (by omega)
      obtain ⟨B1, hB1⟩ : ∃ B1, w2.heap.size = B1 := ⟨_, rfl⟩
      have HST : Hid (MsgSt w ((w2.alloc (.cells #[.int .u16 x0, .int .u16 x2, .slice none 0 0, .slice none 0 0, .slice none 0 0, .slice none 0 0] 27)).alloc (.cells #[.int .i64 0, .int .i64 0, .int .i64 0, .int .i64 0] 87)) g r s 4 g B1 (B1 + 1) #[.int .u16 x0, .int .u16 x2, .slice none 0 0, .slice none 0 0, .slice none 0 0, .slice none 0 0] (cntC s.data.toList 0) 87) := by
        refine ⟨by omega, Nat.le_refl _, by omega, by omega, by simp [hB1], ?_, ?_, ?_, ?_, ?_⟩
        · exact (hD2.held ((Below.refl _ _).alloc (Nat.le_refl _) _)).held ((Below.refl _ _).alloc (Nat.le_refl _) _)
        · exact old_at (old_at hb0)
        · exact old_at (new_at _ _ _ hB1.symm)
        · exact new_at _ _ _ (by simp [hB1])
        · exact (hk2.alloc (by omega) _).alloc (by simp; omega) _
      clear hD2 hG2 hg2 hb0 hs2 hk2
      go_wp2_with fail
      generalize (w2.alloc (.cells #[.int .u16 x0, .int .u16 x2, .slice none 0 0, .slice none 0 0, .slice none 0 0, .slice none 0 0] 27)).alloc (.cells #[.int .i64 0, .int .i64 0, .int .i64 0, .int .i64 0] 87) = w3 at *
      clear hB1 he0
      go_loopw [5, 14] (fun sm ct wr => ∃ j, sm = .int .i64 (cntS s.data.toList j : Nat) ∧ ct = .int .i64 j ∧ j ≤ 4 ∧ 4 + 2 * j ≤ s.size ∧ Hid (MsgSt w wr g r s (4 + 2 * j) g B1 (B1 + 1) #[.int .u16 x0, .int .u16 x2, .slice none 0 0, .slice none 0 0, .slice none 0 0, .slice none 0 0] (cntC s.data.toList j) 87)) (fun _ ct _ => 4 - (intOf ct).toNat)
      case atStart => exact ⟨0, rfl, rfl, by decide, h4, HST⟩
      case round =>
        obtain ⟨j, rfl, rfl, hj, hjs, hST⟩ := hrel
        by_cases hlt : j < 4
        · by_cases hin : 4 + 2 * j + 2 ≤ s.size
          · obtain ⟨hc1, hc2⟩ := cnt_step s.data.toList hlt
            have hsl := cntS_lt s.data.toList j
            obtain ⟨S, hS⟩ : ∃ S, cntS s.data.toList j = S := ⟨_, rfl⟩
            obtain ⟨x, hx⟩ : ∃ x, nu s.data.toList (4 + 2 * j) 2 = x := ⟨_, rfl⟩
            rw [hS, hx] at hc2
            rw [hx] at hc1
            rw [hS] at hsl
            rw [hS]
            have hxl : x < 65536 := by rw [← hx]; exact nu2_lt _ _
            have hn := HYES.out (4 + 2 * j) wr hin hST.out.rd
            rw [hx] at hn
            have HN := Lib.hid hn
            have HC1 := Lib.hid hc1
            have HC2 := Lib.hid hc2
            obtain ⟨u0, hu0⟩ : ∃ u, (cntC s.data.toList j)[j]? = some u := by
              match j, hlt with
              | 0, _ => exact ⟨_, rfl⟩
              | 1, _ => exact ⟨_, rfl⟩
              | 2, _ => exact ⟨_, rfl⟩
              | 3, _ => exact ⟨_, rfl⟩
            have HU0 := Lib.hid hu0
            clear hx hS hc1 hc2 hu0 hn
            go_wp2_with fail
            refine HN.out.mono ?_
            rintro e w4 ⟨rfl, hD4, hG4⟩
            have hst := hST.out.call (q := 4 + 2 * j + 2) hD4 hG4
            have hcell : w4.cell? ⟨B1 + 1, j, none⟩ = some u0 := (cell_of_row w4 _ j _ _ _ hst.b2).trans HU0.out
            have hfz : w4.frozen? ⟨B1 + 1, j, none⟩ = false := by simp [World.frozen?, hst.b2]
            have hst2 := Lib.hid (hst.set2 j (.int .i64 x))
            have HST5 : Hid (MsgSt w (w4.setCell ⟨B1 + 1, j, none⟩ (.int .i64 x)) g r s (4 + 2 * (j + 1)) g B1 (B1 + 1) #[.int .u16 x0, .int .u16 x2, .slice none 0 0, .slice none 0 0, .slice none 0 0, .slice none 0 0] (cntC s.data.toList (j + 1)) 87) := by
              have := hst2.out
              rw [HC1.out] at this
              exact this
            clear hD4 hG4 hst hST hst2
            go_wp2_with fail
            go_roundw
            case rel => exact ⟨j + 1, by rw [HC2.out]; go_num, by go_num, by omega, by omega, HST5⟩
            case measure => simp [intOf]; omega
          · have HN := Lib.hid (HNO.out (4 + 2 * j) wr (by omega) (by omega) hST.out.rd)
            have HE := Lib.hid (hST.out.only G.out)
            go_wp2_with fail
            refine HN.out.mono ?_
            rintro e w4 ⟨rfl, m, rfl⟩
            go_wp2_with fail
            rw [hR.out]
            exact ⟨rfl, rfl, grown_drewN HE.out m⟩
        · omega
    · have H2 := Lib.hid (HNO.out 2 _ (by omega) (by decide) HD1.out)
      have HE : Hid (w.grownBy w1 (some r)) := by
        have := HK0.out.grown HG1.out (by rw [HE0.out]; omega)
        rw [← G.out] at this
        exact this.to_grown
      go_wp2_with fail
      refine H2.out.mono ?_
      rintro e w4 ⟨rfl, m, rfl⟩
      go_wp2_with fail
      rw [hR.out]
      exact ⟨rfl, rfl, grown_drewN HE.out m⟩
  · have H1 := Lib.hid (HNO.out 0 _ (by omega) (by decide) HD0.out)
    have HE : Hid (w.grownBy (w.alloc (.cells #[.int .u16 0, .int .u16 0, .slice none 0 0, .slice none 0 0, .slice none 0 0, .slice none 0 0] 27)) (some r)) := by
      have := HK0.out
      rw [← G.out] at this
      exact this.to_grown
    go_enter Try.func24, Try.ntmps24
    go_wp2_with fail
    refine H1.out.mono ?_
    rintro e w4 ⟨rfl, m, rfl⟩
    go_wp2_with fail
    rw [hR.out]
    exact ⟨rfl, rfl, grown_drewN HE.out m⟩
end Go.Proofs.Ytihkmdojakalbaa
