/- The contract of dnsread's Name: the name at any place, or its error. For texts of at most 10^6 bytes. -/
import Derived.Test.YtngbifdenbfepaaProg
import Derived.Test.YtngbifdenbfepaaBytes
import Derived.Test.YtngbifdenbfepaaNmMath
import Derived.Test.YtngbifdenbfepaaKept
import Derived.Test.YtngbifdenbfepaaRdr
import Derived.Test.YtngbifdenbfepaaRdrText
import Derived.Test.YtngbifdenbfepaaRdrPart
import Derived.Test.YtngbifdenbfepaaRdrName
import Derived.Test.YtngbifdenbfepaaRdrCatch
import Derived.WalkKit
import Derived.Lib.Hide
import Derived.Laws.Rows
import Derived.Outline
import Derived.IntWalk
import Derived.WalkSpells
import Derived.WalkLawsBesides
import Derived.RegionTactic
import Derived.ChangeAlike
namespace Go.Proofs.Ytngbifdenbfepaa
open Go.RowKit NumMath NmMath Bytes

theorem part_neg (a s : ByteArray) (r k : Nat) (p : Int) (v0 : Value) (w : World) (h : RdrAt w r a s p k) (hs : s.size ≤ 1000000) (hp : p < 0) (hp1 : -9223372036854775808 ≤ p) :
    Calls Try.prog 31 #[.pointer (some ⟨r, 0, none⟩), v0] w fun e w' => e = gave k ∧ ∃ m, w' = w.drewN m := by
  have hno : Hid (holdsB s.size p ((1 : Nat) : Int) = false) := by show _ = _; simp [holdsB]; omega
  have HN := Lib.hid (number_no a s r k p 1 w h hs (by decide) (by omega) (by omega) hno)
  clear h
  go_enter Try.func31, Try.ntmps31
  go_wp2_with fail
  go_loopw [1] (fun v wr => v = v0 ∧ wr = w) (fun _ _ => 0)
  case atStart => exact ⟨rfl, rfl⟩
  case round =>
    obtain ⟨rfl, rfl⟩ := hrel
    go_wp2_with fail
    refine HN.out.mono ?_
    rintro e w1 ⟨rfl, m, rfl⟩
    go_wp2_with fail
    exact ⟨rfl, rfl, _, rfl⟩
theorem pointed_neg (a s : ByteArray) (r k : Nat) (p : Int) (w : World) (h : RdrAt w r a s p k) (hs : s.size ≤ 1000000) (hp : p < 0) (hp1 : -9223372036854775808 ≤ p) :
    Calls Try.prog 18 #[.pointer (some ⟨r, 0, none⟩)] w fun e w' => e = gave k ∧ w.grownBy w' (some r) := by
  have hc0 := h.c0
  have hc2 := h.c2
  have HN := Lib.hid (part_neg a s r k p (.slice none 0 0) w h hs hp hp1)
  clear h
  go_enter Try.func18, Try.ntmps18
  go_wp2_with fail
  refine HN.out.mono ?_
  rintro e w1 ⟨rfl, m, rfl⟩
  go_wp2_with fail
  exact ⟨rfl, rfl, grown_drewN (grown_refl _ _) _⟩
/-- A reader of a whole text at any place. -/
theorem pointed_at (s : ByteArray) (r : Nat) (p : Int) (R : Except Nat (List UInt8 × Nat)) (w : World) (h : RdrAt w r s s p 2) (hs : s.size ≤ 1000000) (hp1 : -9223372036854775808 ≤ p) (hp2 : p ≤ 9223372036854775807) (hR : Hid (nmAt s.data.toList p = R)) :
    Calls Try.prog 18 #[.pointer (some ⟨r, 0, none⟩)] w (NmEnd w r s s 2 R) := by
  by_cases hp : p < 0
  · have hRe : R = .error 2 := by rw [← hR.out]; unfold nmAt; rw [if_pos hp]
    rw [hRe]
    exact pointed_neg s s r 2 p w h hs hp hp1
  · obtain ⟨n, rfl⟩ : ∃ n : Nat, p = n := ⟨p.toNat, by omega⟩
    refine pointed_any s s r 2 n R w h (nmAt_list rfl) hs hs (by omega) ?_
    show _ = _
    rw [← hR.out]
    unfold nmAt
    rw [if_neg (by omega), ← Lib.size_eq]
    rfl

/-- What the closure of Name leaves: its two results, nothing else that stood has changed. -/
structure NameDone (b : Nat) (t : ByteArray) (n : Nat) (w w' : World) : Prop where
  os : w'.os = w.os
  tape : w'.tape = w.tape
  output : w'.output = w.output
  size : w.heap.size ≤ w'.heap.size
  block : ∀ k, k < w.heap.size → k ≠ b + 2 → k ≠ b + 3 → w'.heap[k]? = w.heap[k]?
  at2 : w'.heap[b + 2]? = some (.cells #[.string t] 9 (0, 0))
  at3 : w'.heap[b + 3]? = some (.cells #[.int .i64 n] 3 (0, 0))
/-- The four blocks of a call of Name. -/
structure NameRoom (b : Nat) (s : ByteArray) (p : Int) (w : World) : Prop where
  lt : b + 3 < w.heap.size
  at0 : w.heap[b]? = some (.cells #[.string s] 9 (0, 0))
  at1 : w.heap[b + 1]? = some (.cells #[.int .i64 p] 3 (0, 0))
  at2 : w.heap[b + 2]? = some (.cells #[.string ⟨#[]⟩] 9 (0, 0))
  at3 : w.heap[b + 3]? = some (.cells #[.int .i64 0] 3 (0, 0))
def NameEnd (b : Nat) (w : World) : Except Nat (List UInt8 × Nat) → Ending → World → Prop
  | .error x, e, w' => e = gave x ∧ Below w.heap.size w w'
  | .ok (o, n), e, w' => e = .returned (.tuple #[]) ∧ NameDone b (mk o) n w w'
theorem heap_set {W : World} {b : Nat} {x y : Value} {t : TypeId} (h : W.heap[b]? = some (.cells #[x] t (0, 0))) : (W.setCell ⟨b, 0, none⟩ y).heap[b]? = some (.cells #[y] t (0, 0)) := by
  simp [World.setCell, Array.getElem?_modify, h]

set_option maxHeartbeats 1000000 in
theorem nameIn_any (s : ByteArray) (b : Nat) (p : Int) (R : Except Nat (List UInt8 × Nat)) (w : World) (h : NameRoom b s p w) (hs : s.size ≤ 1000000) (hp1 : -9223372036854775808 ≤ p) (hp2 : p ≤ 9223372036854775807) (hR : Hid (nmAt s.data.toList p = R)) :
    Calls Try.prog 17 #[.pointer (some ⟨b, 0, none⟩), .pointer (some ⟨b + 1, 0, none⟩), .pointer (some ⟨b + 2, 0, none⟩), .pointer (some ⟨b + 3, 0, none⟩)] w (NameEnd b w R) := by
  have h0 := cell_of_row w _ 0 _ _ _ h.at0
  have h1 := cell_of_row w _ 0 _ _ _ h.at1
  have hlt := h.lt
  have HA : Hid (RdrAt (w.alloc (.cells #[.string s, .string s, .int .i64 p, .int .i64 2] 54)) w.heap.size s s p 2) := heap_alloc_new w _
  have HN := Lib.hid (pointed_at s w.heap.size p R _ HA.out hs hp1 hp2 hR)
  have HB := Lib.hid ((Below.refl w.heap.size w).alloc (Nat.le_refl _) (.cells #[.string s, .string s, .int .i64 p, .int .i64 2] 54))
  have H := Lib.hid h; clear h
  cases R with
  | error x =>
    go_enter Try.func17, Try.ntmps17
    go_wp2_with fail
    refine HN.out.mono ?_
    rintro e w1 ⟨rfl, hG⟩
    have HE := Lib.hid (below_of_grown HB.out hG (Nat.le_refl _) (by simp))
    clear hG
    go_wp2_with fail
    exact ⟨rfl, rfl, HE.out⟩
  | ok on =>
    obtain ⟨o, n⟩ := on
    go_enter Try.func17, Try.ntmps17
    go_wp2_with fail
    refine HN.out.mono ?_
    rintro e w1 ⟨rfl, hD, hG⟩
    have hE := below_of_grown HB.out hG (Nat.le_refl _) (by simp)
    have k2 := (hE.block (b + 2) (by omega)).trans H.out.at2
    have k3 := (hE.block (b + 3) (by omega)).trans H.out.at3
    have c2 := cell_of_row w1 _ 0 _ _ _ k2
    have c3 := cell_of_row w1 _ 0 _ _ _ k3
    have z2 : w1.frozen? ⟨b + 2, 0, none⟩ = false := by simp [World.frozen?, k2]
    have z3 : w1.frozen? ⟨b + 3, 0, none⟩ = false := by simp [World.frozen?, k3]
    have cp : (w1.setCell ⟨b + 2, 0, none⟩ (.string (mk o))).cell? ⟨w.heap.size, 2, none⟩ = some (.int .i64 n) := (hD.far (by simp only; omega) _).c2
    have c3' : (w1.setCell ⟨b + 2, 0, none⟩ (.string (mk o))).cell? ⟨b + 3, 0, none⟩ = some (.int .i64 0) := cell_of_row _ _ 0 _ _ _ ((Below.heap_setCell w1 ⟨b + 2, 0, none⟩ (.string (mk o)) (b + 3) (by simp)).trans k3)
    have HE := Lib.hid hE
    have K2 := Lib.hid k2
    have K3 := Lib.hid k3
    clear hG hE k2 k3 hD
    go_wp2_with fail
    go_end0
    refine ⟨rfl, HE.out.os, HE.out.tape, HE.out.output, ?_, fun k hk n2 n3 => ?_, ?_, ?_⟩
    · have := HE.out.size; simpa [World.setCell] using this
    · rw [Below.heap_setCell _ _ _ _ (by simpa using n3), Below.heap_setCell _ _ _ _ (by simpa using n2)]
      exact HE.out.block k hk
    · rw [Below.heap_setCell _ _ _ _ (by simp)]
      exact heap_set K2.out
    · exact heap_set (x := .int .i64 0) ((Below.heap_setCell w1 ⟨b + 2, 0, none⟩ (.string (mk o)) (b + 3) (by simp)).trans K3.out)

theorem room_made (s : ByteArray) (p : Int) (w : World) :
    NameRoom w.heap.size s p ((((w.alloc (.cells #[.string s] 9)).alloc (.cells #[.int .i64 p] 3)).alloc (.cells #[.string ⟨#[]⟩] 9)).alloc (.cells #[.int .i64 0] 3)) :=
  ⟨by simp, old_at (old_at (old_at (new_at _ _ _ rfl))), old_at (old_at (new_at _ _ _ (by simp))), old_at (new_at _ _ _ (by simp)), new_at _ _ _ (by simp)⟩

theorem two_set {w W : World} {g : Nat} {t u : ByteArray} {n m : Int} (hB : Below g w W) (k2 : W.heap[g + 2]? = some (.cells #[.string t] 9 (0, 0))) (k3 : W.heap[g + 3]? = some (.cells #[.int .i64 n] 3 (0, 0))) :
    ((W.setCell ⟨g + 1 + 1, 0, none⟩ (.string u)).setCell ⟨g + 1 + 1 + 1, 0, none⟩ (.int .i64 m)).drew.cell? ⟨g + 1 + 1, 0, none⟩ = some (.string u) ∧ ((W.setCell ⟨g + 1 + 1, 0, none⟩ (.string u)).setCell ⟨g + 1 + 1 + 1, 0, none⟩ (.int .i64 m)).drew.cell? ⟨g + 1 + 1 + 1, 0, none⟩ = some (.int .i64 m) ∧ Below g w ((W.setCell ⟨g + 1 + 1, 0, none⟩ (.string u)).setCell ⟨g + 1 + 1 + 1, 0, none⟩ (.int .i64 m)).drew := by
  have j2 : (W.setCell ⟨g + 1 + 1, 0, none⟩ (.string u)).heap[g + 1 + 1]? = some (.cells #[.string u] 9 (0, 0)) := heap_set k2
  have j3 : (W.setCell ⟨g + 1 + 1, 0, none⟩ (.string u)).heap[g + 1 + 1 + 1]? = some (.cells #[.int .i64 n] 3 (0, 0)) := (Below.heap_setCell W ⟨g + 1 + 1, 0, none⟩ (.string u) (g + 1 + 1 + 1) (by simp)).trans k3
  refine ⟨cell_of_row _ _ 0 _ _ _ ((Below.heap_setCell _ ⟨g + 1 + 1 + 1, 0, none⟩ (.int .i64 m) (g + 1 + 1) (by simp)).trans j2), cell_of_row _ _ 0 _ _ _ (heap_set (y := .int .i64 m) j3), ?_⟩
  exact ((hB.setCell (by simp only; omega) _).setCell (by simp only; omega) _).drew

/-- The name came back, with the place behind it, or the error. -/
def NameRet (w : World) : Except Nat (List UInt8 × Nat) → Ending → World → Prop
  | .error x, e, w' => e = .returned (.tuple #[.string ⟨#[]⟩, .int .i64 0, .int .i64 x]) ∧ Below w.heap.size w w'
  | .ok (o, n), e, w' => e = .returned (.tuple #[.string (mk o), .int .i64 n, .int .i64 0]) ∧ Below w.heap.size w w'

set_option maxHeartbeats 1000000 in
theorem name_any (s : ByteArray) (p : Int) (R : Except Nat (List UInt8 × Nat)) (w : World) (hs : s.size ≤ 1000000) (hp1 : -9223372036854775808 ≤ p) (hp2 : p ≤ 9223372036854775807) (hR : Hid (nmAt s.data.toList p = R)) :
    Calls Try.prog 9 #[.string s, .int .i64 p] w (NameRet w R) := by
  have hmf : ∀ (fn : Fn) (first cap : Array Value) (w : World), (Instr.makeFunc fn first cap).run Try.prog w = .ok (.func fn first cap) w := fun _ _ _ _ => rfl
  obtain ⟨g, hg⟩ : ∃ g, w.heap.size = g := ⟨_, rfl⟩
  obtain ⟨w4, hw4⟩ : ∃ w4, (((w.alloc (.cells #[.string s] 9)).alloc (.cells #[.int .i64 p] 3)).alloc (.cells #[.string ⟨#[]⟩] 9)).alloc (.cells #[.int .i64 0] 3) = w4 := ⟨_, rfl⟩
  have hw4s : w4.heap.size = g + 4 := by rw [← hw4, ← hg]; simp
  have hB4 : Below g w w4 := by
    rw [← hw4, ← hg]
    exact ((((Below.refl _ _).alloc (Nat.le_refl _) _).alloc (by simp) _).alloc (by simp; omega) _).alloc (by simp; omega) _
  obtain ⟨w5, hw5⟩ : ∃ w5, w4.alloc (.cells #[.int .i64 0] 23) = w5 := ⟨_, rfl⟩
  have hw5s : w5.heap.size = g + 5 := by rw [← hw5]; simp [hw4s]
  have hB5 : Below (g + 4) w4 w5 := by rw [← hw5]; exact (Below.refl _ _).alloc (by omega) _
  have hroom4 : NameRoom g s p w4 := by rw [← hw4, ← hg]; exact room_made s p w
  have hroom : NameRoom g s p w5 := ⟨by omega, (hB5.block _ (by omega)).trans hroom4.at0, (hB5.block _ (by omega)).trans hroom4.at1, (hB5.block _ (by omega)).trans hroom4.at2, (hB5.block _ (by omega)).trans hroom4.at3⟩
  have hq5 : w5.heap[g + 4]? = some (.cells #[.int .i64 0] 23 (0, 0)) := by rw [← hw5, ← hw4s]; exact heap_alloc_new w4 _
  have hin := nameIn_any s g p R w5 hroom hs hp1 hp2 hR
  cases R with
  | error x =>
    have HC := Lib.hid (caught_noName x #[.pointer (some ⟨g, 0, none⟩), .pointer (some ⟨g + 1, 0, none⟩), .pointer (some ⟨g + 2, 0, none⟩), .pointer (some ⟨g + 3, 0, none⟩)] (fun w6 => Below (g + 5) w5 w6) w4 (by
      rw [hw5, hw4s]
      refine hin.mono ?_
      rintro e w6 ⟨rfl, hB⟩
      rw [hw5s] at hB
      exact ⟨rfl, (hB.block _ (by omega)).trans hq5, hB⟩))
    rw [hw4s] at HC
    have HF : Hid (∀ w6, Below (g + 5) w5 w6 → Below g w (w6.setCell ⟨g + 4, 0, none⟩ (.int .i64 x)) ∧ (w6.setCell ⟨g + 4, 0, none⟩ (.int .i64 x)).heap[g + 2]? = some (.cells #[.string ⟨#[]⟩] 9 (0, 0)) ∧ (w6.setCell ⟨g + 4, 0, none⟩ (.int .i64 x)).heap[g + 3]? = some (.cells #[.int .i64 0] 3 (0, 0))) := fun w6 hB => by
      refine ⟨((hB4.trans (hB5.mono (by omega))).trans (hB.mono (by omega))).setCell (by simp) _, ?_, ?_⟩
      · rw [Below.heap_setCell _ _ _ _ (by simp)]; exact (hB.block _ (by omega)).trans hroom.at2
      · rw [Below.heap_setCell _ _ _ _ (by simp)]; exact (hB.block _ (by omega)).trans hroom.at3
    have HG := Lib.hid hg
    clear hin hq5 hroom hroom4 hB4 hB5 hw5 hw5s hw4s
    go_enter Try.func9, Try.ntmps9
    go_wp2_with fail
    refine HC.out.mono ?_
    rintro e w7 ⟨rfl, w6, hB6, rfl⟩
    obtain ⟨hB7, k2, k3⟩ := HF.out w6 hB6
    have c2 := cell_of_row _ _ 0 _ _ _ k2
    have c3 := cell_of_row _ _ 0 _ _ _ k3
    generalize w6.setCell ⟨g + 4, 0, none⟩ (.int .i64 x) = w7 at *
    have z2 : w7.frozen? ⟨g + 2, 0, none⟩ = false := by simp [World.frozen?, k2]
    have z3 : w7.frozen? ⟨g + 3, 0, none⟩ = false := by simp [World.frozen?, k3]
    have HW := Lib.hid (two_set (u := ⟨#[]⟩) (m := 0) hB7 k2 k3)
    clear hB6 hB7 k2 k3
    go_wp2_with fail
    go_region
    go_wp2_with fail
    obtain ⟨e2, e3, e4⟩ := HW.out
    refine bodyPost_ret (v := .tuple #[.string ⟨#[]⟩, .int .i64 0, .int .i64 x]) (by simp [results, Try.results9, go_sem, e2, e3]) rfl ⟨rfl, e4.mono (Nat.le_of_eq HG.out)⟩
  | ok on =>
    obtain ⟨o, n⟩ := on
    have HC := Lib.hid (caught_yesName #[.pointer (some ⟨g, 0, none⟩), .pointer (some ⟨g + 1, 0, none⟩), .pointer (some ⟨g + 2, 0, none⟩), .pointer (some ⟨g + 3, 0, none⟩)] (fun w6 => NameDone g (mk o) n w5 w6) w4 (by
      rw [hw5, hw4s]
      refine hin.mono ?_
      rintro e w6 ⟨rfl, hD⟩
      exact ⟨rfl, (hD.block _ (by omega) (by omega) (by omega)).trans hq5, hD⟩))
    rw [hw4s] at HC
    have HF : Hid (∀ w6, NameDone g (mk o) n w5 w6 → Below g w (w6.setCell ⟨g + 4, 0, none⟩ (.int .i64 0)) ∧ (w6.setCell ⟨g + 4, 0, none⟩ (.int .i64 0)).heap[g + 2]? = some (.cells #[.string (mk o)] 9 (0, 0)) ∧ (w6.setCell ⟨g + 4, 0, none⟩ (.int .i64 0)).heap[g + 3]? = some (.cells #[.int .i64 n] 3 (0, 0))) := fun w6 hD => by
      have hB : Below g w5 w6 := ⟨hD.os, hD.tape, hD.output, hD.size, fun k hk => hD.block k (by omega) (by omega) (by omega)⟩
      refine ⟨((hB4.trans (hB5.mono (by omega))).trans hB).setCell (by simp) _, ?_, ?_⟩
      · rw [Below.heap_setCell _ _ _ _ (by simp)]; exact hD.at2
      · rw [Below.heap_setCell _ _ _ _ (by simp)]; exact hD.at3
    have HG := Lib.hid hg
    clear hin hq5 hroom hroom4 hB4 hB5 hw5 hw5s hw4s
    go_enter Try.func9, Try.ntmps9
    go_wp2_with fail
    refine HC.out.mono ?_
    rintro e w7 ⟨rfl, w6, hB6, rfl⟩
    obtain ⟨hB7, k2, k3⟩ := HF.out w6 hB6
    have c2 := cell_of_row _ _ 0 _ _ _ k2
    have c3 := cell_of_row _ _ 0 _ _ _ k3
    generalize w6.setCell ⟨g + 4, 0, none⟩ (.int .i64 0) = w7 at *
    have z2 : w7.frozen? ⟨g + 2, 0, none⟩ = false := by simp [World.frozen?, k2]
    have z3 : w7.frozen? ⟨g + 3, 0, none⟩ = false := by simp [World.frozen?, k3]
    have HW := Lib.hid (two_set (u := mk o) (m := n) hB7 k2 k3)
    clear hB6 hB7 k2 k3
    go_wp2_with fail
    go_region
    go_wp2_with fail
    obtain ⟨e2, e3, e4⟩ := HW.out
    refine bodyPost_ret (v := .tuple #[.string (mk o), .int .i64 n, .int .i64 0]) (by simp [results, Try.results9, go_sem, e2, e3]) rfl ⟨rfl, e4.mono (Nat.le_of_eq HG.out)⟩
end Go.Proofs.Ytngbifdenbfepaa
