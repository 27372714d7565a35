/- A name that stands at a place is read as it is; one that a pointer leads to, too. No program, no condition. -/
import Derived.Test.YtngbifdenbfepaaBytes
import Derived.Test.YtngbifdenbfepaaNameMath
import Derived.Test.YtngbifdenbfepaaNmMath
import Derived.Test.YtngbifdenbfepaaNmAt
namespace Go.Proofs.Ytngbifdenbfepaa
open Go Bytes NameMath NmMath

theorem bt_drop {l t : List UInt8} {p : Nat} {c : UInt8} (h : l.drop p = c :: t) : bt l p = c.toNat ∧ p < l.length ∧ l.drop (p + 1) = t := by
  have hp : p < l.length := by
    rcases Nat.lt_or_ge p l.length with h1 | h1
    · exact h1
    · rw [List.drop_of_length_le h1] at h; cases h
  rw [drop_cons hp] at h
  injection h with h1 h2
  refine ⟨?_, hp, h2⟩
  unfold bt
  rw [h1]
theorem nm_wire {l rest : List UInt8} {E K b : Nat} {next : Option Nat} : ∀ {L : List (List UInt8)} {p : Nat} {o : List UInt8}, L.all okLab = true → l.drop p = nameL L ++ rest → p + (nameL L).length ≤ E → o.length + (nameL L).length ≤ 255 →
    nm l E K p b next o = .ok (o ++ nameL L, next.getD (p + (nameL L).length)) := by
  intro L
  induction L with
  | nil =>
    intro p o _ hd hE ho
    obtain ⟨h1, _, _⟩ := bt_drop (c := 0) (t := rest) hd
    have hl : (nameL []).length = 1 := rfl
    rw [nm_zero (by omega) h1]
    rfl
  | cons x L ih =>
    intro p o hA hd hE ho
    rw [List.all_cons, Bool.and_eq_true] at hA
    have hx := okLab_iff.1 hA.1
    have hof := ofNat_len hA.1
    have hn : nameL (x :: L) = UInt8.ofNat x.length :: (x ++ nameL L) := by
      show (UInt8.ofNat x.length :: (x ++ wire L)) ++ [0] = _
      unfold nameL
      rw [List.cons_append, List.append_assoc]
    have hl : (nameL (x :: L)).length = 1 + x.length + (nameL L).length := by rw [hn]; simp only [List.length_cons, List.length_append]; omega
    have h1l : 1 ≤ (nameL L).length := by unfold nameL; simp
    rw [hn, List.cons_append] at hd
    obtain ⟨h1, h2, h3⟩ := bt_drop hd
    rw [hof] at h1
    have hcut : cut l p (x.length + 1) = UInt8.ofNat x.length :: x := by
      unfold cut
      rw [hd, List.take_succ_cons, List.append_assoc, List.take_left' rfl]
    have hdrop : l.drop (p + 1 + x.length) = nameL L ++ rest := by
      rw [← List.drop_drop, h3, List.append_assoc, List.drop_left' rfl]
    rw [nm_more (by omega) (by omega) (by omega) (by omega), h1, hcut, ih hA.2 hdrop (by omega) (by simp only [List.length_append, List.length_cons]; omega), hl, hn, show p + 1 + x.length + (nameL L).length = p + (1 + x.length + (nameL L).length) by omega, List.append_assoc, List.cons_append]
section
variable {a m t : List UInt8} {b1 b2 : UInt8}
/-- A name behind any bytes. -/
theorem nmAt_name (h : isN m = true) : nmAt (a ++ m ++ t) a.length = .ok (m, a.length + m.length) := by
  obtain ⟨L, hL⟩ := isN_some h
  obtain ⟨e1, e2, e3⟩ := labels_some hL
  unfold nmAt
  rw [if_neg (by omega)]
  show nm (a ++ m ++ t) (a ++ m ++ t).length 2 a.length a.length none [] = _
  have hd : (a ++ m ++ t).drop a.length = nameL L ++ t := by rw [List.append_assoc, List.drop_left, e1]
  rw [nm_wire e2 hd (by rw [e1]; simp only [List.length_append]; omega) (by rw [e1]; simp only [List.length_nil]; omega), e1]
  rfl
theorem place_two {l r : List UInt8} {q : Nat} (hd : l.drop q = b1 :: b2 :: r) : bt l q = b1.toNat ∧ place l q = (b1.toNat - 192) * 256 + b2.toNat ∧ q + 2 ≤ l.length := by
  obtain ⟨h1, h2, h3⟩ := bt_drop hd
  obtain ⟨h4, h5, _⟩ := bt_drop h3
  refine ⟨h1, ?_, by omega⟩
  unfold place
  rw [h1, h4]
/-- A pointer to it. -/
theorem nmAt_back (h : isN m = true) (h1 : b1.toNat = 192 + a.length / 256) (h2 : b2.toNat = a.length % 256) : nmAt (a ++ m ++ (b1 :: b2 :: t)) ((a.length + m.length : Nat) : Int) = .ok (m, a.length + m.length + 2) := by
  obtain ⟨L, hL⟩ := isN_some h
  obtain ⟨e1, e2, e3⟩ := labels_some hL
  have hm1 : 1 ≤ m.length := by rw [← e1]; unfold nameL; simp
  unfold nmAt
  rw [if_neg (by omega)]
  show nm (a ++ m ++ (b1 :: b2 :: t)) (a ++ m ++ (b1 :: b2 :: t)).length 2 (a.length + m.length) (a.length + m.length) none [] = _
  have hd : (a ++ m ++ (b1 :: b2 :: t)).drop (a.length + m.length) = b1 :: b2 :: t := by rw [← List.length_append, List.drop_left]
  obtain ⟨p1, p2, p3⟩ := place_two hd
  have hp : place (a ++ m ++ (b1 :: b2 :: t)) (a.length + m.length) = a.length := by rw [p2]; omega
  have hd2 : (a ++ m ++ (b1 :: b2 :: t)).drop a.length = nameL L ++ (b1 :: b2 :: t) := by rw [List.append_assoc, List.drop_left, e1]
  rw [nm_back (by rw [p1]; omega) p3 (by rw [hp]; omega), hp, nm_wire e2 hd2 (by rw [e1]; simp only [List.length_append]; omega) (by rw [e1]; simp only [List.length_nil]; omega), e1]
  rfl
/-- A pointer to itself. -/
theorem nmAt_loop (h1 : b1.toNat = 192 + a.length / 256) (h2 : b2.toNat = a.length % 256) : nmAt (a ++ (b1 :: b2 :: t)) a.length = .error 42 := by
  unfold nmAt
  rw [if_neg (by omega)]
  show nm (a ++ (b1 :: b2 :: t)) (a ++ (b1 :: b2 :: t)).length 2 a.length a.length none [] = _
  have hd : (a ++ (b1 :: b2 :: t)).drop a.length = b1 :: b2 :: t := List.drop_left
  obtain ⟨p1, p2, p3⟩ := place_two hd
  exact nm_ahead (by rw [p1]; omega) p3 (by rw [p2]; omega)
end
end Go.Proofs.Ytngbifdenbfepaa
