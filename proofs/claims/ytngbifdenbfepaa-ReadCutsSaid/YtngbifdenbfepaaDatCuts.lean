/- What is read of bytes is read of them with others behind: so what is cut off is none. No program, no condition. -/
import Derived.Test.YtngbifdenbfepaaBytes
import Derived.Test.YtngbifdenbfepaaNmMath
import Derived.Test.YtngbifdenbfepaaRecMath
import Derived.Test.YtngbifdenbfepaaMsgMath
import Derived.Test.YtngbifdenbfepaaStMath
import Derived.Test.YtngbifdenbfepaaDatMath
import Derived.Test.YtngbifdenbfepaaDatMore
namespace Go.Proofs.Ytngbifdenbfepaa.DatMath
open Go Bytes NmMath RecMath MsgMath StMath

section
variable {l t : List UInt8}
theorem bt_ext {p : Nat} (h : p < l.length) : bt (l ++ t) p = bt l p := by
  unfold bt
  rw [List.getD_eq_getElem?_getD, List.getElem?_append_left h, ← List.getD_eq_getElem?_getD]
theorem cut_ext {p n : Nat} (h : p + n ≤ l.length) : cut (l ++ t) p n = cut l p n := by
  unfold cut
  rw [List.drop_append_of_le_length (by omega), List.take_append_of_le_length (by rw [List.length_drop]; omega)]
theorem nu_ext {p n : Nat} (h : p + n ≤ l.length) : nu (l ++ t) p n = nu l p n := by unfold nu; rw [cut_ext h]
theorem place_ext {p : Nat} (h : p + 2 ≤ l.length) : place (l ++ t) p = place l p := by unfold place; rw [bt_ext (by omega), bt_ext (by omega)]
theorem run_ext {E K p : Nat} {o : List UInt8} (hE : E ≤ l.length) : ∀ {E' K' : Nat} {r : List UInt8 × Nat}, E ≤ E' → run l E K p o = .ok r → run (l ++ t) E' K' p o = .ok r := by
  fun_induction run l E K p o with
  | case1 p o h h0 => intro E' K' r hE' e; rw [← e]; exact run_end (by omega) (by rw [bt_ext (by omega)]; exact h0)
  | case2 => intro E' K' r hE' e; cases e
  | case3 => intro E' K' r hE' e; cases e
  | case4 p o h h0 h1 h2 h3 ih =>
    intro E' K' r hE' e
    rw [run_more (by rw [bt_ext (by omega)]; omega) (by rw [bt_ext (by omega)]; omega) (by rw [bt_ext (by omega)]; omega) (by rw [bt_ext (by omega)]; omega), bt_ext (by omega), cut_ext (by omega)]
    exact ih hE' e
  | case5 => intro E' K' r hE' e; cases e
  | case6 => intro E' K' r hE' e; cases e
theorem nm_ext {E K p b : Nat} {next : Option Nat} {o : List UInt8} (hE : E ≤ l.length) : ∀ {E' K' : Nat} {r : List UInt8 × Nat}, E ≤ E' → nm l E K p b next o = .ok r → nm (l ++ t) E' K' p b next o = .ok r := by
  fun_induction nm l E K p b next o with
  | case1 => intro E' K' r hE' e; cases e
  | case2 E K p b next o o1 q hr h0 =>
    intro E' K' r hE' e
    have hq := (run_ok hr).2.1
    rw [nm, run_ext hE (K' := K') hE' hr]
    simp only
    rw [if_pos (by rw [bt_ext (by omega)]; exact h0)]
    exact e
  | case3 E K p b next o o1 q hr h0 h1 h2 ih =>
    intro E' K' r hE' e
    have hq := (run_ok hr).2.1
    have hp : place (l ++ t) q = place l q := place_ext (by omega)
    rw [nm, run_ext hE (K' := K') hE' hr]
    simp only
    rw [if_neg (by rw [bt_ext (by omega)]; exact h0), if_pos (by omega), dif_pos (by rw [hp]; exact h2), hp]
    exact ih (Nat.le_refl _) (by rw [List.length_append]; omega) e
  | case4 => intro E' K' r hE' e; cases e
  | case5 => intro E' K' r hE' e; cases e
theorem bare_ext {E K p : Nat} {o : List UInt8} (hE : E ≤ l.length) {r : List UInt8 × Nat} (h : bare l E K p o = .ok r) : bare (l ++ t) E K p o = .ok r := by
  unfold bare at h ⊢
  split at h
  · cases h
  · next o1 q hr =>
    have hq := (run_ok hr).2.1
    rw [run_ext hE (K' := K) (Nat.le_refl _) hr]
    simp only
    rw [bt_ext (by omega)]
    exact h
theorem ends_ext {E p : Nat} (hE : E ≤ l.length) : StMath.ends (l ++ t) E p = StMath.ends l E p := by
  fun_induction StMath.ends l E p with
  | case1 p h h1 => rw [ends_ptr h (by rw [bt_ext (by omega)]; exact h1)]
  | case2 p h h1 h2 => rw [ends_here h (by rw [bt_ext (by omega)]; omega) (by rw [bt_ext (by omega)]; exact h2)]
  | case3 p h h1 h2 ih => rw [ends_more h (by rw [bt_ext (by omega)]; omega) (by rw [bt_ext (by omega)]; omega), bt_ext (by omega), ih]
  | case4 p h => exact ends_not (by omega)
theorem nameE_ext {E kind p : Nat} (hE : E ≤ l.length) {r : List UInt8 × Nat} (h : nameE l E kind p = .ok r) : nameE (l ++ t) E kind p = .ok r := by
  unfold nameE at h ⊢
  rw [ends_ext hE]
  split at h
  · cases h
  · next h1 =>
    rw [if_neg h1]
    split at h
    · next h2 => rw [if_pos h2]; exact bare_ext hE h
    · next h2 => rw [if_neg h2]; exact nm_ext hE (Nat.le_refl _) h
theorem numE_ext {E size p : Nat} (hE : E ≤ l.length) {r : Nat × Nat} (h : numE l E size p = .ok r) : numE (l ++ t) E size p = .ok r := by
  unfold numE at h ⊢
  split at h
  · next h1 => rw [if_pos h1, nu_ext (by omega)]; exact h
  · cases h
theorem many_ext {α : Type} {f g : Nat → Except Nat (α × Nat)} (hf : ∀ p r, f p = .ok r → g p = .ok r) : ∀ {n p : Nat} {r : List α × Nat}, many f n p = .ok r → many g n p = .ok r := by
  intro n
  induction n with
  | zero => intro p r h; exact h
  | succ n ih =>
    intro p r h
    rw [many] at h ⊢
    split at h
    · cases h
    · next x q hx =>
      rw [hf _ _ hx]
      simp only
      split at h
      · cases h
      · next xs s hxs => rw [ih hxs]; exact h
theorem txtE_ext {E p : Nat} {out : List (List UInt8)} (hE : E ≤ l.length) : txtE (l ++ t) E out p = txtE l E out p := by
  fun_induction txtE l E out p with
  | case1 out p h h2 ih => rw [txtE, if_pos h, bt_ext (by omega), if_pos h2, cut_ext (by omega), ih]
  | case2 out p h h2 => rw [txtE, if_pos h, bt_ext (by omega), if_neg h2]
  | case3 out p h => rw [txtE, if_neg h]
theorem textsE_ext {E kind p : Nat} (hE : E ≤ l.length) (hp : p ≤ E) : textsE (l ++ t) E kind p = textsE l E kind p := by
  have part : ∀ n, partE (l ++ t) E n p = partE l E n p := fun n => by
    unfold partE
    split
    · next h => rw [cut_ext (by omega)]
    · rfl
  unfold textsE
  rw [part, part, txtE_ext hE, cut_ext (by omega)]
theorem endE_ext {E kind p : Nat} {nms : List (List UInt8)} {ns : List Nat} (hE : E ≤ l.length) (hp : p ≤ E) : endE (l ++ t) E kind nms ns p = endE l E kind nms ns p := by
  unfold endE
  rw [textsE_ext hE hp]
theorem bodyE_ext {E kind p : Nat} {D : Body} (hE : E ≤ l.length) (hp : p ≤ E) (h : bodyE l E kind p = .ok D) : bodyE (l ++ t) E kind p = .ok D := by
  unfold bodyE at h ⊢
  split at h
  · next hk =>
    rw [if_pos hk]
    split at h
    · cases h
    · next nms q h1 =>
      have hq := many_le (fun _ _ _ _ h => nameE_end h) hp h1
      rw [many_ext (fun _ _ h => nameE_ext hE h) h1]
      simp only
      split at h
      · cases h
      · next ns r h2 =>
        have hr := many_le (fun _ _ _ _ h => numE_end h) hq h2
        rw [many_ext (fun _ _ h => numE_ext hE h) h2]
        simp only
        rw [endE_ext hE hr]
        exact h
  · next hk =>
    rw [if_neg hk]
    split at h
    · cases h
    · next ns q h1 =>
      have hq := many_le (fun _ _ _ _ h => numE_end h) hp h1
      rw [many_ext (fun _ _ h => numE_ext hE h) h1]
      simp only
      split at h
      · cases h
      · next nms r h2 =>
        have hr := many_le (fun _ _ _ _ h => nameE_end h) hq h2
        rw [many_ext (fun _ _ h => nameE_ext hE h) h2]
        simp only
        rw [endE_ext hE hr]
        exact h
theorem recE_ext {p : Nat} {r : Rec × Nat} (h : recE l p = .ok r) : recE (l ++ t) p = .ok r := by
  unfold recE at h ⊢
  split at h
  · cases h
  · next n q hn =>
    rw [nm_ext (Nat.le_refl _) (E' := (l ++ t).length) (K' := 2) (by rw [List.length_append]; omega) hn]
    simp only
    unfold headE at h ⊢
    split at h
    · next h1 =>
      rw [if_pos (by rw [List.length_append]; omega), nu_ext (p := q + 8) (by omega), nu_ext (p := q) (by omega), nu_ext (p := q + 2) (by omega), nu_ext (p := q + 4) (by omega)]
      split at h
      · next h2 =>
        rw [if_pos (by rw [List.length_append]; omega)]
        cases hb : bodyE l (q + 10 + nu l (q + 8) 2) (nu l q 2) (q + 10) with
        | error k => rw [hb] at h; cases h
        | ok D =>
          rw [bodyE_ext h2 (by omega) hb]
          rw [hb] at h
          exact h
      · cases h
    · cases h
theorem qn_ext {p : Nat} {r : Qn × Nat} (h : qn l p = .ok r) : qn (l ++ t) p = .ok r := by
  unfold qn at h ⊢
  split at h
  · cases h
  · next n q hn =>
    rw [nm_ext (Nat.le_refl _) (E' := (l ++ t).length) (K' := 2) (by rw [List.length_append]; omega) hn]
    simp only
    split at h
    · next h1 =>
      rw [if_pos (by rw [List.length_append]; omega), nu_ext (by omega), nu_ext (by omega)]
      exact h
    · cases h
/-- A message that is whole, with bytes behind it, is none. -/
theorem msg_ext {M : Msg} (h : msg (recE l) l = .ok M) (ht : t ≠ []) : msg (recE (l ++ t)) (l ++ t) = .error 7 := by
  have htl : 0 < t.length := List.length_pos_iff.2 ht
  have hrec : ∀ n p r, many (recE l) n p = .ok r → many (recE (l ++ t)) n p = .ok r := fun n p r => many_ext (fun _ _ h => recE_ext h)
  unfold msg at h ⊢
  split at h
  · cases h
  · next h1 =>
    rw [if_neg (by rw [List.length_append]; omega), nu_ext (p := 4) (by omega), nu_ext (p := 6) (by omega), nu_ext (p := 8) (by omega), nu_ext (p := 10) (by omega)]
    split at h
    · cases h
    · next h2 =>
      rw [if_neg h2]
      unfold msg1 at h ⊢
      rw [nu_ext (p := 4) (by omega)]
      split at h
      · cases h
      · next qs q hq =>
        rw [many_ext (fun _ _ h => qn_ext h) hq]
        simp only
        unfold msg2 at h ⊢
        rw [nu_ext (p := 6) (by omega)]
        split at h
        · cases h
        · next an q2 ha =>
          rw [hrec _ _ _ ha]
          simp only
          unfold msg3 at h ⊢
          rw [nu_ext (p := 8) (by omega)]
          split at h
          · cases h
          · next ns q3 hn =>
            rw [hrec _ _ _ hn]
            simp only
            unfold msg4 at h ⊢
            rw [nu_ext (p := 10) (by omega)]
            split at h
            · cases h
            · next ad q4 hx =>
              rw [hrec _ _ _ hx]
              simp only
              have q4l : q4 ≤ l.length := by
                refine many_le (fun _ _ _ _ h => recE_next h) ?_ hx
                refine many_le (fun _ _ _ _ h => recE_next h) ?_ hn
                refine many_le (fun _ _ _ _ h => recE_next h) ?_ ha
                refine many_le (fun _ _ _ _ h => ?_) (by omega) hq
                unfold qn at h
                split at h
                · cases h
                · split at h
                  · injection h with h; injection h with _ h; omega
                  · cases h
              rw [if_pos (by rw [List.length_append]; omega)]
end
/-- A message that is cut off is none. -/
theorem msg_cut {l : List UInt8} {k : Nat} {M : Msg} (h : msg (recE l) l = .ok M) (hk : k < l.length) : ∃ x, msg (recE (l.take k)) (l.take k) = .error x := by
  cases hm : msg (recE (l.take k)) (l.take k) with
  | error x => exact ⟨x, rfl⟩
  | ok M2 =>
    exfalso
    have hd : l.drop k ≠ [] := fun e => by
      have := congrArg List.length e
      rw [List.length_drop] at this
      simp at this
      omega
    have := msg_ext hm hd
    rw [List.take_append_drop, h] at this
    cases this
end Go.Proofs.Ytngbifdenbfepaa.DatMath
