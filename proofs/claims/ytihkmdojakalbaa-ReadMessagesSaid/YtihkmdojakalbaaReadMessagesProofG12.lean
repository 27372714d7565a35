/- Texts of one proof, one behind the other: DatState, DatRec, DatMsg, RefData, StMore. -/
import Derived.Test.YtihkmdojakalbaaReadMessagesProofG1
import Derived.Test.YtihkmdojakalbaaReadMessagesProofG2
import Derived.Test.YtihkmdojakalbaaReadMessagesProofG6
import Derived.Test.YtihkmdojakalbaaReadMessagesProofG10
import Derived.Test.YtihkmdojakalbaaReadMessagesProofG11
import Derived.Test.YtihkmdojakalbaaProg
import Derived.Test.YtihkmdojakalbaaReadMessagesProofG7
import Derived.WalkKit
import Derived.Lib.Hide
import Derived.Laws.Rows
import Derived.Laws.AppendOwn
import Derived.Outline
import Derived.IntWalk
import Derived.WalkSpells
import Derived.WalkLawsBesides
import Derived.RegionTactic
import Derived.ChangeAlike
import Derived.Deep.QuietTactic
import Derived.BigQuiet
import Derived.Deep.Draws

/- The document's reading, with an error that is kept, comes to the code's. No program, no condition. -/
namespace Go.Proofs.Ytihkmdojakalbaa.DatMath
open Go Bytes NameMath NmMath RecMath MsgMath StMath

section
variable {l : List UInt8} {E : Nat}
theorem run_ends {K p : Nat} {o : List UInt8} (hE : E ≤ l.length) : StMath.ends l E p = true → run l l.length 2 p o = run l E K p o := by
  fun_induction run l E K p o with
  | case1 p o h h0 => intro _; exact run_end (by omega) h0
  | case2 p o h h0 h1 => intro _; exact run_label (by omega) h1 (by omega)
  | case3 p o h h0 h1 h2 h3 => intro _; exact run_long (by omega) (by omega) (by omega) (by omega)
  | case4 p o h h0 h1 h2 h3 ih =>
    intro e
    rw [ends_more h (by omega) (by omega), show p + bt l p + 1 = p + 1 + bt l p by omega] at e
    rw [run_more (by omega) (by omega) (by omega) (by omega)]
    exact ih e
  | case5 p o h h0 h1 h2 =>
    intro e
    rw [ends_more h (by omega) (by omega), ends_not (by omega)] at e
    cases e
  | case6 p o h => intro e; rw [ends_not (by omega)] at e; cases e
theorem ends_run {K p q : Nat} {o o' : List UInt8} : StMath.ends l E p = true → run l E K p o = .ok (o', q) → StMath.ends l E q = true := by
  fun_induction run l E K p o with
  | case1 p o h h0 => intro e h; injection h with h; injection h with _ h; subst h; exact e
  | case2 => intro _ h; cases h
  | case3 => intro _ h; cases h
  | case4 p o h h0 h1 h2 h3 ih =>
    intro e h
    rw [ends_more (by omega) (by omega) (by omega), show p + bt l p + 1 = p + 1 + bt l p by omega] at e
    exact ih e h
  | case5 => intro _ h; cases h
  | case6 => intro _ h; cases h
theorem nm_ends {p b : Nat} {next : Option Nat} {o : List UInt8} (hE : E ≤ l.length) (e : StMath.ends l E p = true) : nm l l.length 2 p b next o = nm l E 50 p b next o := by
  rw [nm, nm, run_ends hE e (K := 50)]
  cases hr : run l E 50 p o with
  | error k => rfl
  | ok oq =>
    obtain ⟨o', q⟩ := oq
    simp only
    have hq := run_ok hr
    by_cases h0 : bt l q = 0
    · rw [if_pos h0, if_pos h0]
    · have he := ends_run e hr
      rw [ends_ptr hq.2.1 (by omega)] at he
      have := of_decide_eq_true he
      rw [if_neg h0, if_neg h0, if_pos (by omega), if_pos (by omega)]
theorem bare_ends {p : Nat} {o : List UInt8} (hE : E ≤ l.length) (e : StMath.ends l E p = true) : bare l l.length 2 p o = bare l E 50 p o := by
  unfold bare
  rw [run_ends hE e (K := 50)]
theorem one_ends {kind p : Nat} (hE : E ≤ l.length) (e : StMath.ends l E p = true) : oneS l kind (p, 0) = match nameE l E kind p with
    | .error k => ([], (0, k))
    | .ok (o, q) => (o, (q, 0)) := by
  unfold oneS
  by_cases h33 : kind = 33
  · rw [if_pos h33, nameE_bare e h33]
    simp only
    rw [bare_ends hE e]
    rfl
  · rw [if_neg h33, nameE_nm e h33, ← nm_ends hE e]
    unfold nameS
    rw [if_neg (by simp)]
    rfl
theorem numbers_is {size : Nat} (hE : E ≤ l.length) : ∀ {m : Nat} {out : List Nat} {p : Nat}, (∀ L q, many (numE l E size) m p = .ok (L, q) → numbersS l size E m out (p, 0) = (out ++ L, (q, 0))) ∧ ∀ k, many (numE l E size) m p = .error k → (numbersS l size E m out (p, 0)).2.2 = k ∧ k ≠ 0 := by
  intro m
  induction m with
  | zero =>
    intro out p
    refine ⟨fun L q h => ?_, fun k h => by cases h⟩
    injection h with h
    injection h with h1 h2
    subst h1; subst h2
    simp [numbersS]
  | succ m ih =>
    intro out p
    by_cases hin : p + size ≤ E
    · rw [numbersS_more rfl hin, numS_ok (by omega)]
      simp only [many, numE_ok hin]
      have hi := ih (out := out ++ [nu l p size]) (p := p + size)
      cases hm : many (numE l E size) m (p + size) with
      | error k => exact ⟨fun L q h => (by cases h), fun k' h => by injection h with h; subst h; exact hi.2 _ hm⟩
      | ok Lq =>
        obtain ⟨L, q⟩ := Lq
        refine ⟨fun L' q' h => ?_, fun k h => by cases h⟩
        injection h with h
        injection h with h1 h2
        subst h1; subst h2
        rw [hi.1 _ _ hm, List.append_assoc]
        rfl
    · rw [numbersS_bad rfl (by omega)]
      simp only [many, numE_no (show E < p + size by omega)]
      exact ⟨fun L q h => (by cases h), fun k h => by injection h with h; subst h; exact ⟨rfl, by decide⟩⟩
theorem names_is {kind : Nat} (hE : E ≤ l.length) (hne : ∀ p k, nameE l E kind p = .error k → k ≠ 0) : ∀ {m : Nat} {out : List (List UInt8)} {p : Nat}, (∀ L q, many (nameE l E kind) m p = .ok (L, q) → namesS l kind E m out (p, 0) = (out ++ L, (q, 0))) ∧ ∀ k, many (nameE l E kind) m p = .error k → (namesS l kind E m out (p, 0)).2.2 = k ∧ k ≠ 0 := by
  intro m
  induction m with
  | zero =>
    intro out p
    refine ⟨fun L q h => ?_, fun k h => by cases h⟩
    injection h with h
    injection h with h1 h2
    subst h1; subst h2
    simp [namesS]
  | succ m ih =>
    intro out p
    cases he : StMath.ends l E p with
    | false =>
      rw [namesS_bad rfl he]
      simp only [many, nameE_no he]
      exact ⟨fun L q h => (by cases h), fun k h => by injection h with h; subst h; exact ⟨rfl, by decide⟩⟩
    | true =>
      rw [namesS_more rfl he, one_ends hE he]
      cases hn : nameE l E kind p with
      | error k =>
        simp only [many, hn]
        refine ⟨fun L q h => (by cases h), fun k' h => ?_⟩
        injection h with h
        subst h
        rw [namesS_stop (hne _ _ hn)]
        exact ⟨rfl, hne _ _ hn⟩
      | ok oq =>
        obtain ⟨o, q0⟩ := oq
        simp only [many, hn]
        have hi := ih (out := out ++ [o]) (p := q0)
        cases hm : many (nameE l E kind) m q0 with
        | error k => exact ⟨fun L q h => (by cases h), fun k' h => by injection h with h; subst h; exact hi.2 _ hm⟩
        | ok Lq =>
          obtain ⟨L, q⟩ := Lq
          refine ⟨fun L' q' h => ?_, fun k h => by cases h⟩
          injection h with h
          injection h with h1 h2
          subst h1; subst h2
          rw [hi.1 _ _ hm, List.append_assoc]
          rfl
theorem txt_is {out : List (List UInt8)} {p : Nat} : (∀ L q, txtE l E out p = .ok (L, q) → textsS l E out p = (L, (q, 0))) ∧ ∀ k, txtE l E out p = .error k → (textsS l E out p).2.2 = k ∧ k ≠ 0 := by
  fun_induction txtE l E out p with
  | case1 out p h h2 ih => rw [textsS_more h h2]; exact ih
  | case2 out p h h2 =>
    rw [textsS_bad h (by omega)]
    exact ⟨fun L q h => (by cases h), fun k h => by injection h with h; subst h; exact ⟨rfl, by decide⟩⟩
  | case3 out p h =>
    rw [textsS_end (by omega)]
    exact ⟨fun L q h => by injection h with h; injection h with h1 h2; subst h1; subst h2; rfl, fun k h => by cases h⟩
end
/-- The texts and the end, from a place where no error was met. -/
def tailS (l : List UInt8) (kind E p : Nat) : List (List UInt8) × St := ((dat4 l kind E (p, 0)).1, dat5 E (dat4 l kind E (p, 0)).2)
theorem datS_6 {l : List UInt8} {E p q r : Nat} {nms : List (List UInt8)} {ns : List Nat} (h1 : namesS l 6 E 2 [] (p, 0) = (nms, (q, 0))) (h2 : numbersS l 4 E 5 [] (q, 0) = (ns, (r, 0))) : datS l 6 E (p, 0) = ⟨nms, ns, (tailS l 6 E r).1, (tailS l 6 E r).2⟩ := by
  have a : shA 6 = 2 := rfl
  have b : shB 6 = 5 := rfl
  simp [datS, dat1, dat2, dat3, a, b, h1, h2, tailS]
theorem datS_not {l : List UInt8} {kind E p q r : Nat} {nms : List (List UInt8)} {ns : List Nat} (h6 : kind ≠ 6) (h1 : numbersS l 2 E (shB kind) [] (p, 0) = (ns, (q, 0))) (h2 : namesS l kind E (shA kind) [] (q, 0) = (nms, (r, 0))) : datS l kind E (p, 0) = ⟨nms, ns, (tailS l kind E r).1, (tailS l kind E r).2⟩ := by
  simp [datS, dat1, dat2, dat3, h6, h1, h2, tailS]
theorem dat_stop {l : List UInt8} {kind E k : Nat} {st : St} (h : st.2 = k) (hk : k ≠ 0) : (dat5 E (dat4 l kind E st).2).2 = k := by
  have h0 : st.2 ≠ 0 := by omega
  unfold dat4
  rw [if_pos h0]
  unfold dat5
  rw [if_neg (by simp only; omega)]
  exact h
theorem num_stop {l : List UInt8} {size E m : Nat} {out : List Nat} {st : St} (h : st.2 ≠ 0) : (numbersS l size E m out st).2 = st := by rw [numbersS_stop h]
theorem nam_stop {l : List UInt8} {kind E m : Nat} {out : List (List UInt8)} {st : St} (h : st.2 ≠ 0) : (namesS l kind E m out st).2 = st := by rw [namesS_stop h]
/-- What a body's end is, the two ways. -/
theorem tail_is {l : List UInt8} {kind E p : Nat} {nms : List (List UInt8)} {ns : List Nat} (hE : E ≤ l.length) (hp : p ≤ E) (hn : E - p ≤ 65535) :
    (∀ D, endE l E kind nms ns p = .ok D → tailS l kind E p = (D.texts, (E, 0)) ∧ D.names = nms ∧ D.nums = ns) ∧
    ∀ k, endE l E kind nms ns p = .error k → k = 50 ∧ ((tailS l kind E p).2.2 = 50 ∨ ((tailS l kind E p).2 = (E, 0) ∧ ((kind = 16 ∧ (tailS l kind E p).1 = []) ∨ (kind ≠ 16 ∧ (tailS l kind E p).1.any (badText kind) = true)))) := by
  have z : ∀ (L : List (List UInt8)), dat4 l kind E (p, 0) = (L, (E, 0)) → tailS l kind E p = (L, (E, 0)) := fun L h => by
    unfold tailS
    rw [h]
    unfold dat5
    rw [if_neg (by simp)]
  have part : ∀ n, shC kind = 1 → kind ≠ 16 → (∀ x : List UInt8, x.length ≠ n → badText kind x = true) → textsE l E kind p = partE l E n p →
      (∀ D, endE l E kind nms ns p = .ok D → tailS l kind E p = (D.texts, (E, 0)) ∧ D.names = nms ∧ D.nums = ns) ∧
      ∀ k, endE l E kind nms ns p = .error k → k = 50 ∧ ((tailS l kind E p).2.2 = 50 ∨ ((tailS l kind E p).2 = (E, 0) ∧ ((kind = 16 ∧ (tailS l kind E p).1 = []) ∨ (kind ≠ 16 ∧ (tailS l kind E p).1.any (badText kind) = true)))) := by
    intro n hc h16 hb ht
    have hd : dat4 l kind E (p, 0) = ([cut l p (E - p)], (E, 0)) := by
      unfold dat4
      rw [if_neg (by simp), if_neg h16, if_pos (by omega)]
    have hl : (cut l p (E - p)).length = E - p := cut_len (by omega)
    by_cases hn : p + n ≤ E
    · rw [partE_ok hn] at ht
      by_cases hq : p + n < E
      · rw [endE_left (by omega) ht hq]
        refine ⟨fun D h => (by cases h), fun k h => ?_⟩
        injection h with h
        refine ⟨h.symm, .inr ⟨by rw [z _ hd], .inr ⟨h16, ?_⟩⟩⟩
        rw [z _ hd]
        simp [hb _ (show (cut l p (E - p)).length ≠ n by omega)]
      · rw [endE_ok (by omega) ht hq]
        refine ⟨fun D h => ?_, fun k h => by cases h⟩
        injection h with h
        subst h
        have : E - p = n := by omega
        rw [z _ hd, this]
        exact ⟨rfl, rfl, rfl⟩
    · rw [partE_no (by omega)] at ht
      rw [endE_err (by omega) ht]
      refine ⟨fun D h => (by cases h), fun k h => ?_⟩
      injection h with h
      refine ⟨h.symm, .inr ⟨by rw [z _ hd], .inr ⟨h16, ?_⟩⟩⟩
      rw [z _ hd]
      simp [hb _ (show (cut l p (E - p)).length ≠ n by omega)]
  by_cases h1 : kind = 1
  · subst h1
    exact part 4 rfl (by decide) (fun x hx => by simp [badText, hx]) (by unfold textsE; rw [if_pos rfl])
  · by_cases h28 : kind = 28
    · subst h28
      exact part 16 rfl (by decide) (fun x hx => by simp [badText, hx]) (by unfold textsE; rw [if_neg (by decide), if_pos rfl])
    · by_cases h16 : kind = 16
      · subst h16
        have hd : dat4 l 16 E (p, 0) = textsS l E [] p := by
          unfold dat4
          rw [if_neg (by simp), if_pos rfl]
        have hte : textsE l E 16 p = if p < E then txtE l E [] p else .error 50 := by unfold textsE; rw [if_neg (by decide), if_neg (by decide), if_pos rfl]
        by_cases hlt : p < E
        · rw [if_pos hlt] at hte
          have ht := txt_is (l := l) (E := E) (out := []) (p := p)
          cases hx : txtE l E [] p with
          | error k =>
            rw [hx] at hte
            rw [endE_err (by decide) hte]
            refine ⟨fun D h => (by cases h), fun k' h => ?_⟩
            injection h with h
            subst h
            obtain ⟨e1, e2⟩ := ht.2 _ hx
            have h50 : k = 50 := by
              have : ∀ {out : List (List UInt8)} {p : Nat} {x : Nat}, txtE l E out p = .error x → x = 50 := by
                intro out p x
                fun_induction txtE l E out p with
                | case1 out p h h2 ih => exact ih
                | case2 => intro h; injection h with h; omega
                | case3 => intro h; cases h
              exact this hx
            refine ⟨h50, .inl ?_⟩
            unfold tailS
            rw [hd]
            show (dat5 E (textsS l E [] p).2).2 = 50
            unfold dat5
            rw [if_neg (by omega)]
            omega
          | ok Lq =>
            obtain ⟨L, q⟩ := Lq
            have hq := txtE_at (by omega) hx
            subst hq
            rw [hx] at hte
            rw [endE_ok (by decide) hte (Nat.lt_irrefl _)]
            refine ⟨fun D h => ?_, fun k h => by cases h⟩
            injection h with h
            subst h
            exact ⟨z _ (by rw [hd]; exact ht.1 _ _ hx), rfl, rfl⟩
        · rw [if_neg hlt] at hte
          rw [endE_err (by decide) hte]
          have hpE : p = E := by omega
          refine ⟨fun D h => (by cases h), fun k h => ?_⟩
          injection h with h
          have : tailS l 16 E p = ([], (E, 0)) := z _ (by rw [hd, textsS_end (by omega), hpE])
          exact ⟨h.symm, .inr ⟨by rw [this], .inl ⟨rfl, by rw [this]⟩⟩⟩
      · have hte : textsE l E kind p = .ok ([cut l p (E - p)], E) := by unfold textsE; rw [if_neg h1, if_neg h28, if_neg h16]
        by_cases hc : 0 < shC kind
        · have hd : dat4 l kind E (p, 0) = ([cut l p (E - p)], (E, 0)) := by
            unfold dat4
            rw [if_neg (by simp), if_neg h16, if_pos hc]
          rw [endE_ok hc hte (Nat.lt_irrefl _)]
          refine ⟨fun D h => ?_, fun k h => by cases h⟩
          injection h with h
          subst h
          exact ⟨z _ hd, rfl, rfl⟩
        · have hd : dat4 l kind E (p, 0) = ([], (p, 0)) := by
            unfold dat4
            rw [if_neg (by simp), if_neg h16, if_neg hc]
          by_cases hlt : p < E
          · rw [endE_none_left (by omega) hlt]
            refine ⟨fun D h => (by cases h), fun k h => ?_⟩
            injection h with h
            refine ⟨h.symm, .inl ?_⟩
            unfold tailS
            rw [hd]
            unfold dat5
            rw [if_pos ⟨rfl, by show p ≠ E; omega⟩]
          · have hpE : p = E := by omega
            rw [endE_none (by omega) hlt]
            refine ⟨fun D h => ?_, fun k h => by cases h⟩
            injection h with h
            subst h
            exact ⟨z _ (by rw [hd, hpE]), rfl, rfl⟩
end Go.Proofs.Ytihkmdojakalbaa.DatMath

/- The document's record, with an error that is kept, comes to the code's. No condition. -/
namespace Go.Proofs.Ytihkmdojakalbaa
open Go Bytes NameMath NmMath RecMath MsgMath StMath DatMath

/-- The document's record behind its head. -/
def recT (l : List UInt8) (a : List UInt8) (k c t n p : Nat) : Rec × St :=
  if l.length < p + n then (⟨a, k, c, t, [], [], []⟩, (p, 2))
  else (⟨a, k, c, t, (datS l k (p + n) (p, 0)).names, (datS l k (p + n) (p, 0)).nums, (datS l k (p + n) (p, 0)).texts⟩,
    if (datS l k (p + n) (p, 0)).st.2 = 0 then ((datS l k (p + n) (p, 0)).st.1, checkE ⟨a, k, c, t, (datS l k (p + n) (p, 0)).names, (datS l k (p + n) (p, 0)).nums, (datS l k (p + n) (p, 0)).texts⟩) else (datS l k (p + n) (p, 0)).st)
/-- The document's record. -/
def recS (l : List UInt8) (st : St) : Rec × St :=
  let a := nameS l st
  let k := numS l 2 a.2
  let c := numS l 2 k.2
  let t := numS l 4 c.2
  let n := numS l 2 t.2
  if n.2.2 ≠ 0 then (⟨a.1, k.1, c.1, t.1, [], [], []⟩, n.2) else recT l a.1 k.1 c.1 t.1 n.1 n.2.1
theorem okB_text {r : Rec} (h : r.texts.any (badText r.kind) = true) : okB r = false := by unfold okB shapedB; rw [h]; simp
theorem okB_none {r : Rec} (hk : r.kind = 16) (h : r.texts = []) : okB r = false := by
  unfold okB shapedB
  have : cntOk r = false := by
    unfold cntOk
    refine decide_eq_false fun hc => ?_
    rcases hc.2.2 with ⟨_, h2⟩ | ⟨h2, _⟩
    · rw [h] at h2; exact absurd h2 (by decide)
    · exact h2 hk
  rw [this]
  rfl
theorem dat4_small {l : List UInt8} {kind E p : Nat} (h16 : kind ≠ 16) : (dat4 l kind E (p, 0)).1.length ≤ 1 ∧ ∀ x ∈ (dat4 l kind E (p, 0)).1, x.length ≤ E - p := by
  unfold dat4
  rw [if_neg (by simp), if_neg h16]
  split
  · refine ⟨Nat.le_refl _, fun x hx => ?_⟩
    rw [List.mem_singleton] at hx
    subst hx
    unfold cut
    rw [List.length_take]
    exact Nat.min_le_left _ _
  · exact ⟨Nat.zero_le _, fun x hx => by cases hx⟩
theorem isN_len {x : List UInt8} (h : isN x = true) : x.length ≤ 255 := by
  obtain ⟨L, hL⟩ := isN_some h
  exact (labels_some hL).2.2
theorem not_bad {L : List (List UInt8)} (h : L.any badName = false) (k : Nat) (hk : k < L.length) : (L.getD k []).length ≤ 255 := by
  rw [List.any_eq_false] at h
  have := h _ (mem_getD (d := []) hk)
  exact isN_len (by unfold badName at this; simpa using this)
theorem body_state {l : List UInt8} {E kind p : Nat} (hE : E ≤ l.length) (hp : p ≤ E) (hn : E - p ≤ 65535) :
    (∀ D, bodyE l E kind p = .ok D → datS l kind E (p, 0) = ⟨D.names, D.nums, D.texts, (E, 0)⟩) ∧
    ∀ k, bodyE l E kind p = .error k → ((datS l kind E (p, 0)).st.2 = k ∧ k ≠ 0) ∨ ((datS l kind E (p, 0)).st = (E, 0) ∧ k = 50 ∧ ∀ n cls ttl, isN n = true → checkE ⟨n, kind, cls, ttl, (datS l kind E (p, 0)).names, (datS l kind E (p, 0)).nums, (datS l kind E (p, 0)).texts⟩ = 50 ∧ Small ⟨n, kind, cls, ttl, (datS l kind E (p, 0)).names, (datS l kind E (p, 0)).nums, (datS l kind E (p, 0)).texts⟩) := by
  have last : ∀ {nms : List (List UInt8)} {ns : List Nat} {r : Nat}, nms.any badName = false → nms.length ≤ 2 → ns.length ≤ 5 → (∀ x ∈ ns, x < 4294967296) → r ≤ E → E - r ≤ 65535 → datS l kind E (p, 0) = ⟨nms, ns, (tailS l kind E r).1, (tailS l kind E r).2⟩ →
      (∀ D, endE l E kind nms ns r = .ok D → datS l kind E (p, 0) = ⟨D.names, D.nums, D.texts, (E, 0)⟩) ∧
      ∀ k, endE l E kind nms ns r = .error k → ((datS l kind E (p, 0)).st.2 = k ∧ k ≠ 0) ∨ ((datS l kind E (p, 0)).st = (E, 0) ∧ k = 50 ∧ ∀ n cls ttl, isN n = true → checkE ⟨n, kind, cls, ttl, (datS l kind E (p, 0)).names, (datS l kind E (p, 0)).nums, (datS l kind E (p, 0)).texts⟩ = 50 ∧ Small ⟨n, kind, cls, ttl, (datS l kind E (p, 0)).names, (datS l kind E (p, 0)).nums, (datS l kind E (p, 0)).texts⟩) := by
    intro nms ns r hnm hnl hsl hsu hr hrn hd
    obtain ⟨t1, t2⟩ := tail_is (nms := nms) (ns := ns) hE hr hrn
    refine ⟨fun D h => ?_, fun k h => ?_⟩
    · obtain ⟨e1, e2, e3⟩ := t1 D h
      rw [hd, e1, e2, e3]
    · obtain ⟨rfl, e2⟩ := t2 k h
      rcases e2 with e2 | ⟨e2, e3⟩
      · exact .inl ⟨by rw [hd]; exact e2, by decide⟩
      · refine .inr ⟨by rw [hd]; exact e2, rfl, fun n cls ttl hN => ?_⟩
        rw [hd]
        refine ⟨checkE_50 ?_ ?_, ?_⟩
        rotate_left 2
        · refine ⟨Nat.le_trans (isN_len hN) (by decide), Nat.le_trans hnl (by decide), fun k hk => Nat.le_trans (not_bad hnm k hk) (by decide), Nat.le_trans hsl (by decide), fun k hk => Nat.le_of_lt_succ (hsu _ (mem_getD (d := 0) hk)), ?_, fun k hk => ?_⟩
          · rcases e3 with ⟨_, e3⟩ | ⟨h16, _⟩
            · show (tailS l kind E r).1.length ≤ _; rw [e3]; decide
            · have := (dat4_small (l := l) (E := E) (p := r) h16).1; show (dat4 l kind E (r, 0)).1.length ≤ _; omega
          · rcases e3 with ⟨_, e3⟩ | ⟨h16, _⟩
            · have hk' : k < (tailS l kind E r).1.length := hk
              rw [e3] at hk'; cases hk'
            · have := (dat4_small (l := l) (E := E) (p := r) h16).2 _ (mem_getD (d := []) hk); show ((dat4 l kind E (r, 0)).1.getD k []).length ≤ _; omega
        · unfold namesB badName
          simp only
          rw [hN, show (nms.any fun l => !isN l) = false from hnm]
          rfl
        · rcases e3 with ⟨h16, e3⟩ | ⟨h16, e3⟩
          · exact okB_none h16 e3
          · exact okB_text e3
  by_cases hk : kind = 6
  · subst hk
    have n1 := names_is (kind := 6) hE (fun _ _ h => nameE_ne h) (m := 2) (out := []) (p := p)
    unfold bodyE
    rw [if_pos rfl]
    cases h1 : many (nameE l E 6) 2 p with
    | error k =>
      refine ⟨fun D h => (by cases h), fun k' h => ?_⟩
      injection h with h
      subst h
      obtain ⟨e1, e2⟩ := n1.2 _ h1
      refine .inl ⟨?_, e2⟩
      show (dat5 E (dat4 l 6 E (dat3 l 6 E [] (dat2 l 6 E (p, 0)).2).2).2).2 = k
      have d2 : (dat2 l 6 E (p, 0)).2.2 = k := e1
      have d3 : (dat3 l 6 E [] (dat2 l 6 E (p, 0)).2).2.2 = k := by
        show (if 6 = 6 then numbersS l 4 E (shB 6) [] (dat2 l 6 E (p, 0)).2 else _).2.2 = k
        rw [if_pos rfl, num_stop (by rw [d2]; exact e2)]
        exact d2
      exact dat_stop d3 e2
    | ok lq =>
      obtain ⟨nms, q⟩ := lq
      have hq := many_le (fun _ _ _ _ h => nameE_end h) hp h1
      have hq2 := many_ge (fun _ _ _ h => nameE_up h) h1
      have s1 := n1.1 _ _ h1
      rw [List.nil_append] at s1
      have n2 := numbers_is (l := l) (size := 4) hE (m := 5) (out := []) (p := q)
      simp only
      cases h2 : many (numE l E 4) 5 q with
      | error k =>
        refine ⟨fun D h => (by cases h), fun k' h => ?_⟩
        injection h with h
        subst h
        obtain ⟨e1, e2⟩ := n2.2 _ h2
        refine .inl ⟨?_, e2⟩
        show (dat5 E (dat4 l 6 E (dat3 l 6 E [] (dat2 l 6 E (p, 0)).2).2).2).2 = k
        have d2 : dat2 l 6 E (p, 0) = (nms, (q, 0)) := s1
        have d3 : (dat3 l 6 E [] (dat2 l 6 E (p, 0)).2).2.2 = k := by
          rw [d2]
          exact e1
        exact dat_stop d3 e2
      | ok lr =>
        obtain ⟨ns, r⟩ := lr
        have hr := many_le (fun _ _ _ _ h => numE_end h) hq h2
        have hr2 := many_ge (fun _ _ _ h => numE_up h) h2
        have s2 := n2.1 _ _ h2
        rw [List.nil_append] at s2
        exact last (names_right hE h1) (by rw [many_len h1]; decide) (by rw [many_len h2]; decide) (many_all (P := fun x => x < 4294967296) (fun _ _ _ h => numE_four h) h2) hr (by omega) (datS_6 s1 s2)
  · have n1 := numbers_is (l := l) (size := 2) hE (m := shB kind) (out := []) (p := p)
    unfold bodyE
    rw [if_neg hk]
    cases h1 : many (numE l E 2) (shB kind) p with
    | error k =>
      refine ⟨fun D h => (by cases h), fun k' h => ?_⟩
      injection h with h
      subst h
      obtain ⟨e1, e2⟩ := n1.2 _ h1
      refine .inl ⟨?_, e2⟩
      have d1 : (dat1 l kind E (p, 0)).2.2 = k := by unfold dat1; rw [if_pos hk]; exact e1
      have d2 : (dat2 l kind E (dat1 l kind E (p, 0)).2).2.2 = k := by
        unfold dat2
        rw [nam_stop (by rw [d1]; exact e2)]
        exact d1
      show (dat5 E (dat4 l kind E (dat3 l kind E (dat1 l kind E (p, 0)).1 (dat2 l kind E (dat1 l kind E (p, 0)).2).2).2).2).2 = k
      have d3 : (dat3 l kind E (dat1 l kind E (p, 0)).1 (dat2 l kind E (dat1 l kind E (p, 0)).2).2).2.2 = k := by
        unfold dat3
        rw [if_neg hk]
        exact d2
      exact dat_stop d3 e2
    | ok lq =>
      obtain ⟨ns, q⟩ := lq
      have hq := many_le (fun _ _ _ _ h => numE_end h) hp h1
      have hq2 := many_ge (fun _ _ _ h => numE_up h) h1
      have s1 := n1.1 _ _ h1
      rw [List.nil_append] at s1
      have n2 := names_is (kind := kind) hE (fun _ _ h => nameE_ne h) (m := shA kind) (out := []) (p := q)
      simp only
      cases h2 : many (nameE l E kind) (shA kind) q with
      | error k =>
        refine ⟨fun D h => (by cases h), fun k' h => ?_⟩
        injection h with h
        subst h
        obtain ⟨e1, e2⟩ := n2.2 _ h2
        refine .inl ⟨?_, e2⟩
        have d1 : dat1 l kind E (p, 0) = (ns, (q, 0)) := by unfold dat1; rw [if_pos hk]; exact s1
        have d2 : (dat2 l kind E (dat1 l kind E (p, 0)).2).2.2 = k := by rw [d1]; exact e1
        show (dat5 E (dat4 l kind E (dat3 l kind E (dat1 l kind E (p, 0)).1 (dat2 l kind E (dat1 l kind E (p, 0)).2).2).2).2).2 = k
        have d3 : (dat3 l kind E (dat1 l kind E (p, 0)).1 (dat2 l kind E (dat1 l kind E (p, 0)).2).2).2.2 = k := by
          unfold dat3
          rw [if_neg hk]
          exact d2
        exact dat_stop d3 e2
      | ok lr =>
        obtain ⟨nms, r⟩ := lr
        have hr := many_le (fun _ _ _ _ h => nameE_end h) hq h2
        have hr2 := many_ge (fun _ _ _ h => nameE_up h) h2
        have s2 := n2.1 _ _ h2
        rw [List.nil_append] at s2
        exact last (names_right hE h2) (by rw [many_len h2]; exact shA_le _) (by rw [many_len h1]; exact shB_le _) (fun x hx => Nat.lt_of_lt_of_le (many_all (P := fun x => x < 65536) (fun _ _ _ h => numE_two h) h1 x hx) (by decide)) hr (by omega) (datS_not hk s1 s2)
theorem num_keep {l : List UInt8} {n : Nat} {st : St} (h : st.2 ≠ 0) : (numS l n st).2 = st := by
  obtain ⟨p, e⟩ := st
  rw [numS_err h]
theorem num_two {l : List UInt8} {n p : Nat} (h : l.length < p + n) : (numS l n (p, 0)).2 = (p, 2) := by rw [numS_short h]
/-- Where bytes of a record's head are lacking. -/
theorem head_short {l : List UInt8} {q : Nat} (h : l.length < q + 10) : (numS l 2 (numS l 4 (numS l 2 (numS l 2 (q, 0)).2).2).2).2.2 = 2 := by
  by_cases h2 : q + 2 ≤ l.length
  · rw [numS_ok h2]
    simp only
    by_cases h4 : q + 2 + 2 ≤ l.length
    · rw [numS_ok h4]
      simp only
      by_cases h8 : q + 2 + 2 + 4 ≤ l.length
      · rw [numS_ok h8]
        simp only
        rw [num_two (by omega)]
      · rw [num_two (show l.length < q + 2 + 2 + 4 by omega), num_keep (by simp)]
    · rw [num_two (show l.length < q + 2 + 2 by omega), num_keep (st := (q + 2, 2)) (by simp), num_keep (by simp)]
  · rw [num_two (show l.length < q + 2 by omega), num_keep (st := (q, 2)) (by simp), num_keep (st := (q, 2)) (by simp), num_keep (by simp)]
/-- Data that was read with no error can be gone through. -/
theorem dat_small {l : List UInt8} {n : List UInt8} {kind cls ttl E p : Nat} (hN : isN n = true) (hE : E ≤ l.length) (hp : p ≤ E) (hn : E - p ≤ 65535) (h0 : (datS l kind E (p, 0)).st.2 = 0) : Small ⟨n, kind, cls, ttl, (datS l kind E (p, 0)).names, (datS l kind E (p, 0)).nums, (datS l kind E (p, 0)).texts⟩ := by
  obtain ⟨b1, b2⟩ := body_state (kind := kind) hE hp hn
  cases hb : bodyE l E kind p with
  | error x =>
    rcases b2 _ hb with ⟨e1, e2⟩ | ⟨_, _, e3⟩
    · omega
    · exact (e3 n cls ttl hN).2
  | ok D =>
    rw [b1 _ hb]
    have hR := bodyE_right hE hp hn hb
    have key : Small ⟨n, kind, cls, 0, D.names, D.nums, D.texts⟩ := small_of (by rw [right_check hN hR, if_neg (by omega)]) (bodyE_nums hb)
    exact ⟨key.name, key.n1, key.s1, key.n2, key.u2, key.n3, key.s3⟩
theorem recT_is {l : List UInt8} {o : List UInt8} {k c t n p : Nat} (hN : isN o = true) (hn : n ≤ 65535) :
    (∀ R q, (if p + n ≤ l.length then lateE o k c t (p + n) (bodyE l (p + n) k p) else .error 2) = .ok (R, q) → recT l o k c t n p = (R, (q, 0))) ∧ ∀ x, (if p + n ≤ l.length then lateE o k c t (p + n) (bodyE l (p + n) k p) else .error 2) = .error x → (recT l o k c t n p).2.2 = x := by
  by_cases hin : p + n ≤ l.length
  · rw [if_pos hin]
    obtain ⟨b1, b2⟩ := body_state (l := l) (E := p + n) (kind := k) (p := p) hin (by omega) (by omega)
    unfold recT
    rw [if_neg (by omega)]
    cases hb : bodyE l (p + n) k p with
    | error x =>
      refine ⟨fun R q h => (by cases h), fun x' h => ?_⟩
      injection h with h
      subst h
      rcases b2 _ hb with ⟨e1, e2⟩ | ⟨e1, rfl, e3⟩
      · show (if (datS l k (p + n) (p, 0)).st.2 = 0 then _ else _ : St).2 = x
        rw [if_neg (by rw [e1]; exact e2)]
        exact e1
      · show (if (datS l k (p + n) (p, 0)).st.2 = 0 then _ else _ : St).2 = 50
        rw [if_pos (by rw [e1])]
        exact (e3 _ _ _ hN).1
    | ok D =>
      have e := b1 _ hb
      have hr := right_check (cls := c) (ttl := t) hN (bodyE_right hin (by omega) (by omega) hb)
      rw [e]
      simp only [if_true, hr]
      by_cases hl : 2147483647 < t ∧ k ≠ 41
      · rw [if_pos hl]
        refine ⟨fun R q' h => ?_, fun x h => ?_⟩
        · simp only [lateE, if_pos hl] at h; cases h
        · simp only [lateE, if_pos hl] at h
          injection h with h
      · rw [if_neg hl]
        refine ⟨fun R q' h => ?_, fun x h => ?_⟩
        · simp only [lateE, if_neg hl] at h
          injection h with h
          injection h with h1 h2
          rw [h1, h2]
        · simp only [lateE, if_neg hl] at h; cases h
  · rw [if_neg hin]
    unfold recT
    rw [if_pos (by omega)]
    refine ⟨fun R q h => (by cases h), fun x h => ?_⟩
    injection h with h
theorem recS_head {l o : List UInt8} {p q : Nat} (hn : nm l l.length 2 p p none [] = .ok (o, q)) (h10 : q + 10 ≤ l.length) : recS l (p, 0) = recT l o (nu l q 2) (nu l (q + 2) 2) (nu l (q + 4) 4) (nu l (q + 8) 2) (q + 10) := by
  have e1 : numS l 2 (q, 0) = (nu l q 2, (q + 2, 0)) := numS_ok (by omega)
  have e2 : numS l 2 (q + 2, 0) = (nu l (q + 2) 2, (q + 4, 0)) := numS_ok (by omega)
  have e3 : numS l 4 (q + 4, 0) = (nu l (q + 4) 4, (q + 8, 0)) := numS_ok (by omega)
  have e4 : numS l 2 (q + 8, 0) = (nu l (q + 8) 2, (q + 10, 0)) := numS_ok (by omega)
  unfold recS
  rw [nameS_ok hn]
  simp only [e1, e2, e3, e4, ne_eq, not_true, if_false]
theorem recS_is {l : List UInt8} {p : Nat} : (∀ R q, recE l p = .ok (R, q) → recS l (p, 0) = (R, (q, 0))) ∧ ∀ k, recE l p = .error k → (recS l (p, 0)).2.2 = k := by
  cases hn : nm l l.length 2 p p none [] with
  | error k =>
    rw [recE_err hn]
    refine ⟨fun R q h => (by cases h), fun k' h => ?_⟩
    injection h with h
    subst h
    have hk := nm_ne (by decide) hn
    have e2 : ∀ n, numS l n (0, k) = (0, (0, k)) := fun n => numS_err hk
    unfold recS
    rw [nameS_no hn]
    simp only [e2, ne_eq, hk, not_false_eq_true, if_true]
  | ok oq =>
    obtain ⟨o, q⟩ := oq
    have hN := nm_name (Nat.le_refl _) hn
    rw [recE_ok hn]
    by_cases h10 : q + 10 ≤ l.length
    · rw [recS_head hn h10]
      have hnu := nu2_lt l (q + 8)
      have := recT_is (l := l) (o := o) (k := nu l q 2) (c := nu l (q + 2) 2) (t := nu l (q + 4) 4) (n := nu l (q + 8) 2) (p := q + 10) hN (by omega)
      unfold headE
      rw [if_pos h10]
      exact this
    · rw [headE_short (by omega)]
      refine ⟨fun R q h => (by cases h), fun k h => ?_⟩
      injection h with h
      subst h
      have hh := head_short (l := l) (q := q) (by omega)
      unfold recS
      rw [nameS_ok hn]
      simp only
      rw [if_pos (by rw [hh]; decide)]
      exact hh
end Go.Proofs.Ytihkmdojakalbaa

/- The document's message, with an error that is kept: what is still to come. No condition. -/
namespace Go.Proofs.Ytihkmdojakalbaa
open Go Bytes NameMath NmMath RecMath MsgMath StMath DatMath

/-- The document's question. -/
def qnS (l : List UInt8) (st : St) : Qn × St :=
  (⟨(nameS l st).1, (numS l 2 (nameS l st).2).1, (numS l 2 (numS l 2 (nameS l st).2).2).1⟩, (numS l 2 (numS l 2 (nameS l st).2).2).2)
theorem qnS_is {l : List UInt8} {p : Nat} : (∀ Q q, qn l p = .ok (Q, q) → qnS l (p, 0) = (Q, (q, 0))) ∧ ∀ k, qn l p = .error k → (qnS l (p, 0)).2.2 = k := by
  cases hn : nm l l.length 2 p p none [] with
  | error k =>
    rw [qn_err hn]
    refine ⟨fun R q h => (by cases h), fun k' h => ?_⟩
    injection h with h
    subst h
    have hk := nm_ne (by decide) hn
    unfold qnS
    rw [nameS_no hn, num_keep (st := (0, k)) hk, num_keep (st := (0, k)) hk]
  | ok oq =>
    obtain ⟨o, q⟩ := oq
    unfold qnS
    rw [nameS_ok hn]
    by_cases h2 : q + 2 ≤ l.length
    · have e1 : numS l 2 (q, 0) = (nu l q 2, (q + 2, 0)) := numS_ok h2
      by_cases h4 : q + 4 ≤ l.length
      · have e2 : numS l 2 (q + 2, 0) = (nu l (q + 2) 2, (q + 4, 0)) := numS_ok (by omega)
        rw [qn_ok hn h4]
        simp only [e1, e2]
        refine ⟨fun Q q' h => ?_, fun k h => by cases h⟩
        injection h with h
        injection h with h1 h2
        rw [h1, h2]
      · rw [qn_short hn (by omega)]
        simp only [e1]
        refine ⟨fun Q q' h => (by cases h), fun k h => ?_⟩
        injection h with h
        subst h
        rw [num_two (show l.length < q + 2 + 2 by omega)]
    · rw [qn_short hn (by omega)]
      refine ⟨fun Q q' h => (by cases h), fun k h => ?_⟩
      injection h with h
      subst h
      simp only
      rw [num_two (show l.length < q + 2 by omega), num_keep (st := (q, 2)) (by simp)]
/-- What is still to come: of the questions; of the first records, the second, the last. -/
def go1 (l : List UInt8) (qs : List Qn) (n p : Nat) : Except Nat Msg :=
  match more (qn l) qs n p with
  | .error k => .error k
  | .ok (qs, q) => msg2 (recE l) l qs q
def go2 (l : List UInt8) (qs : List Qn) (an : List Rec) (n p : Nat) : Except Nat Msg :=
  match more (recE l) an n p with
  | .error k => .error k
  | .ok (an, q) => msg3 (recE l) l qs an q
def go3 (l : List UInt8) (qs : List Qn) (an ns : List Rec) (n p : Nat) : Except Nat Msg :=
  match more (recE l) ns n p with
  | .error k => .error k
  | .ok (ns, q) => msg4 (recE l) l qs an ns q
def go4 (l : List UInt8) (qs : List Qn) (an ns ad : List Rec) (n p : Nat) : Except Nat Msg :=
  match more (recE l) ad n p with
  | .error k => .error k
  | .ok (ad, q) => if q < l.length then .error 7 else .ok ⟨nu l 0 2, nu l 2 2, qs, an, ns, ad⟩
section
variable {l : List UInt8} {qs : List Qn} {an ns ad : List Rec} {n p q k : Nat} {Q : Qn} {R : Rec}
theorem go_start (h : 12 ≤ l.length) (h2 : nu l 4 2 + nu l 6 2 + nu l 8 2 + nu l 10 2 ≤ 256) : msg (recE l) l = go1 l [] (nu l 4 2) 12 := by
  rw [msg_some h h2]
  unfold msg1 go1
  rw [more_none]
  cases many (qn l) (nu l 4 2) 12 <;> rfl
theorem go1_end : go1 l qs 0 p = go2 l qs [] (nu l 6 2) p := by
  unfold go1 go2
  rw [more_end, more_none]
  simp only [msg2]
  cases many (recE l) (nu l 6 2) p <;> rfl
theorem go2_end : go2 l qs an 0 p = go3 l qs an [] (nu l 8 2) p := by
  unfold go2 go3
  rw [more_end, more_none]
  simp only [msg3]
  cases many (recE l) (nu l 8 2) p <;> rfl
theorem go3_end : go3 l qs an ns 0 p = go4 l qs an ns [] (nu l 10 2) p := by
  unfold go3 go4
  rw [more_end, more_none]
  simp only [msg4]
  cases many (recE l) (nu l 10 2) p <;> rfl
theorem go4_end : go4 l qs an ns ad 0 p = if p < l.length then .error 7 else .ok ⟨nu l 0 2, nu l 2 2, qs, an, ns, ad⟩ := by
  unfold go4
  rw [more_end]
theorem go1_err (h : qn l p = .error k) : go1 l qs (n + 1) p = .error k := by unfold go1; rw [more_err h]
theorem go2_err (h : recE l p = .error k) : go2 l qs an (n + 1) p = .error k := by unfold go2; rw [more_err h]
theorem go3_err (h : recE l p = .error k) : go3 l qs an ns (n + 1) p = .error k := by unfold go3; rw [more_err h]
theorem go4_err (h : recE l p = .error k) : go4 l qs an ns ad (n + 1) p = .error k := by unfold go4; rw [more_err h]
theorem go1_one (h : qn l p = .ok (Q, q)) : go1 l qs (n + 1) p = go1 l (qs ++ [Q]) n q := by unfold go1; rw [more_one h]
theorem go2_one (h : recE l p = .ok (R, q)) : go2 l qs an (n + 1) p = go2 l qs (an ++ [R]) n q := by unfold go2; rw [more_one h]
theorem go3_one (h : recE l p = .ok (R, q)) : go3 l qs an ns (n + 1) p = go3 l qs an (ns ++ [R]) n q := by unfold go3; rw [more_one h]
theorem go4_one (h : recE l p = .ok (R, q)) : go4 l qs an ns ad (n + 1) p = go4 l qs an ns (ad ++ [R]) n q := by unfold go4; rw [more_one h]
end
/-- Where bytes of a message's head are lacking. -/
theorem six_short {l : List UInt8} (h : l.length < 12) : (numS l 2 (numS l 2 (numS l 2 (numS l 2 (numS l 2 (numS l 2 (0, 0)).2).2).2).2).2).2.2 = 2 := by
  have stop : ∀ p n, numS l n (p, 2) = (0, (p, 2)) := fun p n => numS_err (by decide)
  by_cases h2 : 2 ≤ l.length
  · rw [numS_ok (show 0 + 2 ≤ l.length by omega)]
    simp only
    by_cases h4 : 4 ≤ l.length
    · rw [numS_ok (show 0 + 2 + 2 ≤ l.length by omega)]
      simp only
      by_cases h6 : 6 ≤ l.length
      · rw [numS_ok (show 0 + 2 + 2 + 2 ≤ l.length by omega)]
        simp only
        by_cases h8 : 8 ≤ l.length
        · rw [numS_ok (show 0 + 2 + 2 + 2 + 2 ≤ l.length by omega)]
          simp only
          by_cases h10 : 10 ≤ l.length
          · rw [numS_ok (show 0 + 2 + 2 + 2 + 2 + 2 ≤ l.length by omega)]
            simp only
            rw [num_two (by omega)]
          · rw [num_two (show l.length < 0 + 2 + 2 + 2 + 2 + 2 by omega), stop]
        · rw [num_two (show l.length < 0 + 2 + 2 + 2 + 2 by omega), stop, stop]
      · rw [num_two (show l.length < 0 + 2 + 2 + 2 by omega), stop, stop, stop]
    · rw [num_two (show l.length < 0 + 2 + 2 by omega), stop, stop, stop, stop]
  · rw [num_two (show l.length < 0 + 2 by omega), stop, stop, stop, stop, stop]
end Go.Proofs.Ytihkmdojakalbaa

/- The contracts of the document's data of a record, but of TXT. For texts of at most 10^6 bytes. -/
namespace Go.Proofs.Ytihkmdojakalbaa
open Go.RowKit NumMath NmMath Bytes Strs Nums StMath RecMath

/-- The record's data came back, in rows of the call's own. -/
def DatEnd (w : World) (r : Nat) (s x : ByteArray) (k l t : Nat) (D : Dat) (e : Ending) (w' : World) : Prop :=
  ∃ v1 v2 v3, e = .returned (.agg #[.string x, .int .u16 k, .int .u16 l, .int .u32 t, v1, v2, v3]) ∧ w'.ownsRow w.heap.size 9 1 v1 D.names.length (strCs D.names) ∧ w'.ownsRow w.heap.size 46 1 v2 D.nums.length (numCs D.nums) ∧ w'.ownsRow w.heap.size 9 1 v3 D.texts.length (strCs D.texts) ∧ StAt w' r s D.st ∧ w.grownBy w' (some r)
/-- The state within: the record in its block g, the result's block behind it. -/
structure DatSt (w wr : World) (g r : Nat) (s : ByteArray) (st : St) (c : Array Value) : Prop where
  rg : r < g
  gs : g + 1 < wr.heap.size
  rd : StAt wr r s st
  b0 : wr.heap[g]? = some (.cells c 49 (0, 0))
  b1 : wr.heap[g + 1]? = some (.cells #[.string ⟨#[]⟩, .int .u16 0, .int .u16 0, .int .u32 0, .slice none 0 0, .slice none 0 0, .slice none 0 0] 49 (0, 0))
  kept : Kept g r w wr
section
variable {w wr w' : World} {g r : Nat} {s : ByteArray} {st st' : St} {c : Array Value}
theorem DatSt.call (h : DatSt w wr g r s st c) (hd : StAt w' r s st') (hg : wr.grownBy w' (some r)) : DatSt w w' g r s st' c :=
  ⟨h.rg, Nat.lt_of_lt_of_le h.gs hg.size, hd, (grown_block hg (by have := h.gs; omega) (by have := h.rg; omega)).trans h.b0, (grown_block hg h.gs (by have := h.rg; omega)).trans h.b1, h.kept.grown hg (by have := h.gs; omega)⟩
theorem DatSt.set (h : DatSt w wr g r s st c) (i : Nat) (v : Value) : DatSt w (wr.setCell ⟨g, i, none⟩ v) g r s st (c.setIfInBounds i v) := by
  have h1 := h.rg
  refine ⟨h1, by simpa [World.setCell] using h.gs, h.rd.far (by simp only; omega) _, ?_, ?_, h.kept.setCell (.inr (Nat.le_refl _)) _⟩
  · simp [World.setCell, Array.getElem?_modify, h.b0]
  · rw [Below.heap_setCell _ _ _ _ (by simp only; omega)]; exact h.b1
theorem DatSt.setAt (h : DatSt w wr g r s st c) (q : Nat) : DatSt w (wr.setCell ⟨r, 1, none⟩ (.int .i64 q)) g r s (q, st.2) c := by
  have h1 := h.rg
  refine ⟨h1, by simpa [World.setCell] using h.gs, h.rd.set1 q, ?_, ?_, h.kept.setCell (.inl rfl) _⟩
  · rw [Below.heap_setCell _ _ _ _ (by simp only; omega)]; exact h.b0
  · rw [Below.heap_setCell _ _ _ _ (by simp only; omega)]; exact h.b1
theorem DatSt.setErr (h : DatSt w wr g r s st c) (q : Nat) : DatSt w (wr.setCell ⟨r, 2, none⟩ (.int .i64 q)) g r s (st.1, q) c := by
  have h1 := h.rg
  refine ⟨h1, by simpa [World.setCell] using h.gs, h.rd.set2 q, ?_, ?_, h.kept.setCell (.inl rfl) _⟩
  · rw [Below.heap_setCell _ _ _ _ (by simp only; omega)]; exact h.b0
  · rw [Below.heap_setCell _ _ _ _ (by simp only; omega)]; exact h.b1
theorem DatSt.alloc (h : DatSt w wr g r s st c) (o : Obj) : DatSt w (wr.alloc o) g r s st c :=
  ⟨h.rg, by have := h.gs; simp; omega, h.rd.held ((Below.refl _ _).alloc (Nat.le_refl _) _), old_at h.b0, old_at h.b1, h.kept.alloc (by have := h.gs; omega) o⟩
theorem DatSt.drewN (h : DatSt w wr g r s st c) (n : Nat) : DatSt w (wr.drewN n) g r s st c := ⟨h.rg, h.gs, h.rd, h.b0, h.b1, h.kept.drewN n⟩
theorem DatSt.drew (h : DatSt w wr g r s st c) : DatSt w wr.drew g r s st c := ⟨h.rg, h.gs, h.rd, h.b0, h.b1, h.kept.drew⟩
theorem DatSt.size (h : DatSt w wr g r s st c) : g ≤ wr.heap.size := by have := h.gs; omega
end
/-- What a store of a record into a block leaves. -/
theorem setRec_grown (w : World) (b : Nat) (c0 c1 c2 c3 c4 c5 c6 : Value) : w.grownBy (((((((w.setCell ⟨b, 0, none⟩ c0).setCell ⟨b, 1, none⟩ c1).setCell ⟨b, 2, none⟩ c2).setCell ⟨b, 3, none⟩ c3).setCell ⟨b, 4, none⟩ c4).setCell ⟨b, 5, none⟩ c5).setCell ⟨b, 6, none⟩ c6) (some b) := by
  have h0 := only_setCell (grown_refl w (some b)) (p := ⟨b, 0, none⟩) (.inl rfl) c0
  have h1 := only_setCell h0 (p := ⟨b, 1, none⟩) (.inl rfl) c1
  have h2 := only_setCell h1 (p := ⟨b, 2, none⟩) (.inl rfl) c2
  have h3 := only_setCell h2 (p := ⟨b, 3, none⟩) (.inl rfl) c3
  have h4 := only_setCell h3 (p := ⟨b, 4, none⟩) (.inl rfl) c4
  have h5 := only_setCell h4 (p := ⟨b, 5, none⟩) (.inl rfl) c5
  exact only_setCell h5 (p := ⟨b, 6, none⟩) (.inl rfl) c6
theorem datSt_start (w : World) (r : Nat) (s x : ByteArray) (k l t : Nat) (st : St) (h : StAt w r s st) :
    DatSt w ((w.alloc (.cells #[.string x, .int .u16 k, .int .u16 l, .int .u32 t, .slice none 0 0, .slice none 0 0, .slice none 0 0] 49)).alloc (.cells #[.string ⟨#[]⟩, .int .u16 0, .int .u16 0, .int .u32 0, .slice none 0 0, .slice none 0 0, .slice none 0 0] 49)) w.heap.size r s st #[.string x, .int .u16 k, .int .u16 l, .int .u32 t, .slice none 0 0, .slice none 0 0, .slice none 0 0] :=
  ⟨h.lt, by simp, (h.held ((Below.refl _ _).alloc (Nat.le_refl _) _)).held ((Below.refl _ _).alloc (Nat.le_refl _) _), old_at (new_at _ _ _ rfl), new_at _ _ _ (by simp), ((Kept.refl _ _ _).alloc (Nat.le_refl _) _).alloc (by simp) _⟩
theorem own_lit (w : World) (base : Nat) (o : List UInt8) (hb : base ≤ w.heap.size) :
    (w.alloc (.cells #[.string (mk o)] 9)).ownsRow base 9 1 (.slice (some ⟨w.heap.size, 0, none⟩) 1 1) 1 (strCs [o]) :=
  ⟨rfl, Or.inr ⟨w.heap.size, 1, #[.string (mk o)], rfl, hb, heap_alloc_new w _, Nat.le_refl _, by unfold maxLen; decide, rfl, rfl⟩⟩

set_option maxHeartbeats 4000000 in
set_option maxRecDepth 100000 in
theorem data_text (s x : ByteArray) (r k l t p E : Nat) (w : World) (h : StAt w r s (p, 0)) (hs : s.size ≤ 1000000) (hE : E ≤ s.size) (hp : p ≤ E) (ha : shA k = 0) (hb : shB k = 0) (hc : shC k = 1) (h6 : k ≠ 6) (h16 : k ≠ 16) :
    Calls Try.prog 54 #[.pointer (some ⟨r, 0, none⟩), .agg #[.string x, .int .u16 k, .int .u16 l, .int .u32 t, .slice none 0 0, .slice none 0 0, .slice none 0 0], .int .i64 E] w (DatEnd w r s x k l t ⟨[], [], [cut s.data.toList p (E - p)], (E, 0)⟩) := by
  obtain ⟨g, hg⟩ : ∃ g, w.heap.size = g := ⟨_, rfl⟩
  have G := Lib.hid hg
  have hst0 := datSt_start w r s x k l t (p, 0) h
  rw [hg] at hst0
  have HST0 := Lib.hid hst0
  have q1 := cell_of_row _ _ 1 _ _ _ hst0.b0
  have HSH := Lib.hid (fun w => refShape_is k 0 0 1 w ha hb hc)
  have k6 : ((k : Int) != 6) = true := bne_iff_ne.2 (by omega)
  have k6' : ((k : Int) == 6) = false := beq_eq_false_iff_ne.2 (by omega)
  have k16 : ((k : Int) == 16) = false := beq_eq_false_iff_ne.2 (by omega)
  have k16' : ((k : Int) != 16) = true := bne_iff_ne.2 (by omega)
  have HN := Lib.hid (fun wr (hd : StAt wr r s (p, 0)) => stNumbers_any s r 0 2 E [] (p, 0) (p, 0) wr hd hs hE (by show p ≤ _; omega) (by decide) (by decide) (by decide) (by (show _ = _; rfl)))
  have HM := Lib.hid (fun wr (hd : StAt wr r s (p, 0)) => stNames_any s r k 0 E [] (p, 0) (p, 0) wr hd hs hE (by show p ≤ _; omega) (by decide) (by (show _ = _; rfl)))
  clear hst0 h h6 h16 ha hb hc
  go_enter Try.func54, Try.ntmps54
  go_wp2_with fail
  generalize (w.alloc (.cells #[.string x, .int .u16 k, .int .u16 l, .int .u32 t, .slice none 0 0, .slice none 0 0, .slice none 0 0] 49)).alloc (.cells #[.string ⟨#[]⟩, .int .u16 0, .int .u16 0, .int .u32 0, .slice none 0 0, .slice none 0 0, .slice none 0 0] 49) = wa at HST0 q1 ⊢
  refine (HSH.out _).mono ?_
  rintro e w' ⟨rfl, rfl⟩
  go_wp2_with fail
  refine (HN.out _ HST0.out.rd).mono ?_
  rintro e w1 ⟨v2, rfl, hO2, hD1, hG1⟩
  obtain ⟨A2, m2, c2, rfl⟩ := row_slice hO2
  have hst1 := HST0.out.call hD1 hG1
  have a5 := cell_of_row _ _ 5 _ _ _ hst1.b0
  have af : ∀ i, w1.frozen? ⟨g, i, none⟩ = false := fun i => by simp [World.frozen?, hst1.b0]
  have hst2 : DatSt w (w1.setCell ⟨g, 5, none⟩ (.slice A2 m2 c2)) g r s (p, 0) #[.string x, .int .u16 k, .int .u16 l, .int .u32 t, .slice none 0 0, (.slice A2 m2 c2), .slice none 0 0] := hst1.set 5 _
  have hgs := only_setCell (grown_refl w1 (some g)) (p := ⟨g, 5, none⟩) (.inl rfl) (.slice A2 m2 c2)
  have HO2 := Lib.hid ((row_low hO2 HST0.out.size).kept hgs (row_ne hst1.b0 (row_low hO2 HST0.out.size) (by decide)))
  have HST2 := Lib.hid hst2
  have k2 := cell_of_row _ _ 1 _ _ _ hst2.b0
  clear hO2 hD1 hG1 hst1 hst2 hgs
  go_wp2_with fail
  generalize w1.setCell ⟨g, 5, none⟩ (.slice A2 m2 c2) = w2 at HST2 HO2 k2 ⊢
  refine (HM.out _ HST2.out.rd).mono ?_
  rintro e w3 ⟨v1, rfl, hO1, hD3, hG3⟩
  obtain ⟨A1, m1, c1, rfl⟩ := row_slice hO1
  have hst3 := HST2.out.call hD3 hG3
  have a4 := cell_of_row _ _ 4 _ _ _ hst3.b0
  have af3 : ∀ i, w3.frozen? ⟨g, i, none⟩ = false := fun i => by simp [World.frozen?, hst3.b0]
  have hO2' := row_st HST2.out.rd HO2.out hG3 (by decide)
  have hst4 : DatSt w (w3.setCell ⟨g, 4, none⟩ (.slice A1 m1 c1)) g r s (p, 0) #[.string x, .int .u16 k, .int .u16 l, .int .u32 t, (.slice A1 m1 c1), (.slice A2 m2 c2), .slice none 0 0] := hst3.set 4 _
  have hgs := only_setCell (grown_refl w3 (some g)) (p := ⟨g, 4, none⟩) (.inl rfl) (.slice A1 m1 c1)
  have HO1 := Lib.hid ((row_low hO1 HST2.out.size).kept hgs (row_ne hst3.b0 (row_low hO1 HST2.out.size) (by decide)))
  have HO2b := Lib.hid (hO2'.kept hgs (row_ne hst3.b0 hO2' (by decide)))
  have HST4 := Lib.hid hst4
  have k4 := cell_of_row _ _ 1 _ _ _ hst4.b0
  have s0 := hst4.rd.c0
  have s1 := hst4.rd.c1
  have s2 := hst4.rd.c2
  simp only at s1 s2
  clear hO1 hD3 hG3 hst3 hst4 hgs hO2' HO2
  go_wp2_with fail
  generalize w3.setCell ⟨g, 4, none⟩ (.slice A1 m1 c1) = w4 at HST4 HO1 HO2b k4 s0 s1 s2 ⊢
  have hcut : s.extract p E = mk (cut s.data.toList p (E - p)) := list_inj (by
    have := cut_extract s p (E - p)
    rw [show p + (E - p) = E by omega] at this
    rw [this, mk_list])
  obtain ⟨o, ho⟩ : ∃ o, cut s.data.toList p (E - p) = o := ⟨_, rfl⟩
  rw [ho] at hcut ⊢
  have hst5 := HST4.out.alloc (.cells #[.string (mk o)] 9)
  have a6 := cell_of_row _ _ 6 _ _ _ hst5.b0
  have af4 : ∀ i, (w4.alloc (.cells #[.string (mk o)] 9)).frozen? ⟨g, i, none⟩ = false := fun i => by simp [World.frozen?, hst5.b0]
  have HST5 := Lib.hid hst5
  have HLIT := Lib.hid (own_lit w4 g o HST4.out.size)
  have HO1c := Lib.hid (row_below HO1.out ((Below.refl _ _).alloc (Nat.le_refl _) (.cells #[.string (mk o)] 9)))
  have HO2c := Lib.hid (row_below HO2b.out ((Below.refl _ _).alloc (Nat.le_refl _) (.cells #[.string (mk o)] 9)))
  have HOO := Lib.hid ho
  clear hst5 ho
  have hEi : (p : Int) ≤ E := by omega
  have hEs : (E : Int) ≤ s.size := by omega
  go_loopw [10] (fun _ wr => wr = w4) (fun _ _ => 0)
  case atStart => rfl
  case round =>
    obtain rfl := hrel
    go_wp2_with fail
    go_region
    have h6 := (HST5.out.set 6 (.slice (some ⟨wr.heap.size, 0, none⟩) 1 1)).drew
    have hgs := only_setCell (grown_refl (wr.alloc (.cells #[.string (mk o)] 9)) (some g)) (p := ⟨g, 6, none⟩) (.inl rfl) (.slice (some ⟨wr.heap.size, 0, none⟩) 1 1)
    have hgs : (wr.alloc (.cells #[.string (mk o)] 9)).grownBy (((wr.alloc (.cells #[.string (mk o)] 9)).setCell ⟨g, 6, none⟩ (.slice (some ⟨wr.heap.size, 0, none⟩) 1 1)).drew) (some g) := ⟨hgs.os, hgs.tape, hgs.output, hgs.size, hgs.block⟩
    have r1 : (((wr.alloc (.cells #[.string (mk o)] 9)).setCell ⟨g, 6, none⟩ (.slice (some ⟨wr.heap.size, 0, none⟩) 1 1)).drew).ownsRow g 9 1 (.slice A1 m1 c1) 0 (strCs []) := HO1c.out.kept hgs (row_ne HST5.out.b0 HO1c.out (by decide))
    have r2 : (((wr.alloc (.cells #[.string (mk o)] 9)).setCell ⟨g, 6, none⟩ (.slice (some ⟨wr.heap.size, 0, none⟩) 1 1)).drew).ownsRow g 46 1 (.slice A2 m2 c2) 0 (numCs []) := HO2c.out.kept hgs (row_ne HST5.out.b0 HO2c.out (by decide))
    have r3 : (((wr.alloc (.cells #[.string (mk o)] 9)).setCell ⟨g, 6, none⟩ (.slice (some ⟨wr.heap.size, 0, none⟩) 1 1)).drew).ownsRow g 9 1 (.slice (some ⟨wr.heap.size, 0, none⟩) 1 1) 1 (strCs [o]) := HLIT.out.kept hgs (row_ne HST5.out.b0 HLIT.out (by decide))
    obtain ⟨v3, hv3⟩ : ∃ v, Value.slice (some ⟨wr.heap.size, 0, none⟩) 1 1 = v := ⟨_, rfl⟩
    generalize ((wr.alloc (.cells #[.string (mk o)] 9)).setCell ⟨g, 6, none⟩ (.slice (some ⟨wr.heap.size, 0, none⟩) 1 1)).drew = w6 at h6 r1 r2 r3 ⊢
    have h6' : DatSt w w6 g r s (p, 0) #[.string x, .int .u16 k, .int .u16 l, .int .u32 t, .slice A1 m1 c1, .slice A2 m2 c2, .slice (some ⟨wr.heap.size, 0, none⟩) 1 1] := h6
    have R1 := Lib.hid r1
    have R2 := Lib.hid r2
    have R3 := Lib.hid r3
    have H6 := Lib.hid h6'
    have n1 := h6'.rd.c1
    have n2 := h6'.rd.c2
    have nf := h6'.rd.fz
    simp only at n1 n2
    have d0 := cell_of_row _ _ 0 _ _ _ h6'.b0
    have d1 := cell_of_row _ _ 1 _ _ _ h6'.b0
    have d2 := cell_of_row _ _ 2 _ _ _ h6'.b0
    have d3 := cell_of_row _ _ 3 _ _ _ h6'.b0
    have d4 := cell_of_row _ _ 4 _ _ _ h6'.b0
    have d5 := cell_of_row _ _ 5 _ _ _ h6'.b0
    have d6 := cell_of_row _ _ 6 _ _ _ h6'.b0
    have e0 := cell_of_row _ _ 0 _ _ _ h6'.b1
    have e1 := cell_of_row _ _ 1 _ _ _ h6'.b1
    have e2 := cell_of_row _ _ 2 _ _ _ h6'.b1
    have e3 := cell_of_row _ _ 3 _ _ _ h6'.b1
    have e4 := cell_of_row _ _ 4 _ _ _ h6'.b1
    have e5 := cell_of_row _ _ 5 _ _ _ h6'.b1
    have e6 := cell_of_row _ _ 6 _ _ _ h6'.b1
    have ef : ∀ i, w6.frozen? ⟨g + 1, i, none⟩ = false := fun i => by simp [World.frozen?, h6'.b1]
    have hne1 : r ≠ g := by have := h6'.rg; omega
    have hne2 : r ≠ g + 1 := by have := h6'.rg; omega
    clear h6 h6' hgs r1 r2 r3 a6 af4 s0 s1 s2 k4 hv3 q1 k2 a5 af a4 af3
    go_wp2_with fail
    refine bodyPost_ret (v := .agg #[.string x, .int .u16 k, .int .u16 l, .int .u32 t, .slice A1 m1 c1, .slice A2 m2 c2, .slice (some ⟨wr.heap.size, 0, none⟩) 1 1]) (by simp [results, Try.results54, go_sem, e0, e1, e2, e3, e4, e5, e6]) rfl ?_
    have h7 := H6.out.setAt E
    have hg7 := only_setCell (grown_refl w6 (some r)) (p := ⟨r, 1, none⟩) (.inl rfl) (.int .i64 E)
    have u1 := row_st H6.out.rd R1.out hg7 (by decide)
    have u2 := row_st H6.out.rd R2.out hg7 (by decide)
    have u3 := row_st H6.out.rd R3.out hg7 (by decide)
    generalize w6.setCell ⟨r, 1, none⟩ (.int .i64 E) = w7 at h7 u1 u2 u3 ⊢
    have hg8 := setRec_grown w7 (g + 1) (.string x) (.int .u16 k) (.int .u16 l) (.int .u32 t) (.slice A1 m1 c1) (.slice A2 m2 c2) (.slice (some ⟨wr.heap.size, 0, none⟩) 1 1)
    have hk8 := h7.kept.own hg8 h7.size (fun k e => by injection e with e; omega)
    have y1 := u1.kept hg8 (row_ne h7.b1 u1 (by decide))
    have y2 := u2.kept hg8 (row_ne h7.b1 u2 (by decide))
    have y3 := u3.kept hg8 (row_ne h7.b1 u3 (by decide))
    have yd := h7.rd.other hg8 hne2
    rw [HOO.out]
    refine ⟨_, _, _, rfl, ?_, ?_, ?_, yd, kept_grown hk8 G.out⟩
    · rw [G.out]; exact y1
    · rw [G.out]; exact y2
    · rw [G.out]; exact y3
end Go.Proofs.Ytihkmdojakalbaa

/- The places of the document's state stay within the text. No program, no condition. -/
namespace Go.Proofs.Ytihkmdojakalbaa.StMath
open Go Bytes NmMath RecMath MsgMath

theorem numbersS_le {l : List UInt8} {size E N : Nat} (hl : l.length ≤ N) : ∀ {m : Nat} {out : List Nat} {st : St}, st.1 ≤ N → (numbersS l size E m out st).2.1 ≤ N := by
  intro m
  induction m with
  | zero => intro out st h; exact h
  | succ m ih =>
    intro out st h
    rw [numbersS]
    split
    · exact h
    · split
      · exact h
      · exact ih (numS_le h hl)
theorem namesS_le {l : List UInt8} {kind E N : Nat} (hl : l.length ≤ N) : ∀ {m : Nat} {out : List (List UInt8)} {st : St}, st.1 ≤ N → (namesS l kind E m out st).2.1 ≤ N := by
  intro m
  induction m with
  | zero => intro out st h; exact h
  | succ m ih =>
    intro out st h
    rw [namesS]
    split
    · exact h
    · split
      · exact h
      · exact ih (oneS_le h hl)
end Go.Proofs.Ytihkmdojakalbaa.StMath
