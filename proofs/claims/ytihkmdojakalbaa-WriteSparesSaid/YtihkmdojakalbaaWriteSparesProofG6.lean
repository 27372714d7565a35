/- Texts of one proof, one behind the other: WrMath, WrLen, WrSpare, WrAt, NumPut, WrNumber, RecCheck. -/
import Derived.Test.YtihkmdojakalbaaBytes
import Derived.Test.YtihkmdojakalbaaNameMath
import Derived.Test.YtihkmdojakalbaaWriteSparesProofG1
import Derived.Test.YtihkmdojakalbaaNumBe
import Derived.Test.YtihkmdojakalbaaRecMath
import Derived.Test.YtihkmdojakalbaaProg
import Derived.Test.YtihkmdojakalbaaWriteSparesProofG2
import Derived.Test.YtihkmdojakalbaaRecAt
import Derived.Test.YtihkmdojakalbaaRecAsk
import Derived.Test.YtihkmdojakalbaaRecShaped
import Derived.WalkKit
import Derived.Lib.Hide
import Derived.Laws.Rows
import Derived.Maps.Own
import Derived.Maps.OwnSet
import Derived.StringKeys
import Derived.Deep.AppendLies
import Derived.Laws.MakeOwn
import Derived.Laws.CopyOwn
import Derived.Lib.UnsafeStr
import Derived.Lib.BufferWrite
import Derived.Lib.SlBytesRow
import Derived.Outline
import Derived.IntWalk
import Derived.WalkSpells
import Derived.WalkLawsBesides
import Derived.Laws.AppendOwn
import Derived.RegionTactic
import Derived.Deep.RegionLaw

/- Messages as bytes that are written, with what is known of names. No program, no condition. -/
namespace Go.Proofs.Ytihkmdojakalbaa.WrMath
open Go Bytes NameMath NmMath RecMath MsgMath

/-- Rests of names and their places, in the order in which they were written. -/
abbrev Known := List (List UInt8 × Nat)
def fnd : Known → List UInt8 → Option Nat
  | [], _ => none
  | (t, p) :: K, s => if t = s then some p else fnd K s
theorem fnd_app (K K' : Known) (s : List UInt8) : fnd (K ++ K') s = (fnd K s).or (fnd K' s) := by
  induction K with
  | nil => rfl
  | cons x K ih =>
    obtain ⟨t, p⟩ := x
    show (if t = s then some p else fnd (K ++ K') s) = _
    show _ = (if t = s then some p else fnd K s).or (fnd K' s)
    by_cases h : t = s
    · rw [if_pos h, if_pos h]; rfl
    · rw [if_neg h, if_neg h, ih]
theorem fnd_mem {K : Known} {s : List UInt8} {p : Nat} (h : fnd K s = some p) : (s, p) ∈ K := by
  induction K with
  | nil => cases h
  | cons x K ih =>
    obtain ⟨t, q⟩ := x
    unfold fnd at h
    by_cases ht : t = s
    · rw [if_pos ht] at h; injection h with h; subst h ht; simp
    · rw [if_neg ht] at h; exact List.mem_cons_of_mem _ (ih h)
/-- What is written, and what is known. -/
abbrev Wr := List UInt8 × Known
/-- What is known behind a rest that wasn't. -/
def learn (out : List UInt8) (K : Known) (rest : List UInt8) : Known := if out.length < 16384 then K ++ [(rest, out.length)] else K
def wName (out : List UInt8) (K : Known) (rest : List UInt8) : Wr :=
  if h : bt rest 0 = 0 then (out ++ [0], K)
  else match fnd K rest with
    | some p => (out ++ beTail (49152 + p) 2, K)
    | none => wName (out ++ rest.take (1 + bt rest 0)) (learn out K rest) (rest.drop (1 + bt rest 0))
termination_by rest.length
decreasing_by
  have : rest ≠ [] := fun e => by subst e; exact h rfl
  have := List.length_pos_iff.2 this
  rw [List.length_drop]
  omega
section
variable {out rest : List UInt8} {K : Known} {p : Nat}
theorem wName_root (h : bt rest 0 = 0) : wName out K rest = (out ++ [0], K) := by rw [wName, dif_pos h]
theorem wName_known (h : bt rest 0 ≠ 0) (hf : fnd K rest = some p) : wName out K rest = (out ++ beTail (49152 + p) 2, K) := by rw [wName, dif_neg h, hf]
theorem wName_new (h : bt rest 0 ≠ 0) (hf : fnd K rest = none) : wName out K rest = wName (out ++ rest.take (1 + bt rest 0)) (learn out K rest) (rest.drop (1 + bt rest 0)) := by rw [wName, dif_neg h, hf]
end
def nameW (n : List UInt8) (s : Wr) : Wr := wName s.1 s.2 n
def numW (n size : Nat) (s : Wr) : Wr := (s.1 ++ beTail n size, s.2)
def numsW (size : Nat) (L : List Nat) (s : Wr) : Wr := (s.1 ++ numsL size L, s.2)
theorem numsW_nil (size : Nat) (s : Wr) : numsW size [] s = s := by unfold numsW numsL; simp
theorem numsW_cons (size n : Nat) (L : List Nat) (s : Wr) : numsW size (n :: L) s = numsW size L (numW n size s) := by unfold numsW numW numsL; simp
/-- A record's data. -/
def dataW (R : Rec) (s : Wr) : Wr :=
  if R.kind = 2 ∨ R.kind = 5 ∨ R.kind = 12 then nameW (R.names.getD 0 []) s
  else if R.kind = 6 then numsW 4 R.nums (nameW (R.names.getD 1 []) (nameW (R.names.getD 0 []) s))
  else if R.kind = 15 then nameW (R.names.getD 0 []) (numsW 2 R.nums s)
  else (s.1 ++ plainO R, s.2)
/-- What stands ahead of a record's data, but for its length. -/
def headW (R : Rec) (s : Wr) : Wr := numW R.ttl 4 (numW R.cls 2 (numW R.kind 2 (nameW R.name s)))
/-- The length of the data, told where two bytes were kept for it. -/
def fillW (at_ : Nat) (out : List UInt8) : List UInt8 := out.take at_ ++ beTail (out.length - (at_ + 2)) 2 ++ out.drop (at_ + 2)
def recW (R : Rec) (s : Wr) : Wr :=
  let b := headW R s
  let d := dataW R (numW 0 2 b)
  (fillW b.1.length d.1, d.2)
def qnW (q : Qn) (s : Wr) : Wr := numW q.cls 2 (numW q.kind 2 (nameW q.name s))
def recsM (M : Msg) : List Rec := M.an ++ M.ns ++ M.ad
def startW (M : Msg) : Wr := numW M.ad.length 2 (numW M.ns.length 2 (numW M.an.length 2 (numW M.qs.length 2 (numW M.flags 2 (numW M.id 2 ([], []))))))
def qnsW (L : List Qn) (s : Wr) : Wr := L.foldl (fun s q => qnW q s) s
def recsW (L : List Rec) (s : Wr) : Wr := L.foldl (fun s R => recW R s) s
def msgW (M : Msg) : Wr := recsW (recsM M) (qnsW M.qs (startW M))
theorem qnsW_cons (q : Qn) (L : List Qn) (s : Wr) : qnsW (q :: L) s = qnsW L (qnW q s) := rfl
theorem recsW_cons (R : Rec) (L : List Rec) (s : Wr) : recsW (R :: L) s = recsW L (recW R s) := rfl
theorem qnsW_app (A B : List Qn) (s : Wr) : qnsW (A ++ B) s = qnsW B (qnsW A s) := by unfold qnsW; rw [List.foldl_append]
theorem recsW_app (A B : List Rec) (s : Wr) : recsW (A ++ B) s = recsW B (recsW A s) := by unfold recsW; rw [List.foldl_append]
/-- The first record's error. -/
def firstE : List Rec → Nat
  | [] => 0
  | R :: L => if checkE R = 0 then firstE L else checkE R
def checkM (M : Msg) : Nat := if 256 < M.qs.length + M.an.length + M.ns.length + M.ad.length then 6 else if M.qs.any (fun q => badName q.name) then 40 else firstE (recsM M)
def writeM (M : Msg) : List UInt8 × Nat := if checkM M = 0 then (if 65535 < (msgW M).1.length then ([], 3) else ((msgW M).1, 0)) else ([], checkM M)
theorem firstE_drop {L : List Rec} {k : Nat} (hk : k < L.length) : firstE (L.drop k) = if checkE (L[k]) = 0 then firstE (L.drop (k + 1)) else checkE (L[k]) := by
  rw [List.drop_eq_getElem_cons hk]
  rfl
theorem qnsW_drop {L : List Qn} {k : Nat} (hk : k < L.length) (s : Wr) : qnsW (L.drop k) s = qnsW (L.drop (k + 1)) (qnW (L[k]) s) := by
  rw [List.drop_eq_getElem_cons hk]
  rfl
theorem recsW_drop {L : List Rec} {k : Nat} (hk : k < L.length) (s : Wr) : recsW (L.drop k) s = recsW (L.drop (k + 1)) (recW (L[k]) s) := by
  rw [List.drop_eq_getElem_cons hk]
  rfl
theorem checkM_ok {M : Msg} (h : checkM M = 0) : M.qs.length + M.an.length + M.ns.length + M.ad.length ≤ 256 ∧ (∀ q ∈ M.qs, isN q.name = true) ∧ ∀ R ∈ recsM M, checkE R = 0 := by
  unfold checkM at h
  split at h
  · cases h
  · split at h
    · cases h
    · next h1 h2 =>
      refine ⟨by omega, fun q hq => ?_, ?_⟩
      · have : M.qs.any (fun q => badName q.name) = false := by simpa using h2
        have := List.any_eq_false.1 this q hq
        simpa [badName] using this
      · have key : ∀ L : List Rec, firstE L = 0 → ∀ R ∈ L, checkE R = 0 := by
          intro L
          induction L with
          | nil => intro _ R hR; cases hR
          | cons R L ih =>
            intro h S hS
            unfold firstE at h
            split at h
            · next h0 =>
              rcases List.mem_cons.1 hS with e | hS
              · subst e; exact h0
              · exact ih h S hS
            · next h0 => exact absurd h h0
        exact key _ h
/-- A rest of a name, as the program's checks leave it: a label that stands whole, or the root. -/
def Rests (l : List UInt8) : Prop := ∃ L : List (List UInt8), L.all okLab = true ∧ l = wire L ++ [0]
theorem rests_of {l : List UInt8} (h : isN l = true) : Rests l := by
  obtain ⟨L, hL⟩ := isN_some h
  obtain ⟨h1, h2, h3⟩ := labels_some hL
  exact ⟨L, by first | exact h2 | exact h1, by first | exact h1 | exact h2 | exact h1.symm⟩
theorem rests_cases {l : List UInt8} (h : Rests l) : (l = [0]) ∨ (bt l 0 ≠ 0 ∧ bt l 0 ≤ 63 ∧ 1 + bt l 0 < l.length ∧ Rests (l.drop (1 + bt l 0))) := by
  obtain ⟨L, h1, rfl⟩ := h
  cases L with
  | nil => exact .inl rfl
  | cons a L =>
    right
    rw [List.all_cons, Bool.and_eq_true] at h1
    have ha := okLab_iff.1 h1.1
    have e : wire (a :: L) ++ [0] = UInt8.ofNat a.length :: (a ++ (wire L ++ [0])) := by simp [wire]
    rw [e]
    have hb : bt (UInt8.ofNat a.length :: (a ++ (wire L ++ [0]))) 0 = a.length := ofNat_len h1.1
    rw [hb]
    refine ⟨by omega, by omega, by simp; omega, L, h1.2, ?_⟩
    rw [show 1 + a.length = a.length + 1 by omega, List.drop_succ_cons, List.drop_left]
end Go.Proofs.Ytihkmdojakalbaa.WrMath

/- How long what is written is; what stays ahead. No program, no condition. -/
namespace Go.Proofs.Ytihkmdojakalbaa.WrMath
open Go Bytes NameMath NmMath RecMath MsgMath

/-- What is known lies where pointers lead, and is no more than the bytes. -/
def Inv (s : Wr) : Prop := (∀ y ∈ s.2, y.2 < 16384) ∧ s.2.length ≤ s.1.length
theorem learn_inv {out rest : List UInt8} {K : Known} {n : Nat} (h : Inv (out, K)) (hn : 1 ≤ n) (l : List UInt8) (hl : l.length = n) : Inv (out ++ l, learn out K rest) := by
  obtain ⟨h1, h2⟩ := h
  unfold learn
  split
  · next hlt =>
    refine ⟨fun y hy => ?_, ?_⟩
    · rcases List.mem_append.1 hy with hy | hy
      · exact h1 y hy
      · rw [List.mem_singleton] at hy; subst hy; exact hlt
    · simp only [List.length_append, List.length_singleton] at h2 ⊢; omega
  · refine ⟨h1, ?_⟩
    simp only [List.length_append] at h2 ⊢; omega
/-- More bytes, as many as 'most' at most; all else as it was. -/
structure Longer (s s' : Wr) (most : Nat) : Prop where
  inv : Inv s → Inv s'
  pre : ∃ l, s'.1 = s.1 ++ l ∧ l.length ≤ most
theorem Longer.refl (s : Wr) : Longer s s 0 := ⟨id, [], by simp, Nat.le_refl _⟩
theorem Longer.trans {s s' t : Wr} {a b : Nat} (h : Longer s s' a) (k : Longer s' t b) : Longer s t (a + b) := by
  obtain ⟨l, e, hl⟩ := h.pre
  obtain ⟨l', e', hl'⟩ := k.pre
  exact ⟨k.inv ∘ h.inv, l ++ l', by rw [e', e, List.append_assoc], by rw [List.length_append]; omega⟩
theorem Longer.len {s s' : Wr} {a : Nat} (h : Longer s s' a) : s.1.length ≤ s'.1.length ∧ s'.1.length ≤ s.1.length + a := by
  obtain ⟨l, e, hl⟩ := h.pre
  rw [e, List.length_append]
  omega
theorem Longer.mono {s s' : Wr} {a b : Nat} (h : Longer s s' a) (hab : a ≤ b) : Longer s s' b := by
  obtain ⟨l, e, hl⟩ := h.pre
  exact ⟨h.inv, l, e, by omega⟩
theorem put_longer (l : List UInt8) (s : Wr) : Longer s (s.1 ++ l, s.2) l.length := ⟨fun h => ⟨h.1, by simp only [List.length_append]; have := h.2; omega⟩, l, rfl, Nat.le_refl _⟩
theorem numW_longer (n size : Nat) (s : Wr) : Longer s (numW n size s) size := by have := put_longer (beTail n size) s; rwa [beTail_length] at this
theorem numsW_longer (size : Nat) (L : List Nat) (s : Wr) : Longer s (numsW size L s) (size * L.length) := by have := put_longer (numsL size L) s; rwa [numsL_len] at this
theorem rests_pos {l : List UInt8} (h : Rests l) : 1 ≤ l.length := by
  rcases rests_cases h with e | ⟨_, _, e, _⟩
  · rw [e]; decide
  · omega
theorem nameW_longer (n : List UInt8) (hn : Rests n) (s : Wr) : Longer s (nameW n s) n.length := by
  obtain ⟨out, K⟩ := s
  unfold nameW
  show Longer (out, K) (wName out K n) n.length
  fun_induction wName out K n with
  | case1 out K rest h =>
    have := put_longer [0] (out, K)
    exact this.mono (rests_pos hn)
  | case2 out K rest h p hf =>
    have := put_longer (beTail (49152 + p) 2) (out, K)
    refine this.mono ?_
    rw [beTail_length]
    rcases rests_cases hn with e | ⟨_, _, e, _⟩
    · rw [e] at h; exact absurd rfl h
    · have : 1 ≤ bt rest 0 := by omega
      omega
  | case3 out K rest h hf ih =>
    rcases rests_cases hn with e | ⟨_, _, e, e2⟩
    · rw [e] at h; exact absurd rfl h
    · have h1 := ih e2
      have hlen : (rest.take (1 + bt rest 0)).length = 1 + bt rest 0 := by rw [List.length_take]; omega
      obtain ⟨l, el, hl⟩ := h1.pre
      refine ⟨fun hi => h1.inv (learn_inv hi (by omega) _ hlen), rest.take (1 + bt rest 0) ++ l, by rw [el, List.append_assoc], ?_⟩
      rw [List.length_append, hlen]
      rw [List.length_drop] at hl
      omega
theorem Longer.of_eq {s s' t : Wr} {a : Nat} (h : Longer s t a) (e : t = s') : Longer s s' a := e ▸ h
/-- The names of a record that is right. -/
theorem right_names {R : Rec} (h : checkE R = 0) : Rests R.name ∧ R.name.length ≤ 255 ∧ ∀ k, k < R.names.length → Rests (R.names.getD k []) ∧ (R.names.getD k []).length ≤ 255 := by
  obtain ⟨h1, _, _⟩ := check_ok h
  have le : ∀ {l : List UInt8}, isN l = true → l.length ≤ 255 := fun h => by
    obtain ⟨L, hL⟩ := isN_some h
    exact (labels_some hL).2.2
  unfold namesB at h1
  rw [Bool.and_eq_true] at h1
  have h2 : isN R.name = true := by have := h1.1; simpa [badName] using this
  refine ⟨rests_of h2, le h2, fun k hk => ?_⟩
  have h3 : R.names.any badName = false := by simpa using h1.2
  have h4 := List.any_eq_false.1 h3 (R.names.getD k []) (by rw [List.getD_eq_getElem?_getD, List.getElem?_eq_getElem hk]; exact List.getElem_mem hk)
  have h5 : isN (R.names.getD k []) = true := by simpa [badName] using h4
  exact ⟨rests_of h5, le h5⟩
theorem right_counts {R : Rec} (h : checkE R = 0) : R.names.length = shA R.kind ∧ R.nums.length = shB R.kind ∧ bulk R.kind R.texts ≤ 65535 := by
  obtain ⟨_, h2, _⟩ := check_ok h
  obtain ⟨h3, _, _, h4⟩ := okB_cnt h2
  obtain ⟨h5, h6, _⟩ := cnt_of h3
  exact ⟨h5, h6, h4⟩
theorem plain_bound {R : Rec} (h : checkE R = 0) : (plainL R).length ≤ 300000 := by
  obtain ⟨_, h2, _⟩ := check_ok h
  obtain ⟨h3, _, _, h4⟩ := okB_cnt h2
  exact plain_len h3 h4 fun j hj => by have := ((right_names h).2.2 j hj).2; omega
theorem dataW_longer {R : Rec} (h : checkE R = 0) (s : Wr) : Longer s (dataW R s) (plainL R).length := by
  obtain ⟨_, _, hn⟩ := right_names h
  obtain ⟨c1, c2, _⟩ := right_counts h
  unfold dataW
  split
  · next hk =>
    have hA : R.names.length = 1 := by rw [c1]; unfold shA; rw [if_pos hk]
    have := nameW_longer _ (hn 0 (by omega)).1 s
    refine this.mono ?_
    have e : R.names.flatten = R.names.getD 0 [] := by
      match hN : R.names, hA with
      | [a], _ => simp
    rw [plainL_not (by omega), List.length_append, List.length_append, e]
    omega
  · split
    · next hk1 hk =>
      have hA : R.names.length = 2 := by rw [c1, hk]; rfl
      have e : R.names.flatten = R.names.getD 0 [] ++ R.names.getD 1 [] := by
        match hN : R.names, hA with
        | [a, b], _ => simp
      have := ((nameW_longer _ (hn 0 (by omega)).1 s).trans (nameW_longer _ (hn 1 (by omega)).1 _)).trans (numsW_longer 4 R.nums _)
      refine this.mono ?_
      rw [plainL_6 hk, List.length_append, List.length_append, e, List.length_append, numsL_len]
      omega
    · split
      · next hk1 hk2 hk =>
        have hA : R.names.length = 1 := by rw [c1, hk]; rfl
        have e : R.names.flatten = R.names.getD 0 [] := by
          match hN : R.names, hA with
          | [a], _ => simp
        have := (numsW_longer 2 R.nums s).trans (nameW_longer _ (hn 0 (by omega)).1 _)
        refine this.mono ?_
        rw [plainL_not (by omega), List.length_append, List.length_append, e, numsL_len]
        omega
      · have := put_longer (plainO R) s
        rw [plainO_ok h] at this ⊢
        exact this
theorem headW_longer {R : Rec} (h : checkE R = 0) (s : Wr) : Longer s (headW R s) (R.name.length + 8) :=
  (((nameW_longer _ (right_names h).1 s).trans (numW_longer _ _ _)).trans (numW_longer _ _ _)).trans (numW_longer _ _ _)
theorem fill_len {k : Nat} {out : List UInt8} (h : k + 2 ≤ out.length) : (fillW k out).length = out.length := by
  unfold fillW
  rw [List.length_append, List.length_append, List.length_take, List.length_drop, beTail_length]
  omega
/-- A record behind what is written: its head, the length of its data, its data. -/
theorem recW_parts {R : Rec} (h : checkE R = 0) (s : Wr) : ∃ l, l.length ≤ (plainL R).length ∧ dataW R (numW 0 2 (headW R s)) = ((numW 0 2 (headW R s)).1 ++ l, (dataW R (numW 0 2 (headW R s))).2) ∧ recW R s = ((headW R s).1 ++ (beTail l.length 2 ++ l), (dataW R (numW 0 2 (headW R s))).2) := by
  obtain ⟨l, e, hl⟩ := (dataW_longer h (numW 0 2 (headW R s))).pre
  refine ⟨l, hl, Prod.ext e rfl, ?_⟩
  unfold recW
  simp only
  rw [e]
  have e1 : (numW 0 2 (headW R s)).1 = (headW R s).1 ++ beTail 0 2 := rfl
  rw [e1]
  unfold fillW
  have hb : (beTail 0 2).length = 2 := beTail_length _ _
  have e2 : ((headW R s).1 ++ beTail 0 2 ++ l).take (headW R s).1.length = (headW R s).1 := by rw [List.append_assoc, List.take_left]
  have e3 : ((headW R s).1 ++ beTail 0 2 ++ l).drop ((headW R s).1.length + 2) = l := by
    have : (headW R s).1.length + 2 = ((headW R s).1 ++ beTail 0 2).length := by rw [List.length_append, hb]
    rw [this, List.drop_left]
  rw [e2, e3]
  have e4 : ((headW R s).1 ++ beTail 0 2 ++ l).length - ((headW R s).1.length + 2) = l.length := by rw [List.length_append, List.length_append, hb]; omega
  rw [e4, List.append_assoc]
theorem recW_longer {R : Rec} (h : checkE R = 0) (s : Wr) : Longer s (recW R s) (R.name.length + 10 + (plainL R).length) := by
  obtain ⟨l, hl, e1, e2⟩ := recW_parts h s
  have h1 := headW_longer h s
  have h2 := (numW_longer 0 2 (headW R s)).inv
  have h3 := (dataW_longer h (numW 0 2 (headW R s))).inv
  rw [e2]
  obtain ⟨a, ea, ha⟩ := h1.pre
  refine ⟨fun hi => ?_, a ++ (beTail l.length 2 ++ l), by simp only [ea, List.append_assoc], by rw [List.length_append, List.length_append, beTail_length]; omega⟩
  have h4 := h3 (h2 (h1.inv hi))
  refine ⟨h4.1, ?_⟩
  have h5 := h4.2
  rw [e1] at h5
  simp only [List.length_append, beTail_length] at h5 ⊢
  have e6 : (numW 0 2 (headW R s)).1.length = (headW R s).1.length + 2 := by show ((headW R s).1 ++ beTail 0 2).length = _; rw [List.length_append, beTail_length]
  omega
theorem qnW_longer {q : Qn} (h : isN q.name = true) (s : Wr) : Longer s (qnW q s) (q.name.length + 4) :=
  ((nameW_longer _ (rests_of h) s).trans (numW_longer _ _ _)).trans (numW_longer _ _ _)
theorem isN_le {l : List UInt8} (h : isN l = true) : l.length ≤ 255 := by
  obtain ⟨L, hL⟩ := isN_some h
  exact (labels_some hL).2.2
theorem start_inv (M : Msg) : Inv (startW M) ∧ (startW M).1.length = 12 := by
  refine ⟨⟨fun y hy => (by cases hy), Nat.zero_le _⟩, ?_⟩
  unfold startW numW
  simp only [List.length_append, beTail_length]
  rfl
/-- How many bytes a message has without pointers. -/
def plainM (M : Msg) : Nat := 12 + (M.qs.map fun q => q.name.length + 4).sum + ((recsM M).map fun R => R.name.length + 10 + (plainO R).length).sum
theorem qnsW_longer {L : List Qn} : ∀ (s : Wr), (∀ q ∈ L, isN q.name = true) → Longer s (qnsW L s) (L.map fun q => q.name.length + 4).sum := by
  induction L with
  | nil => intro s _; exact Longer.refl s
  | cons q L ih =>
    intro s h
    rw [qnsW_cons, List.map_cons, List.sum_cons]
    exact (qnW_longer (h q (by simp)) s).trans (ih _ fun q hq => h q (by simp [hq]))
theorem recsW_longer {L : List Rec} : ∀ (s : Wr), (∀ R ∈ L, checkE R = 0) → Longer s (recsW L s) (L.map fun R => R.name.length + 10 + (plainO R).length).sum := by
  induction L with
  | nil => intro s _; exact Longer.refl s
  | cons R L ih =>
    intro s h
    rw [recsW_cons, List.map_cons, List.sum_cons]
    have h0 := h R (by simp)
    have := recW_longer h0 s
    rw [← plainO_ok h0] at this
    exact this.trans (ih _ fun q hq => h q (by simp [hq]))
theorem msgW_len {M : Msg} (h : checkM M = 0) : (msgW M).1.length ≤ plainM M ∧ Inv (msgW M) := by
  obtain ⟨_, h1, h2⟩ := checkM_ok h
  have h3 := (qnsW_longer (startW M) h1).trans (recsW_longer _ h2)
  refine ⟨?_, h3.inv (start_inv M).1⟩
  have := h3.len.2
  rw [(start_inv M).2] at this
  unfold plainM
  unfold msgW
  omega
end Go.Proofs.Ytihkmdojakalbaa.WrMath

/- Each further record of the question's name takes two bytes for its name. No program, no condition. -/
namespace Go.Proofs.Ytihkmdojakalbaa.WrMath
open Go Bytes NameMath NmMath RecMath MsgMath

/-- As long, and as much known. -/
def Alike (s t : Wr) : Prop := s.1.length = t.1.length ∧ s.2 = t.2
theorem nameW_alike (n : List UInt8) : ∀ {s t : Wr}, Alike s t → Alike (nameW n s) (nameW n t) := by
  intro s t h
  obtain ⟨out, K⟩ := s
  obtain ⟨out', K'⟩ := t
  obtain ⟨h1, h2⟩ := h
  simp only at h1 h2
  subst h2
  unfold nameW
  show Alike (wName out K n) (wName out' K n)
  fun_induction wName out K n generalizing out' with
  | case1 out K rest h => rw [wName_root h]; exact ⟨by simp only [List.length_append]; omega, rfl⟩
  | case2 out K rest h p hf => rw [wName_known h hf]; exact ⟨by simp only [List.length_append]; omega, rfl⟩
  | case3 out K rest h hf ih =>
    rw [wName_new h hf]
    have hl : learn out K rest = learn out' K rest := by unfold learn; rw [h1]
    rw [← hl]
    exact ih _ (by simp only [List.length_append]; omega)
theorem put_alike {s t : Wr} {l l' : List UInt8} (h : Alike s t) (hl : l.length = l'.length) : Alike (s.1 ++ l, s.2) (t.1 ++ l', t.2) := ⟨by simp only [List.length_append]; have := h.1; omega, h.2⟩
theorem numW_alike {s t : Wr} (n n' size : Nat) (h : Alike s t) : Alike (numW n size s) (numW n' size t) := put_alike h (by rw [beTail_length, beTail_length])
theorem numsW_alike {s t : Wr} (size : Nat) (L : List Nat) (h : Alike s t) : Alike (numsW size L s) (numsW size L t) := put_alike h rfl
theorem dataW_alike {s t : Wr} (R : Rec) (h : Alike s t) : Alike (dataW R s) (dataW R t) := by
  unfold dataW
  split
  · exact nameW_alike _ h
  · split
    · exact numsW_alike _ _ (nameW_alike _ (nameW_alike _ h))
    · split
      · exact nameW_alike _ (numsW_alike _ _ h)
      · exact put_alike h rfl
theorem recW_alike {s t : Wr} {R : Rec} (hE : checkE R = 0) (h : Alike s t) : Alike (recW R s) (recW R t) := by
  have hh : Alike (headW R s) (headW R t) := numW_alike _ _ _ (numW_alike _ _ _ (numW_alike _ _ _ (nameW_alike _ h)))
  have hd := dataW_alike R (numW_alike 0 0 2 hh)
  obtain ⟨l, _, e1, e2⟩ := recW_parts hE s
  obtain ⟨l', _, e1', e2'⟩ := recW_parts hE t
  rw [e2, e2']
  refine ⟨?_, hd.2⟩
  have h1 := hd.1
  rw [e1, e1'] at h1
  simp only [List.length_append, beTail_length] at h1 ⊢
  have h2 := (numW_alike 0 0 2 hh).1
  have h3 := hh.1
  omega
theorem recsW_alike {L : List Rec} : ∀ {s t : Wr}, (∀ R ∈ L, checkE R = 0) → Alike s t → Alike (recsW L s) (recsW L t) := by
  induction L with
  | nil => intro s t _ h; exact h
  | cons R L ih =>
    intro s t hE h
    rw [recsW_cons, recsW_cons]
    exact ih (fun R hR => hE R (by simp [hR])) (recW_alike (hE R (by simp)) h)
/-- What is known stays known. -/
def Keeps (n : List UInt8) (s : Wr) : Prop := ∃ p, fnd s.2 n = some p
theorem nameW_more (n : List UInt8) (s : Wr) : ∃ K', (nameW n s).2 = s.2 ++ K' := by
  obtain ⟨out, K⟩ := s
  unfold nameW
  show ∃ K', (wName out K n).2 = K ++ K'
  fun_induction wName out K n with
  | case1 => exact ⟨[], by simp⟩
  | case2 => exact ⟨[], by simp⟩
  | case3 out K rest h hf ih =>
    obtain ⟨K', e⟩ := ih
    rw [e]
    unfold learn
    split
    · exact ⟨_, List.append_assoc _ _ _⟩
    · exact ⟨K', rfl⟩
theorem keeps_app {n : List UInt8} {s t : Wr} (h : Keeps n s) (e : ∃ K', t.2 = s.2 ++ K') : Keeps n t := by
  obtain ⟨p, hp⟩ := h
  obtain ⟨K', e⟩ := e
  exact ⟨p, by rw [e, fnd_app, hp]; rfl⟩
theorem nameW_keeps {n m : List UInt8} {s : Wr} (h : Keeps n s) : Keeps n (nameW m s) := keeps_app h (nameW_more m s)
theorem dataW_keeps {n : List UInt8} {R : Rec} {s : Wr} (h : Keeps n s) : Keeps n (dataW R s) := by
  unfold dataW
  split
  · exact nameW_keeps h
  · split
    · exact (nameW_keeps (nameW_keeps h) : Keeps n (nameW (R.names.getD 1 []) (nameW (R.names.getD 0 []) s)))
    · split
      · exact nameW_keeps (s := numsW 2 R.nums s) h
      · exact h
theorem recW_keeps {n : List UInt8} {R : Rec} {s : Wr} (h : Keeps n s) : Keeps n (recW R s) := by
  have h1 : Keeps n (headW R s) := (nameW_keeps h : Keeps n (nameW R.name s))
  exact (dataW_keeps (s := numW 0 2 (headW R s)) h1 : Keeps n (dataW R (numW 0 2 (headW R s))))
theorem recsW_keeps {n : List UInt8} {L : List Rec} : ∀ {s : Wr}, Keeps n s → Keeps n (recsW L s) := by
  induction L with
  | nil => intro s h; exact h
  | cons R L ih => intro s h; rw [recsW_cons]; exact ih (recW_keeps h)
/-- The address of that name. -/
def spare (n : List UInt8) : Rec := ⟨n, 1, 1, 0, [], [], [[97, 98, 99, 100]]⟩
theorem spare_adds {n : List UInt8} {s : Wr} (h0 : bt n 0 ≠ 0) (hk : Keeps n s) (hE : checkE (spare n) = 0) : (recW (spare n) s).1.length = s.1.length + 16 := by
  obtain ⟨p, hp⟩ := hk
  have hn : nameW n s = (s.1 ++ beTail (49152 + p) 2, s.2) := wName_known h0 hp
  obtain ⟨l, _, e1, e2⟩ := recW_parts hE s
  have hd : dataW (spare n) (numW 0 2 (headW (spare n) s)) = ((numW 0 2 (headW (spare n) s)).1 ++ [97, 98, 99, 100], (numW 0 2 (headW (spare n) s)).2) := by
    have hpl : plainO (spare n) = [97, 98, 99, 100] := by rw [plainO_ok hE]; rfl
    have hkd : (spare n).kind = 1 := rfl
    unfold dataW
    rw [if_neg (by rw [hkd]; decide), if_neg (by rw [hkd]; decide), if_neg (by rw [hkd]; decide), hpl]
  have hl : l.length = 4 := by
    have := congrArg (fun x : Wr => x.1.length) (e1.symm.trans hd)
    simp only [List.length_append, List.length_cons, List.length_nil] at this
    omega
  rw [e2]
  simp only [List.length_append, beTail_length, hl]
  have hh : (headW (spare n) s).1.length = s.1.length + 10 := by
    show (numW 0 4 (numW 1 2 (numW 1 2 (nameW n s)))).1.length = _
    rw [hn]
    unfold numW
    simp only [List.length_append, beTail_length]
  omega
theorem spares_add {n : List UInt8} (h0 : bt n 0 ≠ 0) (hE : checkE (spare n) = 0) : ∀ (k : Nat) {s : Wr}, Keeps n s → (recsW (List.replicate k (spare n)) s).1.length = s.1.length + 16 * k := by
  intro k
  induction k with
  | zero => intro s _; rfl
  | succ k ih =>
    intro s hk
    rw [List.replicate_succ, recsW_cons, ih (recW_keeps hk), spare_adds h0 hk hE]
    omega
/-- The message with so many further records. -/
def withSpares (M : Msg) (n : List UInt8) (k : Nat) : Msg := { M with ad := M.ad ++ List.replicate k (spare n) }
theorem start_alike (M : Msg) (n : List UInt8) (k : Nat) : Alike (startW (withSpares M n k)) (startW M) := by
  have : Alike (([], []) : Wr) ([], []) := ⟨rfl, rfl⟩
  exact numW_alike _ _ _ (numW_alike _ _ _ (numW_alike _ _ _ (numW_alike _ _ _ (numW_alike _ _ _ (numW_alike _ _ _ this)))))
theorem spares_len {M : Msg} {q : Qn} {k : Nat} {s t : List UInt8} (hq : M.qs = [q]) (h2 : 2 ≤ q.name.length) (hs : writeM M = (s, 0)) (ht : writeM (withSpares M q.name k) = (t, 0)) : t.length = s.length + 16 * k := by
  have ok : ∀ {M : Msg} {s : List UInt8}, writeM M = (s, 0) → checkM M = 0 ∧ s = (msgW M).1 := fun {M s} h => by
    unfold writeM at h
    split at h
    · next h0 =>
      split at h
      · injection h with _ h; cases h
      · injection h with h _; exact ⟨h0, h.symm⟩
    · next h0 => injection h with _ h; exact absurd h h0
  obtain ⟨c1, rfl⟩ := ok hs
  obtain ⟨c2, rfl⟩ := ok ht
  obtain ⟨_, n1, e1⟩ := checkM_ok c1
  obtain ⟨_, n2, e2⟩ := checkM_ok c2
  have hqn : isN q.name = true := n1 q (by rw [hq]; simp)
  have h0 : bt q.name 0 ≠ 0 := by
    rcases rests_cases (rests_of hqn) with e | ⟨e, _⟩
    · rw [e] at h2; simp at h2
    · exact e
  have hrm : recsM (withSpares M q.name k) = recsM M ++ List.replicate k (spare q.name) := by
    unfold recsM withSpares
    simp only [List.append_assoc]
  have hqs : (withSpares M q.name k).qs = [q] := hq
  -- behind the question
  have hk : Keeps q.name (nameW q.name (startW M)) := by
    have hf : fnd (startW M).2 q.name = none := rfl
    have hw : nameW q.name (startW M) = wName ((startW M).1 ++ q.name.take (1 + bt q.name 0)) (learn (startW M).1 (startW M).2 q.name) (q.name.drop (1 + bt q.name 0)) := wName_new h0 hf
    obtain ⟨K', e⟩ := nameW_more (q.name.drop (1 + bt q.name 0)) ((startW M).1 ++ q.name.take (1 + bt q.name 0), learn (startW M).1 (startW M).2 q.name)
    have e9 : (nameW q.name (startW M)).2 = learn (startW M).1 (startW M).2 q.name ++ K' := by rw [hw]; exact e
    refine ⟨(startW M).1.length, ?_⟩
    rw [e9, fnd_app]
    have : learn (startW M).1 (startW M).2 q.name = [(q.name, (startW M).1.length)] := by
      unfold learn
      rw [if_pos (by rw [(start_inv M).2]; decide)]
      rfl
    rw [this]
    have hf2 : fnd [(q.name, (startW M).1.length)] q.name = some (startW M).1.length := by unfold fnd; rw [if_pos rfl]
    rw [hf2]
    rfl
  have ha : Alike (qnsW [q] (startW (withSpares M q.name k))) (qnsW [q] (startW M)) := numW_alike _ _ _ (numW_alike _ _ _ (nameW_alike _ (start_alike M q.name k)))
  have hkq : Keeps q.name (recsW (recsM M) (qnsW [q] (startW M))) := recsW_keeps (show Keeps q.name (qnW q (startW M)) from (hk : Keeps q.name (nameW q.name (startW M))))
  have hb := recsW_alike (L := recsM M) e1 ha
  have hk2 : Keeps q.name (recsW (recsM M) (qnsW [q] (startW (withSpares M q.name k)))) := by
    obtain ⟨p, hp⟩ := hkq
    exact ⟨p, by rw [hb.2]; exact hp⟩
  have hm : (msgW (withSpares M q.name k)).1 = (recsW (List.replicate k (spare q.name)) (recsW (recsM M) (qnsW [q] (startW (withSpares M q.name k))))).1 := by
    unfold msgW
    rw [hrm, recsW_app, hqs]
  have hm2 : (msgW M).1 = (recsW (recsM M) (qnsW [q] (startW M))).1 := by unfold msgW; rw [hq]
  cases k with
  | zero => rw [hm, hm2]; exact hb.1
  | succ k =>
    have hsp : checkE (spare q.name) = 0 := e2 _ (by rw [hrm]; simp)
    rw [hm, hm2, spares_add h0 hsp _ hk2, hb.1]
end Go.Proofs.Ytihkmdojakalbaa.WrMath

/- The writer of messages in memory: what is written, the map of what is known; what a call of its leaves as it was. No condition. -/
namespace Go.Proofs.Ytihkmdojakalbaa
open Go Go.RowKit Go.Maps Bytes WrMath

theorem key_law : Keyed Try.prog 9 := string_keyed Try.underlying9
theorem zero_int (w : World) : (zeroValue 3).run Try.prog w = .ok (.int .i64 0) w := by kernel_rfl
/-- The map reads as what is known. -/
def MapIs (W : World) (bm : Nat) (K : Known) : Prop := ∃ (n : Nat) (D : DataW Unit), W.ownsMap Try.prog 9 (plainElem Try.prog 3) bm n D ∧ n ≤ K.length ∧
  ∀ s, Maps.has D (.string s) = (fnd K s).isSome ∧ D.atKey (.string s) (.lit (.int .i64 0)) = .lit (.int .i64 ((fnd K s).getD 0 : Nat))
theorem mapIs_made (W : World) : MapIs (W.alloc (.map #[] 0)) W.heap.size [] := ⟨0, _, World.ownsMap_made W Try.prog 9 _, Nat.le_refl _, fun _ => ⟨rfl, rfl⟩⟩
section
variable {W W' : World} {r bm g k : Nat} {K : Known} {s : List UInt8} {p : Nat}
theorem MapIs.put (h : MapIs W bm K) (hf : fnd K s = none) (hs : s.length ≤ maxLen) (hK : K.length < maxLen) (hp : p ≤ 1000000) : ∃ W', (Instr.mapUpdate 70 (.map (some bm)) (.string (mk s)) (.int .i64 p)).run Try.prog W = .ok () W' ∧ MapIs W' bm (K ++ [(s, p)]) ∧ W.grownBy W' (some bm) := by
  obtain ⟨n, D, h1, h2, h3⟩ := h
  have hkey : keyOf Try.prog 9 (.string (mk s)) = some (.string s) := WideMaps.keyOf_string_mk Try.underlying9 (by rw [mk_size]; exact hs)
  obtain ⟨W', hrun, ho, hg⟩ := h1.update key_law Try.underlying70 (Nat.lt_of_le_of_lt h2 hK) hkey (plainElem_int Try.underlying3 (WalkArith.wf_i64 (by omega : -9223372036854775808 ≤ (p : Int) ∧ (p : Int) ≤ 9223372036854775807)))
  refine ⟨W', hrun, ⟨n + 1, _, ho, by rw [List.length_append]; simp only [List.length_singleton]; omega, fun t => ?_⟩, hg⟩
  rw [fnd_app]
  by_cases ht : t = s
  · subst ht
    rw [hf, has_put_same (h1.isMap) (by trivial), atKey_put_same (h1.isMap) (by trivial)]
    simp [fnd]
  · have hne : Lit.string t ≠ .string s := fun e => ht (by injection e)
    rw [has_put_other hne, atKey_put_other hne, (h3 t).1, (h3 t).2]
    have : fnd [(s, p)] t = none := by show (if s = t then _ else _) = _; rw [if_neg (fun e => ht e.symm)]; rfl
    rw [this, Option.or_none]
    exact ⟨rfl, rfl⟩
theorem MapIs.lt (h : MapIs W bm K) : bm < W.heap.size := by obtain ⟨n, D, h1, _⟩ := h; exact h1.lt
theorem MapIs.kept (h : MapIs W bm K) {row : Option Nat} (hg : W.grownBy W' row) (hne : some bm ≠ row) : MapIs W' bm K := by obtain ⟨n, D, h1, h2⟩ := h; exact ⟨n, D, h1.kept hg hne, h2⟩
theorem MapIs.obj (h : MapIs W bm K) : ∃ es c, W.heap[bm]? = some (.map es c) := by obtain ⟨n, D, ⟨es, c, hb, _⟩, _⟩ := h; exact ⟨es, c, hb⟩
end
/-- The writer at block r, from block g on: what is written is v's row, what is known is block bm's. -/
structure WrAt (W : World) (r bm g : Nat) (s : Wr) (v : Value) : Prop where
  rd : W.heap[r]? = some (.cells #[v, .map (some bm)] 73 (0, 0))
  own : W.ownsRow g 5 1 v s.1.length (byteCells s.1)
  map : MapIs W bm s.2
  gr : g ≤ r
  gb : g ≤ bm
/-- All else is as it was. -/
structure Wrote (r bm : Nat) (v : Value) (W : World) (v' : Value) (W' : World) : Prop where
  os : W'.os = W.os
  tape : W'.tape = W.tape
  output : W'.output = W.output
  size : W.heap.size ≤ W'.heap.size
  block : ∀ k, k < W.heap.size → k ≠ r → k ≠ bm → some k ≠ v.ownBlock → W'.heap[k]? = W.heap[k]?
  own : v'.ownBlock = v.ownBlock ∨ ∀ b, v'.ownBlock = some b → W.heap.size ≤ b
section
variable {W W' W2 : World} {r bm g k : Nat} {s s' : Wr} {v v' v2 : Value}
theorem WrAt.c0 (h : WrAt W r bm g s v) : W.cell? ⟨r, 0, none⟩ = some v := cell_of_row W r 0 _ _ _ h.rd
theorem WrAt.c1 (h : WrAt W r bm g s v) : W.cell? ⟨r, 1, none⟩ = some (.map (some bm)) := cell_of_row W r 1 _ _ _ h.rd
theorem WrAt.fz (h : WrAt W r bm g s v) (i : Nat) : W.frozen? ⟨r, i, none⟩ = false := by have := h.rd; simp [World.frozen?, this]
theorem WrAt.lt (h : WrAt W r bm g s v) : r < W.heap.size := (Array.getElem?_eq_some_iff.1 h.rd).1
theorem WrAt.ne (h : WrAt W r bm g s v) : r ≠ bm := fun e => by
  obtain ⟨es, c, hb⟩ := h.map.obj
  have := h.rd
  rw [e, hb] at this
  cases this
theorem WrAt.drewN (h : WrAt W r bm g s v) (n : Nat) : WrAt (W.drewN n) r bm g s v := ⟨h.rd, row_below h.own ⟨rfl, rfl, rfl, Nat.le_refl _, fun _ _ => rfl⟩, h.map.kept (row := none) ⟨rfl, rfl, rfl, Nat.le_refl _, fun _ _ _ => rfl⟩ (by simp), h.gr, h.gb⟩
theorem WrAt.drew (h : WrAt W r bm g s v) : WrAt W.drew r bm g s v := h.drewN 1
theorem WrAt.below (h : WrAt W r bm g s v) (hB : Below W.heap.size W W') : WrAt W' r bm g s v :=
  ⟨(hB.block r h.lt).trans h.rd, row_below h.own hB, h.map.kept (row := none) ⟨hB.os, hB.tape, hB.output, hB.size, fun k hk _ => hB.block k hk⟩ (by simp), h.gr, h.gb⟩
theorem WrAt.slice (h : WrAt W r bm g s v) : ∃ A c, v = .slice A s.1.length c := by
  rcases h.own.2 with ⟨rfl, h0⟩ | ⟨b, cap, cur, rfl, _⟩
  · exact ⟨none, 0, by rw [h0]⟩
  · exact ⟨_, _, rfl⟩
theorem Wrote.refl (r bm : Nat) (v : Value) (W : World) : Wrote r bm v W v W := ⟨rfl, rfl, rfl, Nat.le_refl _, fun _ _ _ _ _ => rfl, .inl rfl⟩
theorem Wrote.trans (h : Wrote r bm v W v' W') (k : Wrote r bm v' W' v2 W2) : Wrote r bm v W v2 W2 := by
  refine ⟨k.os.trans h.os, k.tape.trans h.tape, k.output.trans h.output, Nat.le_trans h.size k.size, fun i hi h1 h2 h3 => ?_, ?_⟩
  · refine (k.block i (Nat.lt_of_lt_of_le hi h.size) h1 h2 ?_).trans (h.block i hi h1 h2 h3)
    rcases h.own with e | e
    · rw [e]; exact h3
    · intro e2; have := e i e2.symm; omega
  · rcases k.own with e | e
    · rw [e]; exact h.own
    · exact .inr fun b hb => Nat.le_trans h.size (e b hb)
theorem Wrote.below (h : Wrote r bm v W v' W') (hB : Below W'.heap.size W' W2) : Wrote r bm v W v' W2 :=
  ⟨hB.os.trans h.os, hB.tape.trans h.tape, hB.output.trans h.output, Nat.le_trans h.size hB.size, fun i hi h1 h2 h3 => (hB.block i (Nat.lt_of_lt_of_le hi h.size)).trans (h.block i hi h1 h2 h3), h.own⟩
theorem Wrote.ahead (hB : Below W.heap.size W W') (h : Wrote r bm v W' v' W2) : Wrote r bm v W v' W2 :=
  ⟨h.os.trans hB.os, h.tape.trans hB.tape, h.output.trans hB.output, Nat.le_trans hB.size h.size, fun i hi h1 h2 h3 => (h.block i (Nat.lt_of_lt_of_le hi hB.size) h1 h2 h3).trans (hB.block i hi), h.own.imp id fun e b hb => Nat.le_trans hB.size (e b hb)⟩
theorem Wrote.to_below (h : Wrote r bm v W v' W') (hw : WrAt W r bm g s v) (hg : g ≤ W.heap.size) : Below g W W' :=
  ⟨h.os, h.tape, h.output, h.size, fun k hk => h.block k (by omega) (by have := hw.gr; omega) (by have := hw.gb; omega) (fun e => by have := (hw.own.lt k e.symm).1; omega)⟩
/-- A block of another kind stands. -/
theorem Wrote.cells (h : Wrote r bm v W v' W') (hw : WrAt W r bm g s v) {cs : Array Value} {t : TypeId} {fz : Nat × Nat} (hk : W.heap[k]? = some (.cells cs t fz)) (h1 : t ≠ 73) (h2 : 5 ≠ t) : W'.heap[k]? = some (.cells cs t fz) := by
  refine (h.block k (Array.getElem?_eq_some_iff.1 hk).1 (fun e => ?_) (fun e => ?_) ?_).trans hk
  · subst e
    have := hw.rd
    rw [hk] at this
    injection this with this
    injection this with _ this
    exact h1 this
  · subst e
    obtain ⟨es, c, hb⟩ := hw.map.obj
    rw [hk] at hb
    cases hb
  · rcases row_ne hk hw.own h2 with e | e
    · rw [e]; intro x; cases x
    · exact fun x => e x.symm
/-- A row of other elements stands. -/
theorem Wrote.row (h : Wrote r bm v W v' W') (hw : WrAt W r bm g s v) {q n size : Nat} {t : TypeId} {u : Value} {xs : List Value} (hu : W.ownsRow q t size u n xs) (h1 : t ≠ 73) (h2 : 5 ≠ t) : W'.ownsRow q t size u n xs := by
  refine ⟨hu.1, ?_⟩
  rcases hu.2 with h0 | ⟨b, cap, cur, rfl, hb, hgg, rest⟩
  · exact .inl h0
  · exact .inr ⟨b, cap, cur, rfl, hb, h.cells hw hgg h1 h2, rest⟩
/-- A store of what is written into the writer's block. -/
theorem WrAt.stored (h : WrAt W r bm g s v) {out : List UInt8} (hown : W'.ownsRow g 5 1 v' out.length (byteCells out)) (hB : Below W.heap.size W W2) (hg : W2.grownBy W' v.ownBlock) (hl : v.ownBlock = v'.ownBlock ∨ ∀ b, v'.ownBlock = some b → W.heap.size ≤ b) :
    WrAt (W'.setCell ⟨r, 0, none⟩ v') r bm g (out, s.2) v' ∧ Wrote r bm v W v' (W'.setCell ⟨r, 0, none⟩ v') ∧ W'.cell? ⟨r, 0, none⟩ = some v ∧ W'.frozen? ⟨r, 0, none⟩ = false := by
  have hr : W'.heap[r]? = some (.cells #[v, .map (some bm)] 73 (0, 0)) := by
    refine (hg.block r (Nat.lt_of_lt_of_le h.lt hB.size) ?_).trans ((hB.block r h.lt).trans h.rd)
    rcases row_ne h.rd h.own (by decide) with e | e
    · rw [e]; intro x; cases x
    · exact fun x => e x.symm
  have hm2 : MapIs W2 bm s.2 := h.map.kept (row := none) ⟨hB.os, hB.tape, hB.output, hB.size, fun k hk _ => hB.block k hk⟩ (by simp)
  have hm : MapIs W' bm s.2 := hm2.kept hg (fun e => by
    obtain ⟨es, c, hb⟩ := h.map.obj
    rcases h.own.2 with ⟨rfl, _⟩ | ⟨b, cap, cur, rfl, _, hbb, _⟩
    · cases e
    · injection e with e
      simp only at e
      subst e
      rw [hb] at hbb
      cases hbb)
  have hgs := only_setCell (grown_refl W' (some r)) (p := ⟨r, 0, none⟩) (.inl rfl) v'
  refine ⟨⟨?_, hown.kept hgs (row_ne hr hown (by decide)), hm.kept hgs (fun e => by injection e with e; exact h.ne e.symm), h.gr, h.gb⟩, ⟨?_, ?_, ?_, ?_, fun k hk h1 h2 h3 => ?_, ?_⟩, cell_of_row W' r 0 _ _ _ hr, by simp [World.frozen?, hr]⟩
  · simp [World.setCell, Array.getElem?_modify, hr]
  · exact hg.os.trans hB.os
  · exact hg.tape.trans hB.tape
  · exact hg.output.trans hB.output
  · simp only [World.setCell, Array.size_modify]; exact Nat.le_trans hB.size hg.size
  · refine (Below.heap_setCell _ _ _ _ (by simpa using h1)).trans ((hg.block k (Nat.lt_of_lt_of_le hk hB.size) h3).trans (hB.block k hk))
  · rcases hl with e | e
    · exact .inl e.symm
    · exact .inr e
/-- A store into the map. -/
theorem WrAt.mapped (h : WrAt W r bm g s v) {K : Known} (hm : MapIs W' bm K) (hg : W.grownBy W' (some bm)) : WrAt W' r bm g (s.1, K) v ∧ Wrote r bm v W v W' := by
  refine ⟨⟨(grown_block hg h.lt h.ne).trans h.rd, ?_, hm, h.gr, h.gb⟩, ⟨hg.os, hg.tape, hg.output, hg.size, fun k hk h1 h2 h3 => hg.block k hk (fun e => by injection e with e; exact h2 e), .inl rfl⟩⟩
  refine h.own.kept hg ?_
  obtain ⟨es, c, hb⟩ := h.map.obj
  rcases h.own.2 with ⟨rfl, _⟩ | ⟨b, cap, cur, rfl, _, hbb, _⟩
  · exact .inl rfl
  · refine .inr fun e => ?_
    injection e with e
    simp only at e
    subst e
    rw [hb] at hbb
    cases hbb
end
end Go.Proofs.Ytihkmdojakalbaa

/- The contract of num's Put: bytes with a number's lowest bytes behind them, big-endian, in new memory; for sizes from 0 to 8. -/
namespace Go.Proofs.Ytihkmdojakalbaa
open Go.RowKit
open Bytes (info5)

theorem block_of_add (a : Addr) (n : Nat) : (a.add n).block = a.block := by unfold Addr.add; split <;> rfl
/-- A slice of bytes that came in reads as the bytes l. -/
def RdB (w : World) (B : Nat) (a : Option Addr) (l : List UInt8) : Prop :=
  0 < l.length → ∃ x, a = some x ∧ x.block < B ∧ ∀ i v, (Lib.byteCells l)[i]? = some v → w.cell? (x.add i) = some v

theorem make_bytes (L : Nat) (hL : L ≤ 281474976710656) : ∃ M : List Value, M.length = L ∧ ∀ W : World, (Instr.makeSlice 71 (.int .i64 (L : Int)) (.int .i64 (L : Int))).run Try.prog W = .ok (.slice (some ⟨W.heap.size, 0, none⟩) L L) (W.alloc (.cells M.toArray 5)) := by
  obtain ⟨i0, hi, hz0, hz1, hz2⟩ := info_parts info5
  refine ⟨(madeCells (Value.int .u8 0).cells (((L : Nat) : Int).toNat * i0.size)).toList, ?_, fun W => ?_⟩
  · rw [Array.length_toList, size_madeCells, hz1]; simp
  · have h := run_make (P := Try.prog) W 71 5 i0 (.int .u8 0) Try.underlying71 hi hz0 .i64 .i64 (L : Int) (L : Int) (by omega) (by omega) (by rw [hz2]; omega) (by omega)
    simpa using h

/-- Behind j rounds: the row of L cells, its first ones C, its last j the number's lowest bytes. -/
def PutRel (W : World) (g L m : Nat) (C : List Value) (n j : Nat) : Prop :=
  ∃ cs : List Value, cs.length = L ∧ W.heap[g]? = some (.cells cs.toArray 5 (0, 0)) ∧ cs.take m = C ∧ cs.drop (L - j) = Lib.byteCells (beTail n j)
theorem putRel_start {W : World} {g m k n : Nat} {M C : List Value} (hM : M.length = m + k) (hC : C.length = m) (h : W.heap[g]? = some (.cells (splice M 0 C).toArray 5 (0, 0))) : PutRel W g (m + k) m C n 0 := by
  refine ⟨_, ?_, h, ?_, ?_⟩
  · rw [length_splice _ _ _ (by omega), hM]
  · simp only [splice, List.take_zero, List.nil_append]
    rw [List.take_append_of_le_length (by omega), List.take_of_length_le (by omega)]
  · rw [List.drop_of_length_le (by rw [length_splice _ _ _ (by omega), hM]; omega)]; simp [beTail, Lib.byteCells]
theorem putRel_cell {W : World} {g L m n j : Nat} {C : List Value} (h : PutRel W g L m C n j) (p : Nat) (hp : p < L) : (∃ v, W.cell? ⟨g, p, none⟩ = some v) ∧ W.frozen? ⟨g, p, none⟩ = false := by
  obtain ⟨cs, hL, hh, _⟩ := h
  refine ⟨⟨cs[p]'(by omega), ?_⟩, ?_⟩
  · rw [cell_of_row W g p _ _ _ hh]; simp [hL, hp]
  · simp [World.frozen?, hh]
theorem putRel_step {W : World} {g L m n j p x : Nat} {C : List Value} (h : PutRel W g L m C n j) (hx : x = n / 256 ^ j) (hp : p + 1 + j = L) (hm : m ≤ p) :
    PutRel (W.setCell ⟨g, p, none⟩ (.int .u8 ((x : Int) % 256))) g L m C n (j + 1) := by
  obtain ⟨cs, hL, hh, ht, hd⟩ := h
  refine ⟨cs.set p (.int .u8 ((x : Int) % 256)), by simpa using hL, ?_, ?_, ?_⟩
  · simp [World.setCell, Array.getElem?_modify, hh]
  · rw [List.take_set_of_le hm, ht]
  · rw [show L - (j + 1) = p from by omega]
    rw [show L - j = p + 1 from by omega] at hd
    rw [List.drop_set, if_neg (by omega), Nat.sub_self, List.drop_eq_getElem_cons (show p < cs.length by omega), List.set_cons_zero, hd]
    simp only [beTail, Lib.byteCells, List.map_cons]
    congr 2
    rw [UInt8.toNat_ofNat', ← hx]
    omega
theorem putRel_end {W : World} {g m k n : Nat} {C : List Value} {l : List UInt8} (hC : C = Lib.byteCells l) (hl : m = l.length) (h : PutRel W g (m + k) m C n k) : W.heap[g]? = some (.cells (Lib.byteCells (l ++ beTail n k)).toArray 5 (0, 0)) := by
  obtain ⟨cs, hL, hh, ht, hd⟩ := h
  rw [hh]
  have e : cs = Lib.byteCells (l ++ beTail n k) := by
    rw [← List.take_append_drop m cs, ht, show m = m + k - k from by omega, hd, hC]
    simp [Lib.byteCells]
  rw [e]

set_option maxHeartbeats 1000000 in
theorem put_any (a0 : Option Addr) (cap0 : Nat) (l : List UInt8) (n k : Nat) (w : World) (hk : k ≤ 8) (hr : RdB w w.heap.size a0 l) (hl : l.length ≤ 140737488351232) :
    Calls Try.prog 78 #[.slice a0 l.length cap0, .int .u64 n, .int .i64 k] w fun e w' => e = .returned (.slice (some ⟨w.heap.size, 0, none⟩) (l.length + k) (l.length + k)) ∧ Below w.heap.size w w' ∧ w.heap.size < w'.heap.size ∧ w'.heap[w.heap.size]? = some (.cells (Lib.byteCells (l ++ beTail n k)).toArray 5 (0, 0)) := by
  obtain ⟨m, hm⟩ : ∃ m, m = l.length := ⟨_, rfl⟩
  rw [← hm] at hl ⊢
  obtain ⟨M, hM, hmk0⟩ := make_bytes (m + k) (by omega)
  have hmk : ∀ W : World, (Instr.makeSlice 71 (.int .i64 ((m : Int) + (k : Int))) (.int .i64 ((m : Int) + (k : Int)))).run Try.prog W = .ok (.slice (some ⟨W.heap.size, 0, none⟩) (m + k) (m + k)) (W.alloc (.cells M.toArray 5)) := fun W => by
    have h := hmk0 W
    rwa [Int.natCast_add] at h
  clear hmk0
  have MM := Lib.hid hm; clear hm
  have HM := Lib.hid hM; clear hM
  have HR := Lib.hid hr; clear hr
  have e8 : min (k : Int) 8 = (k : Int) := by omega
  obtain ⟨C, hC⟩ : ∃ C, C = Lib.byteCells l := ⟨_, rfl⟩
  have HC := Lib.hid hC; clear hC
  go_enter Try.func78, Try.ntmps78
  go_wp2_with (with_reducible refine wpList_copy_splice rfl (.tmp 17) (.tmp 18) 71 71 rfl 5 Try.underlying71 (by kernel_rfl) _ _ _ _ _ _ rfl rfl w.heap.size 0 M 5 ?c1 C ?c2 ?c3 ?c4 ?c5 w.heap.size w ?c6 (Nat.le_refl _) ?_)
  case c1 => exact heap_alloc_new w _
  case c2 => rw [HC.out, Lib.byteCells_length, ← MM.out]; exact (Nat.min_eq_left (by omega)).symm
  case c3 =>
    intro hpos
    rw [HC.out, Lib.byteCells_length] at hpos
    obtain ⟨x, ha, hx, hc⟩ := HR.out hpos
    refine ⟨x, ha, fun j v hv => ?_⟩
    rw [HC.out] at hv
    rw [World.cell?_alloc_lt w _ _ (by rw [block_of_add]; exact hx)]
    exact hc j v hv
  case c4 => rw [HC.out, Lib.byteCells_length, HM.out, ← MM.out]; omega
  case c5 => rw [HC.out]; exact Lib.byteCells_one l
  case c6 => exact (Below.refl _ _).alloc (Nat.le_refl _) _
  intro W2 HG HB
  have HP : Hid (PutRel W2 w.heap.size (m + k) m C n 0) := putRel_start HM.out (by rw [HC.out, Lib.byteCells_length]; exact MM.out.symm) HG.out
  have hsz : w.heap.size < W2.heap.size := by
    rcases Nat.lt_or_ge w.heap.size W2.heap.size with h | h
    · exact h
    · have := HG.out; rw [Array.getElem?_eq_none h] at this; cases this
  clear HG hmk
  go_wp2
  go_loopw [8, 1] (fun i v wr => ∃ (j x : Nat) (q : Int), j ≤ k ∧ Hid (x = n / 256 ^ j) ∧ Hid (q = (m : Int) + k - 1 - j) ∧ i = .int .i64 q ∧ v = .int .u64 (x : Int) ∧ Hid (PutRel wr w.heap.size (m + k) m C n j) ∧ Below w.heap.size w wr ∧ w.heap.size < wr.heap.size) (fun i _ _ => (intOf i + 1).toNat)
  case atStart => exact ⟨0, n, (m : Int) + k - 1, Nat.zero_le _, Lib.hid (by simp), Lib.hid (by simp), rfl, rfl, HP, HB, hsz⟩
  case round =>
    obtain ⟨j, x, q, hj, hx, hq, rfl, rfl, hP, hB, hS⟩ := hrel
    have hqq := hq.out
    by_cases hlt : (m : Int) ≤ q
    · obtain ⟨p, rfl⟩ := Int.eq_ofNat_of_zero_le (show 0 ≤ q by omega)
      have hp1 : p + 1 + j = m + k := by omega
      have hp2 : (p : Int) < (m : Int) + k := by omega
      have hpS := putRel_step hP.out hx.out hp1 (by omega)
      obtain ⟨⟨v0, hv0⟩, hfz⟩ := putRel_cell hP.out p (by omega)
      have hdiv : x / 256 = n / 256 ^ (j + 1) := by
        rw [Nat.pow_succ, ← Nat.div_div_eq_div_mul, ← hx.out]
      have D := Lib.hid hdiv
      have PS := Lib.hid hpS
      have P1 := Lib.hid hp1
      clear hdiv hpS hp1 hqq hx
      go_wp2
      go_roundw
      case rel => exact ⟨j + 1, x / 256, (p : Int) - 1, by have := P1.out; omega, D, Lib.hid (by have := P1.out; omega), rfl, by go_num, PS, hB.setCell (Nat.le_refl _) _, by simpa [World.setCell] using hS⟩
      case measure => simp [intOf]
    · have hjk : j = k := by omega
      subst hjk
      have E := putRel_end HC.out MM.out hP.out
      have EE := Lib.hid E
      clear E hqq
      go_wp2
      go_ret
      exact ⟨rfl, hB, hS, EE.out⟩
end Go.Proofs.Ytihkmdojakalbaa

/- The contracts of the writer's numbers. For at most 10^9 bytes. -/
namespace Go.Proofs.Ytihkmdojakalbaa
open Go.RowKit Bytes WrMath

/-- What a call of the writer's leaves: so much is written, all else is as it was. -/
def WrEnd (w : World) (r bm g : Nat) (s' : Wr) (v : Value) (e : Ending) (w' : World) : Prop := ∃ v', e = .returned (.tuple #[]) ∧ WrAt w' r bm g s' v' ∧ Wrote r bm v w v' w'
theorem libCells (l : List UInt8) : Lib.byteCells l = byteCells l := rfl
set_option maxHeartbeats 2000000 in
set_option maxRecDepth 100000 in
theorem number_any (n size r bm g : Nat) (s : Wr) (v : Value) (w : World) (h : WrAt w r bm g s v) (hg : g ≤ w.heap.size) (hn : n < 4294967296) (hs1 : 1 ≤ size) (hs : size ≤ 4) (hl : s.1.length ≤ 1000000000) :
    Calls Try.prog 57 #[.pointer (some ⟨r, 0, none⟩), .int .u32 n, .int .i64 size] w (WrEnd w r bm g (numW n size s) v) := by
  obtain ⟨A, c, rfl⟩ := h.slice
  obtain ⟨m, hm⟩ : ∃ m, s.1.length = m := ⟨_, rfl⟩
  rw [hm] at hl h ⊢
  have HW := Lib.hid h
  have HWD := Lib.hid h.drew
  have HM := Lib.hid hm
  have c0 := HWD.out.c0
  have HP := Lib.hid (put_any none 0 [] n size w.drew (by omega) (fun hp => absurd hp (by simp)) (by simp))
  obtain ⟨i5, hi, hz0, hz1, hz2⟩ := info_parts info5
  have HI := Lib.hid hi; clear hi
  have HZ0 := Lib.hid hz0; clear hz0
  have HZ1 := Lib.hid hz1; clear hz1
  have HZ2 := Lib.hid hz2; clear hz2
  have HB0 : Hid (Below w.heap.size w w.drew) := (Below.refl _ _).drew
  have hm63 : m + size ≤ maxLen := by unfold maxLen; omega
  have hm47 : (m + size) * 1 ≤ 140737488355328 := by omega
  have hcv : IntKind.u64.wrap (n : Int) = (n : Int) := by rw [IntKind.wrap_u64]; omega
  clear h hm
  go_enter Try.func57, Try.ntmps57
  go_wp2_with fail
  go_region_law (first | (refine step_append_lies _ (by rfl) (.tmp 10) (.tmp 14) 71 (by rfl) g 5 i5 (.int .u8 0) 1 1 Try.underlying71 HI.out HZ0.out HZ1.out HZ2.out rfl (by decide) (.slice A m c) m (byteCells s.1) (by rfl) HWP.out.2.1 ⟨w.heap.size, 0, none⟩ size (0 + size) (byteCells (beTail n size)) (by simp [Act.eval]) (by rw [byteCells_len, beTail_length, Nat.mul_one]) (World.news_of_block HPB.out) (by intro u hu; obtain ⟨x, _, rfl⟩ := List.mem_map.1 hu; rfl) (by omega) hm63 hm47 HWP.out.2.2 _ rfl ?_; intro gg cap w2 hown hgrow hat hlt2; have hown2 : w2.ownsRow g 5 1 (.slice (some ⟨gg, 0, none⟩) (m + size) cap) (s.1 ++ beTail n size).length (byteCells (s.1 ++ beTail n size)) := (by rw [List.length_append, beTail_length, HM.out, byteCells_cat]; exact hown); have hst := HW.out.stored hown2 HWP.out.1 hgrow (hat.imp id (fun e b hb => by injection hb with hb; have := HWP.out.1.size; simp only at hb; omega)); have r3 := hst.2.2.1; have rf := hst.2.2.2; have HST := Lib.hid hst; clear hown hown2 hgrow hat hlt2 hst) | (go_simp; go_at_call 78; refine HP.out.mono ?_; rintro e wd ⟨rfl, hB, hlt, hblk⟩; have hww := HWD.out.below hB; have n0 := hww.c0; have HPB := Lib.hid hblk; have HWP : Hid (Below w.heap.size w wd ∧ wd.ownsRow g 5 1 (.slice A m c) m (byteCells s.1) ∧ g ≤ wd.heap.size) := ⟨HB0.out.trans hB, (by have := hww.own; rw [HM.out] at this; exact this), Nat.le_trans hg hB.size⟩; clear hB hlt hblk hww))
  all_goals
    go_wp2_with fail
    go_end0
    exact ⟨_, rfl, HST.out.1, HST.out.2.1⟩
end Go.Proofs.Ytihkmdojakalbaa

/- The contract of rdata's Check. For records of at most 10^5 texts of at most 10^5 bytes. -/
namespace Go.Proofs.Ytihkmdojakalbaa
open Go.RowKit Bytes Strs Nums NameMath RecMath

set_option maxHeartbeats 4000000 in
set_option maxRecDepth 100000 in
theorem check_is (R : Rec) (x : ByteArray) (k l t : Nat) (A1 : Option Addr) (n1 c1 : Nat) (A2 : Option Addr) (n2 c2 : Nat) (A3 : Option Addr) (n3 c3 : Nat) (E : Nat) (w : World) (hR : Hid (RecAt w w.heap.size R x k l t A1 n1 A2 n2 A3 n3)) (hS : Hid (Small R)) (hE : Hid (checkE R = E)) :
    Calls Try.prog 39 #[.agg #[.string x, .int .u16 k, .int .u16 l, .int .u32 t, .slice A1 n1 c1, .slice A2 n2 c2, .slice A3 n3 c3]] w fun e w' => e = .returned (.int .i64 E) ∧ Below w.heap.size w w' := by
  have hm1 := hR.out.m1 hS.out
  have hx := hR.out.size hS.out
  have hx6 : x.size ≤ 1000000 := by omega
  have hm6 : n1 ≤ 1000000 := by omega
  have HR2 := Lib.hid (hR.out.box (.cells #[.string x, .int .u16 k, .int .u16 l, .int .u32 t, .slice A1 n1 c1, .slice A2 n2 c2, .slice A3 n3 c3] 49))
  have HRD1 := Lib.hid HR2.out.rd1
  have HL1 := Lib.hid HR2.out.len1
  have HS1 := Lib.hid (HR2.out.s1 hS.out).out
  have HB0 : Hid (Below w.heap.size w (w.alloc (.cells #[.string x, .int .u16 k, .int .u16 l, .int .u32 t, .slice A1 n1 c1, .slice A2 n2 c2, .slice A3 n3 c3] 49))) := (Below.refl _ _).alloc (Nat.le_refl _) _
  obtain ⟨z1, hz1⟩ : ∃ z, badName x.data.toList = z := ⟨_, rfl⟩
  obtain ⟨z2, hz2⟩ : ∃ z, R.names.any badName = z := ⟨_, rfl⟩
  have hn : namesB R = (!z1 && !z2) := by unfold namesB; rw [← hR.out.name, hz1, hz2]
  have HN := Lib.hid hn
  have HZ1 := Lib.hid hz1
  have HZ2 := Lib.hid hz2
  clear hn hz1 hz2
  cases z1 with
  | true =>
    obtain rfl : 40 = E := by rw [← hE.out, checkE_40 (by rw [HN.out]; rfl)]
    clear hE HN
    go_enter Try.func39, Try.ntmps39
    go_wp2_with fail
    refine (check1_is x true _ hx6 HZ1).mono ?_
    rintro e w' ⟨rfl, rfl⟩
    go_wp2_with fail
    go_ret
    exact ⟨rfl, HB0.out⟩
  | false =>
    cases z2 with
    | true =>
      obtain rfl : 40 = E := by rw [← hE.out, checkE_40 (by rw [HN.out]; rfl)]
      clear hE HN
      go_enter Try.func39, Try.ntmps39
      go_wp2_with fail
      refine (check1_is x false _ hx6 HZ1).mono ?_
      rintro e w' ⟨rfl, rfl⟩
      go_wp2_with fail
      refine (hasNames_is A1 c1 n1 R.names true _ HRD1.out HL1 hm6 HS1 HZ2).mono ?_
      rintro e w' ⟨rfl, rfl⟩
      go_wp2_with fail
      go_ret
      exact ⟨rfl, HB0.out⟩
    | false =>
      have hn : namesB R = true := HN.out
      have hlate : lateB R = decide (2147483647 < t ∧ k ≠ 41) := by unfold lateB; rw [hR.out.ttl, hR.out.kind]
      have HLT := Lib.hid hlate
      obtain ⟨q, hq⟩ : ∃ q, okB R = q := ⟨_, rfl⟩
      have HQ := Lib.hid hq
      have he : E = if q = false then 50 else if decide (2147483647 < t ∧ k ≠ 41) = true then 1 else 0 := by
        rw [← hE.out, ← hlate, ← hq]
        unfold checkE
        rw [if_neg (by rw [hn]; decide)]
      have HE := Lib.hid he
      clear hE HN hn hlate hq he
      go_enter Try.func39, Try.ntmps39
      go_wp2_with fail
      refine (check1_is x false _ hx6 HZ1).mono ?_
      rintro e w' ⟨rfl, rfl⟩
      go_wp2_with fail
      refine (hasNames_is A1 c1 n1 R.names false _ HRD1.out HL1 hm6 HS1 HZ2).mono ?_
      rintro e w' ⟨rfl, rfl⟩
      go_wp2_with fail
      have hgl : w.heap.size < (w.alloc (.cells #[.string x, .int .u16 k, .int .u16 l, .int .u32 t, .slice A1 n1 c1, .slice A2 n2 c2, .slice A3 n3 c3] 49)).heap.size := by simp
      have d1 : (w.alloc (.cells #[.string x, .int .u16 k, .int .u16 l, .int .u32 t, .slice A1 n1 c1, .slice A2 n2 c2, .slice A3 n3 c3] 49)).cell? ⟨w.heap.size, 1, none⟩ = some (.int .u16 k) := by simp
      have d3 : (w.alloc (.cells #[.string x, .int .u16 k, .int .u16 l, .int .u32 t, .slice A1 n1 c1, .slice A2 n2 c2, .slice A3 n3 c3] 49)).cell? ⟨w.heap.size, 3, none⟩ = some (.int .u32 t) := by simp
      refine (shaped_is R x k l t A1 n1 c1 A2 n2 c2 A3 n3 c3 q _ HR2 hS HQ).mono ?_
      rintro e w2 ⟨rfl, hB⟩
      have e1 : w2.cell? ⟨w.heap.size, 1, none⟩ = some (.int .u16 k) := (hB.cell (p := ⟨w.heap.size, 1, none⟩) hgl).trans d1
      have e3 : w2.cell? ⟨w.heap.size, 3, none⟩ = some (.int .u32 t) := (hB.cell (p := ⟨w.heap.size, 3, none⟩) hgl).trans d3
      have HB2 : Hid (Below w.heap.size w w2) := HB0.out.trans (hB.mono HB0.out.size)
      clear hB d1 d3 hgl
      cases q with
      | false =>
        obtain rfl : E = 50 := HE.out
        go_wp2_with fail
        go_ret
        exact ⟨rfl, HB2.out⟩
      | true =>
        by_cases h1 : (2147483647 : Int) < t
        · by_cases h41 : k = 41
          · obtain rfl : E = 0 := by rw [HE.out, if_neg (by decide), if_neg (by rw [decide_eq_false (fun h => h.2 h41)]; decide)]
            have g41 : ((k : Int) != 41) = false := int_neq h41
            clear h41 HE
            go_wp2_with fail
            go_ret
            exact ⟨rfl, HB2.out⟩
          · obtain rfl : E = 1 := by rw [HE.out, if_neg (by decide), if_pos (decide_eq_true ⟨by omega, h41⟩)]
            have g41 : ((k : Int) != 41) = true := int_nne h41
            clear h41 HE
            go_wp2_with fail
            go_ret
            exact ⟨rfl, HB2.out⟩
        · obtain rfl : E = 0 := by rw [HE.out, if_neg (by decide), if_neg (by rw [decide_eq_false (fun h => h1 (by omega))]; decide)]
          clear HE
          go_wp2_with fail
          go_ret
          exact ⟨rfl, HB2.out⟩
end Go.Proofs.Ytihkmdojakalbaa
