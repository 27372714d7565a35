/- Texts of one proof, one behind the other: RefReadSt, RefReadMath, RefReadRow. -/
import Derived.Test.YtihkmdojakalbaaProg
import Derived.Test.YtihkmdojakalbaaReadMessagesProofG1
import Derived.Test.YtihkmdojakalbaaReadMessagesProofG2
import Derived.Test.YtihkmdojakalbaaReadMessagesProofG6
import Derived.Test.YtihkmdojakalbaaReadMessagesProofG12
import Derived.Test.YtihkmdojakalbaaReadMessagesProofG5
import Derived.Test.YtihkmdojakalbaaReadMessagesProofG7
import Derived.Test.YtihkmdojakalbaaReadMessagesProofG16
import Derived.Test.YtihkmdojakalbaaReadMessagesProofG11
import Derived.Test.YtihkmdojakalbaaReadMessagesProofG3
import Derived.WalkKit
import Derived.Lib.Hide
import Derived.Laws.Rows
import Derived.Outline
import Derived.IntWalk
import Derived.WalkSpells
import Derived.WalkLawsBesides
import Derived.RegionTactic
import Derived.ChangeAlike

/- The document's Read: the state within; texts that are too long, whose head is cut off, or tells too many. For texts of at most 10^6 bytes. -/
namespace Go.Proofs.Ytihkmdojakalbaa
open Go.RowKit NumMath NmMath Bytes MsgMath RecMath StMath DatMath

/-- The state within: the result's block G, the state's behind it, the message's behind that. -/
structure DrSt (w wr : World) (G : Nat) (s : ByteArray) (st : St) (c : Array Value) : Prop where
  eG : w.heap.size = G
  lt : G + 2 < wr.heap.size
  rd : StAt wr (G + 1) s st
  b0 : wr.heap[G]? = some (.cells #[.int .u16 0, .int .u16 0, .slice none 0 0, .slice none 0 0, .slice none 0 0, .slice none 0 0] 27 (0, 0))
  b2 : wr.heap[G + 2]? = some (.cells c 27 (0, 0))
  bl : Below G w wr
section
variable {w wr w' w0 : World} {G : Nat} {s : ByteArray} {st st' : St} {c : Array Value}
theorem DrSt.sz (h : DrSt w wr G s st c) : G ≤ wr.heap.size := by have := h.lt; omega
theorem DrSt.call (h : DrSt w wr G s st c) (hd : StAt w' (G + 1) s st') (hg : wr.grownBy w' (some (G + 1))) : DrSt w w' G s st' c :=
  ⟨h.eG, Nat.lt_of_lt_of_le h.lt hg.size, hd, (grown_block hg (by have := h.lt; omega) (by omega)).trans h.b0, (grown_block hg h.lt (by omega)).trans h.b2, below_of_grown h.bl hg (by omega) h.sz⟩
theorem DrSt.set (h : DrSt w wr G s st c) (i : Nat) (v : Value) : DrSt w (wr.setCell ⟨G + 2, i, none⟩ v) G s st (c.setIfInBounds i v) := by
  refine ⟨h.eG, by simpa [World.setCell] using h.lt, h.rd.far (by simp only; omega) _, ?_, ?_, below_of_grown h.bl (only_setCell (g := G + 2) (grown_refl _ _) (p := ⟨G + 2, i, none⟩) (.inl rfl) v) (by omega) h.sz⟩
  · rw [Below.heap_setCell _ _ _ _ (by simp only; omega)]; exact h.b0
  · simp [World.setCell, Array.getElem?_modify, h.b2]
theorem DrSt.setErr (h : DrSt w wr G s st c) (q : Nat) : DrSt w (wr.setCell ⟨G + 1, 2, none⟩ (.int .i64 q)) G s (st.1, q) c := by
  refine ⟨h.eG, by simpa [World.setCell] using h.lt, h.rd.set2 q, ?_, ?_, below_of_grown h.bl (only_setCell (g := G + 1) (grown_refl _ _) (p := ⟨G + 1, 2, none⟩) (.inl rfl) _) (by omega) h.sz⟩
  · rw [Below.heap_setCell _ _ _ _ (by simp only; omega)]; exact h.b0
  · rw [Below.heap_setCell _ _ _ _ (by simp only; omega)]; exact h.b2
theorem DrSt.drewN (h : DrSt w wr G s st c) (n : Nat) : DrSt w (wr.drewN n) G s st c := ⟨h.eG, h.lt, h.rd, h.b0, h.b2, below_drewN h.bl n⟩
theorem DrSt.drew (h : DrSt w wr G s st c) : DrSt w wr.drew G s st c := ⟨h.eG, h.lt, h.rd, h.b0, h.b2, h.bl.drew⟩
theorem DrSt.alloc (h : DrSt w wr G s st c) (o : Obj) : DrSt w (wr.alloc o) G s st c :=
  ⟨h.eG, by have := h.lt; simp; omega, h.rd.held ((Below.refl _ _).alloc (Nat.le_refl _) _), old_at h.b0, old_at h.b2, h.bl.alloc h.sz o⟩
theorem DrSt.f0 (h : DrSt w wr G s st c) (i : Nat) : wr.frozen? ⟨G, i, none⟩ = false := by simp [World.frozen?, h.b0]
theorem DrSt.f2 (h : DrSt w wr G s st c) (i : Nat) : wr.frozen? ⟨G + 2, i, none⟩ = false := by simp [World.frozen?, h.b2]
/-- Behind an append to a row of one's own. -/
theorem DrSt.row {q size n : Nat} {e : TypeId} {v : Value} {xs : List Value} (h : DrSt w wr G s st c) (hv : wr.ownsRow q e size v n xs) (hq : G ≤ q) (h33 : e ≠ 27) (h64 : e ≠ 60) (hA : Below wr.heap.size wr w0) (hg : w0.grownBy w' v.ownBlock) : DrSt w w' G s st c := by
  have ne : ∀ b, (∃ cs t, wr.heap[b]? = some (.cells cs t (0, 0)) ∧ e ≠ t) → some b ≠ v.ownBlock := fun b hb => by
    obtain ⟨cs, t, hb, ht⟩ := hb
    rcases row_ne hb hv ht with x | x
    · rw [x]; exact fun y => by cases y
    · exact fun y => x y.symm
  have keep : ∀ b, b < wr.heap.size → some b ≠ v.ownBlock → w'.heap[b]? = wr.heap[b]? := fun b hl hb => (hg.block b (Nat.lt_of_lt_of_le hl hA.size) hb).trans (hA.block b hl)
  have hl := h.lt
  refine ⟨h.eG, Nat.lt_of_lt_of_le h.lt (Nat.le_trans hA.size hg.size), (keep (G + 1) (by omega) (ne _ ⟨_, _, h.rd, h64⟩)).trans h.rd, (keep G (by omega) (ne _ ⟨_, _, h.b0, h33⟩)).trans h.b0, (keep (G + 2) hl (ne _ ⟨_, _, h.b2, h33⟩)).trans h.b2, ?_⟩
  exact (h.bl.trans (hA.mono h.sz)).grown hg (Nat.le_trans h.sz hA.size) (fun k hk => Nat.le_trans hq (hv.lt k hk).1)
end
theorem drSt_start (w : World) (s : ByteArray) : DrSt w (((w.alloc (.cells #[.int .u16 0, .int .u16 0, .slice none 0 0, .slice none 0 0, .slice none 0 0, .slice none 0 0] 27)).alloc (.cells #[.string s, .int .i64 0, .int .i64 0] 60)).alloc (.cells #[.int .u16 0, .int .u16 0, .slice none 0 0, .slice none 0 0, .slice none 0 0, .slice none 0 0] 27)) w.heap.size s (0, 0) #[.int .u16 0, .int .u16 0, .slice none 0 0, .slice none 0 0, .slice none 0 0, .slice none 0 0] :=
  ⟨rfl, by simp, old_at (new_at _ _ _ (by simp)), old_at (old_at (new_at _ _ _ rfl)), new_at _ _ _ (by simp), (((Below.refl _ _).alloc (Nat.le_refl _) _).alloc (by simp) _).alloc (by simp; omega) _⟩

set_option maxHeartbeats 2000000 in
set_option maxRecDepth 100000 in
theorem refRead_long (s : ByteArray) (w : World) (hs : s.size ≤ 1000000) (hl : 65535 < s.size) :
    Calls Try.prog 11 #[.string s] w (ReadRet w (.error 3)) := by
  have hli : (65535 : Int) < s.size := by omega
  go_enter Try.func11, Try.ntmps11
  go_wp2_with fail
  refine bodyPost_ret (v := .tuple #[.agg #[.int .u16 0, .int .u16 0, .slice none 0 0, .slice none 0 0, .slice none 0 0, .slice none 0 0], .int .i64 3]) (by simp [results, Try.results11, go_sem]) rfl ⟨rfl, ?_⟩
  have h0 : Below w.heap.size w (w.alloc (.cells #[.int .u16 0, .int .u16 0, .slice none 0 0, .slice none 0 0, .slice none 0 0, .slice none 0 0] 27)) := (Below.refl _ _).alloc (Nat.le_refl _) _
  first | exact h0 | exact (((((h0.setCell (by simp) _).setCell (by simp) _).setCell (by simp) _).setCell (by simp) _).setCell (by simp) _).setCell (by simp) _
end Go.Proofs.Ytihkmdojakalbaa

/- The document's message by its head's numbers, with an error that is kept. No condition. -/
namespace Go.Proofs.Ytihkmdojakalbaa
open Go Bytes NameMath NmMath RecMath MsgMath StMath DatMath

def re4 (l : List UInt8) (id fl : Nat) (qs : List Qn) (an ns ad : List Rec) (n p : Nat) : Except Nat Msg :=
  match more (recE l) ad n p with
  | .error k => .error k
  | .ok (ad, q) => if q < l.length then .error 7 else .ok ⟨id, fl, qs, an, ns, ad⟩
def re3 (l : List UInt8) (id fl d : Nat) (qs : List Qn) (an ns : List Rec) (n p : Nat) : Except Nat Msg :=
  match more (recE l) ns n p with
  | .error k => .error k
  | .ok (ns, q) => re4 l id fl qs an ns [] d q
def re2 (l : List UInt8) (id fl c d : Nat) (qs : List Qn) (an : List Rec) (n p : Nat) : Except Nat Msg :=
  match more (recE l) an n p with
  | .error k => .error k
  | .ok (an, q) => re3 l id fl d qs an [] c q
def re1 (l : List UInt8) (id fl b c d : Nat) (qs : List Qn) (n p : Nat) : Except Nat Msg :=
  match more (qn l) qs n p with
  | .error k => .error k
  | .ok (qs, q) => re2 l id fl c d qs [] b q
section
variable {l : List UInt8} {id fl b c d n p q k : Nat} {qs : List Qn} {an ns ad : List Rec} {Q : Qn} {A : Rec} {R : Except Nat Msg} {st st' : St}
theorem msg4_re : msg4 (recE l) l qs an ns p = re4 l (nu l 0 2) (nu l 2 2) qs an ns [] (nu l 10 2) p := by
  unfold msg4 re4
  rw [more_none]
  cases many (recE l) (nu l 10 2) p <;> rfl
theorem msg3_re : msg3 (recE l) l qs an p = re3 l (nu l 0 2) (nu l 2 2) (nu l 10 2) qs an [] (nu l 8 2) p := by
  unfold msg3 re3
  rw [more_none]
  cases many (recE l) (nu l 8 2) p with
  | error k => rfl
  | ok x => exact msg4_re
theorem msg2_re : msg2 (recE l) l qs p = re2 l (nu l 0 2) (nu l 2 2) (nu l 8 2) (nu l 10 2) qs [] (nu l 6 2) p := by
  unfold msg2 re2
  rw [more_none]
  cases many (recE l) (nu l 6 2) p with
  | error k => rfl
  | ok x => exact msg3_re
theorem msg_re (h : 12 ≤ l.length) (h2 : nu l 4 2 + nu l 6 2 + nu l 8 2 + nu l 10 2 ≤ 256) : msg (recE l) l = re1 l (nu l 0 2) (nu l 2 2) (nu l 6 2) (nu l 8 2) (nu l 10 2) [] (nu l 4 2) 12 := by
  rw [msg_some h h2]
  unfold msg1 re1
  rw [more_none]
  cases many (qn l) (nu l 4 2) 12 with
  | error k => rfl
  | ok x => exact msg2_re
/-- What is still to come, behind a state. -/
def Pend (st : St) (X : Nat → Except Nat Msg) (R : Except Nat Msg) : Prop := (st.2 = 0 → X st.1 = R ∧ st.1 ≤ 1000000) ∧ (st.2 ≠ 0 → R = .error st.2)
theorem Pend.bad (X X' : Nat → Except Nat Msg) (h : Pend st X R) (he : st.2 ≠ 0) : Pend st X' R := ⟨fun e => absurd e he, h.2⟩
theorem re1_end (h : Pend (p, 0) (re1 l id fl b c d qs 0) R) : Pend (p, 0) (re2 l id fl c d qs [] b) R := ⟨fun _ => by have := h.1 rfl; unfold re1 at this; rw [more_end] at this; exact this, fun e => absurd rfl e⟩
theorem re2_end (h : Pend (p, 0) (re2 l id fl c d qs an 0) R) : Pend (p, 0) (re3 l id fl d qs an [] c) R := ⟨fun _ => by have := h.1 rfl; unfold re2 at this; rw [more_end] at this; exact this, fun e => absurd rfl e⟩
theorem re3_end (h : Pend (p, 0) (re3 l id fl d qs an ns 0) R) : Pend (p, 0) (re4 l id fl qs an ns [] d) R := ⟨fun _ => by have := h.1 rfl; unfold re3 at this; rw [more_end] at this; exact this, fun e => absurd rfl e⟩
theorem re4_end (h : Pend (p, 0) (re4 l id fl qs an ns ad 0) R) : R = if p < l.length then .error 7 else .ok ⟨id, fl, qs, an, ns, ad⟩ := by have := (h.1 rfl).1; unfold re4 at this; rw [more_end] at this; exact this.symm
theorem re1_step (hl : l.length ≤ 1000000) (h : Pend (p, 0) (re1 l id fl b c d qs (n + 1)) R) (hq : qnS l (p, 0) = (Q, st')) : Pend st' (re1 l id fl b c d (qs ++ [Q]) n) R := by
  have h0 := (h.1 rfl).1
  have hi := qnS_is (l := l) (p := p)
  cases hx : qn l p with
  | error k =>
    have := hi.2 k hx
    rw [hq] at this
    simp only at this
    refine ⟨fun e => absurd (this.symm.trans e) (qn_ne hx), fun _ => ?_⟩
    rw [← h0]
    unfold re1
    rw [more_err hx, this]
  | ok x =>
    obtain ⟨Q', q⟩ := x
    have := hi.1 Q' q hx
    rw [hq] at this
    injection this with e1 e2
    subst e1 e2
    refine ⟨fun _ => ⟨?_, by have := qn_next hx; simp only; omega⟩, fun e => absurd rfl e⟩
    rw [← h0]
    unfold re1
    rw [more_one hx]
theorem rec_step (hl : l.length ≤ 1000000) (hm : ∀ p A q, recE l p = .ok (A, q) → q ≤ l.length) (X : List Rec → Nat → Nat → Except Nat Msg) (Y : List Rec → Nat → Except Nat Msg)
    (hX : ∀ L n p, X L n p = match more (recE l) L n p with | .error k => .error k | .ok (L, q) => Y L q) (h : Pend (p, 0) (X an (n + 1)) R) (hq : recS l (p, 0) = (A, st')) : Pend st' (X (an ++ [A]) n) R := by
  have h0 := (h.1 rfl).1
  have hi := recS_is (l := l) (p := p)
  cases hx : recE l p with
  | error k =>
    have := hi.2 k hx
    rw [hq] at this
    simp only at this
    refine ⟨fun e => absurd (this.symm.trans e) (recE_ne hx), fun _ => ?_⟩
    rw [← h0, hX, more_err hx, this]
  | ok x =>
    obtain ⟨Q', q⟩ := x
    have := hi.1 Q' q hx
    rw [hq] at this
    injection this with e1 e2
    subst e1 e2
    refine ⟨fun _ => ⟨?_, by have := hm _ _ _ hx; simp only; omega⟩, fun e => absurd rfl e⟩
    rw [← h0, hX, hX, more_one hx]
theorem re2_step (hl : l.length ≤ 1000000) (hm : ∀ p A q, recE l p = .ok (A, q) → q ≤ l.length) (h : Pend (p, 0) (re2 l id fl c d qs an (n + 1)) R) (hq : recS l (p, 0) = (A, st')) : Pend st' (re2 l id fl c d qs (an ++ [A]) n) R :=
  rec_step hl hm (re2 l id fl c d qs) (fun an q => re3 l id fl d qs an [] c q) (fun _ _ _ => rfl) h hq
theorem re3_step (hl : l.length ≤ 1000000) (hm : ∀ p A q, recE l p = .ok (A, q) → q ≤ l.length) (h : Pend (p, 0) (re3 l id fl d qs an ns (n + 1)) R) (hq : recS l (p, 0) = (A, st')) : Pend st' (re3 l id fl d qs an (ns ++ [A]) n) R :=
  rec_step hl hm (re3 l id fl d qs an) (fun ns q => re4 l id fl qs an ns [] d q) (fun _ _ _ => rfl) h hq
theorem re4_step (hl : l.length ≤ 1000000) (hm : ∀ p A q, recE l p = .ok (A, q) → q ≤ l.length) (h : Pend (p, 0) (re4 l id fl qs an ns ad (n + 1)) R) (hq : recS l (p, 0) = (A, st')) : Pend st' (re4 l id fl qs an ns (ad ++ [A]) n) R :=
  rec_step hl hm (re4 l id fl qs an ns) (fun ad q => if q < l.length then .error 7 else .ok ⟨id, fl, qs, an, ns, ad⟩) (fun _ _ _ => rfl) h hq
end
/-- The head: whatever its numbers are. -/
theorem head_pend {l : List UInt8} {R : Except Nat Msg} {id fl a b c d : Nat} {st1 st2 st3 st4 st5 st6 : St} (hR : msg (recE l) l = R) (h1 : numS l 2 (0, 0) = (id, st1)) (h2 : numS l 2 st1 = (fl, st2)) (h3 : numS l 2 st2 = (a, st3)) (h4 : numS l 2 st3 = (b, st4)) (h5 : numS l 2 st4 = (c, st5)) (h6 : numS l 2 st5 = (d, st6)) :
    (st6.2 ≠ 0 ∧ R = .error st6.2) ∨ (st6 = (12, 0) ∧ 12 ≤ l.length ∧ 256 < a + b + c + d ∧ R = .error 6) ∨ (st6 = (12, 0) ∧ a + b + c + d ≤ 256 ∧ re1 l id fl b c d [] a 12 = R) := by
  by_cases hl : l.length < 12
  · have := six_short hl
    rw [h1, h2, h3, h4, h5, h6] at this
    simp only at this
    refine .inl ⟨by omega, ?_⟩
    rw [← hR, this, msg_short hl]
  · right
    rw [numS_ok (show 0 + 2 ≤ l.length by omega)] at h1
    injection h1 with a1 b1
    subst a1 b1
    rw [numS_ok (show 0 + 2 + 2 ≤ l.length by omega)] at h2
    injection h2 with a1 b1
    subst a1 b1
    rw [numS_ok (show 0 + 2 + 2 + 2 ≤ l.length by omega)] at h3
    injection h3 with a1 b1
    subst a1 b1
    rw [numS_ok (show 0 + 2 + 2 + 2 + 2 ≤ l.length by omega)] at h4
    injection h4 with a1 b1
    subst a1 b1
    rw [numS_ok (show 0 + 2 + 2 + 2 + 2 + 2 ≤ l.length by omega)] at h5
    injection h5 with a1 b1
    subst a1 b1
    rw [numS_ok (show 0 + 2 + 2 + 2 + 2 + 2 + 2 ≤ l.length by omega)] at h6
    injection h6 with a1 b1
    subst a1 b1
    by_cases hs : nu l 4 2 + nu l 6 2 + nu l 8 2 + nu l 10 2 ≤ 256
    · refine .inr ⟨rfl, hs, ?_⟩
      rw [← hR, msg_re (by omega) hs]
    · refine .inl ⟨rfl, by omega, by simpa using hs, ?_⟩
      rw [← hR, msg_full (by omega) (by omega)]
end Go.Proofs.Ytihkmdojakalbaa

/- Rows of records beside the document's message that is being read. No condition. -/
namespace Go.Proofs.Ytihkmdojakalbaa
open Go Go.RowKit Bytes Strs Nums MsgMath RecMath StMath

/-- A call of a Go function as a step of a region that draws. -/
theorem step_calls {P : Program} {ops : Array Oper} {o : Oper} {a : Act} {w : World} {K : Act → World → Prop} {Q : Exit → Act → World → Prop} {E : Prop} (hgd : o.guard = none) (f : FuncId) (args : Array Value) (hrun : (execOp a.eval o).run P w = .ok (.enter f args) w)
    (post : Ending → World → Prop) (hc : Calls P f args w post) (h : ∀ e w', post e w' → ∃ v, e = .returned v ∧ K (a.put o.dst v) w') : if Region.wanted o (yielded ops a.tmps) = true then Oper.wp P o a w K Q else E := by
  have hw : Region.wanted o (yielded ops a.tmps) = true := by simp [Region.wanted, hgd]
  rw [if_pos hw]
  unfold Oper.wp
  rw [hrun, Oper.upon_enter]
  refine hc.mono fun e w' hp => ?_
  obtain ⟨v, rfl, hk⟩ := h e w' hp
  exact hk
/-- Within Read: the questions' row, the rows that are done, the row that is being appended to (from block gk on). -/
structure RecLoop (w wr : World) (G gk : Nat) (s : ByteArray) (st : St) (c : Array Value) (vq : Value) (qs : List Qn) (O : List (Value × List Rec)) (v : Value) (L : List Rec) : Prop where
  d : DrSt w wr G s st c
  q : wr.ownsRow G 44 3 vq qs.length (qnCs qs)
  o : ∀ z ∈ O, RowRecs wr G z.1 z.2 ∧ ∀ b, z.1.ownBlock = some b → b < gk
  r : RowRecs wr gk v L
  gl : G ≤ gk
  sz : gk ≤ wr.heap.size
section
variable {w wr w' w1 w2 : World} {G gk i : Nat} {s : ByteArray} {st st' : St} {c c' : Array Value} {vq v v' v1 v2 v3 : Value} {qs : List Qn} {O : List (Value × List Rec)} {L : List Rec} {R : Rec}
theorem RecLoop.call (h : RecLoop w wr G gk s st c vq qs O v L) (hd : StAt w' (G + 1) s st') (hg : wr.grownBy w' (some (G + 1))) : RecLoop w w' G gk s st' c vq qs O v L := by
  have hb : wr.heap[G + 1]? = some (.cells #[.string s, .int .i64 st.1, .int .i64 st.2] 60 (0, 0)) := h.d.rd
  exact ⟨h.d.call hd hg, row_st h.d.rd h.q hg (by decide), fun z hz => ⟨(h.o z hz).1.block hb hg (by decide) (by decide) (by decide), (h.o z hz).2⟩, h.r.block hb hg (by decide) (by decide) (by decide), h.gl, Nat.le_trans h.sz hg.size⟩
theorem RecLoop.drew (h : RecLoop w wr G gk s st c vq qs O v L) : RecLoop w wr.drew G gk s st c vq qs O v L := by
  have hB : Below wr.heap.size wr wr.drew := (Below.refl _ _).drew
  exact ⟨h.d.drew, row_below h.q hB, fun z hz => ⟨(h.o z hz).1.below hB, (h.o z hz).2⟩, h.r.below hB, h.gl, h.sz⟩
/-- A store into the message's block. -/
theorem RecLoop.set (h : RecLoop w wr G gk s st c vq qs O v L) (hc : c.setIfInBounds i v' = c') : RecLoop w (wr.setCell ⟨G + 2, i, none⟩ v') G gk s st c' vq qs O v L := by
  have hg := only_setCell (grown_refl wr (some (G + 2))) (p := ⟨G + 2, i, none⟩) (.inl rfl) v'
  have hb := h.d.b2
  subst hc
  exact ⟨h.d.set i v', h.q.kept hg (row_ne hb h.q (by decide)), fun z hz => ⟨(h.o z hz).1.block hb hg (by decide) (by decide) (by decide), (h.o z hz).2⟩, h.r.block hb hg (by decide) (by decide) (by decide), h.gl, Nat.le_trans h.sz hg.size⟩
theorem RecLoop.setErr (h : RecLoop w wr G gk s st c vq qs O v L) (q : Nat) : RecLoop w (wr.setCell ⟨G + 1, 2, none⟩ (.int .i64 q)) G gk s (st.1, q) c vq qs O v L := by
  have hg := only_setCell (grown_refl wr (some (G + 1))) (p := ⟨G + 1, 2, none⟩) (.inl rfl) (.int .i64 (q : Int))
  exact h.call (h.d.rd.set2 q) hg
/-- One more record. -/
theorem RecLoop.snoc {o : Obj} (h : RecLoop w w1 G gk s st c vq qs O v L) (hr : RecIn w1 gk R v1 v2 v3) (Z : List RecZ) (hZ1 : Z.map (·.1) = L) (hZ2 : w1.ownsRow gk 49 7 v L.length (recCs Z)) (hZ3 : ∀ z ∈ Z, RecIn w1 gk z.1 z.2.1 z.2.2.1 z.2.2.2)
    (hown : w2.ownsRow gk 49 7 v' (L.length + 1) (recCs Z ++ recV R v1 v2 v3)) (hgrow : (w1.alloc o).grownBy w2 v.ownBlock) : RecLoop w w2 G gk s st c vq qs O v' (L ++ [R]) := by
  have hA : Below w1.heap.size w1 (w1.alloc o) := (Below.refl _ _).alloc (Nat.le_refl _) _
  refine ⟨h.d.row hZ2 h.gl (by decide) (by decide) hA hgrow, row_row h.q hZ2 (by decide) hA hgrow, fun z hz => ⟨?_, (h.o z hz).2⟩, h.r.snoc hr Z hZ1 hZ2 hZ3 hown hgrow, h.gl, Nat.le_trans h.sz (Nat.le_trans hA.size hgrow.size)⟩
  obtain ⟨⟨Y, y1, y2, y3⟩, hlt⟩ := h.o z hz
  refine ⟨Y, y1, (row_below y2 hA).kept hgrow ?_, fun y hy => (y3 y hy).row hZ2 hA hgrow (by decide) (by decide)⟩
  cases hz1 : z.1.ownBlock with
  | none => exact .inl rfl
  | some b =>
    refine .inr fun e => ?_
    have h1 := (hZ2.lt b e.symm).1
    have h2 := hlt b hz1
    omega
/-- The row is done; the next one. -/
theorem RecLoop.next (h : RecLoop w wr G gk s st c vq qs O v L) : RecLoop w wr G wr.heap.size s st c vq qs (O ++ [(v, L)]) (.slice none 0 0) [] := by
  refine ⟨h.d, h.q, fun z hz => ?_, RowRecs.nil _ _, h.d.sz, Nat.le_refl _⟩
  rcases List.mem_append.1 hz with hz | hz
  · exact ⟨(h.o z hz).1, fun b hb => Nat.lt_of_lt_of_le ((h.o z hz).2 b hb) h.sz⟩
  · rw [List.mem_singleton] at hz
    subst hz
    refine ⟨h.r.low h.gl, fun b hb => ?_⟩
    obtain ⟨Z, _, h2, _⟩ := h.r
    exact (h2.lt b hb).2
theorem recLoop_start (d : DrSt w wr G s st c) (q : wr.ownsRow G 44 3 vq qs.length (qnCs qs)) : RecLoop w wr G G s st c vq qs [] (.slice none 0 0) [] :=
  ⟨d, q, fun z hz => (by cases hz), RowRecs.nil _ _, Nat.le_refl _, d.sz⟩
theorem RecLoop.slice (h : RecLoop w wr G gk s st c vq qs O v L) : ∃ A cp, v = .slice A L.length cp := by
  obtain ⟨Z, h1, h2, _⟩ := h.r
  rcases h2.2 with ⟨rfl, h0⟩ | ⟨b, cap, cur, rfl, _⟩
  · exact ⟨none, 0, by rw [h0]⟩
  · exact ⟨_, _, rfl⟩
/-- A block of the call's own, beside. -/
theorem DrSt.setNew (h : DrSt w wr G s st c) {B : Nat} (hB : G + 2 < B) (i : Nat) (v : Value) : DrSt w (wr.setCell ⟨B, i, none⟩ v) G s st c := by
  refine ⟨h.eG, by simpa [World.setCell] using h.lt, h.rd.far (by simp only; omega) _, ?_, ?_, below_of_grown h.bl (only_setCell (g := B) (grown_refl _ _) (p := ⟨B, i, none⟩) (.inl rfl) v) (by omega) h.sz⟩
  · rw [Below.heap_setCell _ _ _ _ (by simp only; omega)]; exact h.b0
  · rw [Below.heap_setCell _ _ _ _ (by simp only; omega)]; exact h.b2
end
end Go.Proofs.Ytihkmdojakalbaa
