/- A law for a range over a function: each round keeps all that has been laid since the loop began, so that the function may itself range over another one. No condition. -/
import Derived.Test.YtamgnbjdeoklbaaProg
import Derived.RangeFuncNested
import Derived.RangeFuncBound
import Derived.RangeFuncCalls
import Derived.RangeFuncLeaves
import Derived.Below
import Derived.OrdersIn
namespace Go.Proofs.Ytamgnbjdeoklbaa.Tb
open Go Go.RowKit

/-- What lies at these places, or from M on, lies on. -/
structure KU (Pr : Nat → Prop) (M : Nat) (W W' : World) : Prop where
  size : W.heap.size ≤ W'.heap.size
  same : ∀ k, k < W.heap.size → (Pr k ∨ M ≤ k) → W'.heap[k]? = W.heap[k]?
section
variable {Pr : Nat → Prop} {M M' : Nat} {W W1 W2 : World}
theorem KU.refl (Pr : Nat → Prop) (M : Nat) (W : World) : KU Pr M W W := ⟨Nat.le_refl _, fun _ _ _ => rfl⟩
theorem KU.trans (h : KU Pr M W W1) (k : KU Pr M W1 W2) : KU Pr M W W2 := ⟨Nat.le_trans h.size k.size, fun i hi hp => (k.same i (Nat.lt_of_lt_of_le hi h.size) hp).trans (h.same i hi hp)⟩
theorem KU.up (h : KU Pr M W W1) (hM : M ≤ M') : KU Pr M' W W1 := ⟨h.size, fun i hi hp => h.same i hi (hp.imp id (fun h => Nat.le_trans hM h))⟩
theorem KU.alloc (h : KU Pr M W W1) (o : Obj) : KU Pr M W (W1.alloc o) := ⟨Nat.le_trans h.size (by simp), fun i hi hp => (Below.heap_alloc W1 o i (Nat.lt_of_lt_of_le hi h.size)).trans (h.same i hi hp)⟩
theorem KU.drew (h : KU Pr M W W1) : KU Pr M W W1.drew := ⟨h.size, h.same⟩
theorem KU.setCell (h : KU Pr M W W1) {p : Addr} (hp : ¬ Pr p.block) (hm : p.block < M) (u : Value) : KU Pr M W (W1.setCell p u) :=
  ⟨Nat.le_trans h.size (by simp), fun i hi hq => (Below.heap_setCell W1 p u i (fun e => by subst e; rcases hq with h | h; exact hp h; omega)).trans (h.same i hi hq)⟩
theorem KU.setNew (h : KU Pr M W W1) {p : Addr} (hm : W.heap.size ≤ p.block) (u : Value) : KU Pr M W (W1.setCell p u) :=
  ⟨Nat.le_trans h.size (by simp), fun i hi hq => (Below.heap_setCell W1 p u i (by omega)).trans (h.same i hi hq)⟩
theorem KU.put {l : Nat} {o : Obj} (hp : ¬ Pr l) (hm : l < M) : KU Pr M W (W.putObj l o) := ⟨by simp, fun i _ hq => World.putObj_heap_other (fun e => by subst e; rcases hq with h | h; exact hp h; omega)⟩
theorem below_put {B l : Nat} {o : Obj} (hl : B ≤ l) : Below B W (W.putObj l o) := ⟨rfl, rfl, rfl, by simp, fun k hk => World.putObj_heap_other (by omega)⟩
end
/-- In what ways a round's body may be left. -/
def ownU {α : Type} (Pr : Nat → Prop) (B : Nat) (I : List α → World → Prop) (Ix : Code → List α → World → Prop) (xs : List α) (W : World) : Exit → Act → World → Prop
  | .normal, _, W' => KU Pr B W W' ∧ I xs W'
  | .ret, _, W' => KU Pr B W W' ∧ Ix .ret xs W'
  | .exit id, _, W' => KU Pr B W W' ∧ Ix (.exit id) xs W'
  | .goto t, _, W' => KU Pr B W W' ∧ Ix (.goto t) xs W'
  | .panic _, _, _ => False
  | .outgrown, _, _ => False
/-- What holds of the function that is ranged over, in the world in which the loop begins. -/
def SeqU {α : Type} (P : Program) (gf : Nat) (rb lb : Array Value) (encs : α → Array Value) (Pr : Nat → Prop) (S Sp : List α → Prop) (N : Nat) (w : World) : Prop :=
  ∀ (n : Nat) (J Jx : List α → World → Prop) (W : World), Below w.heap.size w W → W.heap.size = w.heap.size + 2 →
    (∀ s W W', J s W → Below (w.heap.size + 2) W W' → J s W') → (∀ s W W', Jx s W → Below (w.heap.size + 2) W W' → Jx s W') →
    (∀ pre x W1, J pre W1 → pre.length < N → YieldAt Fence.wide (n - 1) P (w.heap.size + 1) (encs x) W1 fun e W' =>
      (e = .returned (.bool true) ∧ J (pre ++ [x]) W' ∧ KU Pr (w.heap.size + 2) W1 W') ∨ (e = .returned (.bool false) ∧ Jx (pre ++ [x]) W' ∧ KU Pr (w.heap.size + 2) W1 W')) →
    J [] W →
    CallsIn Fence.wide n P gf (rb ++ #[.func (.yield (w.heap.size + 1)) #[] #[]] ++ lb) W fun e W' => (∃ v, e = .returned v) ∧ ((∃ xs, S xs ∧ J xs W') ∨ (∃ pre, Sp pre ∧ Jx pre W'))
theorem yield_any {m m' : Nat} {P : Program} {l : Nat} {args : Array Value} {W : World} {R : Ending → World → Prop} (h : YieldAt Fence.wide m P l args W R) : YieldAt Fence.wide m' P l args W R := by
  obtain ⟨fn, tmps, assign, body, hy, hf, hr⟩ := h
  exact ⟨fn, tmps, assign, body, hy, hf, fun c cs _ => hr c cs (room_wide _)⟩

theorem round_in {F : Fence} {m : Nat} {P : Program} {l : Nat} {f : FuncId} {tmps : Array Value} {assign body : Code} {W : World} {R : Ending → World → Prop} (l' : Nat) (h : RoundIn F m P l f tmps assign body W R) : RoundIn (F.inRound l') m P l f tmps assign body W R := h

def noDefer (o : Oper) : Bool := match o.op with
  | .defer _ => false
  | _ => true
theorem noDefer_spec {o : Oper} (h : noDefer o = true) : ∀ c, o.op ≠ .defer c := fun c e => by unfold noDefer at h; rw [e] at h; cases h
/-- A region without deferred calls runs in a round as it does elsewhere. -/
theorem any_round {F : Fence} {n : Nat} {P : Program} {md : Region.Mode} {ops : Array Oper} {Q : Exit → Act → World → Prop} (l : Nat) (hro : F.round = none) (hd : ops.all noDefer = true) :
    ∀ (fuel : Nat) (listed : Array Bool) (a : Act) (w : World), wpAnyIn F n P md ops Q fuel listed a w → wpAnyIn (F.inRound l) n P md ops Q fuel listed a w
  | 0, _, _, _, h => h
  | fuel + 1, listed, a, w, h => ⟨h.1, fun i hi => by
    have h2 := wpOpIn_mono (fun a w => any_round l hro hd fuel (listed.setIfInBounds i true) a w) (h.2 i hi)
    unfold wpOpIn at h2 ⊢
    cases ho : ops[i]? with
    | none => rw [ho] at h2; exact h2
    | some o =>
      rw [ho] at h2
      have hnd : ∀ c, o.op ≠ .defer c := noDefer_spec (Array.all_eq_true'.1 hd o (Array.mem_of_getElem? ho))
      simp only at h2 ⊢
      split
      · rename_i hw
        simp only [hw, if_true] at h2
        unfold Oper.wpIn at h2 ⊢
        refine ⟨h2.1, ?_⟩
        have h3 := h2.2
        rw [hro, Oper.semAt_none] at h3
        rw [Oper.semAt_eq _ _ _ hnd]
        generalize (execOp a.eval o).run P w = r at h3 ⊢
        cases r with
        | ok x w' =>
          cases x with
          | enter f args => exact ⟨h3.1, CallsIn.inRound l h3.2⟩
          | row row args => exact h3
          | round l2 f tmps assign body => exact ⟨h3.1, round_in l h3.2⟩
          | value v => exact h3
          | skip => exact h3
          | defer d => exact h3
          | _ => exact h3
        | halt x w' => cases x <;> exact h3
      · rename_i hw
        simp only [hw] at h2
        exact h2⟩

theorem range_own {α : Type} {P : Program} {n : Nat} {g : Operand} {ps : Array Tmp} {assign body : Code} {Q : Exit → Act → World → Prop} {a : Act} {w : World}
    {gf : Nat} {rb lb : Array Value} (hg : a.eval g = .func (.func gf) rb lb) (eg : ∀ args w, (callFunc gf args).run P w = .ok (.enter gf args) w)
    {encs : α → Array Value} {Pr : Nat → Prop} {S Sp : List α → Prop} {N : Nat} (hseq : SeqU P gf rb lb encs Pr S Sp N w) (hPr : ∀ k, Pr k → k < w.heap.size) (hps : ∀ x, (encs x).size = ps.size)
    (I : List α → World → Prop) (Ix : Code → List α → World → Prop) (hI : ∀ s W W', I s W → Below w.heap.size W W' → I s W') (hIx : ∀ c s W W', Ix c s W → Below w.heap.size W W' → Ix c s W') (h0 : I [] w)
    (Ax : α → Act → World → Prop) (hAx : ∀ x a' W l r o', Ax x a' W → W.heap[l]? = some (.loop r) → Ax x a' (W.putObj l o'))
    (hassign : ∀ (pre : List α) (x : α) (W : World) (K : Act → World → Prop), I pre W → w.heap.size + 2 ≤ W.heap.size → (∀ a' W', KU Pr w.heap.size W W' → I pre W' → Ax x a' W' → K a' W') →
      assign.wpIn (Fence.wide.inRound (w.heap.size + 1)) (n - 1 - 1) P (Exit.then K (fun _ _ _ => False)) { tmps := (ps.zip (encs x)).foldl (fun t (p, v) => t.setIfInBounds p v) a.tmps, defers := [] } W)
    (hbody : ∀ (pre : List α) (x : α) (a' : Act) (W : World), I pre W → Ax x a' W → pre.length < N → w.heap.size + 2 ≤ W.heap.size → body.wpIn (Fence.wide.inRound (w.heap.size + 1)) (n - 1 - 1) P (ownU Pr w.heap.size I Ix (pre ++ [x]) W) a' W)
    (hdone : ∀ (D : Nat) (xs : List α) (W : World), w.heap.size ≤ D → S xs → I xs W → W.heap[D]? = some (.deferred (some [])) → Q .normal { a with defers := { target := .collected D, args := #[] } :: a.defers } W)
    (hstop : ∀ (D : Nat) (c : Code) (pre : List α) (W : World), w.heap.size ≤ D → Sp pre → Ix c pre W → W.heap[D]? = some (.deferred (some [])) → c.wpIn Fence.wide n P Q { a with defers := { target := .collected D, args := #[] } :: a.defers } W) :
    (Code.rangeFunc g ps assign body).wpIn Fence.wide n P Q a w := by
  apply wpIn_rangeFunc
  intro fn _
  let mk (st : LoopState) (pe : Option Code) : Obj := .loop { state := st, pending := pe, fn := fn, tmps := a.tmps, params := ps, assign := assign, body := body, defers := w.heap.size }
  have hr0 : w.heap.size + 1 = (w.alloc (.deferred (some []))).heap.size := by rw [World.size_alloc]
  obtain ⟨V, hV⟩ : ∃ V, (w.alloc (.deferred (some []))).alloc (mk .ready none) = V := ⟨_, rfl⟩
  have hVl : V.heap[w.heap.size + 1]? = some (mk .ready none) := by rw [← hV, hr0]; exact World.alloc_heap_new _ _
  have hVd : V.heap[w.heap.size]? = some (.deferred (some [])) := by rw [← hV]; exact (Below.heap_alloc _ _ _ (by simp)).trans (World.alloc_heap_new w _)
  have hVs : V.heap.size = w.heap.size + 2 := by rw [← hV, World.size_alloc, World.size_alloc]
  have hVb : Below w.heap.size w V := by rw [← hV]; exact ((Below.refl _ w).alloc (Nat.le_refl _) _).alloc (by simp) _
  have hnp : ¬ Pr (w.heap.size + 1) := fun h => by have := hPr _ h; omega
  refine ⟨w.heap.size + 1, [{ target := .collected w.heap.size, args := #[] }], V, { target := .fn (.func gf) lb, args := rb ++ #[.func (.yield (w.heap.size + 1)) #[] #[]] }, V, gf,
    rb ++ #[.func (.yield (w.heap.size + 1)) #[] #[]] ++ lb, V, ?_, ?_, ?_, ?_, fun h => (by cases h), ?_⟩
  · rw [← hV]; exact run_enterLoop_outer _ _ _ _ _
  · simp only [resolve, hg]; simp [go_sem]
  · intro _ _; trivial
  · simp [invoke, go_sem, eg]
  refine (hseq (n - 1) (fun s W => I s W ∧ W.heap[w.heap.size + 1]? = some (mk .ready none) ∧ W.heap[w.heap.size]? = some (.deferred (some [])))
    (fun s W => ∃ c, Ix c s W ∧ W.heap[w.heap.size + 1]? = some (mk .done (some c)) ∧ W.heap[w.heap.size]? = some (.deferred (some [])))
    V hVb hVs (fun s W W' h k => ⟨hI _ _ _ h.1 (k.mono (by omega)), (k.block _ (by omega)).trans h.2.1, (k.block _ (by omega)).trans h.2.2⟩)
    (fun s W W' h k => by obtain ⟨c, h1, h2, h3⟩ := h; exact ⟨c, hIx _ _ _ _ h1 (k.mono (by omega)), (k.block _ (by omega)).trans h2, (k.block _ (by omega)).trans h3⟩) ?_ ⟨hI _ _ _ h0 hVb, hVl, hVd⟩).mono ?_
  · rintro pre x W ⟨hi, hl, hd⟩ hlen
    have hlt : w.heap.size + 1 < W.heap.size := (Array.getElem?_eq_some_iff.1 hl).1
    refine ⟨fn, _, assign, body, run_yield (P := P) (args := encs x) hl (hps x), roundIn_of_wpIn trivial (hassign pre x W _ hi hlt ?_)⟩
    intro a' X hX hiX hax
    have hlX := (hX.same _ hlt (.inr (by omega))).trans hl
    have hdX := (hX.same _ (by omega) (.inr (Nat.le_refl _))).trans hd
    have hltX : w.heap.size + 1 < X.heap.size := Nat.lt_of_lt_of_le hlt hX.size
    obtain ⟨Y, hY⟩ : ∃ Y, X.putObj (w.heap.size + 1) (mk .busy none) = Y := ⟨_, rfl⟩
    have hlY : Y.heap[w.heap.size + 1]? = some (mk .busy none) := by rw [← hY]; exact World.putObj_heap_same hltX
    have hdY : Y.heap[w.heap.size]? = some (.deferred (some [])) := by rw [← hY]; exact (World.putObj_heap_other (by omega)).trans hdX
    have hYs : Y.heap.size = X.heap.size := by rw [← hY, World.putObj_size]
    have hkY : KU Pr (w.heap.size + 2) W Y := by rw [← hY]; exact (hX.up (by omega)).trans (KU.put hnp (by omega))
    refine ⟨Y, by rw [← hY]; exact run_beginRound hlX rfl, ?_⟩
    refine wpIn_mono (hbody pre x a' Y (by rw [← hY]; exact hI _ _ _ hiX (below_put (by omega))) (by rw [← hY]; exact hAx _ _ _ _ _ _ hax hlX) hlen (by omega)) ?_
    have close : ∀ (jump : Option Code) (Z : World), KU Pr w.heap.size Y Z → ∃ Z', (Instr.endRound (w.heap.size + 1) jump).run P Z = .ok (.bool jump.isNone) Z' ∧ Z'.heap[w.heap.size + 1]? = some (mk (if jump.isNone then .ready else .done) jump) ∧
        Z'.heap[w.heap.size]? = some (.deferred (some [])) ∧ Below w.heap.size Z Z' ∧ KU Pr (w.heap.size + 2) W Z' := fun jump Z hZ => by
      have hlZ := (hZ.same _ (by omega) (.inr (by omega))).trans hlY
      have hdZ := (hZ.same _ (by omega) (.inr (Nat.le_refl _))).trans hdY
      exact ⟨_, run_endRound jump hlZ, World.putObj_heap_same (Array.getElem?_eq_some_iff.1 hlZ).1, (World.putObj_heap_other (by omega)).trans hdZ, below_put (by omega), (hkY.trans (hZ.up (by omega))).trans (KU.put hnp (by omega))⟩
    intro e a3 Z hp
    cases e with
    | normal =>
      obtain ⟨Z', hr, hl2, hd2, hb2, hk2⟩ := close none Z hp.1
      exact ⟨_, Z', hr, .inl ⟨rfl, ⟨hI _ _ _ hp.2 hb2, hl2, hd2⟩, hk2⟩⟩
    | ret =>
      obtain ⟨Z', hr, hl2, hd2, hb2, hk2⟩ := close (some .ret) Z hp.1
      exact ⟨_, Z', hr, .inr ⟨rfl, ⟨_, hIx _ _ _ _ hp.2 hb2, hl2, hd2⟩, hk2⟩⟩
    | exit id =>
      obtain ⟨Z', hr, hl2, hd2, hb2, hk2⟩ := close (some (.exit id)) Z hp.1
      exact ⟨_, Z', hr, .inr ⟨rfl, ⟨_, hIx _ _ _ _ hp.2 hb2, hl2, hd2⟩, hk2⟩⟩
    | goto t =>
      obtain ⟨Z', hr, hl2, hd2, hb2, hk2⟩ := close (some (.goto t)) Z hp.1
      exact ⟨_, Z', hr, .inr ⟨rfl, ⟨_, hIx _ _ _ _ hp.2 hb2, hl2, hd2⟩, hk2⟩⟩
    | panic ch => exact hp.elim
    | outgrown => exact hp.elim
  · rintro e Z ⟨⟨v, rfl⟩, (⟨xs, hS, hi, hl, hd⟩ | ⟨pre, hSp, c, hi, hl, hd⟩)⟩
    · exact ⟨none, _, run_endLoop hl (by simp), hdone w.heap.size xs _ (Nat.le_refl _) hS (hI _ _ _ hi (below_put (by omega))) ((World.putObj_heap_other (by omega)).trans hd)⟩
    · exact ⟨some c, _, run_endLoop hl (by simp), hstop w.heap.size c pre _ (Nat.le_refl _) hSp (hIx _ _ _ _ hi (below_put (by omega))) ((World.putObj_heap_other (by omega)).trans hd)⟩
end Go.Proofs.Ytamgnbjdeoklbaa.Tb
