/- Texts of one proof, one behind the other: DatRight, Held, RecAt, DatSmall, RefSameNone. -/
import Derived.Test.YtngbifdenbfepaaReadRightProofG1
import Derived.Test.YtngbifdenbfepaaReadRightProofG2
import Derived.Test.YtngbifdenbfepaaReadRightProofG6
import Derived.Test.YtngbifdenbfepaaProg
import Derived.Test.YtngbifdenbfepaaReadRightProofG5
import Derived.Below
import Derived.WalkKit
import Derived.Lib.Hide
import Derived.Outline
import Derived.IntWalk
import Derived.WalkSpells
import Derived.WalkLawsBesides

/- What is read of any bytes is right: names are names, records have their types' shapes. No program, no condition. -/
namespace Go.Proofs.Ytngbifdenbfepaa.DatMath
open Go Bytes NameMath NmMath RecMath MsgMath StMath

theorem run_wire {l : List UInt8} {E K p : Nat} {o : List UInt8} (hE : E ≤ l.length) : ∀ {o' : List UInt8} {q : Nat} {A : List (List UInt8)}, o = wire A → A.all okLab = true → run l E K p o = .ok (o', q) → ∃ A', A'.all okLab = true ∧ o' = wire A' := by
  fun_induction run l E K p o with
  | case1 p o h h0 => intro o' q A e hA h; injection h with h; injection h with h1 h2; subst h1; exact ⟨A, hA, e⟩
  | case2 => intro o' q A e hA h; cases h
  | case3 => intro o' q A e hA h; cases h
  | case4 p o h h0 h1 h2 h3 ih =>
    intro o' q A e hA hr
    have hl : (cut l (p + 1) (bt l p)).length = bt l p := cut_len (by omega)
    have hof : UInt8.ofNat (cut l (p + 1) (bt l p)).length = l.getD p 0 := by rw [hl]; unfold bt; rw [UInt8.ofNat_toNat]
    refine ih (A := A ++ [cut l (p + 1) (bt l p)]) ?_ ?_ hr
    · rw [wire_snoc, hof, ← cut_head (by omega), e]
    · rw [List.all_append, hA, List.all_cons, okLab_iff.2 (by rw [hl]; omega)]
      rfl
  | case5 => intro o' q A e hA h; cases h
  | case6 => intro o' q A e hA h; cases h
theorem name_of {A : List (List UInt8)} {o : List UInt8} (hA : A.all okLab = true) (e : o = wire A) (h : o.length ≤ 254) : isN (o ++ [0]) = true := by
  subst e
  refine isN_of (L := A) (labels_name hA ?_)
  rw [nameL_len]
  omega
theorem nm_isN {l : List UInt8} {E K p b : Nat} {next : Option Nat} {o : List UInt8} (hE : E ≤ l.length) : ∀ {o' : List UInt8} {n : Nat} {A : List (List UInt8)}, o = wire A → A.all okLab = true → o.length ≤ 254 → nm l E K p b next o = .ok (o', n) → isN o' = true := by
  fun_induction nm l E K p b next o with
  | case1 => intro o' n A e hA ho h; cases h
  | case2 E K p b next o o1 q hr h0 =>
    intro o' n A e hA ho h
    injection h with h
    injection h with h1 h2
    subst h1
    obtain ⟨A', a1, a2⟩ := run_wire hE e hA hr
    exact name_of a1 a2 ((run_ok hr).2.2.2 ho)
  | case3 E K p b next o o1 q hr h0 h1 h2 ih =>
    intro o' n A e hA ho h
    obtain ⟨A', a1, a2⟩ := run_wire hE e hA hr
    exact ih (Nat.le_refl _) a2 a1 ((run_ok hr).2.2.2 ho) h
  | case4 => intro o' n A e hA ho h; cases h
  | case5 => intro o' n A e hA ho h; cases h
theorem nm_name {l : List UInt8} {E K p b n : Nat} {o : List UInt8} (hE : E ≤ l.length) (h : nm l E K p b none [] = .ok (o, n)) : isN o = true :=
  nm_isN hE (A := []) rfl rfl (Nat.zero_le _) h
theorem bare_name {l : List UInt8} {E K p n : Nat} {o : List UInt8} (hE : E ≤ l.length) (h : bare l E K p [] = .ok (o, n)) : isN o = true := by
  unfold bare at h
  split at h
  · cases h
  · next o1 q hr =>
    split at h
    · injection h with h
      injection h with h1 h2
      subst h1
      obtain ⟨A', a1, a2⟩ := run_wire hE (A := []) rfl rfl hr
      exact name_of a1 a2 ((run_ok hr).2.2.2 (Nat.zero_le _))
    · cases h
theorem nameE_name {l : List UInt8} {E kind p n : Nat} {o : List UInt8} (hE : E ≤ l.length) (h : nameE l E kind p = .ok (o, n)) : isN o = true := by
  unfold nameE at h
  split at h
  · cases h
  · split at h
    · exact bare_name hE h
    · exact nm_name hE h
theorem qn_name {l : List UInt8} {p q : Nat} {Q : Qn} (h : qn l p = .ok (Q, q)) : isN Q.name = true := by
  unfold qn at h
  split at h
  · cases h
  · next o q0 hn =>
    split at h
    · injection h with h
      injection h with h1 h2
      subst h1
      exact nm_name (Nat.le_refl _) hn
    · cases h
theorem many_all {α : Type} {f : Nat → Except Nat (α × Nat)} {P : α → Prop} (hf : ∀ p x q, f p = .ok (x, q) → P x) : ∀ {n p q : Nat} {L : List α}, many f n p = .ok (L, q) → ∀ x ∈ L, P x := by
  intro n
  induction n with
  | zero => intro p q L h; injection h with h; injection h with h _; subst h; intro x hx; cases hx
  | succ n ih =>
    intro p q L h
    rw [many] at h
    split at h
    · cases h
    · next x r hx =>
      split at h
      · cases h
      · next xs s hxs =>
        injection h with h
        injection h with h _
        subst h
        intro y hy
        rcases List.mem_cons.1 hy with rfl | hy
        · exact hf _ _ _ hx
        · exact ih hxs y hy
theorem numE_two {l : List UInt8} {E p q x : Nat} (h : numE l E 2 p = .ok (x, q)) : x < 65536 := by
  unfold numE at h
  split at h
  · injection h with h; injection h with h _; subst h; exact nu2_lt _ _
  · cases h
theorem bulk_app (k : Nat) (A B : List (List UInt8)) : bulk k (A ++ B) = bulk k A + bulk k B := by
  induction A with
  | nil => simp [bulk]
  | cons x A ih => rw [List.cons_append, bulk, bulk, ih]; omega
theorem txtE_right {l : List UInt8} {E p q : Nat} {out L : List (List UInt8)} (hE : E ≤ l.length) (hp : p ≤ E) (h : txtE l E out p = .ok (L, q)) (ho : ∀ x ∈ out, x.length ≤ 255) : (∀ x ∈ L, x.length ≤ 255) ∧ bulk 16 L = bulk 16 out + (E - p) ∧ out.length ≤ L.length := by
  revert hp h ho
  fun_induction txtE l E out p with
  | case1 out p h h2 ih =>
    intro hp hr ho
    have hl : (cut l (p + 1) (bt l p)).length = bt l p := cut_len (by omega)
    have hb := bt_lt l p
    obtain ⟨i1, i2, i3⟩ := ih (by omega) hr (fun x hx => by
      rcases List.mem_append.1 hx with hx | hx
      · exact ho x hx
      · rw [List.mem_singleton] at hx; subst hx; omega)
    refine ⟨i1, ?_, ?_⟩
    · rw [i2, bulk_app]
      simp only [bulk, if_true, hl]
      omega
    · rw [List.length_append] at i3; omega
  | case2 => intro hp h; cases h
  | case3 out p h1 =>
    intro hp h ho
    injection h with h
    injection h with h _
    subst h
    exact ⟨ho, by omega, Nat.le_refl _⟩
theorem textsE_right {l : List UInt8} {E kind p q : Nat} {L : List (List UInt8)} (hE : E ≤ l.length) (hp : p ≤ E) (hn : E - p ≤ 65535) (h : textsE l E kind p = .ok (L, q)) : L.any (badText kind) = false ∧ bulk kind L ≤ 65535 ∧ (kind = 16 → 0 < L.length) ∧ (kind ≠ 16 → L.length = 1) := by
  have part : ∀ n, n ≤ 16 → partE l E n p = .ok (L, q) → L = [cut l p n] ∧ (cut l p n).length = n := by
    intro n _ h
    unfold partE at h
    split at h
    · injection h with h; injection h with h _; exact ⟨h.symm, cut_len (by omega)⟩
    · cases h
  unfold textsE at h
  split at h
  · next hk =>
    obtain ⟨rfl, hl⟩ := part 4 (by decide) h
    subst hk
    refine ⟨?_, ?_, fun h => by omega, fun _ => rfl⟩
    · simp [badText, hl]
    · simp [bulk, hl]
  · next hk1 =>
    split at h
    · next hk =>
      obtain ⟨rfl, hl⟩ := part 16 (by decide) h
      subst hk
      refine ⟨?_, ?_, fun h => by omega, fun _ => rfl⟩
      · simp [badText, hl]
      · simp [bulk, hl]
    · next hk28 =>
      split at h
      · next hk =>
        subst hk
        split at h
        · next hlt =>
          obtain ⟨r1, r2, r3⟩ := txtE_right hE hp h (fun x hx => by cases hx)
          refine ⟨?_, ?_, fun _ => ?_, fun h => absurd rfl h⟩
          · rw [List.any_eq_false]
            intro x hx
            have := r1 x hx
            simp [badText]
            omega
          · rw [r2]; simp [bulk]; omega
          · rcases L with _ | ⟨x, L⟩
            · simp [bulk] at r2; omega
            · simp
        · cases h
      · next hk16 =>
        injection h with h
        injection h with h _
        subst h
        refine ⟨?_, ?_, fun h => absurd h hk16, fun _ => rfl⟩
        · simp [badText, hk16, hk1, hk28]
        · simp only [bulk, if_neg hk16]
          have : (cut l p (E - p)).length ≤ E - p := by unfold cut; rw [List.length_take]; omega
          omega
/-- What a body is like that was read. -/
structure Right (kind : Nat) (D : Body) : Prop where
  names : D.names.any badName = false
  nums : D.nums.any (badNum kind) = false
  texts : D.texts.any (badText kind) = false
  bulk : bulk kind D.texts ≤ 65535
  a : D.names.length = shA kind
  b : D.nums.length = shB kind
  c : (kind = 16 ∧ 0 < D.texts.length) ∨ (kind ≠ 16 ∧ D.texts.length = shC kind)
theorem endE_right {l : List UInt8} {E kind p : Nat} {nms : List (List UInt8)} {ns : List Nat} {D : Body} (hE : E ≤ l.length) (hp : p ≤ E) (hn : E - p ≤ 65535) (h : endE l E kind nms ns p = .ok D) : D.names = nms ∧ D.nums = ns ∧ D.texts.any (badText kind) = false ∧ RecMath.bulk kind D.texts ≤ 65535 ∧ ((kind = 16 ∧ 0 < D.texts.length) ∨ (kind ≠ 16 ∧ D.texts.length = shC kind)) := by
  unfold endE at h
  split at h
  · next hc =>
    split at h
    · cases h
    · next L q ht =>
      split at h
      · cases h
      · injection h with h
        subst h
        obtain ⟨r1, r2, r3, r4⟩ := textsE_right hE hp hn ht
        refine ⟨rfl, rfl, r1, r2, ?_⟩
        have h1 : shC kind = 1 := by
          have : shC kind ≤ 1 := by unfold shC; repeat' split
                                    all_goals omega
          omega
        by_cases hk : kind = 16
        · exact .inl ⟨hk, r3 hk⟩
        · exact .inr ⟨hk, by rw [r4 hk, h1]⟩
  · next hc =>
    split at h
    · cases h
    · injection h with h
      subst h
      refine ⟨rfl, rfl, rfl, Nat.zero_le _, ?_⟩
      by_cases hk : kind = 16
      · subst hk; exact absurd (by decide) hc
      · exact .inr ⟨hk, by show 0 = _; omega⟩
theorem names_right {l : List UInt8} {E kind n p q : Nat} {nms : List (List UInt8)} (hE : E ≤ l.length) (h : many (nameE l E kind) n p = .ok (nms, q)) : nms.any badName = false := by
  rw [List.any_eq_false]
  intro x hx
  have := many_all (P := fun x => isN x = true) (fun _ _ _ h => nameE_name hE h) h x hx
  unfold badName
  rw [this]
  simp
theorem bodyE_right {l : List UInt8} {E kind p : Nat} {D : Body} (hE : E ≤ l.length) (hp : p ≤ E) (hn : E - p ≤ 65535) (h : bodyE l E kind p = .ok D) : Right kind D := by
  unfold bodyE at h
  split at h
  · next hk =>
    split at h
    · cases h
    · next nms q h1 =>
      have hq : p ≤ q ∧ q ≤ E := ⟨many_ge (fun _ _ _ h => nameE_up h) h1, many_le (fun _ _ _ _ h => nameE_end h) hp h1⟩
      split at h
      · cases h
      · next ns r h2 =>
        have hr : q ≤ r ∧ r ≤ E := ⟨many_ge (fun _ _ _ h => numE_up h) h2, many_le (fun _ _ _ _ h => numE_end h) hq.2 h2⟩
        subst hk
        obtain ⟨e1, e2, e3, e4, e5⟩ := endE_right hE hr.2 (by omega) h
        refine ⟨by rw [e1]; exact names_right hE h1, ?_, e3, e4, by rw [e1, many_len h1]; rfl, by rw [e2, many_len h2]; rfl, e5⟩
        rw [List.any_eq_false]
        intro x _
        simp [badNum]
  · next hk =>
    split at h
    · cases h
    · next ns q h1 =>
      have hq : p ≤ q ∧ q ≤ E := ⟨many_ge (fun _ _ _ h => numE_up h) h1, many_le (fun _ _ _ _ h => numE_end h) hp h1⟩
      split at h
      · cases h
      · next nms r h2 =>
        have hr : q ≤ r ∧ r ≤ E := ⟨many_ge (fun _ _ _ h => nameE_up h) h2, many_le (fun _ _ _ _ h => nameE_end h) hq.2 h2⟩
        obtain ⟨e1, e2, e3, e4, e5⟩ := endE_right hE hr.2 (by omega) h
        refine ⟨by rw [e1]; exact names_right hE h2, ?_, e3, e4, by rw [e1, many_len h2], by rw [e2, many_len h1], e5⟩
        rw [e2, List.any_eq_false]
        intro x hx
        have := many_all (P := fun x => x < 65536) (fun _ _ _ h => numE_two h) h1 x hx
        simp [badNum]
        omega
theorem right_check {kind cls ttl : Nat} {n : List UInt8} {D : Body} (hn : isN n = true) (h : Right kind D) : checkE ⟨n, kind, cls, ttl, D.names, D.nums, D.texts⟩ = if 2147483647 < ttl ∧ kind ≠ 41 then 1 else 0 := by
  have h1 : namesB ⟨n, kind, cls, ttl, D.names, D.nums, D.texts⟩ = true := by
    unfold namesB badName
    simp only
    rw [hn, show (D.names.any fun l => !isN l) = false from h.names]
    rfl
  have h2 : okB ⟨n, kind, cls, ttl, D.names, D.nums, D.texts⟩ = true := by
    unfold okB shapedB cntOk fitsB
    simp only
    rw [h.nums, h.texts, decide_eq_true (And.intro h.a (And.intro h.b h.c)), decide_eq_true h.bulk]
    rfl
  unfold checkE
  rw [h1, h2]
  simp only [lateB, Bool.true_eq_false, if_false, decide_eq_true_eq]
/-- A record that was read is right. -/
theorem recE_right {l : List UInt8} {p q : Nat} {R : Rec} (h : recE l p = .ok (R, q)) : checkE R = 0 := by
  unfold recE at h
  split at h
  · cases h
  · next n q0 hn =>
    have hN := nm_name (Nat.le_refl _) hn
    unfold headE at h
    split at h
    · split at h
      · next h1 h2 =>
        unfold lateE at h
        split at h
        · cases h
        · next D hD =>
          split at h
          · cases h
          · next hl =>
            injection h with h
            injection h with h _
            subst h
            have hnn := nu2_lt l (q0 + 8)
            rw [right_check hN (bodyE_right h2 (by omega) (by omega) hD), if_neg hl]
      · cases h
    · cases h
/-- A message that was read: its bytes, its names, its records. -/
theorem msg_whole {l : List UInt8} {M : Msg} (h : msg (recE l) l = .ok M) : 12 ≤ l.length ∧ M.qs.length + (M.an.length + M.ns.length + M.ad.length) ≤ 256 ∧ (∀ Q ∈ M.qs, isN Q.name = true) ∧ ∀ R ∈ M.an ++ M.ns ++ M.ad, ∃ p q, recE l p = .ok (R, q) := by
  have hrec : ∀ {n p q : Nat} {L : List Rec}, many (recE l) n p = .ok (L, q) → ∀ R ∈ L, ∃ p q, recE l p = .ok (R, q) := fun h => many_all (fun p x q h => ⟨p, q, h⟩) h
  unfold msg at h
  split at h
  · cases h
  · next h1 =>
    split at h
    · cases h
    · next h2 =>
      unfold msg1 at h
      split at h
      · cases h
      · next qs q hq =>
        unfold msg2 at h
        split at h
        · cases h
        · next an q2 ha =>
          unfold msg3 at h
          split at h
          · cases h
          · next ns q3 hn =>
            unfold msg4 at h
            split at h
            · cases h
            · next ad q4 hx =>
              split at h
              · cases h
              · injection h with h
                subst h
                refine ⟨by omega, ?_, many_all (fun _ _ _ h => qn_name h) hq, fun R hR => ?_⟩
                · show qs.length + (an.length + ns.length + ad.length) ≤ 256
                  rw [many_len hq, many_len ha, many_len hn, many_len hx]; omega
                · rcases List.mem_append.1 hR with hR | hR
                  · rcases List.mem_append.1 hR with hR | hR
                    · exact hrec ha R hR
                    · exact hrec hn R hR
                  · exact hrec hx R hR
end Go.Proofs.Ytngbifdenbfepaa.DatMath

/- Nothing that stood has changed: under a name. No condition. -/
namespace Go.Proofs.Ytngbifdenbfepaa
open Go Go.RowKit

/-- Nothing that stood in world w has changed. -/
def Held (w w' : World) : Prop := Below w.heap.size w w'
end Go.Proofs.Ytngbifdenbfepaa

/- A record as a call has it: its fields, and its lists in memory. No condition. -/
namespace Go.Proofs.Ytngbifdenbfepaa
open Go.RowKit Bytes Strs Nums RecMath

/-- These fields are the record's; its lists lie below block B. -/
structure RecAt (w : World) (B : Nat) (R : Rec) (x : ByteArray) (k l t : Nat) (A1 : Option Addr) (n1 : Nat) (A2 : Option Addr) (n2 : Nat) (A3 : Option Addr) (n3 : Nat) : Prop where
  name : x.data.toList = R.name
  kind : R.kind = k
  cls : R.cls = l
  ttl : R.ttl = t
  len1 : R.names.length = n1
  len2 : R.nums.length = n2
  len3 : R.texts.length = n3
  rd1 : RdS w B A1 R.names
  rd2 : RdN w B A2 R.nums
  rd3 : RdS w B A3 R.texts
theorem RecAt.on {w w' : World} {B B' : Nat} {R : Rec} {x : ByteArray} {k l t : Nat} {A1 : Option Addr} {n1 : Nat} {A2 : Option Addr} {n2 : Nat} {A3 : Option Addr} {n3 : Nat} (h : RecAt w B R x k l t A1 n1 A2 n2 A3 n3) (hb : Below B w w') (hB : B ≤ B') : RecAt w' B' R x k l t A1 n1 A2 n2 A3 n3 :=
  ⟨h.name, h.kind, h.cls, h.ttl, h.len1, h.len2, h.len3, h.rd1.on hb hB, h.rd2.on hb hB, h.rd3.on hb hB⟩
/-- A record that can be gone through. -/
structure Small (R : Rec) : Prop where
  name : R.name.length ≤ 100000
  n1 : R.names.length ≤ 100000
  s1 : ∀ k, k < R.names.length → (R.names.getD k []).length ≤ 100000
  n2 : R.nums.length ≤ 100000
  u2 : ∀ k, k < R.nums.length → R.nums.getD k 0 ≤ 4294967295
  n3 : R.texts.length ≤ 100000
  s3 : ∀ k, k < R.texts.length → (R.texts.getD k []).length ≤ 100000
section
variable {w : World} {B : Nat} {R : Rec} {x : ByteArray} {k l t : Nat} {A1 : Option Addr} {n1 : Nat} {A2 : Option Addr} {n2 : Nat} {A3 : Option Addr} {n3 : Nat}
theorem RecAt.size (h : RecAt w B R x k l t A1 n1 A2 n2 A3 n3) (hS : Small R) : x.size ≤ 100000 := by rw [Lib.size_eq, h.name]; exact hS.name
theorem RecAt.m1 (h : RecAt w B R x k l t A1 n1 A2 n2 A3 n3) (hS : Small R) : n1 ≤ 100000 := by rw [← h.len1]; exact hS.n1
theorem RecAt.m2 (h : RecAt w B R x k l t A1 n1 A2 n2 A3 n3) (hS : Small R) : n2 ≤ 100000 := by rw [← h.len2]; exact hS.n2
theorem RecAt.m3 (h : RecAt w B R x k l t A1 n1 A2 n2 A3 n3) (hS : Small R) : n3 ≤ 100000 := by rw [← h.len3]; exact hS.n3
theorem RecAt.s1 (h : RecAt w B R x k l t A1 n1 A2 n2 A3 n3) (hS : Small R) : Hid (∀ k, k < n1 → (R.names.getD k []).length ≤ 1000000) := fun k hk => Nat.le_trans (hS.s1 k (by rw [h.len1]; exact hk)) (by decide)
theorem RecAt.s3 (h : RecAt w B R x k l t A1 n1 A2 n2 A3 n3) (hS : Small R) : Hid (∀ k, k < n3 → (R.texts.getD k []).length ≤ 1000000) := fun k hk => Nat.le_trans (hS.s3 k (by rw [h.len3]; exact hk)) (by decide)
theorem RecAt.box (h : RecAt w w.heap.size R x k l t A1 n1 A2 n2 A3 n3) (o : Obj) : RecAt (w.alloc o) (w.alloc o).heap.size R x k l t A1 n1 A2 n2 A3 n3 := h.on ((Below.refl _ _).alloc (Nat.le_refl _) o) (by simp)
end
end Go.Proofs.Ytngbifdenbfepaa

/- What was read can be gone through, and is right. No condition. -/
namespace Go.Proofs.Ytngbifdenbfepaa
open Go Bytes NameMath NmMath RecMath MsgMath StMath DatMath

theorem endE_nums {l : List UInt8} {E kind p : Nat} {nms : List (List UInt8)} {ns : List Nat} {D : Body} (h : endE l E kind nms ns p = .ok D) : D.nums = ns := by
  unfold endE at h
  split at h
  · split at h
    · cases h
    · split at h
      · cases h
      · injection h with h; subst h; rfl
  · split at h
    · cases h
    · injection h with h; subst h; rfl
theorem numE_four {l : List UInt8} {E p q x : Nat} (h : numE l E 4 p = .ok (x, q)) : x < 4294967296 := by
  unfold numE at h
  split at h
  · injection h with h; injection h with h _; subst h; exact nu4_lt _ _
  · cases h
theorem bodyE_nums {l : List UInt8} {E kind p : Nat} {D : Body} (h : bodyE l E kind p = .ok D) : ∀ x ∈ D.nums, x < 4294967296 := by
  unfold bodyE at h
  split at h
  · split at h
    · cases h
    · split at h
      · cases h
      · next h2 => rw [endE_nums h]; exact many_all (fun _ _ _ h => numE_four h) h2
  · split at h
    · cases h
    · next h1 =>
      split at h
      · cases h
      · rw [endE_nums h]; exact fun x hx => Nat.lt_of_lt_of_le (many_all (P := fun x => x < 65536) (fun _ _ _ h => numE_two h) h1 x hx) (by decide)
theorem recE_nums {l : List UInt8} {p q : Nat} {R : Rec} (h : recE l p = .ok (R, q)) : (∀ x ∈ R.nums, x < 4294967296) ∧ R.kind < 65536 ∧ R.cls < 65536 ∧ R.ttl < 4294967296 := by
  unfold recE at h
  split at h
  · cases h
  · unfold headE at h
    split at h
    · split at h
      · unfold lateE at h
        split at h
        · cases h
        · next D hD =>
          split at h
          · cases h
          · injection h with h
            injection h with h _
            subst h
            exact ⟨bodyE_nums hD, nu2_lt _ _, nu2_lt _ _, nu4_lt _ _⟩
      · cases h
    · cases h
theorem mem_getD {α : Type} {L : List α} {k : Nat} {d : α} (h : k < L.length) : L.getD k d ∈ L := by
  rw [List.getD_eq_getElem?_getD, List.getElem?_eq_getElem h]
  exact List.getElem_mem h
theorem bulk_count {L : List (List UInt8)} : L.length ≤ bulk 16 L := by
  induction L with
  | nil => exact Nat.zero_le _
  | cons x L ih => simp only [List.length_cons, bulk, if_true]; omega
theorem bulk_mem {k : Nat} {L : List (List UInt8)} {x : List UInt8} (h : x ∈ L) : x.length ≤ bulk k L := by
  induction L with
  | nil => cases h
  | cons y L ih =>
    rw [bulk]
    rcases List.mem_cons.1 h with rfl | h
    · omega
    · have := ih h; omega
theorem small_of {R : Rec} (hc : checkE R = 0) (hn : ∀ x ∈ R.nums, x < 4294967296) : Small R := by
  obtain ⟨h1, h2, _⟩ := check_ok hc
  obtain ⟨h3, _, _, h6⟩ := okB_cnt h2
  obtain ⟨c1, c2, c3⟩ := cnt_of h3
  have ha := shA_le R.kind
  have hb := shB_le R.kind
  unfold namesB at h1
  rw [Bool.and_eq_true] at h1
  have isn : ∀ l : List UInt8, badName l = false → l.length ≤ 100000 := fun l h => by
    obtain ⟨L, hL⟩ := isN_some (s := l) (by unfold badName at h; simpa using h)
    have := (labels_some hL).2.2
    omega
  have hnm : R.names.any badName = false := by simpa using h1.2
  refine ⟨isn _ (by simpa using h1.1), by omega, fun k hk => isn _ ?_, by omega, fun k hk => by have := hn _ (mem_getD (d := 0) hk); omega, ?_, fun k hk => by have := bulk_mem (k := R.kind) (mem_getD (d := []) hk); omega⟩
  · rw [List.any_eq_false] at hnm
    exact Bool.eq_false_iff.2 (hnm _ (mem_getD hk))
  · rcases c3 with ⟨hk, _⟩ | ⟨_, hl⟩
    · rw [hk] at h6
      have := bulk_count (L := R.texts)
      omega
    · have : shC R.kind ≤ 1 := by unfold shC; repeat' split
                                  all_goals omega
      omega
/-- A message that was read. -/
theorem msg_right {l : List UInt8} {M : Msg} (h : rd (recE l) l = .ok M) : l.length ≤ 65535 ∧ 12 ≤ l.length ∧ M.qs.length + (M.an.length + M.ns.length + M.ad.length) ≤ 256 ∧ (∀ Q ∈ M.qs, isN Q.name = true) ∧ ∀ R ∈ M.an ++ M.ns ++ M.ad, checkE R = 0 ∧ Small R := by
  unfold rd at h
  split at h
  · cases h
  · next hl =>
    obtain ⟨h1, h2, h3, h4⟩ := msg_whole h
    exact ⟨by omega, h1, h2, h3, fun R hR => by obtain ⟨p, q, hr⟩ := h4 R hR; exact ⟨recE_right hr, small_of (recE_right hr) (recE_nums hr).1⟩⟩
end Go.Proofs.Ytngbifdenbfepaa

/- The document's Same of two empty messages; errors of a reading. No condition. -/
namespace Go.Proofs.Ytngbifdenbfepaa
open Go.RowKit Bytes NmMath RecMath MsgMath StMath DatMath

theorem records_none (w : World) : Calls Try.prog 26 #[.slice none 0 0, .slice none 0 0] w fun e w' => e = .returned (.bool true) ∧ w = w' := by
  go_enter Try.func26, Try.ntmps26
  go_wp2_with fail
  go_loop [5] (fun i => i = .int .i64 0) (fun _ => 0)
  case atStart => rfl
  case round =>
    obtain rfl := hrel
    go_wp2_with fail
    go_ret
    exact ⟨rfl, rfl⟩
theorem same_none (w : World) : Calls Try.prog 13 #[.agg #[.int .u16 0, .int .u16 0, .slice none 0 0, .slice none 0 0, .slice none 0 0, .slice none 0 0], .agg #[.int .u16 0, .int .u16 0, .slice none 0 0, .slice none 0 0, .slice none 0 0, .slice none 0 0]] w fun e w' => e = .returned (.bool true) ∧ Below w.heap.size w w' := by
  have HRN := Lib.hid records_none
  have HB : Hid (Below w.heap.size w ((w.alloc (.cells #[.int .u16 0, .int .u16 0, .slice none 0 0, .slice none 0 0, .slice none 0 0, .slice none 0 0] 33)).alloc (.cells #[.int .u16 0, .int .u16 0, .slice none 0 0, .slice none 0 0, .slice none 0 0, .slice none 0 0] 33))) := ((Below.refl _ _).alloc (Nat.le_refl _) _).alloc (by simp) _
  go_enter Try.func13, Try.ntmps13
  go_wp2_with ((go_at_call 26; refine (HRN.out _).mono ?_; rintro e w' ⟨rfl, rfl⟩))
  go_loop [5] (fun i => i = .int .i64 0) (fun _ => 0)
  case atStart => rfl
  case round =>
    obtain rfl := hrel
    go_wp2_with fail
    go_ret
    exact ⟨rfl, HB.out⟩
theorem bare_ne {l : List UInt8} {E K p x : Nat} (hK : K ≠ 0) (h : bare l E K p [] = .error x) : x ≠ 0 := by
  unfold bare at h
  split at h
  · next hr => injection h with h; have := run_err hr; omega
  · split at h
    · cases h
    · injection h with h; omega
theorem nm_ne {l : List UInt8} {E K p b : Nat} {next : Option Nat} {o : List UInt8} : K ≠ 0 → ∀ {x : Nat}, nm l E K p b next o = .error x → x ≠ 0 := by
  fun_induction nm l E K p b next o with
  | case1 E K p b next o k hr =>
    intro hK x e
    injection e with e
    have := run_err hr
    omega
  | case2 => intro hK x e; cases e
  | case3 E K p b next o o1 q hr h0 h1 h2 ih => intro hK x e; exact ih (by decide) e
  | case4 => intro hK x e; injection e with e; omega
  | case5 => intro hK x e; injection e with e; omega
theorem many_ne {α : Type} {f : Nat → Except Nat (α × Nat)} (hf : ∀ p x, f p = .error x → x ≠ 0) : ∀ {n p x : Nat}, many f n p = .error x → x ≠ 0 := by
  intro n
  induction n with
  | zero => intro p x h; cases h
  | succ n ih =>
    intro p x h
    rw [many] at h
    split at h
    · next hx => injection h with h; subst h; exact hf _ _ hx
    · split at h
      · next hx => injection h with h; subst h; exact ih hx
      · cases h
theorem nameE_ne {l : List UInt8} {E kind p x : Nat} (h : nameE l E kind p = .error x) : x ≠ 0 := by
  unfold nameE at h
  split at h
  · injection h with h; omega
  · split at h
    · exact bare_ne (by decide) h
    · exact nm_ne (by decide) h
theorem numE_ne {l : List UInt8} {E size p x : Nat} (h : numE l E size p = .error x) : x ≠ 0 := by
  unfold numE at h
  split at h
  · cases h
  · injection h with h; omega
theorem txtE_50 {l : List UInt8} {E p x : Nat} {out : List (List UInt8)} : txtE l E out p = .error x → x = 50 := by
  fun_induction txtE l E out p with
  | case1 out p h h2 ih => exact ih
  | case2 => intro h; injection h with h; omega
  | case3 => intro h; cases h
theorem textsE_50 {l : List UInt8} {E kind p x : Nat} (h : textsE l E kind p = .error x) : x = 50 := by
  have part : ∀ n, partE l E n p = .error x → x = 50 := fun n h => by
    unfold partE at h
    split at h
    · cases h
    · injection h with h; omega
  unfold textsE at h
  split at h
  · exact part _ h
  · split at h
    · exact part _ h
    · split at h
      · split at h
        · exact txtE_50 h
        · injection h with h; omega
      · cases h
theorem endE_50 {l : List UInt8} {E kind p x : Nat} {nms : List (List UInt8)} {ns : List Nat} (h : endE l E kind nms ns p = .error x) : x = 50 := by
  unfold endE at h
  split at h
  · split at h
    · next hx => injection h with h; subst h; exact textsE_50 hx
    · split at h
      · injection h with h; omega
      · cases h
  · split at h
    · injection h with h; omega
    · cases h
theorem bodyE_ne {l : List UInt8} {E kind p x : Nat} (h : bodyE l E kind p = .error x) : x ≠ 0 := by
  unfold bodyE at h
  split at h
  · split at h
    · next hx => injection h with h; subst h; exact many_ne (fun _ _ h => nameE_ne h) hx
    · split at h
      · next hx => injection h with h; subst h; exact many_ne (fun _ _ h => numE_ne h) hx
      · have := endE_50 h; omega
  · split at h
    · next hx => injection h with h; subst h; exact many_ne (fun _ _ h => numE_ne h) hx
    · split at h
      · next hx => injection h with h; subst h; exact many_ne (fun _ _ h => nameE_ne h) hx
      · have := endE_50 h; omega
theorem recE_ne {l : List UInt8} {p x : Nat} (h : recE l p = .error x) : x ≠ 0 := by
  unfold recE at h
  split at h
  · next hx => injection h with h; subst h; exact nm_ne (by decide) hx
  · unfold headE at h
    split at h
    · split at h
      · unfold lateE at h
        split at h
        · next hx => injection h with h; subst h; exact bodyE_ne hx
        · split at h
          · injection h with h; omega
          · cases h
      · injection h with h; omega
    · injection h with h; omega
theorem qn_ne {l : List UInt8} {p x : Nat} (h : qn l p = .error x) : x ≠ 0 := by
  unfold qn at h
  split at h
  · next hx => injection h with h; subst h; exact nm_ne (by decide) hx
  · split at h
    · cases h
    · injection h with h; omega
theorem msg_ne {l : List UInt8} {x : Nat} (h : msg (recE l) l = .error x) : x ≠ 0 := by
  have hr : ∀ {n p x : Nat}, many (recE l) n p = .error x → x ≠ 0 := many_ne fun _ _ h => recE_ne h
  unfold msg at h
  split at h
  · injection h with h; omega
  · split at h
    · injection h with h; omega
    · unfold msg1 at h
      split at h
      · next hx => injection h with h; subst h; exact many_ne (fun _ _ h => qn_ne h) hx
      · unfold msg2 at h
        split at h
        · next hx => injection h with h; subst h; exact hr hx
        · unfold msg3 at h
          split at h
          · next hx => injection h with h; subst h; exact hr hx
          · unfold msg4 at h
            split at h
            · next hx => injection h with h; subst h; exact hr hx
            · split at h
              · injection h with h; omega
              · cases h
theorem rd_ne {l : List UInt8} {x : Nat} (h : rd (recE l) l = .error x) : x ≠ 0 := by
  unfold rd at h
  split at h
  · injection h with h; omega
  · exact msg_ne h
end Go.Proofs.Ytngbifdenbfepaa
