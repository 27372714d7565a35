/- Rows of records, one appended to the other; a record of a row, as a call is handed it. For rows of at most 10^6. -/
import Derived.Test.YtpmmjmnleoicjaaProg
import Derived.Test.YtpmmjmnleoicjaaBytes
import Derived.Test.YtpmmjmnleoicjaaStrs
import Derived.Test.YtpmmjmnleoicjaaNums
import Derived.Test.YtpmmjmnleoicjaaNameMath
import Derived.Test.YtpmmjmnleoicjaaRecMath
import Derived.Test.YtpmmjmnleoicjaaRecAt
import Derived.Test.YtpmmjmnleoicjaaOwnRow
import Derived.Test.YtpmmjmnleoicjaaRecRow
import Derived.WalkKit
import Derived.Lib.Hide
import Derived.OwnWalk
import Derived.Below
import Derived.Laws.OwnMore
import Derived.Laws.AppendOwn
import Derived.Laws.AppendOwnNone
namespace Go.Proofs.Ytpmmjmnleoicjaa
open Go Go.RowKit Bytes Strs Nums RecMath

theorem recCs_app (A B : List RecZ) : recCs (A ++ B) = recCs A ++ recCs B := List.flatMap_append ..
theorem recCs_len (Z : List RecZ) : (recCs Z).length = Z.length * 7 := by
  induction Z with
  | nil => rfl
  | cons z Z ih =>
    have : recCs (z :: Z) = recV z.1 z.2.1 z.2.2.1 z.2.2.2 ++ recCs Z := rfl
    rw [this, List.length_append, ih, List.length_cons]
    simp [recV]
    omega
theorem recCs_at {Z : List RecZ} : ∀ {k j : Nat} (h : k < Z.length), j < 7 → (recCs Z)[k * 7 + j]? = (recV (Z[k]).1 (Z[k]).2.1 (Z[k]).2.2.1 (Z[k]).2.2.2)[j]? := by
  induction Z with
  | nil => intro k j h; cases h
  | cons z Z ih =>
    intro k j h hj
    have e : recCs (z :: Z) = recV z.1 z.2.1 z.2.2.1 z.2.2.2 ++ recCs Z := rfl
    have hl : (recV z.1 z.2.1 z.2.2.1 z.2.2.2).length = 7 := rfl
    rw [e]
    cases k with
    | zero =>
      rw [List.getElem?_append_left (by rw [hl]; omega)]
      simp
    | succ k =>
      rw [List.getElem?_append_right (by rw [hl]; omega), hl, show (k + 1) * 7 + j - 7 = k * 7 + j by omega, ih (by simpa using h) hj]
      simp
theorem recCs_one {w : World} {g : Nat} {Z : List RecZ} (h : ∀ z ∈ Z, RecIn w g z.1 z.2.1 z.2.2.1 z.2.2.2) : ∀ u ∈ recCs Z, u.oneCell' = true := by
  intro u hu
  unfold recCs at hu
  obtain ⟨z, hz, hu⟩ := List.mem_flatMap.1 hu
  have hr := h z hz
  have e1 := own_one hr.o1
  have e2 := own_one hr.o2
  have e3 := own_one hr.o3
  simp [recV] at hu
  rcases hu with rfl | rfl | rfl | rfl | rfl | rfl | rfl <;> first | rfl | assumption
theorem run_append_recs {w : World} (ty : TypeId) (base : Nat) (v : Value) (m : Nat) (xs : List Value) (hown : w.ownsRow base 60 7 v m xs) (b2 : Nat) (x : Value) (n : Nat) (ys : List Value) (hsrc : w.ownsRow b2 60 7 x n ys) (h1 : ∀ u ∈ ys, u.oneCell' = true) (hmn : m + n ≤ 1000000) (hbase : base ≤ w.heap.size) :
    ∃ v' w', (Builtin.append_ #[24, 24] ty #[v, x]).run Try.prog w = .ok v' w' ∧ w'.ownsRow base 60 7 v' (m + n) (xs ++ ys) ∧ w.grownBy w' v.ownBlock := by
  obtain ⟨i0, hi, hz0, hz1, hz2⟩ := info_parts info_rec
  have hl := hsrc.1
  rcases hsrc.2 with ⟨rfl, rfl⟩ | ⟨b, cap, cur, rfl, hb, hg, hcap, _⟩
  · have hn : ys = [] := List.length_eq_zero_iff.1 (by rw [hl])
    subst hn
    exact ⟨v, w, run_append_owned_none w base 24 ty 60 i0 7 Try.underlying24 hi v m xs hown, by simpa using hown, World.grownBy.refl w _⟩
  · obtain ⟨v', w', hr, h2, h3, _⟩ := run_append_own (P := Try.prog) w base 24 ty 60 i0 (.agg #[.string ⟨#[]⟩, .int .u16 0, .int .u16 0, .int .u32 0, .slice none 0 0, .slice none 0 0, .slice none 0 0]) 7 96 Try.underlying24 hi hz0 hz1 hz2 rfl (by decide) v m xs hown ⟨b, 0, none⟩ n cap ys hl (fun j u hj => hsrc.cells (g := b) rfl j u hj) h1 (by unfold maxLen; omega) (by omega) hbase
    exact ⟨v', w', hr, h2, h3⟩
/-- What the appending has come to: a row of these records, all that stood as it was. -/
structure AllAt (w3 w : World) (G : Nat) (v : Value) (Z : List RecZ) : Prop where
  own : w.ownsRow G 60 7 v Z.length (recCs Z)
  bl : Below G w3 w
theorem step_append_recs {w3 w : World} {ops : Array Oper} {o : Oper} {a : Act} {K : Act → World → Prop} {Q : Exit → Act → World → Prop} {E : Prop} (hgd : o.guard = none) (s x : Operand)
    (ho : o.op = .call { callee := .builtin .append, args := #[s, x], argTypes := #[24, 24] })
    (v : Value) (Z : List RecZ) (hs : a.eval s = v) (hown : AllAt w3 w w3.heap.size v Z) (b2 : Nat) (xv : Value) (hx : a.eval x = xv) (Y : List RecZ) (hsrc : w3.ownsRow b2 60 7 xv Y.length (recCs Y)) (h1 : ∀ u ∈ recCs Y, u.oneCell' = true)
    (hmn : Z.length + Y.length ≤ 1000000) (ZY : List RecZ) (n : Nat) (hZY : Z ++ Y = ZY) (hn : ZY.length = n)
    (h : ∀ A c w', AllAt w3 w' w3.heap.size (.slice A n c) ZY → K (a.put o.dst (.slice A n c)) w') : if Region.wanted o (yielded ops a.tmps) = true then Oper.wp Try.prog o a w K Q else E := by
  subst hZY
  subst hn
  have hw : Region.wanted o (yielded ops a.tmps) = true := by simp [Region.wanted, hgd]
  rw [if_pos hw]
  obtain ⟨v', w', hr, h2, h3⟩ := run_append_recs o.type w3.heap.size v Z.length (recCs Z) hown.own b2 xv Y.length (recCs Y) (row_below hsrc hown.bl) h1 hmn hown.bl.size
  rw [← recCs_app, ← List.length_append] at h2
  have hb : Below w3.heap.size w3 w' := hown.bl.grown h3 hown.bl.size (fun k hk => (hown.own.lt k hk).1)
  unfold Oper.wp
  simp only [execOp, ho, resolve, invoke, builtin, Sem.run_bind, Sem.run_pure, Result.andThen_ok, List.map_toArray, List.map_cons, List.map_nil, hs, hx, hr]
  rcases h2.2 with ⟨rfl, h0⟩ | ⟨b, cap, cur, rfl, hrest⟩
  · rw [h0] at h2
    have := h none 0 w' ⟨by rw [h0]; exact h2, hb⟩
    rw [h0] at this
    exact this
  · exact h _ cap w' ⟨h2, hb⟩
/-- The literal of no records. -/
theorem allAt_none (w3 : World) : AllAt w3 ((w3.alloc (.cells #[] 60)).drew) w3.heap.size (.slice (some ⟨w3.heap.size, 0, none⟩) 0 0) [] :=
  ⟨⟨rfl, Or.inr ⟨w3.heap.size, 0, #[], rfl, Nat.le_refl _, heap_alloc_new w3 _, Nat.le_refl _, by unfold maxLen; decide, rfl, rfl⟩⟩, ((Below.refl _ _).alloc (Nat.le_refl _) _).drew⟩
section
variable {w : World} {g : Nat} {R : Rec} {v1 v2 v3 : Value}
/-- A record of a row, as a call is handed it. -/
theorem RecIn.at_ (h : RecIn w g R v1 v2 v3) : ∃ A1 c1 A2 c2 A3 c3, v1 = .slice A1 R.names.length c1 ∧ v2 = .slice A2 R.nums.length c2 ∧ v3 = .slice A3 R.texts.length c3 ∧ RecAt w w.heap.size R (Bytes.mk R.name) R.kind R.cls R.ttl A1 R.names.length A2 R.nums.length A3 R.texts.length := by
  obtain ⟨A1, c1, e1, _, r1, _⟩ := own_rds h.o1 rfl
  obtain ⟨A3, c3, e3, _, r3, _⟩ := own_rds h.o3 rfl
  obtain ⟨A2, c2, e2, _, r2, _⟩ := own_rdn h.o2 rfl
  exact ⟨A1, c1, A2, c2, A3, c3, e1, e2, e3, ⟨mk_list _, rfl, rfl, rfl, rfl, rfl, rfl, r1, r2, r3⟩⟩
end
end Go.Proofs.Ytpmmjmnleoicjaa
