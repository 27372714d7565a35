/- Texts of one proof, one behind the other: RefSameNone, RecAll, RecsRow, RecRefEqual, RecRefSame, RefSameMsg. -/
import Derived.Test.YtihkmdojakalbaaProg
import Derived.Test.YtihkmdojakalbaaReadMessagesProofG1
import Derived.Test.YtihkmdojakalbaaReadMessagesProofG2
import Derived.Test.YtihkmdojakalbaaReadMessagesProofG6
import Derived.Test.YtihkmdojakalbaaReadMessagesProofG5
import Derived.Test.YtihkmdojakalbaaReadMessagesProofG10
import Derived.Test.YtihkmdojakalbaaReadMessagesProofG3
import Derived.WalkKit
import Derived.Lib.Hide
import Derived.Outline
import Derived.IntWalk
import Derived.WalkSpells
import Derived.WalkLawsBesides
import Derived.OwnWalk
import Derived.Below
import Derived.Laws.OwnMore
import Derived.Laws.AppendOwn
import Derived.Laws.AppendOwnNone
import Derived.Deep.QuietTactic
import Derived.BigQuiet
import Derived.Deep.Draws
import Derived.Deep.RegionWith

/- The document's Same of two empty messages; errors of a reading. No condition. -/
namespace Go.Proofs.Ytihkmdojakalbaa
open Go.RowKit Bytes NmMath RecMath MsgMath StMath DatMath

theorem records_none (w : World) : Calls Try.prog 28 #[.slice none 0 0, .slice none 0 0] w fun e w' => e = .returned (.bool true) ∧ w = w' := by
  go_enter Try.func28, Try.ntmps28
  go_wp2_with fail
  go_loop [5] (fun i => i = .int .i64 0) (fun _ => 0)
  case atStart => rfl
  case round =>
    obtain rfl := hrel
    go_wp2_with fail
    go_ret
    exact ⟨rfl, rfl⟩
theorem same_none (w : World) : Calls Try.prog 12 #[.agg #[.int .u16 0, .int .u16 0, .slice none 0 0, .slice none 0 0, .slice none 0 0, .slice none 0 0], .agg #[.int .u16 0, .int .u16 0, .slice none 0 0, .slice none 0 0, .slice none 0 0, .slice none 0 0]] w fun e w' => e = .returned (.bool true) ∧ Below w.heap.size w w' := by
  have HRN := Lib.hid records_none
  have HB : Hid (Below w.heap.size w ((w.alloc (.cells #[.int .u16 0, .int .u16 0, .slice none 0 0, .slice none 0 0, .slice none 0 0, .slice none 0 0] 27)).alloc (.cells #[.int .u16 0, .int .u16 0, .slice none 0 0, .slice none 0 0, .slice none 0 0, .slice none 0 0] 27))) := ((Below.refl _ _).alloc (Nat.le_refl _) _).alloc (by simp) _
  go_enter Try.func12, Try.ntmps12
  go_wp2_with ((go_at_call 28; refine (HRN.out _).mono ?_; rintro e w' ⟨rfl, rfl⟩))
  go_loop [5] (fun i => i = .int .i64 0) (fun _ => 0)
  case atStart => rfl
  case round =>
    obtain rfl := hrel
    go_wp2_with fail
    go_ret
    exact ⟨rfl, HB.out⟩
theorem bare_ne {l : List UInt8} {E K p x : Nat} (hK : K ≠ 0) (h : bare l E K p [] = .error x) : x ≠ 0 := by
  unfold bare at h
  split at h
  · next hr => injection h with h; have := run_err hr; omega
  · split at h
    · cases h
    · injection h with h; omega
theorem nm_ne {l : List UInt8} {E K p b : Nat} {next : Option Nat} {o : List UInt8} : K ≠ 0 → ∀ {x : Nat}, nm l E K p b next o = .error x → x ≠ 0 := by
  fun_induction nm l E K p b next o with
  | case1 E K p b next o k hr =>
    intro hK x e
    injection e with e
    have := run_err hr
    omega
  | case2 => intro hK x e; cases e
  | case3 E K p b next o o1 q hr h0 h1 h2 ih => intro hK x e; exact ih (by decide) e
  | case4 => intro hK x e; injection e with e; omega
  | case5 => intro hK x e; injection e with e; omega
theorem many_ne {α : Type} {f : Nat → Except Nat (α × Nat)} (hf : ∀ p x, f p = .error x → x ≠ 0) : ∀ {n p x : Nat}, many f n p = .error x → x ≠ 0 := by
  intro n
  induction n with
  | zero => intro p x h; cases h
  | succ n ih =>
    intro p x h
    rw [many] at h
    split at h
    · next hx => injection h with h; subst h; exact hf _ _ hx
    · split at h
      · next hx => injection h with h; subst h; exact ih hx
      · cases h
theorem nameE_ne {l : List UInt8} {E kind p x : Nat} (h : nameE l E kind p = .error x) : x ≠ 0 := by
  unfold nameE at h
  split at h
  · injection h with h; omega
  · split at h
    · exact bare_ne (by decide) h
    · exact nm_ne (by decide) h
theorem numE_ne {l : List UInt8} {E size p x : Nat} (h : numE l E size p = .error x) : x ≠ 0 := by
  unfold numE at h
  split at h
  · cases h
  · injection h with h; omega
theorem txtE_50 {l : List UInt8} {E p x : Nat} {out : List (List UInt8)} : txtE l E out p = .error x → x = 50 := by
  fun_induction txtE l E out p with
  | case1 out p h h2 ih => exact ih
  | case2 => intro h; injection h with h; omega
  | case3 => intro h; cases h
theorem textsE_50 {l : List UInt8} {E kind p x : Nat} (h : textsE l E kind p = .error x) : x = 50 := by
  have part : ∀ n, partE l E n p = .error x → x = 50 := fun n h => by
    unfold partE at h
    split at h
    · cases h
    · injection h with h; omega
  unfold textsE at h
  split at h
  · exact part _ h
  · split at h
    · exact part _ h
    · split at h
      · split at h
        · exact txtE_50 h
        · injection h with h; omega
      · cases h
theorem endE_50 {l : List UInt8} {E kind p x : Nat} {nms : List (List UInt8)} {ns : List Nat} (h : endE l E kind nms ns p = .error x) : x = 50 := by
  unfold endE at h
  split at h
  · split at h
    · next hx => injection h with h; subst h; exact textsE_50 hx
    · split at h
      · injection h with h; omega
      · cases h
  · split at h
    · injection h with h; omega
    · cases h
theorem bodyE_ne {l : List UInt8} {E kind p x : Nat} (h : bodyE l E kind p = .error x) : x ≠ 0 := by
  unfold bodyE at h
  split at h
  · split at h
    · next hx => injection h with h; subst h; exact many_ne (fun _ _ h => nameE_ne h) hx
    · split at h
      · next hx => injection h with h; subst h; exact many_ne (fun _ _ h => numE_ne h) hx
      · have := endE_50 h; omega
  · split at h
    · next hx => injection h with h; subst h; exact many_ne (fun _ _ h => numE_ne h) hx
    · split at h
      · next hx => injection h with h; subst h; exact many_ne (fun _ _ h => nameE_ne h) hx
      · have := endE_50 h; omega
theorem recE_ne {l : List UInt8} {p x : Nat} (h : recE l p = .error x) : x ≠ 0 := by
  unfold recE at h
  split at h
  · next hx => injection h with h; subst h; exact nm_ne (by decide) hx
  · unfold headE at h
    split at h
    · split at h
      · unfold lateE at h
        split at h
        · next hx => injection h with h; subst h; exact bodyE_ne hx
        · split at h
          · injection h with h; omega
          · cases h
      · injection h with h; omega
    · injection h with h; omega
theorem qn_ne {l : List UInt8} {p x : Nat} (h : qn l p = .error x) : x ≠ 0 := by
  unfold qn at h
  split at h
  · next hx => injection h with h; subst h; exact nm_ne (by decide) hx
  · split at h
    · cases h
    · injection h with h; omega
theorem msg_ne {l : List UInt8} {x : Nat} (h : msg (recE l) l = .error x) : x ≠ 0 := by
  have hr : ∀ {n p x : Nat}, many (recE l) n p = .error x → x ≠ 0 := many_ne fun _ _ h => recE_ne h
  unfold msg at h
  split at h
  · injection h with h; omega
  · split at h
    · injection h with h; omega
    · unfold msg1 at h
      split at h
      · next hx => injection h with h; subst h; exact many_ne (fun _ _ h => qn_ne h) hx
      · unfold msg2 at h
        split at h
        · next hx => injection h with h; subst h; exact hr hx
        · unfold msg3 at h
          split at h
          · next hx => injection h with h; subst h; exact hr hx
          · unfold msg4 at h
            split at h
            · next hx => injection h with h; subst h; exact hr hx
            · split at h
              · injection h with h; omega
              · cases h
theorem rd_ne {l : List UInt8} {x : Nat} (h : rd (recE l) l = .error x) : x ≠ 0 := by
  unfold rd at h
  split at h
  · injection h with h; omega
  · exact msg_ne h
end Go.Proofs.Ytihkmdojakalbaa

/- Rows of records, one appended to the other; a record of a row, as a call is handed it. For rows of at most 10^6. -/
namespace Go.Proofs.Ytihkmdojakalbaa
open Go Go.RowKit Bytes Strs Nums RecMath

theorem recCs_app (A B : List RecZ) : recCs (A ++ B) = recCs A ++ recCs B := List.flatMap_append ..
theorem recCs_len (Z : List RecZ) : (recCs Z).length = Z.length * 7 := by
  induction Z with
  | nil => rfl
  | cons z Z ih =>
    have : recCs (z :: Z) = recV z.1 z.2.1 z.2.2.1 z.2.2.2 ++ recCs Z := rfl
    rw [this, List.length_append, ih, List.length_cons]
    simp [recV]
    omega
theorem recCs_at {Z : List RecZ} : ∀ {k j : Nat} (h : k < Z.length), j < 7 → (recCs Z)[k * 7 + j]? = (recV (Z[k]).1 (Z[k]).2.1 (Z[k]).2.2.1 (Z[k]).2.2.2)[j]? := by
  induction Z with
  | nil => intro k j h; cases h
  | cons z Z ih =>
    intro k j h hj
    have e : recCs (z :: Z) = recV z.1 z.2.1 z.2.2.1 z.2.2.2 ++ recCs Z := rfl
    have hl : (recV z.1 z.2.1 z.2.2.1 z.2.2.2).length = 7 := rfl
    rw [e]
    cases k with
    | zero =>
      rw [List.getElem?_append_left (by rw [hl]; omega)]
      simp
    | succ k =>
      rw [List.getElem?_append_right (by rw [hl]; omega), hl, show (k + 1) * 7 + j - 7 = k * 7 + j by omega, ih (by simpa using h) hj]
      simp
theorem recCs_one {w : World} {g : Nat} {Z : List RecZ} (h : ∀ z ∈ Z, RecIn w g z.1 z.2.1 z.2.2.1 z.2.2.2) : ∀ u ∈ recCs Z, u.oneCell' = true := by
  intro u hu
  unfold recCs at hu
  obtain ⟨z, hz, hu⟩ := List.mem_flatMap.1 hu
  have hr := h z hz
  have e1 := own_one hr.o1
  have e2 := own_one hr.o2
  have e3 := own_one hr.o3
  simp [recV] at hu
  rcases hu with rfl | rfl | rfl | rfl | rfl | rfl | rfl <;> first | rfl | assumption
theorem run_append_recs {w : World} (ty : TypeId) (base : Nat) (v : Value) (m : Nat) (xs : List Value) (hown : w.ownsRow base 49 7 v m xs) (b2 : Nat) (x : Value) (n : Nat) (ys : List Value) (hsrc : w.ownsRow b2 49 7 x n ys) (h1 : ∀ u ∈ ys, u.oneCell' = true) (hmn : m + n ≤ 1000000) (hbase : base ≤ w.heap.size) :
    ∃ v' w', (Builtin.append_ #[25, 25] ty #[v, x]).run Try.prog w = .ok v' w' ∧ w'.ownsRow base 49 7 v' (m + n) (xs ++ ys) ∧ w.grownBy w' v.ownBlock := by
  obtain ⟨i0, hi, hz0, hz1, hz2⟩ := info_parts info_rec
  have hl := hsrc.1
  rcases hsrc.2 with ⟨rfl, rfl⟩ | ⟨b, cap, cur, rfl, hb, hg, hcap, _⟩
  · have hn : ys = [] := List.length_eq_zero_iff.1 (by rw [hl])
    subst hn
    exact ⟨v, w, run_append_owned_none w base 25 ty 49 i0 7 Try.underlying25 hi v m xs hown, by simpa using hown, World.grownBy.refl w _⟩
  · obtain ⟨v', w', hr, h2, h3, _⟩ := run_append_own (P := Try.prog) w base 25 ty 49 i0 (.agg #[.string ⟨#[]⟩, .int .u16 0, .int .u16 0, .int .u32 0, .slice none 0 0, .slice none 0 0, .slice none 0 0]) 7 96 Try.underlying25 hi hz0 hz1 hz2 rfl (by decide) v m xs hown ⟨b, 0, none⟩ n cap ys hl (fun j u hj => hsrc.cells (g := b) rfl j u hj) h1 (by unfold maxLen; omega) (by omega) hbase
    exact ⟨v', w', hr, h2, h3⟩
/-- What the appending has come to: a row of these records, all that stood as it was. -/
structure AllAt (w3 w : World) (G : Nat) (v : Value) (Z : List RecZ) : Prop where
  own : w.ownsRow G 49 7 v Z.length (recCs Z)
  bl : Below G w3 w
theorem step_append_recs {w3 w : World} {ops : Array Oper} {o : Oper} {a : Act} {K : Act → World → Prop} {Q : Exit → Act → World → Prop} {E : Prop} (hgd : o.guard = none) (s x : Operand)
    (ho : o.op = .call { callee := .builtin .append, args := #[s, x], argTypes := #[25, 25] })
    (v : Value) (Z : List RecZ) (hs : a.eval s = v) (hown : AllAt w3 w w3.heap.size v Z) (b2 : Nat) (xv : Value) (hx : a.eval x = xv) (Y : List RecZ) (hsrc : w3.ownsRow b2 49 7 xv Y.length (recCs Y)) (h1 : ∀ u ∈ recCs Y, u.oneCell' = true)
    (hmn : Z.length + Y.length ≤ 1000000) (ZY : List RecZ) (n : Nat) (hZY : Z ++ Y = ZY) (hn : ZY.length = n)
    (h : ∀ A c w', AllAt w3 w' w3.heap.size (.slice A n c) ZY → K (a.put o.dst (.slice A n c)) w') : if Region.wanted o (yielded ops a.tmps) = true then Oper.wp Try.prog o a w K Q else E := by
  subst hZY
  subst hn
  have hw : Region.wanted o (yielded ops a.tmps) = true := by simp [Region.wanted, hgd]
  rw [if_pos hw]
  obtain ⟨v', w', hr, h2, h3⟩ := run_append_recs o.type w3.heap.size v Z.length (recCs Z) hown.own b2 xv Y.length (recCs Y) (row_below hsrc hown.bl) h1 hmn hown.bl.size
  rw [← recCs_app, ← List.length_append] at h2
  have hb : Below w3.heap.size w3 w' := hown.bl.grown h3 hown.bl.size (fun k hk => (hown.own.lt k hk).1)
  unfold Oper.wp
  simp only [execOp, ho, resolve, invoke, builtin, Sem.run_bind, Sem.run_pure, Result.andThen_ok, List.map_toArray, List.map_cons, List.map_nil, hs, hx, hr]
  rcases h2.2 with ⟨rfl, h0⟩ | ⟨b, cap, cur, rfl, hrest⟩
  · rw [h0] at h2
    have := h none 0 w' ⟨by rw [h0]; exact h2, hb⟩
    rw [h0] at this
    exact this
  · exact h _ cap w' ⟨h2, hb⟩
/-- The literal of no records. -/
theorem allAt_none (w3 : World) : AllAt w3 ((w3.alloc (.cells #[] 49)).drew) w3.heap.size (.slice (some ⟨w3.heap.size, 0, none⟩) 0 0) [] :=
  ⟨⟨rfl, Or.inr ⟨w3.heap.size, 0, #[], rfl, Nat.le_refl _, heap_alloc_new w3 _, Nat.le_refl _, by unfold maxLen; decide, rfl, rfl⟩⟩, ((Below.refl _ _).alloc (Nat.le_refl _) _).drew⟩
section
variable {w : World} {g : Nat} {R : Rec} {v1 v2 v3 : Value}
/-- A record of a row, as a call is handed it. -/
theorem RecIn.at_ (h : RecIn w g R v1 v2 v3) : ∃ A1 c1 A2 c2 A3 c3, v1 = .slice A1 R.names.length c1 ∧ v2 = .slice A2 R.nums.length c2 ∧ v3 = .slice A3 R.texts.length c3 ∧ RecAt w w.heap.size R (Bytes.mk R.name) R.kind R.cls R.ttl A1 R.names.length A2 R.nums.length A3 R.texts.length := by
  obtain ⟨A1, c1, e1, _, r1, _⟩ := own_rds h.o1 rfl
  obtain ⟨A3, c3, e3, _, r3, _⟩ := own_rds h.o3 rfl
  obtain ⟨A2, c2, e2, _, r2, _⟩ := own_rdn h.o2 rfl
  exact ⟨A1, c1, A2, c2, A3, c3, e1, e2, e3, ⟨mk_list _, rfl, rfl, rfl, rfl, rfl, rfl, r1, r2, r3⟩⟩
end
end Go.Proofs.Ytihkmdojakalbaa

/- Rows of questions and of records: what a call reads of them. No condition. -/
namespace Go.Proofs.Ytihkmdojakalbaa
open Go Go.RowKit Bytes Strs Nums MsgMath RecMath

theorem add_at (b k : Nat) : (⟨b, 0, none⟩ : Addr).add k = ⟨b, k, none⟩ := by
  by_cases h : k = 0
  · subst h; rfl
  · simp [Addr.add, h]
theorem qnCs_at {L : List Qn} : ∀ {k : Nat} (h : k < L.length), (qnCs L)[k * 3]? = some (.string (mk (L[k]).name)) := by
  induction L with
  | nil => intro k h; cases h
  | cons q L ih =>
    intro k h
    have e : qnCs (q :: L) = qnV q ++ qnCs L := rfl
    have hl : (qnV q).length = 3 := rfl
    rw [e]
    cases k with
    | zero => rfl
    | succ k =>
      rw [List.getElem?_append_right (by rw [hl]; omega), hl, show (k + 1) * 3 - 3 = k * 3 by omega, ih (by simpa using h)]
      simp
/-- The names of a row of questions. -/
def QnsAt (w : World) (G : Nat) (A : Option Addr) (L : List Qn) : Prop := ∀ k (h : k < L.length), ∃ bq, A = some ⟨bq, 0, none⟩ ∧ bq < G ∧ w.cell? ⟨bq, k * 3, none⟩ = some (.string (mk (L[k]).name))
theorem qns_of {w : World} {g : Nat} {v : Value} {L : List Qn} (h : w.ownsRow g 44 3 v L.length (qnCs L)) : ∃ A c, v = .slice A L.length c ∧ QnsAt w w.heap.size A L := by
  rcases h.2 with ⟨rfl, h0⟩ | ⟨b, cap, cur, rfl, _, _, _⟩
  · exact ⟨none, 0, by rw [h0], fun k hk => by omega⟩
  · refine ⟨_, cap, rfl, fun k hk => ⟨b, rfl, (h.lt b rfl).2, ?_⟩⟩
    have := h.cells (g := b) rfl (k * 3) _ (qnCs_at hk)
    rwa [add_at] at this
theorem QnsAt.on {w w' : World} {G : Nat} {A : Option Addr} {L : List Qn} (h : QnsAt w G A L) (hb : Below G w w') : QnsAt w' G A L := fun k hk => by
  obtain ⟨bq, e, hl, hc⟩ := h k hk
  exact ⟨bq, e, hl, (hb.cell (p := ⟨bq, k * 3, none⟩) hl).trans hc⟩
/-- The records of a row. -/
def RecsAt (w : World) (G : Nat) (A : Option Addr) (Z : List RecZ) : Prop := ∀ k (h : k < Z.length), ∃ bq A1 c1 A2 c2 A3 c3, A = some ⟨bq, 0, none⟩ ∧ bq < G ∧ RecAt w G (Z[k]).1 (mk (Z[k]).1.name) (Z[k]).1.kind (Z[k]).1.cls (Z[k]).1.ttl A1 (Z[k]).1.names.length A2 (Z[k]).1.nums.length A3 (Z[k]).1.texts.length ∧
  w.cell? ⟨bq, k * 7, none⟩ = some (.string (mk (Z[k]).1.name)) ∧ w.cell? ⟨bq, k * 7 + 1, none⟩ = some (.int .u16 (Z[k]).1.kind) ∧ w.cell? ⟨bq, k * 7 + 2, none⟩ = some (.int .u16 (Z[k]).1.cls) ∧ w.cell? ⟨bq, k * 7 + 3, none⟩ = some (.int .u32 (Z[k]).1.ttl) ∧ w.cell? ⟨bq, k * 7 + 4, none⟩ = some (.slice A1 (Z[k]).1.names.length c1) ∧ w.cell? ⟨bq, k * 7 + 5, none⟩ = some (.slice A2 (Z[k]).1.nums.length c2) ∧ w.cell? ⟨bq, k * 7 + 6, none⟩ = some (.slice A3 (Z[k]).1.texts.length c3)
theorem recs_of {w : World} {g g2 : Nat} {v : Value} {Z : List RecZ} (h : w.ownsRow g 49 7 v Z.length (recCs Z)) (hz : ∀ z ∈ Z, RecIn w g2 z.1 z.2.1 z.2.2.1 z.2.2.2) : ∃ A c, v = .slice A Z.length c ∧ RecsAt w w.heap.size A Z := by
  rcases h.2 with ⟨rfl, h0⟩ | ⟨b, cap, cur, rfl, _, _, _⟩
  · exact ⟨none, 0, by rw [h0], fun k hk => by omega⟩
  · refine ⟨_, cap, rfl, fun k hk => ?_⟩
    obtain ⟨A1, c1, A2, c2, A3, c3, e1, e2, e3, hat⟩ := (hz (Z[k]) (List.getElem_mem hk)).at_
    have cell : ∀ j, j < 7 → ∀ u, (recV (Z[k]).1 (Z[k]).2.1 (Z[k]).2.2.1 (Z[k]).2.2.2)[j]? = some u → w.cell? ⟨b, k * 7 + j, none⟩ = some u := fun j hj u hu => by
      have := h.cells (g := b) rfl (k * 7 + j) u (by rw [recCs_at hk hj]; exact hu)
      rwa [add_at] at this
    exact ⟨b, A1, c1, A2, c2, A3, c3, rfl, (h.lt b rfl).2, hat, cell 0 (by decide) _ rfl, cell 1 (by decide) _ rfl, cell 2 (by decide) _ rfl, cell 3 (by decide) _ rfl, cell 4 (by decide) _ (by rw [← e1]; rfl), cell 5 (by decide) _ (by rw [← e2]; rfl), cell 6 (by decide) _ (by rw [← e3]; rfl)⟩
theorem RecsAt.on {w w' : World} {G : Nat} {A : Option Addr} {Z : List RecZ} (h : RecsAt w G A Z) (hb : Below G w w') : RecsAt w' G A Z := fun k hk => by
  obtain ⟨bq, A1, c1, A2, c2, A3, c3, e, hl, hat, k0, k1, k2, k3, k4, k5, k6⟩ := h k hk
  exact ⟨bq, A1, c1, A2, c2, A3, c3, e, hl, hat.on hb (Nat.le_refl _), (hb.cell (p := ⟨bq, _, none⟩) hl).trans k0, (hb.cell (p := ⟨bq, _, none⟩) hl).trans k1, (hb.cell (p := ⟨bq, _, none⟩) hl).trans k2, (hb.cell (p := ⟨bq, _, none⟩) hl).trans k3, (hb.cell (p := ⟨bq, _, none⟩) hl).trans k4, (hb.cell (p := ⟨bq, _, none⟩) hl).trans k5, (hb.cell (p := ⟨bq, _, none⟩) hl).trans k6⟩
end Go.Proofs.Ytihkmdojakalbaa

/- The contracts of slices.Equal over texts and over numbers, and of the document's own look at two lists of texts. For lists of at most 10^6. -/
namespace Go.Proofs.Ytihkmdojakalbaa
open Go.RowKit Bytes Strs Nums

theorem list_same {L M : List (List UInt8)} (hl : L.length = M.length) (h : ∀ j, j < L.length → L.getD j [] = M.getD j []) : L = M := by
  apply List.ext_getElem hl
  intro j h1 h2
  have := h j h1
  rw [List.getD_eq_getElem?_getD, List.getD_eq_getElem?_getD, List.getElem?_eq_getElem h1, List.getElem?_eq_getElem h2] at this
  exact this
theorem list_sameN {L M : List Nat} (hl : L.length = M.length) (h : ∀ j, j < L.length → L.getD j 0 = M.getD j 0) : L = M := by
  apply List.ext_getElem hl
  intro j h1 h2
  have := h j h1
  rw [List.getD_eq_getElem?_getD, List.getD_eq_getElem?_getD, List.getElem?_eq_getElem h1, List.getElem?_eq_getElem h2] at this
  exact this

set_option maxHeartbeats 2000000 in
set_option maxRecDepth 100000 in
theorem refTexts (A B : Option Addr) (c1 c2 n m : Nat) (L M : List (List UInt8)) (q : Bool) (w : World) (hr : RdS w w.heap.size A L) (hr2 : RdS w w.heap.size B M) (hn0 : Hid (L.length = n)) (hm0 : Hid (M.length = m)) (hn : n ≤ 1000000) (hq : Hid (decide (L = M) = q)) :
    Calls Try.prog 77 #[.slice A n c1, .slice B m c2] w fun e w' => e = .returned (.bool q) ∧ ∃ N, w.drewN N = w' := by
  have HR := Lib.hid hr; clear hr
  have HR2 := Lib.hid hr2; clear hr2
  by_cases hnm : n = m
  · have hnmi : ((n : Int) != (m : Int)) = false := bne_eq_false_iff_eq.2 (by omega)
    have hnm2 : n ≤ m := by omega
    have hnm3 : m ≤ n := by omega
    clear hnm
    go_enter Try.func77, Try.ntmps77
    go_wp2_with fail
    go_loopw [5] (fun i wr => ∃ k N : Nat, k ≤ n ∧ i = .int .i64 k ∧ Hid (∀ j, j < k → L.getD j [] = M.getD j []) ∧ wr = w.drewN N) (fun i _ => n - (intOf i).toNat)
    case atStart => exact ⟨0, 0, Nat.zero_le _, rfl, Lib.hid (fun j hj => absurd hj (Nat.not_lt_zero _)), rfl⟩
    case round =>
      obtain ⟨k, N, hk, rfl, hE, rfl⟩ := hrel
      by_cases hlt : k < n
      · have hlt2 : k < m := by omega
        have hkl : k < L.length := by rw [hn0.out]; exact hlt
        have hkm : k < M.length := by rw [hm0.out]; exact hlt2
        obtain ⟨a, rfl, hab, hcell⟩ := HR.out.get hkl
        obtain ⟨b, rfl, hbb, hcell2⟩ := HR2.out.get hkm
        obtain ⟨z, hz⟩ : ∃ z, decide (L.getD k [] = M.getD k []) = z := ⟨_, rfl⟩
        have hne : (!((mk (L.getD k [])).toList == (mk (M.getD k [])).toList)) = !z := by
          rw [eq_toList, ← hz]
          congr 1
          exact decide_eq_decide.2 ⟨fun h => mk_inj h, fun h => by rw [h]⟩
        cases z with
        | true =>
          have hE2 : Hid (∀ j, j < k + 1 → L.getD j [] = M.getD j []) := fun j hj => by
            rcases Nat.lt_or_ge j k with h | h
            · exact hE.out j h
            · obtain rfl : j = k := by omega
              exact of_decide_eq_true hz
          generalize mk (L.getD k []) = x at *
          generalize mk (M.getD k []) = y at *
          clear hz hkl hkm hE
          go_wp2_with fail
          go_quiet (fail)
          go_wp2_with fail
          go_roundw
          case rel => exact ⟨k + 1, _, by omega, by go_num, hE2, rfl⟩
          case measure => simp [intOf]; omega
        | false =>
          obtain rfl : q = false := by
            rw [← hq.out]
            exact decide_eq_false (fun h => of_decide_eq_false hz (by rw [h]))
          generalize mk (L.getD k []) = x at *
          generalize mk (M.getD k []) = y at *
          clear hz hkl hkm hE hq
          go_wp2_with fail
          go_quiet (fail)
          go_wp2_with fail
          go_ret
          exact ⟨rfl, _, (World.drewN_drewN _ _ _).symm⟩
      · obtain rfl : q = true := by
          rw [← hq.out]
          exact decide_eq_true (list_same (by rw [hn0.out, hm0.out]; omega) (fun j hj => hE.out j (by rw [hn0.out] at hj; omega)))
        clear hE hq
        go_wp2_with fail
        go_ret
        exact ⟨rfl, _, rfl⟩
  · obtain rfl : q = false := by
      rw [← hq.out]
      refine decide_eq_false (fun h => hnm ?_)
      have := congrArg List.length h
      rw [hn0.out, hm0.out] at this
      exact this
    have hnmi : ((n : Int) != (m : Int)) = true := bne_iff_ne.2 (by omega)
    clear hnm hq
    go_enter Try.func77, Try.ntmps77
    go_wp2_with fail
    go_ret
    exact ⟨rfl, 0, rfl⟩
end Go.Proofs.Ytihkmdojakalbaa

/- The contracts of rdata's Same and of the document's Same. For records of at most 10^5 texts of at most 10^5 bytes. -/
namespace Go.Proofs.Ytihkmdojakalbaa
open Go.RowKit Bytes Strs Nums NameMath RecMath

theorem text_eq {x y : ByteArray} {a b : List UInt8} (ha : x.data.toList = a) (hb : y.data.toList = b) : (x.toList == y.toList) = decide (a = b) := by
  rw [Lib.toList_data, Lib.toList_data, ha, hb]
  by_cases h : a = b
  · rw [decide_eq_true h, h]; exact beq_self_eq_true _
  · rw [decide_eq_false h]; exact beq_eq_false_iff_ne.2 h

set_option maxHeartbeats 8000000 in
set_option maxRecDepth 100000 in
theorem refSame_is (R Q : Rec) (x : ByteArray) (k l t : Nat) (A1 : Option Addr) (n1 c1 : Nat) (A2 : Option Addr) (n2 c2 : Nat) (A3 : Option Addr) (n3 c3 : Nat) (xq : ByteArray) (kq lq tq : Nat) (Aq1 : Option Addr) (nq1 cq1 : Nat) (Aq2 : Option Addr) (nq2 cq2 : Nat) (Aq3 : Option Addr) (nq3 cq3 : Nat) (q : Bool) (w : World) (hR : Hid (RecAt w w.heap.size R x k l t A1 n1 A2 n2 A3 n3)) (hS : Hid (Small R)) (hR' : Hid (RecAt w w.heap.size Q xq kq lq tq Aq1 nq1 Aq2 nq2 Aq3 nq3)) (hS' : Hid (Small Q)) (hq : Hid (sameB R Q = q)) :
    Calls Try.prog 55 #[.agg #[.string x, .int .u16 k, .int .u16 l, .int .u32 t, .slice A1 n1 c1, .slice A2 n2 c2, .slice A3 n3 c3], .agg #[.string xq, .int .u16 kq, .int .u16 lq, .int .u32 tq, .slice Aq1 nq1 cq1, .slice Aq2 nq2 cq2, .slice Aq3 nq3 cq3]] w fun e w' => e = .returned (.bool q) ∧ Below w.heap.size w w' := by
  have hm1 := hR.out.m1 hS.out
  have hm2 := hR.out.m2 hS.out
  have hm3 := hR.out.m3 hS.out
  have hmq1 := hR'.out.m1 hS'.out
  have hmq2 := hR'.out.m2 hS'.out
  have hmq3 := hR'.out.m3 hS'.out
  have HR2 := Lib.hid ((hR.out.box (.cells #[.string x, .int .u16 k, .int .u16 l, .int .u32 t, .slice A1 n1 c1, .slice A2 n2 c2, .slice A3 n3 c3] 49)).box (.cells #[.string xq, .int .u16 kq, .int .u16 lq, .int .u32 tq, .slice Aq1 nq1 cq1, .slice Aq2 nq2 cq2, .slice Aq3 nq3 cq3] 49))
  have HQ2 := Lib.hid ((hR'.out.box (.cells #[.string x, .int .u16 k, .int .u16 l, .int .u32 t, .slice A1 n1 c1, .slice A2 n2 c2, .slice A3 n3 c3] 49)).box (.cells #[.string xq, .int .u16 kq, .int .u16 lq, .int .u32 tq, .slice Aq1 nq1 cq1, .slice Aq2 nq2 cq2, .slice Aq3 nq3 cq3] 49))
  have HB0 : Hid (Below w.heap.size w ((w.alloc (.cells #[.string x, .int .u16 k, .int .u16 l, .int .u32 t, .slice A1 n1 c1, .slice A2 n2 c2, .slice A3 n3 c3] 49)).alloc (.cells #[.string xq, .int .u16 kq, .int .u16 lq, .int .u32 tq, .slice Aq1 nq1 cq1, .slice Aq2 nq2 cq2, .slice Aq3 nq3 cq3] 49))) := ((Below.refl _ _).alloc (Nat.le_refl _) _).alloc (by simp) _
  have d0 : ((w.alloc (.cells #[.string x, .int .u16 k, .int .u16 l, .int .u32 t, .slice A1 n1 c1, .slice A2 n2 c2, .slice A3 n3 c3] 49)).alloc (.cells #[.string xq, .int .u16 kq, .int .u16 lq, .int .u32 tq, .slice Aq1 nq1 cq1, .slice Aq2 nq2 cq2, .slice Aq3 nq3 cq3] 49)).cell? ⟨w.heap.size, 0, none⟩ = some (.string x) := by simp
  have b0 : ((w.alloc (.cells #[.string x, .int .u16 k, .int .u16 l, .int .u32 t, .slice A1 n1 c1, .slice A2 n2 c2, .slice A3 n3 c3] 49)).alloc (.cells #[.string xq, .int .u16 kq, .int .u16 lq, .int .u32 tq, .slice Aq1 nq1 cq1, .slice Aq2 nq2 cq2, .slice Aq3 nq3 cq3] 49)).cell? ⟨w.heap.size + 1, 0, none⟩ = some (.string xq) := by simp
  have d1 : ((w.alloc (.cells #[.string x, .int .u16 k, .int .u16 l, .int .u32 t, .slice A1 n1 c1, .slice A2 n2 c2, .slice A3 n3 c3] 49)).alloc (.cells #[.string xq, .int .u16 kq, .int .u16 lq, .int .u32 tq, .slice Aq1 nq1 cq1, .slice Aq2 nq2 cq2, .slice Aq3 nq3 cq3] 49)).cell? ⟨w.heap.size, 1, none⟩ = some (.int .u16 k) := by simp
  have b1 : ((w.alloc (.cells #[.string x, .int .u16 k, .int .u16 l, .int .u32 t, .slice A1 n1 c1, .slice A2 n2 c2, .slice A3 n3 c3] 49)).alloc (.cells #[.string xq, .int .u16 kq, .int .u16 lq, .int .u32 tq, .slice Aq1 nq1 cq1, .slice Aq2 nq2 cq2, .slice Aq3 nq3 cq3] 49)).cell? ⟨w.heap.size + 1, 1, none⟩ = some (.int .u16 kq) := by simp
  have d2 : ((w.alloc (.cells #[.string x, .int .u16 k, .int .u16 l, .int .u32 t, .slice A1 n1 c1, .slice A2 n2 c2, .slice A3 n3 c3] 49)).alloc (.cells #[.string xq, .int .u16 kq, .int .u16 lq, .int .u32 tq, .slice Aq1 nq1 cq1, .slice Aq2 nq2 cq2, .slice Aq3 nq3 cq3] 49)).cell? ⟨w.heap.size, 2, none⟩ = some (.int .u16 l) := by simp
  have b2 : ((w.alloc (.cells #[.string x, .int .u16 k, .int .u16 l, .int .u32 t, .slice A1 n1 c1, .slice A2 n2 c2, .slice A3 n3 c3] 49)).alloc (.cells #[.string xq, .int .u16 kq, .int .u16 lq, .int .u32 tq, .slice Aq1 nq1 cq1, .slice Aq2 nq2 cq2, .slice Aq3 nq3 cq3] 49)).cell? ⟨w.heap.size + 1, 2, none⟩ = some (.int .u16 lq) := by simp
  have d3 : ((w.alloc (.cells #[.string x, .int .u16 k, .int .u16 l, .int .u32 t, .slice A1 n1 c1, .slice A2 n2 c2, .slice A3 n3 c3] 49)).alloc (.cells #[.string xq, .int .u16 kq, .int .u16 lq, .int .u32 tq, .slice Aq1 nq1 cq1, .slice Aq2 nq2 cq2, .slice Aq3 nq3 cq3] 49)).cell? ⟨w.heap.size, 3, none⟩ = some (.int .u32 t) := by simp
  have b3 : ((w.alloc (.cells #[.string x, .int .u16 k, .int .u16 l, .int .u32 t, .slice A1 n1 c1, .slice A2 n2 c2, .slice A3 n3 c3] 49)).alloc (.cells #[.string xq, .int .u16 kq, .int .u16 lq, .int .u32 tq, .slice Aq1 nq1 cq1, .slice Aq2 nq2 cq2, .slice Aq3 nq3 cq3] 49)).cell? ⟨w.heap.size + 1, 3, none⟩ = some (.int .u32 tq) := by simp
  have d4 : ((w.alloc (.cells #[.string x, .int .u16 k, .int .u16 l, .int .u32 t, .slice A1 n1 c1, .slice A2 n2 c2, .slice A3 n3 c3] 49)).alloc (.cells #[.string xq, .int .u16 kq, .int .u16 lq, .int .u32 tq, .slice Aq1 nq1 cq1, .slice Aq2 nq2 cq2, .slice Aq3 nq3 cq3] 49)).cell? ⟨w.heap.size, 4, none⟩ = some (.slice A1 n1 c1) := by simp
  have b4 : ((w.alloc (.cells #[.string x, .int .u16 k, .int .u16 l, .int .u32 t, .slice A1 n1 c1, .slice A2 n2 c2, .slice A3 n3 c3] 49)).alloc (.cells #[.string xq, .int .u16 kq, .int .u16 lq, .int .u32 tq, .slice Aq1 nq1 cq1, .slice Aq2 nq2 cq2, .slice Aq3 nq3 cq3] 49)).cell? ⟨w.heap.size + 1, 4, none⟩ = some (.slice Aq1 nq1 cq1) := by simp
  have d5 : ((w.alloc (.cells #[.string x, .int .u16 k, .int .u16 l, .int .u32 t, .slice A1 n1 c1, .slice A2 n2 c2, .slice A3 n3 c3] 49)).alloc (.cells #[.string xq, .int .u16 kq, .int .u16 lq, .int .u32 tq, .slice Aq1 nq1 cq1, .slice Aq2 nq2 cq2, .slice Aq3 nq3 cq3] 49)).cell? ⟨w.heap.size, 5, none⟩ = some (.slice A2 n2 c2) := by simp
  have b5 : ((w.alloc (.cells #[.string x, .int .u16 k, .int .u16 l, .int .u32 t, .slice A1 n1 c1, .slice A2 n2 c2, .slice A3 n3 c3] 49)).alloc (.cells #[.string xq, .int .u16 kq, .int .u16 lq, .int .u32 tq, .slice Aq1 nq1 cq1, .slice Aq2 nq2 cq2, .slice Aq3 nq3 cq3] 49)).cell? ⟨w.heap.size + 1, 5, none⟩ = some (.slice Aq2 nq2 cq2) := by simp
  have d6 : ((w.alloc (.cells #[.string x, .int .u16 k, .int .u16 l, .int .u32 t, .slice A1 n1 c1, .slice A2 n2 c2, .slice A3 n3 c3] 49)).alloc (.cells #[.string xq, .int .u16 kq, .int .u16 lq, .int .u32 tq, .slice Aq1 nq1 cq1, .slice Aq2 nq2 cq2, .slice Aq3 nq3 cq3] 49)).cell? ⟨w.heap.size, 6, none⟩ = some (.slice A3 n3 c3) := by simp
  have b6 : ((w.alloc (.cells #[.string x, .int .u16 k, .int .u16 l, .int .u32 t, .slice A1 n1 c1, .slice A2 n2 c2, .slice A3 n3 c3] 49)).alloc (.cells #[.string xq, .int .u16 kq, .int .u16 lq, .int .u32 tq, .slice Aq1 nq1 cq1, .slice Aq2 nq2 cq2, .slice Aq3 nq3 cq3] 49)).cell? ⟨w.heap.size + 1, 6, none⟩ = some (.slice Aq3 nq3 cq3) := by simp
  have HL1 := Lib.hid HR2.out.len1
  have HL2 := Lib.hid HR2.out.len2
  have HL3 := Lib.hid HR2.out.len3
  have HM1 := Lib.hid HQ2.out.len1
  have HM2 := Lib.hid HQ2.out.len2
  have HM3 := Lib.hid HQ2.out.len3
  have f0 := text_eq hR.out.name hR'.out.name
  have k1 := hR.out.kind
  have k2 := hR'.out.kind
  have l1 := hR.out.cls
  have l2 := hR'.out.cls
  have t1 := hR.out.ttl
  have t2 := hR'.out.ttl
  have K1 := Lib.hid k1
  have K2 := Lib.hid k2
  have C1 := Lib.hid l1
  have C2 := Lib.hid l2
  have T1 := Lib.hid t1
  have T2 := Lib.hid t2
  have hn1 : n1 ≤ 1000000 := by omega
  have hn2 : n2 ≤ 1000000 := by omega
  have hn3 : n3 ≤ 1000000 := by omega
  clear k1 k2 l1 l2 t1 t2 hR hR'
  by_cases e0 : R.name = Q.name
  rotate_left
  · rw [decide_eq_false e0] at f0
    obtain rfl : q = false := by rw [← hq.out]; exact decide_eq_false (fun h => e0 h.1)
    have f1 : (!(x.toList == xq.toList)) = true := by rw [f0]; rfl
    clear e0 hq
    go_enter Try.func55, Try.ntmps55
    go_wp2_with fail
    go_ret
    exact ⟨rfl, HB0.out⟩
  rw [decide_eq_true e0] at f0
  have f1 : (!(x.toList == xq.toList)) = false := by rw [f0]; rfl
  by_cases e1 : R.kind = Q.kind
  rotate_left
  · have u : k ≠ kq := by rw [← K1.out, ← K2.out]; exact e1
    have f : ((k : Int) != (kq : Int)) = true := int_nne u
    obtain rfl : q = false := by rw [← hq.out]; exact decide_eq_false (fun h => e1 h.2.1)
    clear e0 e1 u hq
    go_enter Try.func55, Try.ntmps55
    go_wp2_with fail
    go_ret
    exact ⟨rfl, HB0.out⟩
  have fkind : ((k : Int) != (kq : Int)) = false := int_neq (by rw [← K1.out, ← K2.out]; exact e1)
  by_cases e2 : R.cls = Q.cls
  rotate_left
  · have u : l ≠ lq := by rw [← C1.out, ← C2.out]; exact e2
    have f : ((l : Int) != (lq : Int)) = true := int_nne u
    obtain rfl : q = false := by rw [← hq.out]; exact decide_eq_false (fun h => e2 h.2.2.1)
    clear e0 e1 e2 u hq
    go_enter Try.func55, Try.ntmps55
    go_wp2_with fail
    go_ret
    exact ⟨rfl, HB0.out⟩
  have fcls : ((l : Int) != (lq : Int)) = false := int_neq (by rw [← C1.out, ← C2.out]; exact e2)
  by_cases e3 : R.ttl = Q.ttl
  rotate_left
  · have u : t ≠ tq := by rw [← T1.out, ← T2.out]; exact e3
    have f : ((t : Int) != (tq : Int)) = true := int_nne u
    obtain rfl : q = false := by rw [← hq.out]; exact decide_eq_false (fun h => e3 h.2.2.2.1)
    clear e0 e1 e2 e3 u hq
    go_enter Try.func55, Try.ntmps55
    go_wp2_with fail
    go_ret
    exact ⟨rfl, HB0.out⟩
  have fttl : ((t : Int) != (tq : Int)) = false := int_neq (by rw [← T1.out, ← T2.out]; exact e3)
  obtain ⟨z4, hz4⟩ : ∃ z, decide (R.names = Q.names) = z := ⟨_, rfl⟩
  obtain ⟨z5, hz5⟩ : ∃ z, decide (R.nums = Q.nums) = z := ⟨_, rfl⟩
  obtain ⟨z6, hz6⟩ : ∃ z, decide (R.texts = Q.texts) = z := ⟨_, rfl⟩
  have hqq : q = (z4 && (z5 && z6)) := by
    rw [← hq.out, ← hz4, ← hz5, ← hz6]
    unfold sameB
    simp [e0, e1, e2, e3]
  have HQQ := Lib.hid hqq
  have HZ4 := Lib.hid hz4
  have HZ5 := Lib.hid hz5
  have HZ6 := Lib.hid hz6
  clear hqq hz4 hz5 hz6 e0 e1 e2 e3 hq
  go_enter Try.func55, Try.ntmps55
  go_wp2_with fail
  generalize ((w.alloc (.cells #[.string x, .int .u16 k, .int .u16 l, .int .u32 t, .slice A1 n1 c1, .slice A2 n2 c2, .slice A3 n3 c3] 49)).alloc (.cells #[.string xq, .int .u16 kq, .int .u16 lq, .int .u32 tq, .slice Aq1 nq1 cq1, .slice Aq2 nq2 cq2, .slice Aq3 nq3 cq3] 49)) = wb at *
  generalize hgw : w.heap.size = g at *
  have HGW := Lib.hid hgw
  clear hgw
  ((with_reducible refine (refTexts A1 Aq1 c1 cq1 n1 nq1 R.names Q.names z4 _ HR2.out.rd1 HQ2.out.rd1 HL1 HM1 hn1 HZ4).mono ?_))
  rintro e w' ⟨rfl, N1, rfl⟩
  cases z4 with
  | false =>
    obtain rfl : q = false := HQQ.out
    go_wp2_with fail
    go_ret
    exact ⟨rfl, by have h := HB0.out; rw [← HGW.out] at h; exact below_drewN h _⟩
  | true =>
    go_wp2_with fail
    ((with_reducible refine (refTexts A3 Aq3 c3 cq3 n3 nq3 R.texts Q.texts z6 _ (HR2.out.rd3.on (below_drewN (Below.refl _ _) N1) (Nat.le_refl _)) (HQ2.out.rd3.on (below_drewN (Below.refl _ _) N1) (Nat.le_refl _)) HL3 HM3 hn3 HZ6).mono ?_))
    rintro e w' ⟨rfl, N2, rfl⟩
    cases z6 with
    | false =>
      obtain rfl : q = false := by rw [HQQ.out]; cases z5 <;> rfl
      go_wp2_with fail
      go_ret
      exact ⟨rfl, by have h := HB0.out; rw [← HGW.out] at h; exact below_drewN h _⟩
    | true =>
      have hqz : q = z5 := by rw [HQQ.out]; cases z5 <;> rfl
      subst hqz
      by_cases hne : n2 = nq2
      rotate_left
      · have fne : ((n2 : Int) != (nq2 : Int)) = true := int_nne hne
        obtain rfl : q = false := by
          rw [← HZ5.out]
          refine decide_eq_false (fun h => hne ?_)
          rw [← HL2.out, ← HM2.out, h]
        clear hne
        go_wp2_with fail
        go_ret
        exact ⟨rfl, by have h := HB0.out; rw [← HGW.out] at h; exact below_drewN h _⟩
      have fne : ((n2 : Int) != (nq2 : Int)) = false := int_neq hne
      have hle1 : n2 ≤ nq2 := by omega
      have hle2 : nq2 ≤ n2 := by omega
      clear hne
      go_wp2_with fail
      go_loopw [5] (fun i wr => ∃ j N : Nat, j ≤ n2 ∧ i = .int .i64 j ∧ Hid (∀ i, i < j → R.nums.getD i 0 = Q.nums.getD i 0) ∧ wr = wb.drewN N) (fun i _ => n2 - (intOf i).toNat)
      case atStart => exact ⟨0, _, Nat.zero_le _, rfl, Lib.hid (fun j hj => absurd hj (Nat.not_lt_zero _)), rfl⟩
      case round =>
        obtain ⟨j, N, hj, rfl, hE, rfl⟩ := hrel
        by_cases hlt : j < n2
        · have hlt2 : j < nq2 := by omega
          have hkl : j < R.nums.length := by rw [HL2.out]; exact hlt
          have hkm : j < Q.nums.length := by rw [HM2.out]; exact hlt2
          obtain ⟨ad, rfl, hab, hcell⟩ := HR2.out.rd2.get hkl
          obtain ⟨ae, rfl, hae, hcell2⟩ := HQ2.out.rd2.get hkm
          obtain ⟨z, hz⟩ : ∃ z, decide (R.nums.getD j 0 = Q.nums.getD j 0) = z := ⟨_, rfl⟩
          have hne : (((R.nums.getD j 0 : Nat) : Int) != ((Q.nums.getD j 0 : Nat) : Int)) = !z := by
            rw [← hz]
            by_cases h : R.nums.getD j 0 = Q.nums.getD j 0
            · rw [decide_eq_true h]; exact bne_eq_false_iff_eq.2 (by omega)
            · rw [decide_eq_false h]; exact bne_iff_ne.2 (by omega)
          cases z with
          | true =>
            have hE2 : Hid (∀ i, i < j + 1 → R.nums.getD i 0 = Q.nums.getD i 0) := fun i hi => by
              rcases Nat.lt_or_ge i j with h | h
              · exact hE.out i h
              · obtain rfl : i = j := by omega
                exact of_decide_eq_true hz
            generalize R.nums.getD j 0 = y at *
            generalize Q.nums.getD j 0 = yq at *
            clear hz hkl hkm hE
            go_wp2_with fail
            go_quiet (fail)
            go_wp2_with fail
            go_roundw
            case rel => exact ⟨j + 1, _, by omega, by go_num, hE2, rfl⟩
            case measure => simp [intOf]; omega
          | false =>
            obtain rfl : q = false := by
              rw [← HZ5.out]
              exact decide_eq_false (fun h => of_decide_eq_false hz (by rw [h]))
            generalize R.nums.getD j 0 = y at *
            generalize Q.nums.getD j 0 = yq at *
            clear hz hkl hkm hE
            go_wp2_with fail
            go_quiet (fail)
            go_wp2_with fail
            go_ret
            exact ⟨rfl, by have h := HB0.out; rw [← HGW.out] at h; exact below_drewN (below_drewN h _) _⟩
        · obtain rfl : q = true := by
            rw [← HZ5.out]
            exact decide_eq_true (list_sameN (by rw [HL2.out, HM2.out]; omega) (fun i hi => hE.out i (by rw [HL2.out] at hi; omega)))
          clear hE
          go_wp2_with fail
          go_ret
          exact ⟨rfl, by have h := HB0.out; rw [← HGW.out] at h; exact below_drewN h _⟩

end Go.Proofs.Ytihkmdojakalbaa

/- The document's Same of two messages that are alike. For rows of at most 1000. -/
namespace Go.Proofs.Ytihkmdojakalbaa
open Go.RowKit Bytes Strs Nums MsgMath RecMath

theorem sameB_self (R : Rec) : sameB R R = true := by simp [sameB]
set_option maxHeartbeats 4000000 in
set_option maxRecDepth 100000 in
theorem records_true (A B : Option Addr) (c1 c2 n : Nat) (Za Zb : List RecZ) (w : World) (ha : RecsAt w w.heap.size A Za) (hb : RecsAt w w.heap.size B Zb) (hm : Za.map (·.1) = Zb.map (·.1)) (hn : Za.length = n) (hn2 : n ≤ 1000) (hs : ∀ z ∈ Za, Small z.1) :
    Calls Try.prog 28 #[.slice A n c1, .slice B n c2] w fun e w' => e = .returned (.bool true) ∧ Below w.heap.size w w' := by
  have hnb : Zb.length = n := by have := congrArg List.length hm; rw [List.length_map, List.length_map] at this; omega
  obtain ⟨G, hG⟩ : ∃ G, w.heap.size = G := ⟨_, rfl⟩
  rw [hG] at ha hb ⊢
  have HA := Lib.hid ha
  have HB := Lib.hid hb
  have HM := Lib.hid hm
  have HN := Lib.hid hn
  have HNB := Lib.hid hnb
  have HS := Lib.hid hs
  have HG := Lib.hid hG
  clear ha hb hm hn hnb hs hG
  go_enter Try.func28, Try.ntmps28
  go_wp2_with fail
  go_loopw [5] (fun i wr => ∃ j : Nat, i = .int .i64 j ∧ j ≤ n ∧ Hid (Below G w wr)) (fun i _ => n - (intOf i).toNat)
  case atStart => exact ⟨0, rfl, Nat.zero_le _, Below.refl _ _⟩
  case round =>
    obtain ⟨j, rfl, hj, hV⟩ := hrel
    by_cases hlt : j < n
    · obtain ⟨ba, A1, c1', A2, c2', A3, c3', rfl, hba, hat, k0, k1, k2, k3, k4, k5, k6⟩ := (HA.out.on hV.out) j (by rw [HN.out]; exact hlt)
      obtain ⟨bb, B1, d1', B2, d2', B3, d3', rfl, hbb, hbt, m0, m1, m2, m3, m4, m5, m6⟩ := (HB.out.on hV.out) j (by rw [HNB.out]; exact hlt)
      have heq : (Zb[j]'(by rw [HNB.out]; exact hlt)).1 = (Za[j]'(by rw [HN.out]; exact hlt)).1 := by
        have := congrArg (fun L => L[j]?) HM.out
        simp only [List.getElem?_map] at this
        rw [List.getElem?_eq_getElem (by rw [HN.out]; exact hlt), List.getElem?_eq_getElem (by rw [HNB.out]; exact hlt)] at this
        injection this with this
        exact this.symm
      have hsm := HS.out _ (List.getElem_mem (by rw [HN.out]; exact hlt : j < Za.length))
      rw [heq] at hbt m0 m1 m2 m3 m4 m5 m6
      obtain ⟨RR, hRR⟩ : ∃ R, (Za[j]'(by rw [HN.out]; exact hlt)).1 = R := ⟨_, rfl⟩
      rw [hRR] at hat hbt k0 k1 k2 k3 k4 k5 k6 m0 m1 m2 m3 m4 m5 m6 hsm
      obtain ⟨xn, hxn⟩ : ∃ x, mk RR.name = x := ⟨_, rfl⟩
      obtain ⟨rk, hrk⟩ : ∃ n, RR.kind = n := ⟨_, rfl⟩
      obtain ⟨rc, hrc⟩ : ∃ n, RR.cls = n := ⟨_, rfl⟩
      obtain ⟨rt, hrt⟩ : ∃ n, RR.ttl = n := ⟨_, rfl⟩
      obtain ⟨l1, hl1⟩ : ∃ n, RR.names.length = n := ⟨_, rfl⟩
      obtain ⟨l2, hl2⟩ : ∃ n, RR.nums.length = n := ⟨_, rfl⟩
      obtain ⟨l3, hl3⟩ : ∃ n, RR.texts.length = n := ⟨_, rfl⟩
      rw [hxn] at k0 m0
      rw [hrk] at k1 m1
      rw [hrc] at k2 m2
      rw [hrt] at k3 m3
      rw [hl1] at k4 m4
      rw [hl2] at k5 m5
      rw [hl3] at k6 m6
      rw [hxn, hrk, hrc, hrt, hl1, hl2, hl3] at hat hbt
      have hGs : G ≤ wr.heap.size := by have := hV.out.size; rw [HG.out] at this; exact this
      have HSM := Lib.hid (refSame_is RR RR xn rk rc rt A1 l1 c1' A2 l2 c2' A3 l3 c3' xn rk rc rt B1 l1 d1' B2 l2 d2' B3 l3 d3' true wr.drew (hat.on ((Below.refl _ _).drew) hGs) hsm (hbt.on ((Below.refl _ _).drew) hGs) hsm (sameB_self RR))
      have HGS := Lib.hid hGs
      clear hRR hxn hrk hrc hrt hl1 hl2 hl3 hat hbt hsm hGs heq
      go_wp2_with fail
      go_region_with (go_at_call 55; refine HSM.out.mono ?_; rintro e wx ⟨rfl, hB⟩; have HV9 := Lib.hid (hV.out.trans ((Below.refl _ _).drew.trans (hB.mono HGS.out))); clear hB)
      all_goals
        clear k0 k1 k2 k3 k4 k5 k6 m0 m1 m2 m3 m4 m5 m6 HSM hV
        go_wp2_with fail
        go_roundw
        case rel => exact ⟨j + 1, by go_num, by omega, HV9⟩
        case measure => simp [intOf]; omega
    · have hjn : ¬ ((j : Int) < (n : Int)) := by omega
      clear hlt
      go_wp2_with fail
      go_ret
      exact ⟨rfl, hV.out⟩
theorem RecsAt.more {w : World} {G G' : Nat} {A : Option Addr} {Z : List RecZ} (h : RecsAt w G A Z) (hG : G ≤ G') : RecsAt w G' A Z := fun k hk => by
  obtain ⟨bq, A1, c1, A2, c2, A3, c3, e, hl, hat, r⟩ := h k hk
  exact ⟨bq, A1, c1, A2, c2, A3, c3, e, by omega, hat.on (Below.refl _ _) hG, r⟩
theorem qnCs_all {L : List Qn} : ∀ {k j : Nat} (h : k < L.length), j < 3 → (qnCs L)[k * 3 + j]? = (qnV (L[k]))[j]? := by
  induction L with
  | nil => intro k j h; cases h
  | cons q L ih =>
    intro k j h hj
    have e : qnCs (q :: L) = qnV q ++ qnCs L := rfl
    have hl : (qnV q).length = 3 := rfl
    rw [e]
    cases k with
    | zero => rw [List.getElem?_append_left (by rw [hl]; omega)]; simp
    | succ k =>
      rw [List.getElem?_append_right (by rw [hl]; omega), hl, show (k + 1) * 3 + j - 3 = k * 3 + j by omega, ih (by simpa using h) hj]
      simp
/-- The questions of a row. -/
def QnFull (w : World) (G : Nat) (A : Option Addr) (L : List Qn) : Prop := ∀ k (h : k < L.length), ∃ bq, A = some ⟨bq, 0, none⟩ ∧ bq < G ∧ w.cell? ⟨bq, k * 3, none⟩ = some (.string (mk (L[k]).name)) ∧ w.cell? ⟨bq, k * 3 + 1, none⟩ = some (.int .u16 (L[k]).kind) ∧ w.cell? ⟨bq, k * 3 + 2, none⟩ = some (.int .u16 (L[k]).cls)
theorem qnFull_of {w : World} {g : Nat} {v : Value} {L : List Qn} (h : w.ownsRow g 44 3 v L.length (qnCs L)) : ∃ A c, v = .slice A L.length c ∧ QnFull w w.heap.size A L := by
  rcases h.2 with ⟨rfl, h0⟩ | ⟨b, cap, cur, rfl, _, _, _⟩
  · exact ⟨none, 0, by rw [h0], fun k hk => by omega⟩
  · have cell : ∀ k (hk : k < L.length) j, j < 3 → ∀ u, (qnV (L[k]))[j]? = some u → w.cell? ⟨b, k * 3 + j, none⟩ = some u := fun k hk j hj u hu => by
      have := h.cells (g := b) rfl (k * 3 + j) u (by rw [qnCs_all hk hj]; exact hu)
      rwa [add_at] at this
    exact ⟨_, cap, rfl, fun k hk => ⟨b, rfl, (h.lt b rfl).2, cell k hk 0 (by decide) _ rfl, cell k hk 1 (by decide) _ rfl, cell k hk 2 (by decide) _ rfl⟩⟩
theorem QnFull.on {w w' : World} {G : Nat} {A : Option Addr} {L : List Qn} (h : QnFull w G A L) (hb : Below G w w') : QnFull w' G A L := fun k hk => by
  obtain ⟨bq, e, hl, k0, k1, k2⟩ := h k hk
  exact ⟨bq, e, hl, (hb.cell (p := ⟨bq, _, none⟩) hl).trans k0, (hb.cell (p := ⟨bq, _, none⟩) hl).trans k1, (hb.cell (p := ⟨bq, _, none⟩) hl).trans k2⟩
/-- Within Same: the two messages in their blocks. -/
structure SmSt (w wr : World) (b : Nat) (ca cb : Array Value) : Prop where
  eb : w.heap.size = b
  lt : b + 1 < wr.heap.size
  b0 : wr.heap[b]? = some (.cells ca 27 (0, 0))
  b1 : wr.heap[b + 1]? = some (.cells cb 27 (0, 0))
  bl : Below b w wr
theorem SmSt.below {w wr w' : World} {b : Nat} {ca cb : Array Value} (h : SmSt w wr b ca cb) (hb : Below wr.heap.size wr w') : SmSt w w' b ca cb :=
  ⟨h.eb, Nat.lt_of_lt_of_le h.lt hb.size, (hb.block b (by have := h.lt; omega)).trans h.b0, (hb.block (b + 1) h.lt).trans h.b1, h.bl.trans (hb.mono (by have := h.lt; omega))⟩
theorem smSt_start (w : World) (ca cb : Array Value) : SmSt w ((w.alloc (.cells ca 27)).alloc (.cells cb 27)) w.heap.size ca cb :=
  ⟨rfl, by simp, old_at (new_at _ _ _ rfl), new_at _ _ _ (by simp), ((Below.refl _ _).alloc (Nat.le_refl _) _).alloc (by simp) _⟩

set_option maxHeartbeats 4000000 in
set_option maxRecDepth 100000 in
theorem same_true (M : Msg) (Aq Aa An Ax Bq Ba Bn Bx : Option Addr) (cq ca cn cx dq da dn dx nq na nn nx : Nat) (Za Ya Zn Yn Zx Yx : List RecZ) (w : World) (hq : QnFull w w.heap.size Aq M.qs) (hq' : QnFull w w.heap.size Bq M.qs) (hqn : M.qs.length = nq)
    (ha : RecsAt w w.heap.size Aa Za) (ha' : RecsAt w w.heap.size Ba Ya) (hea : Za.map (·.1) = Ya.map (·.1)) (hna : Za.length = na) (hsa : ∀ z ∈ Za, Small z.1)
    (hn : RecsAt w w.heap.size An Zn) (hn' : RecsAt w w.heap.size Bn Yn) (hen : Zn.map (·.1) = Yn.map (·.1)) (hnn : Zn.length = nn) (hsn : ∀ z ∈ Zn, Small z.1)
    (hx : RecsAt w w.heap.size Ax Zx) (hx' : RecsAt w w.heap.size Bx Yx) (hex : Zx.map (·.1) = Yx.map (·.1)) (hnx : Zx.length = nx) (hsx : ∀ z ∈ Zx, Small z.1)
    (h1 : nq ≤ 1000) (h2 : na ≤ 1000) (h3 : nn ≤ 1000) (h4 : nx ≤ 1000) :
    Calls Try.prog 12 #[.agg #[.int .u16 M.id, .int .u16 M.flags, .slice Aq nq cq, .slice Aa na ca, .slice An nn cn, .slice Ax nx cx], .agg #[.int .u16 M.id, .int .u16 M.flags, .slice Bq nq dq, .slice Ba na da, .slice Bn nn dn, .slice Bx nx dx]] w fun e w' => e = .returned (.bool true) ∧ Below w.heap.size w w' := by
  have HST0 := Lib.hid (smSt_start w #[.int .u16 M.id, .int .u16 M.flags, .slice Aq nq cq, .slice Aa na ca, .slice An nn cn, .slice Ax nx cx] #[.int .u16 M.id, .int .u16 M.flags, .slice Bq nq dq, .slice Ba na da, .slice Bn nn dn, .slice Bx nx dx])
  obtain ⟨b, hb⟩ : ∃ b, w.heap.size = b := ⟨_, rfl⟩
  rw [hb] at HST0 hq hq' ha ha' hn hn' hx hx' ⊢
  have RA := Lib.hid (fun W (h : Below b w W) (hs : b ≤ W.heap.size) => records_true Aa Ba ca da na Za Ya W ((ha.on h).more hs) ((ha'.on h).more hs) hea hna h2 hsa)
  have RN := Lib.hid (fun W (h : Below b w W) (hs : b ≤ W.heap.size) => records_true An Bn cn dn nn Zn Yn W ((hn.on h).more hs) ((hn'.on h).more hs) hen hnn h3 hsn)
  have RX := Lib.hid (fun W (h : Below b w W) (hs : b ≤ W.heap.size) => records_true Ax Bx cx dx nx Zx Yx W ((hx.on h).more hs) ((hx'.on h).more hs) hex hnx h4 hsx)
  have HQ := Lib.hid hq
  have HQ2 := Lib.hid hq'
  have HQN := Lib.hid hqn
  have hbw : Hid (w.heap.size = b) := hb
  clear hq hq' hqn ha ha' hea hna hsa hn hn' hen hnn hsn hx hx' hex hnx hsx
  go_enter Try.func12, Try.ntmps12
  go_wp2_with fail
  clear hb
  generalize (w.alloc (.cells #[.int .u16 M.id, .int .u16 M.flags, .slice Aq nq cq, .slice Aa na ca, .slice An nn cn, .slice Ax nx cx] 27)).alloc (.cells #[.int .u16 M.id, .int .u16 M.flags, .slice Bq nq dq, .slice Ba na da, .slice Bn nn dn, .slice Bx nx dx] 27) = w1 at HST0 ⊢
  refine (RA.out _ HST0.out.bl (by have := HST0.out.lt; omega)).mono ?_
  rintro e w2 ⟨rfl, hB⟩
  have HST1 := Lib.hid (HST0.out.below hB)
  clear hB HST0 RA
  have p4 := cell_of_row _ _ 4 _ _ _ HST1.out.b0
  have q4 := cell_of_row _ _ 4 _ _ _ HST1.out.b1
  go_wp2_with fail
  refine (RN.out _ HST1.out.bl (by have := HST1.out.lt; omega)).mono ?_
  rintro e w3 ⟨rfl, hB⟩
  have HST2 := Lib.hid (HST1.out.below hB)
  clear hB HST1 RN p4 q4
  have p5 := cell_of_row _ _ 5 _ _ _ HST2.out.b0
  have q5 := cell_of_row _ _ 5 _ _ _ HST2.out.b1
  go_wp2_with fail
  refine (RX.out _ HST2.out.bl (by have := HST2.out.lt; omega)).mono ?_
  rintro e w4 ⟨rfl, hB⟩
  have HST3 := Lib.hid (HST2.out.below hB)
  clear hB HST2 RX p5 q5
  have p2 := cell_of_row _ _ 2 _ _ _ HST3.out.b0
  have q2 := cell_of_row _ _ 2 _ _ _ HST3.out.b1
  go_wp2_with fail
  go_loopw [5] (fun i wr => ∃ j n : Nat, i = .int .i64 j ∧ j ≤ nq ∧ wr = w4.drewN n) (fun i _ => nq - (intOf i).toNat)
  case atStart => exact ⟨0, 0, rfl, Nat.zero_le _, rfl⟩
  case round =>
    obtain ⟨j, m, rfl, hj, rfl⟩ := hrel
    by_cases hlt : j < nq
    · obtain ⟨ba, rfl, hba, k0, k1, k2⟩ := (HQ.out.on HST3.out.bl) j (by rw [HQN.out]; exact hlt)
      obtain ⟨bb, rfl, hbb, m0, m1, m2⟩ := (HQ2.out.on HST3.out.bl) j (by rw [HQN.out]; exact hlt)
      obtain ⟨QQ, hQQ⟩ : ∃ Q, M.qs[j]'(by rw [HQN.out]; exact hlt) = Q := ⟨_, rfl⟩
      rw [hQQ] at k0 k1 k2 m0 m1 m2
      obtain ⟨xn, hxn⟩ : ∃ x, mk QQ.name = x := ⟨_, rfl⟩
      obtain ⟨rk, hrk⟩ : ∃ n, QQ.kind = n := ⟨_, rfl⟩
      obtain ⟨rc, hrc⟩ : ∃ n, QQ.cls = n := ⟨_, rfl⟩
      rw [hxn] at k0 m0
      rw [hrk] at k1 m1
      rw [hrc] at k2 m2
      clear hQQ hxn hrk hrc
      have hse : (xn.toList == xn.toList) = true := beq_self_eq_true _
      go_wp2_with fail
      go_quiet (fail)
      go_wp2_with fail
      go_roundw
      case rel => exact ⟨j + 1, m + _, by go_num, by omega, rfl⟩
      case measure => simp [intOf]; omega
    · have hjn : ¬ ((j : Int) < (nq : Int)) := by omega
      clear hlt
      go_wp2_with fail
      go_ret
      exact ⟨rfl, HST3.out.bl.os, HST3.out.bl.tape, HST3.out.bl.output, HST3.out.bl.size, HST3.out.bl.block⟩
end Go.Proofs.Ytihkmdojakalbaa
