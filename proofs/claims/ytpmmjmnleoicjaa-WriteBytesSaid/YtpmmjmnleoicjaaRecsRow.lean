/- Rows of questions and of records: what a call reads of them. No condition. -/
import Derived.Test.YtpmmjmnleoicjaaProg
import Derived.Test.YtpmmjmnleoicjaaBytes
import Derived.Test.YtpmmjmnleoicjaaStrs
import Derived.Test.YtpmmjmnleoicjaaNums
import Derived.Test.YtpmmjmnleoicjaaMsgMath
import Derived.Test.YtpmmjmnleoicjaaRecMath
import Derived.Test.YtpmmjmnleoicjaaRecAt
import Derived.Test.YtpmmjmnleoicjaaRecRow
import Derived.Test.YtpmmjmnleoicjaaRecAll
import Derived.Test.YtpmmjmnleoicjaaRdrAsk
import Derived.WalkKit
import Derived.Lib.Hide
namespace Go.Proofs.Ytpmmjmnleoicjaa
open Go Go.RowKit Bytes Strs Nums MsgMath RecMath

theorem add_at (b k : Nat) : (⟨b, 0, none⟩ : Addr).add k = ⟨b, k, none⟩ := by
  by_cases h : k = 0
  · subst h; rfl
  · simp [Addr.add, h]
theorem qnCs_at {L : List Qn} : ∀ {k : Nat} (h : k < L.length), (qnCs L)[k * 3]? = some (.string (mk (L[k]).name)) := by
  induction L with
  | nil => intro k h; cases h
  | cons q L ih =>
    intro k h
    have e : qnCs (q :: L) = qnV q ++ qnCs L := rfl
    have hl : (qnV q).length = 3 := rfl
    rw [e]
    cases k with
    | zero => rfl
    | succ k =>
      rw [List.getElem?_append_right (by rw [hl]; omega), hl, show (k + 1) * 3 - 3 = k * 3 by omega, ih (by simpa using h)]
      simp
/-- The names of a row of questions. -/
def QnsAt (w : World) (G : Nat) (A : Option Addr) (L : List Qn) : Prop := ∀ k (h : k < L.length), ∃ bq, A = some ⟨bq, 0, none⟩ ∧ bq < G ∧ w.cell? ⟨bq, k * 3, none⟩ = some (.string (mk (L[k]).name))
theorem qns_of {w : World} {g : Nat} {v : Value} {L : List Qn} (h : w.ownsRow g 62 3 v L.length (qnCs L)) : ∃ A c, v = .slice A L.length c ∧ QnsAt w w.heap.size A L := by
  rcases h.2 with ⟨rfl, h0⟩ | ⟨b, cap, cur, rfl, _, _, _⟩
  · exact ⟨none, 0, by rw [h0], fun k hk => by omega⟩
  · refine ⟨_, cap, rfl, fun k hk => ⟨b, rfl, (h.lt b rfl).2, ?_⟩⟩
    have := h.cells (g := b) rfl (k * 3) _ (qnCs_at hk)
    rwa [add_at] at this
theorem QnsAt.on {w w' : World} {G : Nat} {A : Option Addr} {L : List Qn} (h : QnsAt w G A L) (hb : Below G w w') : QnsAt w' G A L := fun k hk => by
  obtain ⟨bq, e, hl, hc⟩ := h k hk
  exact ⟨bq, e, hl, (hb.cell (p := ⟨bq, k * 3, none⟩) hl).trans hc⟩
/-- The records of a row. -/
def RecsAt (w : World) (G : Nat) (A : Option Addr) (Z : List RecZ) : Prop := ∀ k (h : k < Z.length), ∃ bq A1 c1 A2 c2 A3 c3, A = some ⟨bq, 0, none⟩ ∧ bq < G ∧ RecAt w G (Z[k]).1 (mk (Z[k]).1.name) (Z[k]).1.kind (Z[k]).1.cls (Z[k]).1.ttl A1 (Z[k]).1.names.length A2 (Z[k]).1.nums.length A3 (Z[k]).1.texts.length ∧
  w.cell? ⟨bq, k * 7, none⟩ = some (.string (mk (Z[k]).1.name)) ∧ w.cell? ⟨bq, k * 7 + 1, none⟩ = some (.int .u16 (Z[k]).1.kind) ∧ w.cell? ⟨bq, k * 7 + 2, none⟩ = some (.int .u16 (Z[k]).1.cls) ∧ w.cell? ⟨bq, k * 7 + 3, none⟩ = some (.int .u32 (Z[k]).1.ttl) ∧ w.cell? ⟨bq, k * 7 + 4, none⟩ = some (.slice A1 (Z[k]).1.names.length c1) ∧ w.cell? ⟨bq, k * 7 + 5, none⟩ = some (.slice A2 (Z[k]).1.nums.length c2) ∧ w.cell? ⟨bq, k * 7 + 6, none⟩ = some (.slice A3 (Z[k]).1.texts.length c3)
theorem recs_of {w : World} {g g2 : Nat} {v : Value} {Z : List RecZ} (h : w.ownsRow g 60 7 v Z.length (recCs Z)) (hz : ∀ z ∈ Z, RecIn w g2 z.1 z.2.1 z.2.2.1 z.2.2.2) : ∃ A c, v = .slice A Z.length c ∧ RecsAt w w.heap.size A Z := by
  rcases h.2 with ⟨rfl, h0⟩ | ⟨b, cap, cur, rfl, _, _, _⟩
  · exact ⟨none, 0, by rw [h0], fun k hk => by omega⟩
  · refine ⟨_, cap, rfl, fun k hk => ?_⟩
    obtain ⟨A1, c1, A2, c2, A3, c3, e1, e2, e3, hat⟩ := (hz (Z[k]) (List.getElem_mem hk)).at_
    have cell : ∀ j, j < 7 → ∀ u, (recV (Z[k]).1 (Z[k]).2.1 (Z[k]).2.2.1 (Z[k]).2.2.2)[j]? = some u → w.cell? ⟨b, k * 7 + j, none⟩ = some u := fun j hj u hu => by
      have := h.cells (g := b) rfl (k * 7 + j) u (by rw [recCs_at hk hj]; exact hu)
      rwa [add_at] at this
    exact ⟨b, A1, c1, A2, c2, A3, c3, rfl, (h.lt b rfl).2, hat, cell 0 (by decide) _ rfl, cell 1 (by decide) _ rfl, cell 2 (by decide) _ rfl, cell 3 (by decide) _ rfl, cell 4 (by decide) _ (by rw [← e1]; rfl), cell 5 (by decide) _ (by rw [← e2]; rfl), cell 6 (by decide) _ (by rw [← e3]; rfl)⟩
theorem RecsAt.on {w w' : World} {G : Nat} {A : Option Addr} {Z : List RecZ} (h : RecsAt w G A Z) (hb : Below G w w') : RecsAt w' G A Z := fun k hk => by
  obtain ⟨bq, A1, c1, A2, c2, A3, c3, e, hl, hat, k0, k1, k2, k3, k4, k5, k6⟩ := h k hk
  exact ⟨bq, A1, c1, A2, c2, A3, c3, e, hl, hat.on hb (Nat.le_refl _), (hb.cell (p := ⟨bq, _, none⟩) hl).trans k0, (hb.cell (p := ⟨bq, _, none⟩) hl).trans k1, (hb.cell (p := ⟨bq, _, none⟩) hl).trans k2, (hb.cell (p := ⟨bq, _, none⟩) hl).trans k3, (hb.cell (p := ⟨bq, _, none⟩) hl).trans k4, (hb.cell (p := ⟨bq, _, none⟩) hl).trans k5, (hb.cell (p := ⟨bq, _, none⟩) hl).trans k6⟩
end Go.Proofs.Ytpmmjmnleoicjaa
