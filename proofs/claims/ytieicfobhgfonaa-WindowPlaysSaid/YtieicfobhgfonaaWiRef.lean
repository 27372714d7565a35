/- The document's books of layer 17: rows in memory, Of. For up to 1000 streams. -/
import Derived.Test.YtieicfobhgfonaaProg
import Derived.Test.YtieicfobhgfonaaWiMath
import Derived.WalkKit
import Derived.Lib.Hide
import Derived.OwnWalk
import Derived.Below
import Derived.Laws.OwnMore
import Derived.Laws.Rows
import Derived.Outline
import Derived.IntWalk
import Derived.WalkSpells
import Derived.WalkLawsBesides
import Derived.LoopTactic
import Derived.Deep.CutRange
namespace Go.Proofs.Ytieicfobhgfonaa
open Go Go.RowKit Wi

namespace Wi
theorem infoW : (Try.prog.info? 60).map (fun i => (i.zero, i.size, i.bytes)) = some (some (.agg #[.int .u32 0, .int .i64 0]), 2, 16) := by kernel_rfl
theorem zaddW (g n : Nat) : ((⟨g, 0, none⟩ : Addr).add n) = ⟨g, n, none⟩ := by unfold Addr.add; split <;> simp_all
/-- Rows as cells. -/
def rwCs : List (Nat × Int) → List Value
  | [] => []
  | e :: l => .int .u32 (e.1 : Int) :: .int .i64 e.2 :: rwCs l
theorem rwCs_len : ∀ L : List (Nat × Int), (rwCs L).length = L.length * 2
  | [] => rfl
  | e :: l => by rw [rwCs, List.length_cons, List.length_cons, List.length_cons, rwCs_len l]; omega
theorem rwCs_cat (a b : List (Nat × Int)) : rwCs (a ++ b) = rwCs a ++ rwCs b := by
  induction a with
  | nil => rfl
  | cons e a ih => rw [List.cons_append, rwCs, rwCs, ih]; rfl
def rwAt (L : List (Nat × Int)) (k : Nat) : Nat × Int := L.getD k (0, 0)
theorem rwAt_cons (e : Nat × Int) (l : List (Nat × Int)) (k : Nat) : rwAt (e :: l) (k + 1) = rwAt l k := rfl
theorem rwCs_at : ∀ {L : List (Nat × Int)} {k : Nat}, k < L.length → (rwCs L)[k * 2]? = some (.int .u32 ((rwAt L k).1 : Int)) ∧ (rwCs L)[k * 2 + 1]? = some (.int .i64 (rwAt L k).2)
  | [], k, h => absurd h (Nat.not_lt_zero k)
  | e :: l, 0, _ => ⟨rfl, rfl⟩
  | e :: l, k + 1, h => by
    have ih := rwCs_at (L := l) (k := k) (by rw [List.length_cons] at h; omega)
    rw [rwCs, show (k + 1) * 2 = k * 2 + 1 + 1 by omega, rwAt_cons]
    exact ih
theorem rwCs_one {L : List (Nat × Int)} : ∀ u ∈ rwCs L, u.oneCell' = true := by
  induction L with
  | nil => intro u hu; cases hu
  | cons e l ih =>
    intro u hu
    rw [rwCs] at hu
    rcases List.mem_cons.1 hu with rfl | hu
    · rfl
    rcases List.mem_cons.1 hu with rfl | hu
    · rfl
    exact ih u hu
/-- The slice at this address, as long as L, reads as the rows L, below block B; its block is one of rows. -/
def RdW (w : World) (B : Nat) (A : Option Addr) (L : List (Nat × Int)) : Prop :=
  (∀ k, k < L.length → ∃ (b o : Nat), A = some ⟨b, o, none⟩ ∧ b < B ∧ w.cell? ⟨b, o + k * 2, none⟩ = some (.int .u32 ((rwAt L k).1 : Int)) ∧ w.cell? ⟨b, o + k * 2 + 1, none⟩ = some (.int .i64 (rwAt L k).2)) ∧
  (∀ b o s, A = some ⟨b, o, s⟩ → b < B ∧ ∃ cs fz, w.heap[b]? = some (.cells cs 60 fz))
theorem RdW.on {w w' : World} {B B' : Nat} {a : Option Addr} {L : List (Nat × Int)} (h : RdW w B a L) (hb : Below B w w') (hB : B ≤ B') : RdW w' B' a L := ⟨fun k hk => by
  obtain ⟨b, off, e, hlt, c0, c1⟩ := h.1 k hk
  exact ⟨b, off, e, by omega, (hb.cell (p := ⟨b, off + k * 2, none⟩) hlt).trans c0, (hb.cell (p := ⟨b, off + k * 2 + 1, none⟩) hlt).trans c1⟩, fun b o s e => by
  obtain ⟨h1, cs, fz, h2⟩ := h.2 b o s e
  exact ⟨by omega, cs, fz, (hb.block b h1).trans h2⟩⟩
theorem rdw_none (w : World) (B : Nat) : RdW w B none [] := ⟨fun k hk => absurd hk (Nat.not_lt_zero k), fun b o s e => by cases e⟩
theorem own_rdw {w : World} {base n : Nat} {v : Value} {L : List (Nat × Int)} (h : w.ownsRow base 60 2 v n (rwCs L)) (hn : L.length = n) : ∃ A c, v = .slice A n c ∧ RdW w w.heap.size A L := by
  rcases h.2 with ⟨rfl, h0⟩ | ⟨g, cap, cur, rfl, _, hg, _⟩
  · subst h0
    exact ⟨none, 0, rfl, fun k hk => absurd hk (by omega), fun b o s e => by cases e⟩
  · refine ⟨some ⟨g, 0, none⟩, cap, rfl, fun k hk => ⟨g, 0, rfl, (h.lt g rfl).2, ?_, ?_⟩, fun b o s e => ?_⟩
    · have h1 := h.cells (g := g) rfl _ _ (rwCs_at hk).1
      rw [zaddW] at h1
      rw [Nat.zero_add]
      exact h1
    · have h1 := h.cells (g := g) rfl _ _ (rwCs_at hk).2
      rw [zaddW] at h1
      rw [Nat.zero_add]
      exact h1
    · injection e with e
      injection e with e1 e2 e3
      subst e1
      exact ⟨(h.lt g rfl).2, _, _, hg⟩
/-- A book of the document's as a value. -/
def bkV (B : Bk) (A : Option Addr) (n c : Nat) : Value := .agg #[.int .i64 B.conn, .int .i64 B.first, .slice A n c]
theorem ofR_drop_at {L : List (Nat × Int)} {k j : Nat} (hk : k < L.length) : ofR (L.drop k) j = if (rwAt L k).1 = j then some (rwAt L k).2 else ofR (L.drop (k + 1)) j := by
  have e : L.drop k = rwAt L k :: L.drop (k + 1) := by
    rw [List.drop_eq_getElem_cons hk]
    congr 1
    unfold rwAt
    rw [List.getD_eq_getElem?_getD, List.getElem?_eq_getElem hk]
    rfl
  rw [e, ofR]
end Wi
set_option maxHeartbeats 8000000 in
set_option maxRecDepth 100000 in
theorem xof_is (B : Bk) (A : Option Addr) (n c id : Nat) (o : Option Int) (w : World) (hn : Hid (B.rows.length = n)) (hnb : n ≤ 1000) (hA : Hid (RdW w w.heap.size A B.rows)) (ho : Hid (ofR B.rows id = o)) :
    Calls Try.prog 27 #[bkV B A n c, .int .u32 (id : Int)] w fun e w' => e = .returned (.tuple #[.int .i64 (o.getD 0), .bool o.isSome]) ∧ Below w.heap.size w w' := by
  unfold bkV
  have hX := heap_alloc_new w (.cells #[.int .i64 B.conn, .int .i64 B.first, .slice A n c] 28)
  have hBX := (Below.refl _ w).alloc (Nat.le_refl _) (.cells #[.int .i64 B.conn, .int .i64 B.first, .slice A n c] 28)
  have c2 : (w.alloc (.cells #[.int .i64 B.conn, .int .i64 B.first, .slice A n c] 28)).cell? ⟨w.heap.size, 2, none⟩ = some (.slice A n c) := cell_of_row _ _ 2 _ _ _ hX
  obtain ⟨V, hV⟩ : ∃ V, w.alloc (.cells #[.int .i64 B.conn, .int .i64 B.first, .slice A n c] 28) = V := ⟨_, rfl⟩
  rw [hV] at hX hBX c2
  have HV := Lib.hid hV
  have HBX := Lib.hid hBX
  have HRV := Lib.hid (hA.out.on hBX (Nat.le_refl _))
  clear hV hX hBX
  go_enter Try.func27, Try.ntmps27
  go_upto_region 1 with fail
  rw [HV.out]
  go_wp2_with fail
  go_loop [6] (fun i => ∃ k : Nat, k ≤ n ∧ i = .int .i64 (k : Int) ∧ Hid (ofR (B.rows.drop k) id = o)) (fun i => n - (intOf i).toNat)
  case atStart => exact ⟨0, Nat.zero_le _, rfl, Lib.hid (by rw [List.drop_zero]; exact ho.out)⟩
  case round =>
    obtain ⟨k, hk, rfl, hO⟩ := hrel
    by_cases hlt : k < n
    · have hki : (k : Int) < (n : Int) := by omega
      have hk0 : (0 : Int) ≤ (k : Int) := by omega
      have hkl : k < B.rows.length := by rw [hn.out]; exact hlt
      obtain ⟨b0, off, rfl, hb0, d0, d1⟩ := HRV.out.1 k hkl
      have hst := hO.out
      rw [ofR_drop_at hkl] at hst
      obtain ⟨⟨x, y⟩, hxy⟩ : ∃ z, rwAt B.rows k = z := ⟨_, rfl⟩
      rw [hxy] at d0 d1 hst
      have hst : (if x = id then some y else ofR (B.rows.drop (k + 1)) id) = o := hst
      have d0 : V.cell? ⟨b0, off + k * 2, none⟩ = some (.int .u32 (x : Int)) := d0
      have d1 : V.cell? ⟨b0, off + k * 2 + 1, none⟩ = some (.int .i64 y) := d1
      by_cases hx : x = id
      · have hxe : ((x : Int) == (id : Int)) = true := beq_iff_eq.2 (by omega)
        rw [if_pos hx] at hst
        subst hst
        clear hx hxy hkl
        go_wp2_with fail
        go_ret2
        exact ⟨rfl, HBX.out⟩
      · have hxe : ((x : Int) == (id : Int)) = false := beq_eq_false_iff_ne.2 (by omega)
        rw [if_neg hx] at hst
        have HS := Lib.hid hst
        clear hx hxy hkl hst
        go_wp2_with fail
        go_round
        case rel => exact ⟨k + 1, by omega, by go_num, HS⟩
        case measure => simp [intOf]; omega
    · have hnk : ¬ ((k : Int) < (n : Int)) := by omega
      have hst := hO.out
      rw [List.drop_of_length_le (by rw [hn.out]; omega)] at hst
      have hst : none = o := hst
      subst hst
      go_wp2_with fail
      go_ret2
      exact ⟨rfl, HBX.out⟩
end Go.Proofs.Ytieicfobhgfonaa
