/- The document's Parse of layer 16; the settings that stand in bytes. For texts of at most 10^6 bytes. -/
import Derived.Test.YteddepmiejlemaaProg
import Derived.Test.YteddepmiejlemaaBytes
import Derived.Test.YteddepmiejlemaaNumBe
import Derived.Test.YteddepmiejlemaaNumRefGet
import Derived.Test.YteddepmiejlemaaFrMath
import Derived.Test.YteddepmiejlemaaFrMake
import Derived.Test.YteddepmiejlemaaFrFrame
import Derived.Test.YteddepmiejlemaaFrSets
import Derived.WalkKit
import Derived.Lib.Hide
import Derived.Laws.Rows
import Derived.Outline
import Derived.IntWalk
import Derived.WalkSpells
import Derived.WalkLawsBesides
import Derived.LoopTactic
import Derived.Deep.CutRange
namespace Go.Proofs.Yteddepmiejlemaa
open Go Go.RowKit Bytes Fr

namespace Se
/-- The settings that stand in bytes. -/
def sets : List UInt8 → List (Nat × Nat)
  | a :: b :: c :: d :: e :: f :: l => (be [a, b], be [c, d, e, f]) :: sets l
  | _ => []
theorem sets_step {l : List UInt8} (h : 6 ≤ l.length) : sets l = (be (l.take 2), be ((l.drop 2).take 4)) :: sets (l.drop 6) := by
  match l, h with
  | a :: b :: c :: d :: e :: f :: l, _ => rfl
theorem sets_short {l : List UInt8} (h : l.length < 6) : sets l = [] := by
  match l, h with
  | [], _ => rfl
  | [_], _ => rfl
  | [_, _], _ => rfl
  | [_, _, _], _ => rfl
  | [_, _, _, _], _ => rfl
  | [_, _, _, _, _], _ => rfl
theorem sets_at {s : ByteArray} {k : Nat} (h : k + 6 ≤ s.size) : sets (s.data.toList.drop k) = (gN s k 2, gN s (k + 2) 4) :: sets (s.data.toList.drop (k + 6)) := by
  rw [sets_step (by rw [List.length_drop, size_l]; omega), List.drop_drop, List.drop_drop]
  rfl
theorem beTail_two (x : Nat) (h : x < 65536) : be (beTail x 2) = x := by rw [be_beTail]; exact Nat.mod_eq_of_lt (by simpa using h)
theorem beTail_four (x : Nat) (h : x < 4294967296) : be (beTail x 4) = x := by rw [be_beTail]; exact Nat.mod_eq_of_lt (by simpa using h)
/-- Settings come back from their bytes. -/
theorem sets_back : ∀ L : List (Nat × Nat), (∀ x ∈ L, x.1 < 65536 ∧ x.2 < 4294967296) → sets (setB L) = L
  | [], _ => rfl
  | x :: L, h => by
    have hx := h x (List.mem_cons_self ..)
    have ih := sets_back L (fun y hy => h y (List.mem_cons_of_mem _ hy))
    have h2 : (beTail x.1 2).length = 2 := beTail_length _ _
    have h4 : (beTail x.2 4).length = 4 := beTail_length _ _
    rw [setB, sets_step (by rw [List.length_append, List.length_append, h2, h4]; omega)]
    have e1 : (beTail x.1 2 ++ (beTail x.2 4 ++ setB L)).take 2 = beTail x.1 2 := List.take_left' h2
    have e2 : ((beTail x.1 2 ++ (beTail x.2 4 ++ setB L)).drop 2).take 4 = beTail x.2 4 := by rw [List.drop_left' h2]; exact List.take_left' h4
    have e3 : (beTail x.1 2 ++ (beTail x.2 4 ++ setB L)).drop 6 = setB L := by
      rw [← List.append_assoc]
      exact List.drop_left' (by rw [List.length_append, h2, h4])
    rw [e1, e2, e3, ih, beTail_two _ hx.1, beTail_four _ hx.2]
theorem sets_len (n : Nat) : ∀ l : List UInt8, l.length ≤ n → 6 * (sets l).length ≤ l.length := by
  induction n with
  | zero => intro l h; rw [sets_short (by omega)]; simp
  | succ n ih =>
    intro l h
    by_cases h6 : 6 ≤ l.length
    · rw [sets_step h6, List.length_cons]
      have := ih (l.drop 6) (by rw [List.length_drop]; omega)
      rw [List.length_drop] at this
      omega
    · rw [sets_short (by omega)]
      simp
theorem set_mem {L : List (Nat × Nat)} (h : ∀ k, k < L.length → (setAt L k).1 < 65536 ∧ (setAt L k).2 < 4294967296) : ∀ x ∈ L, x.1 < 65536 ∧ x.2 < 4294967296 := fun x hx => by
  obtain ⟨k, hk, rfl⟩ := List.getElem_of_mem hx
  have := h k hk
  have e : setAt L k = L[k] := by unfold setAt; rw [List.getD_eq_getElem?_getD, List.getElem?_eq_getElem hk]; rfl
  rw [e] at this
  exact this
theorem setCs_cat (a b : List (Nat × Nat)) : setCs (a ++ b) = setCs a ++ setCs b := by
  induction a with
  | nil => rfl
  | cons e a ih => rw [List.cons_append, setCs, setCs, ih]; rfl
/-- One append of one setting to a row of one's own: what it leaves. -/
theorem own_set {wr w1 w : World} {g k : Nat} {u v' : Value} {o : Obj} {L : List (Nat × Nat)} {x : Nat × Nat} (hO : wr.ownsRow g 48 2 u k (setCs L)) (hB : Below g w wr) (hg : w.heap.size = g)
    (hown : w1.ownsRow g 48 2 v' (k + 1) (setCs L ++ [.int .u16 (x.1 : Int), .int .u32 (x.2 : Int)])) (hgrow : (wr.alloc o).grownBy w1 u.ownBlock) :
    w1.ownsRow g 48 2 v' (k + 1) (setCs (L ++ [x])) ∧ Below g w w1 := by
  refine ⟨?_, ?_⟩
  · rw [setCs_cat]
    exact hown
  · have hle : g ≤ wr.heap.size := by have := hB.size; omega
    exact (hB.alloc hle o).grown hgrow (by have := (Below.refl 0 wr).alloc (Nat.zero_le _) o; have := this.size; omega) (fun b hb => (hO.lt b hb).1)
end Se
open Se

set_option maxHeartbeats 8000000 in
set_option maxRecDepth 100000 in
theorem sparse_is (s : ByteArray) (L : List (Nat × Nat)) (w : World) (hs : s.size ≤ 1000000) (hL : Hid (sets s.data.toList = L)) :
    Calls Try.prog 16 #[.string s] w fun e w' => ∃ (A : Option Addr) (n cp : Nat), e = .returned (.slice A n cp) ∧ Hid (RdSt w' w'.heap.size A L) ∧ Hid (L.length = n) ∧ Below w.heap.size w w' := by
  obtain ⟨g, hg⟩ : ∃ g, w.heap.size = g := ⟨_, rfl⟩
  have G := Lib.hid hg
  clear hg
  go_enter Try.func16, Try.ntmps16
  go_wp2_with fail
  go_loopw [3, 4, 5, 6, 7, 8] (fun o i _ _ _ _ wr => ∃ (k m : Nat) (K : List (Nat × Nat)), k ≤ s.size ∧ 6 * m = k ∧ i = .int .i64 (k : Int) ∧ Hid (K.length = m) ∧ Hid (wr.ownsRow g 48 2 o m (setCs K)) ∧ Hid (∀ j, j < K.length → (setAt K j).1 < 65536 ∧ (setAt K j).2 < 4294967296) ∧ Hid (K ++ sets (s.data.toList.drop k) = L) ∧ Hid (Below g w wr)) (fun _ i _ _ _ _ _ => s.size - (intOf i).toNat)
  case atStart => exact ⟨0, 0, [], Nat.zero_le _, rfl, rfl, Lib.hid rfl, Lib.hid ⟨rfl, .inl ⟨rfl, rfl⟩⟩, Lib.hid (fun j hj => absurd hj (Nat.not_lt_zero j)), Lib.hid (by rw [List.drop_zero]; exact hL.out), Lib.hid (by rw [← G.out]; exact Below.refl _ w)⟩
  case round =>
    obtain ⟨k, m, K, hk, h6m, rfl, hKm, hO, hKb, hRun, hBw⟩ := hrel
    have hgw : Hid (g ≤ wr.heap.size) := Lib.hid (by have := hBw.out.size; have := G.out; omega)
    have esub : IntKind.i64.wrap ((s.size : Int) - (k : Int)) = ((s.size - k : Nat) : Int) := by rw [IntKind.wrap_i64]; omega
    by_cases hgo : k + 6 ≤ s.size
    · have hge : (6 : Int) ≤ (s.size : Int) - (k : Int) := by omega
      have ek6 : IntKind.i64.wrap ((k : Int) + 6) = ((k + 6 : Nat) : Int) := by rw [IntKind.wrap_i64]; omega
      have hb2 := gN_lt s k 2
      have hb4 := gN_lt s (k + 2) 4
      have hrun := hRun.out
      rw [sets_at hgo] at hrun
      obtain ⟨p, hp⟩ : ∃ p, gN s k 2 = p := ⟨_, rfl⟩
      obtain ⟨q, hq⟩ : ∃ q, gN s (k + 2) 4 = q := ⟨_, rfl⟩
      rw [hp] at hb2 hrun
      rw [hq] at hb4 hrun
      have HP1 : Hid (∀ v, Calls Try.prog 22 #[.string s, .int .i64 (k : Int), .int .i64 2] v fun e w' => e = .returned (.tuple #[.int .u64 (p : Int), .bool true]) ∧ v = w') := Lib.hid (fun v => by rw [← hp]; exact rget_at s k 2 v (by unfold maxLen; omega) (by decide) (by decide) (by omega))
      have HP2 : Hid (∀ v, Calls Try.prog 22 #[.string s, .int .i64 ((k : Int) + 2), .int .i64 4] v fun e w' => e = .returned (.tuple #[.int .u64 (q : Int), .bool true]) ∧ v = w') := Lib.hid (fun v => by rw [← hq]; have h := rget_at s (k + 2) 4 v (by unfold maxLen; omega) (by decide) (by decide) (by omega); rw [show ((k + 2 : Nat) : Int) = (k : Int) + 2 by omega] at h; exact h)
      have hb2 : p < 65536 := hb2
      have hb4 : q < 4294967296 := hb4
      have eu2 : IntKind.u16.wrap (p : Int) = (p : Int) := by rw [IntKind.wrap_u16]; omega
      have eu4 : (q : Int) % 4294967296 = (q : Int) := by omega
      have HRUN2 : Hid ((K ++ [(p, q)]) ++ sets (s.data.toList.drop (k + 6)) = L) := Lib.hid (by rw [List.append_assoc]; exact hrun)
      have hKm2 : Hid ((K ++ [(p, q)]).length = m + 1) := Lib.hid (by rw [List.length_append, hKm.out]; rfl)
      have HKB : Hid (∀ j, j < (K ++ [(p, q)]).length → (setAt (K ++ [(p, q)]) j).1 < 65536 ∧ (setAt (K ++ [(p, q)]) j).2 < 4294967296) := Lib.hid (fun j hj => by
        rcases Nat.lt_or_ge j K.length with h | h
        · have e : setAt (K ++ [(p, q)]) j = setAt K j := by unfold setAt; rw [List.getD_eq_getElem?_getD, List.getD_eq_getElem?_getD, List.getElem?_append_left h]
          rw [e]
          exact hKb.out j h
        · have e : j = K.length := by rw [List.length_append] at hj; simp at hj; omega
          have e2 : setAt (K ++ [(p, q)]) j = (p, q) := by subst e; unfold setAt; rw [List.getD_eq_getElem?_getD, List.getElem?_append_right (Nat.le_refl _), Nat.sub_self]; rfl
          rw [e2]
          exact ⟨hb2, hb4⟩)
      clear hrun hRun hKb hp hq
      go_wp2_with fail
      refine (HP1.out _).mono ?_
      rintro e1 w1 ⟨rfl, rfl⟩
      go_wp2_with fail
      refine (HP2.out _).mono ?_
      rintro e1 w1 ⟨rfl, rfl⟩
      go_upto_region 7 with fail
      obtain ⟨i0, hi, hz0, hz1, hz2⟩ := info_parts infoS
      have HI := Lib.hid hi
      have HZ0 := Lib.hid hz0
      have HZ1 := Lib.hid hz1
      have HZ2 := Lib.hid hz2
      have hmb : m ≤ 200000 := by omega
      clear hi hz0 hz1 hz2
      go_wp2_with (at_builtin; refine wpList_append_own _ rfl _ _ 22 rfl g 48 i0 (.agg #[.int .u16 0, .int .u32 0]) 2 8 Try.underlying22 HI.out HZ0.out HZ1.out HZ2.out rfl (by decide) _ _ _ rfl (hO.out.alloc _) ⟨wr.heap.size, 0, none⟩ 1 1 (setCs [(p, q)]) rfl rfl ?c1 ?c2 ?c3 ?c4 ?c5 ?_)
      case c1 =>
        intro j u hj
        have e : (Addr.add ⟨wr.heap.size, 0, none⟩ j) = ⟨wr.heap.size, j, none⟩ := by simp [Addr.add]; omega
        rw [e, World.cell?_alloc_at _ _ _ _ rfl, ← Array.getElem?_toList]
        exact hj
      case c2 => exact setCs_one
      case c3 => unfold maxLen; omega
      case c4 => omega
      case c5 => have := hgw.out; simp; omega
      intro v' w3 hown hgrow _
      obtain ⟨hO3, hB3⟩ := own_set hO.out hBw.out G.out hown hgrow
      have HO3 := Lib.hid hO3
      have HB3 := Lib.hid hB3
      clear hown hgrow hO3 hB3 hmb
      go_wp2_with fail
      go_roundw
      case rel => exact ⟨k + 6, m + 1, K ++ [(p, q)], hgo, by omega, by go_num, hKm2, HO3, HKB, HRUN2, HB3⟩
      case measure => simp [intOf]; omega
    · have hend : ¬ (6 : Int) ≤ (s.size : Int) - (k : Int) := by omega
      have hrun := hRun.out
      rw [sets_short (by rw [List.length_drop, size_l]; omega), List.append_nil] at hrun
      subst hrun
      obtain ⟨A, cp, rfl, hrd⟩ := own_sets hO.out hKm.out.symm (fun j hj => hKb.out j hj)
      have HRD := Lib.hid hrd
      clear hrd
      go_wp2_with fail
      go_ret
      exact ⟨A, m, ⟨cp, rfl⟩, HRD, hKm, by rw [G.out]; exact hBw.out⟩
end Go.Proofs.Yteddepmiejlemaa
