/- What stands at a place of a name's bytes tells of the whole. No condition. -/
import Derived.Test.YtpmmjmnleoicjaaProg
import Derived.Test.YtpmmjmnleoicjaaBytes
import Derived.Test.YtpmmjmnleoicjaaStrs
import Derived.Test.YtpmmjmnleoicjaaNameMath
import Derived.WalkKit
import Derived.Lib.Hide
import Derived.Outline
import Derived.IntWalk
import Derived.WalkSpells
import Derived.WalkLawsBesides
namespace Go.Proofs.Ytpmmjmnleoicjaa
open Go.RowKit Bytes Strs NameMath

theorem lbs_end {l : List UInt8} {k : Nat} (h : l.length ≤ k) : lbs (l.drop k) = none := by rw [List.drop_of_length_le h, lbs_nil]
theorem lbs_at0 {l : List UInt8} {k : Nat} {x : UInt8} (hk : k < l.length) (hx : l.getD k 0 = x) (h0 : x.toNat = 0) : lbs (l.drop k) = if k + 1 = l.length then some [] else none := by
  rw [drop_cons hk, hx, lbs_zero h0, List.length_drop]
  by_cases h : k + 1 = l.length
  · rw [if_pos (by omega), if_pos h]
  · rw [if_neg (by omega), if_neg h]
theorem lbs_atbad {l : List UInt8} {k : Nat} {x : UInt8} (hk : k < l.length) (hx : l.getD k 0 = x) (h0 : x.toNat ≠ 0) (h1 : 63 < x.toNat ∨ l.length < k + 1 + x.toNat) : lbs (l.drop k) = none := by
  rw [drop_cons hk, hx, lbs_bad h0]
  rw [List.length_drop]
  omega
theorem lbs_atmore {l : List UInt8} {k : Nat} {x : UInt8} (hk : k < l.length) (hx : l.getD k 0 = x) (h0 : x.toNat ≠ 0) (h1 : x.toNat ≤ 63) (h2 : k + 1 + x.toNat ≤ l.length) :
    lbs (l.drop k) = (lbs (l.drop (k + 1 + x.toNat))).map ((l.drop (k + 1)).take x.toNat :: ·) := by
  rw [drop_cons hk, hx, lbs_more h0 h1 (by rw [List.length_drop]; omega), List.drop_drop]
/-- What stands at place k tells of the whole. -/
def IsRel (l : List UInt8) (k : Nat) : Prop := (k ≤ l.length ∧ (lbs l).isSome = (lbs (l.drop k)).isSome) ∨ (l.length < k ∧ (lbs l).isSome = false)
theorem isRel_step {l : List UInt8} {k : Nat} {x : UInt8} (h : IsRel l k) (hk : k < l.length) (hx : l.getD k 0 = x) (h0 : x.toNat ≠ 0) (h1 : x.toNat ≤ 63) : IsRel l (k + 1 + x.toNat) := by
  rcases h with ⟨_, h⟩ | ⟨h, _⟩
  · by_cases h2 : k + 1 + x.toNat ≤ l.length
    · refine Or.inl ⟨h2, ?_⟩
      rw [h, lbs_atmore hk hx h0 h1 h2, Option.isSome_map]
    · refine Or.inr ⟨by omega, ?_⟩
      rw [h, lbs_atbad hk hx h0 (by omega)]
      rfl
  · omega
theorem isRel_bad {l : List UInt8} {k : Nat} {x : UInt8} (h : IsRel l k) (hk : k < l.length) (hx : l.getD k 0 = x) (h0 : x.toNat ≠ 0) (h1 : 63 < x.toNat) : (lbs l).isSome = false := by
  rcases h with ⟨_, h⟩ | ⟨h, h2⟩
  · rw [h, lbs_atbad hk hx h0 (Or.inl h1)]
    rfl
  · exact h2
theorem isRel_zero {l : List UInt8} {k : Nat} {x : UInt8} (h : IsRel l k) (hk : k < l.length) (hx : l.getD k 0 = x) (h0 : x.toNat = 0) : (lbs l).isSome = decide (k + 1 = l.length) := by
  rcases h with ⟨_, h⟩ | ⟨h, _⟩
  · rw [h, lbs_at0 hk hx h0]
    by_cases e : k + 1 = l.length
    · rw [if_pos e, decide_eq_true e]; rfl
    · rw [if_neg e, decide_eq_false e]; rfl
  · omega
theorem isRel_end {l : List UInt8} {k : Nat} (h : IsRel l k) (hk : l.length ≤ k) : (lbs l).isSome = false := by
  rcases h with ⟨h1, h⟩ | ⟨_, h⟩
  · rw [h, lbs_end hk]; rfl
  · exact h
theorem isN_long {l : List UInt8} (h : 255 < l.length) : isN l = false := by unfold isN labels; rw [if_neg (by omega)]; rfl
theorem isN_short {l : List UInt8} (h : l.length ≤ 255) : isN l = (lbs l).isSome := by unfold isN labels; rw [if_pos h]
/-- A slice of texts of the call's own came back, and nothing that stood has changed. -/
def RetStrs (w : World) (L : List (List UInt8)) (e : Ending) (w' : World) : Prop :=
  ∃ v, e = .returned v ∧ w'.ownsRow w.heap.size 9 1 v L.length (strCs L) ∧ Below w.heap.size w w'
theorem piece_list (s : ByteArray) (i j : Nat) : (s.extract i (i + j)).data.toList = (s.data.toList.drop i).take j := by
  rw [extract_list, List.drop_take, Nat.add_sub_cancel_left]
/-- Labels so far, and those that are still to come. -/
def LabRel (l : List UInt8) (L A : List (List UInt8)) (k : Nat) : Prop := ∃ M, lbs (l.drop k) = some M ∧ L = A ++ M
theorem labRel_lt {l : List UInt8} {L A : List (List UInt8)} {k : Nat} (h : LabRel l L A k) : k < l.length := by
  obtain ⟨M, h, _⟩ := h
  rcases Nat.lt_or_ge k l.length with hlt | hge
  · exact hlt
  · rw [lbs_end hge] at h; cases h
theorem labRel_zero {l : List UInt8} {L A : List (List UInt8)} {k : Nat} {x : UInt8} (h : LabRel l L A k) (hx : l.getD k 0 = x) (h0 : x.toNat = 0) : A = L := by
  have hk := labRel_lt h
  obtain ⟨M, h, e⟩ := h
  rw [lbs_at0 hk hx h0] at h
  split at h
  · injection h with h
    rw [e, ← h, List.append_nil]
  · cases h
theorem labRel_more {l : List UInt8} {L A : List (List UInt8)} {k : Nat} {x : UInt8} (h : LabRel l L A k) (hx : l.getD k 0 = x) (h0 : x.toNat ≠ 0) :
    x.toNat ≤ 63 ∧ k + 1 + x.toNat ≤ l.length ∧ LabRel l L (A ++ [(l.drop (k + 1)).take x.toNat]) (k + 1 + x.toNat) := by
  have hk := labRel_lt h
  obtain ⟨M, h, e⟩ := h
  by_cases hbad : 63 < x.toNat ∨ l.length < k + 1 + x.toNat
  · rw [lbs_atbad hk hx h0 hbad] at h; cases h
  · rw [lbs_atmore hk hx h0 (by omega) (by omega)] at h
    obtain ⟨M', h', rfl⟩ := Option.map_eq_some_iff.1 h
    exact ⟨by omega, by omega, M', h', by rw [e, List.append_assoc]; rfl⟩
theorem labels_lbs {l : List UInt8} {L : List (List UInt8)} (h : labels l = some L) : lbs l = some L := by
  unfold labels at h
  split at h
  · exact h
  · cases h
theorem labRel_len {l : List UInt8} {L A : List (List UInt8)} {k : Nat} (h : LabRel l L A k) : A.length ≤ L.length := by
  obtain ⟨M, _, e⟩ := h
  rw [e, List.length_append]; omega
theorem lbs_count {s : List UInt8} : ∀ {L : List (List UInt8)}, lbs s = some L → L.length ≤ s.length := by
  fun_induction lbs s with
  | case1 => intro L h; cases h
  | case2 n r h0 h1 => intro L h; injection h with h; subst h; exact Nat.zero_le _
  | case3 => intro L h; cases h
  | case4 => intro L h; cases h
  | case5 n r h0 h1 ih =>
    intro L h
    obtain ⟨M, hM, rfl⟩ := Option.map_eq_some_iff.1 h
    have := ih hM
    rw [List.length_drop] at this
    simp only [List.length_cons]
    omega

end Go.Proofs.Ytpmmjmnleoicjaa
