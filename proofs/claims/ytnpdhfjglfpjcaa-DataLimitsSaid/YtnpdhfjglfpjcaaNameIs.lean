/- The contract of name's Is; what stands at a place of a name's bytes tells of the whole. For texts of at most 10^6 bytes. -/
import Derived.Test.YtnpdhfjglfpjcaaProg
import Derived.Test.YtnpdhfjglfpjcaaBytes
import Derived.Test.YtnpdhfjglfpjcaaStrs
import Derived.Test.YtnpdhfjglfpjcaaNameMath
import Derived.WalkKit
import Derived.Lib.Hide
import Derived.Outline
import Derived.IntWalk
import Derived.WalkSpells
import Derived.WalkLawsBesides
namespace Go.Proofs.Ytnpdhfjglfpjcaa
open Go.RowKit Bytes Strs NameMath

theorem behind_any (s : ByteArray) (k : Nat) (c : UInt8) (w : World) (hs : s.size ≤ 1000000) (hk : k < s.size) (hc : Hid (s.data.toList.getD k 0 = c)) :
    Calls Try.prog 36 #[.string s, .int .i64 k] w fun e w' => e = .returned (.int .i64 ((k : Int) + 1 + (c.toNat : Int))) ∧ w = w' := by
  have hl := c.toNat_lt
  have hx0 := getD_byte hk
  rw [hc.out] at hx0
  have hx : s[k]'hk = c := hx0.symm
  clear hx0
  go_enter Try.func36, Try.ntmps36
  go_wp2_with fail
  go_ret
  exact ⟨rfl, rfl⟩

theorem lbs_end {l : List UInt8} {k : Nat} (h : l.length ≤ k) : lbs (l.drop k) = none := by rw [List.drop_of_length_le h, lbs_nil]
theorem lbs_at0 {l : List UInt8} {k : Nat} {x : UInt8} (hk : k < l.length) (hx : l.getD k 0 = x) (h0 : x.toNat = 0) : lbs (l.drop k) = if k + 1 = l.length then some [] else none := by
  rw [drop_cons hk, hx, lbs_zero h0, List.length_drop]
  by_cases h : k + 1 = l.length
  · rw [if_pos (by omega), if_pos h]
  · rw [if_neg (by omega), if_neg h]
theorem lbs_atbad {l : List UInt8} {k : Nat} {x : UInt8} (hk : k < l.length) (hx : l.getD k 0 = x) (h0 : x.toNat ≠ 0) (h1 : 63 < x.toNat ∨ l.length < k + 1 + x.toNat) : lbs (l.drop k) = none := by
  rw [drop_cons hk, hx, lbs_bad h0]
  rw [List.length_drop]
  omega
theorem lbs_atmore {l : List UInt8} {k : Nat} {x : UInt8} (hk : k < l.length) (hx : l.getD k 0 = x) (h0 : x.toNat ≠ 0) (h1 : x.toNat ≤ 63) (h2 : k + 1 + x.toNat ≤ l.length) :
    lbs (l.drop k) = (lbs (l.drop (k + 1 + x.toNat))).map ((l.drop (k + 1)).take x.toNat :: ·) := by
  rw [drop_cons hk, hx, lbs_more h0 h1 (by rw [List.length_drop]; omega), List.drop_drop]
/-- What stands at place k tells of the whole. -/
def IsRel (l : List UInt8) (k : Nat) : Prop := (k ≤ l.length ∧ (lbs l).isSome = (lbs (l.drop k)).isSome) ∨ (l.length < k ∧ (lbs l).isSome = false)
theorem isRel_step {l : List UInt8} {k : Nat} {x : UInt8} (h : IsRel l k) (hk : k < l.length) (hx : l.getD k 0 = x) (h0 : x.toNat ≠ 0) (h1 : x.toNat ≤ 63) : IsRel l (k + 1 + x.toNat) := by
  rcases h with ⟨_, h⟩ | ⟨h, _⟩
  · by_cases h2 : k + 1 + x.toNat ≤ l.length
    · refine Or.inl ⟨h2, ?_⟩
      rw [h, lbs_atmore hk hx h0 h1 h2, Option.isSome_map]
    · refine Or.inr ⟨by omega, ?_⟩
      rw [h, lbs_atbad hk hx h0 (by omega)]
      rfl
  · omega
theorem isRel_bad {l : List UInt8} {k : Nat} {x : UInt8} (h : IsRel l k) (hk : k < l.length) (hx : l.getD k 0 = x) (h0 : x.toNat ≠ 0) (h1 : 63 < x.toNat) : (lbs l).isSome = false := by
  rcases h with ⟨_, h⟩ | ⟨h, h2⟩
  · rw [h, lbs_atbad hk hx h0 (Or.inl h1)]
    rfl
  · exact h2
theorem isRel_zero {l : List UInt8} {k : Nat} {x : UInt8} (h : IsRel l k) (hk : k < l.length) (hx : l.getD k 0 = x) (h0 : x.toNat = 0) : (lbs l).isSome = decide (k + 1 = l.length) := by
  rcases h with ⟨_, h⟩ | ⟨h, _⟩
  · rw [h, lbs_at0 hk hx h0]
    by_cases e : k + 1 = l.length
    · rw [if_pos e, decide_eq_true e]; rfl
    · rw [if_neg e, decide_eq_false e]; rfl
  · omega
theorem isRel_end {l : List UInt8} {k : Nat} (h : IsRel l k) (hk : l.length ≤ k) : (lbs l).isSome = false := by
  rcases h with ⟨h1, h⟩ | ⟨_, h⟩
  · rw [h, lbs_end hk]; rfl
  · exact h
theorem isN_long {l : List UInt8} (h : 255 < l.length) : isN l = false := by unfold isN labels; rw [if_neg (by omega)]; rfl
theorem isN_short {l : List UInt8} (h : l.length ≤ 255) : isN l = (lbs l).isSome := by unfold isN labels; rw [if_pos h]

set_option maxHeartbeats 2000000 in
set_option maxRecDepth 100000 in
theorem is_any (s : ByteArray) (w : World) (hs : s.size ≤ 1000000) :
    Calls Try.prog 22 #[.string s] w fun e w' => e = .returned (.bool (isN s.data.toList)) ∧ w = w' := by
  obtain ⟨r, hr⟩ : ∃ r, r = isN s.data.toList := ⟨_, rfl⟩
  rw [← hr]
  have hsz := Lib.size_eq s
  by_cases hlong : (255 : Int) < s.size
  · obtain rfl : r = false := hr.trans (isN_long (by omega))
    clear hr hsz
    go_enter Try.func22, Try.ntmps22
    go_wp2_with fail
    go_ret
    exact ⟨rfl, rfl⟩
  have R := Lib.hid (hr.trans (isN_short (by omega)))
  have SZ := Lib.hid hsz
  clear hr hsz
  go_enter Try.func22, Try.ntmps22
  go_wp2_with fail
  go_loop [3] (fun i => ∃ k : Nat, i = .int .i64 k ∧ k ≤ s.size + 64 ∧ Hid (IsRel s.data.toList k)) (fun i => s.size + 64 - (intOf i).toNat)
  case atStart => exact ⟨0, rfl, Nat.zero_le _, Lib.hid (Or.inl ⟨Nat.zero_le _, rfl⟩)⟩
  case round =>
    obtain ⟨k, rfl, hk, hR⟩ := hrel
    by_cases hlt : k < s.size
    · have hkl : k < s.data.toList.length := by rw [← SZ.out]; exact hlt
      have hx0 := getD_byte hlt
      generalize hx1 : s.data.toList.getD k 0 = x at hx0
      have hx : s[k]'hlt = x := hx0.symm
      have HX := Lib.hid hx1
      clear hx0 hx1
      have hlx := x.toNat_lt
      by_cases h0 : x.toNat = 0
      · have hE := R.out.trans (isRel_zero hR.out hkl HX.out h0)
        have hq : ((k : Int) == (s.size : Int) - 1) = r := by
          rw [hE, ← SZ.out]
          by_cases e : k + 1 = s.size
          · rw [decide_eq_true e]; exact beq_iff_eq.2 (by omega)
          · rw [decide_eq_false e]; exact beq_eq_false_iff_ne.2 (by omega)
        have hz : ((x.toNat : Int) != 0) = false := bne_eq_false_iff_eq.2 (by omega)
        clear h0 hE hkl hR
        go_wp2_with fail
        go_ret
        exact ⟨rfl, rfl⟩
      · have hz : ((x.toNat : Int) != 0) = true := bne_iff_ne.2 (by omega)
        by_cases h63 : 63 < x.toNat
        · obtain rfl : r = false := R.out.trans (isRel_bad hR.out hkl HX.out h0 h63)
          have h63i : (63 : Int) < x.toNat := by omega
          clear h0 h63 hkl hR
          go_wp2_with fail
          go_ret
          exact ⟨rfl, rfl⟩
        · have hR2 := Lib.hid (isRel_step hR.out hkl HX.out h0 (by omega))
          have h63i : ¬ (63 : Int) < x.toNat := by omega
          clear h0 hkl hR
          go_wp2_with fail
          refine (behind_any s k x _ hs hlt HX).mono ?_
          rintro e w' ⟨rfl, rfl⟩
          go_wp2_with fail
          go_round
          case rel => exact ⟨k + 1 + x.toNat, by go_num, by omega, hR2⟩
          case measure => simp [intOf]; omega
    · obtain rfl : r = false := R.out.trans (isRel_end hR.out (by rw [← SZ.out]; omega))
      have hq : ((k : Int) == (s.size : Int) - 1) = false := beq_eq_false_iff_ne.2 (by omega)
      clear hR
      go_wp2_with fail
      go_ret
      exact ⟨rfl, rfl⟩

theorem is_is (s : ByteArray) (q : Bool) (w : World) (hs : s.size ≤ 1000000) (hq : Hid (isN s.data.toList = q)) :
    Calls Try.prog 22 #[.string s] w fun e w' => e = .returned (.bool q) ∧ w = w' := by
  have := is_any s w hs
  rwa [hq.out] at this
/-- A slice of texts of the call's own came back, and nothing that stood has changed. -/
def RetStrs (w : World) (L : List (List UInt8)) (e : Ending) (w' : World) : Prop :=
  ∃ v, e = .returned v ∧ w'.ownsRow w.heap.size 9 1 v L.length (strCs L) ∧ Below w.heap.size w w'
theorem piece_list (s : ByteArray) (i j : Nat) : (s.extract i (i + j)).data.toList = (s.data.toList.drop i).take j := by
  rw [extract_list, List.drop_take, Nat.add_sub_cancel_left]
/-- Labels so far, and those that are still to come. -/
def LabRel (l : List UInt8) (L A : List (List UInt8)) (k : Nat) : Prop := ∃ M, lbs (l.drop k) = some M ∧ L = A ++ M
theorem labRel_lt {l : List UInt8} {L A : List (List UInt8)} {k : Nat} (h : LabRel l L A k) : k < l.length := by
  obtain ⟨M, h, _⟩ := h
  rcases Nat.lt_or_ge k l.length with hlt | hge
  · exact hlt
  · rw [lbs_end hge] at h; cases h
theorem labRel_zero {l : List UInt8} {L A : List (List UInt8)} {k : Nat} {x : UInt8} (h : LabRel l L A k) (hx : l.getD k 0 = x) (h0 : x.toNat = 0) : A = L := by
  have hk := labRel_lt h
  obtain ⟨M, h, e⟩ := h
  rw [lbs_at0 hk hx h0] at h
  split at h
  · injection h with h
    rw [e, ← h, List.append_nil]
  · cases h
theorem labRel_more {l : List UInt8} {L A : List (List UInt8)} {k : Nat} {x : UInt8} (h : LabRel l L A k) (hx : l.getD k 0 = x) (h0 : x.toNat ≠ 0) :
    x.toNat ≤ 63 ∧ k + 1 + x.toNat ≤ l.length ∧ LabRel l L (A ++ [(l.drop (k + 1)).take x.toNat]) (k + 1 + x.toNat) := by
  have hk := labRel_lt h
  obtain ⟨M, h, e⟩ := h
  by_cases hbad : 63 < x.toNat ∨ l.length < k + 1 + x.toNat
  · rw [lbs_atbad hk hx h0 hbad] at h; cases h
  · rw [lbs_atmore hk hx h0 (by omega) (by omega)] at h
    obtain ⟨M', h', rfl⟩ := Option.map_eq_some_iff.1 h
    exact ⟨by omega, by omega, M', h', by rw [e, List.append_assoc]; rfl⟩
theorem labels_lbs {l : List UInt8} {L : List (List UInt8)} (h : labels l = some L) : lbs l = some L := by
  unfold labels at h
  split at h
  · exact h
  · cases h
theorem labRel_len {l : List UInt8} {L A : List (List UInt8)} {k : Nat} (h : LabRel l L A k) : A.length ≤ L.length := by
  obtain ⟨M, _, e⟩ := h
  rw [e, List.length_append]; omega
theorem lbs_count {s : List UInt8} : ∀ {L : List (List UInt8)}, lbs s = some L → L.length ≤ s.length := by
  fun_induction lbs s with
  | case1 => intro L h; cases h
  | case2 n r h0 h1 => intro L h; injection h with h; subst h; exact Nat.zero_le _
  | case3 => intro L h; cases h
  | case4 => intro L h; cases h
  | case5 n r h0 h1 ih =>
    intro L h
    obtain ⟨M, hM, rfl⟩ := Option.map_eq_some_iff.1 h
    have := ih hM
    rw [List.length_drop] at this
    simp only [List.length_cons]
    omega

end Go.Proofs.Ytnpdhfjglfpjcaa
