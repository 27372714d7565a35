/- The contracts of name's behind and first, and of the document's one. For texts of at most 10^6 bytes. -/
import Derived.Test.YtepbpaaielfpnaaProg
import Derived.Test.YtepbpaaielfpnaaBytes
import Derived.Test.YtepbpaaielfpnaaNameMath
import Derived.Test.YtepbpaaielfpnaaNameText
import Derived.Test.YtepbpaaielfpnaaNameSpell
import Derived.Test.YtepbpaaielfpnaaLowSame
import Derived.WalkKit
import Derived.Lib.Hide
import Derived.Outline
import Derived.IntWalk
import Derived.WalkSpells
import Derived.WalkLawsBesides
import Derived.Deep.QuietTactic
import Derived.BigQuiet
import Derived.Deep.Draws
import Derived.Deep.RegionHeld3
import Derived.Deep.DeepCutAuto
namespace Go.Proofs.Ytepbpaaielfpnaa
open Go.RowKit Bytes NameMath

theorem behind_any (s : ByteArray) (k : Nat) (c : UInt8) (w : World) (hs : s.size ≤ 1000000) (hk : k < s.size) (hc : Hid (s.data.toList.getD k 0 = c)) :
    Calls Try.prog 27 #[.string s, .int .i64 k] w fun e w' => e = .returned (.int .i64 ((k : Int) + 1 + (c.toNat : Int))) ∧ w = w' := by
  have hl := c.toNat_lt
  have hx0 := getD_byte hk
  rw [hc.out] at hx0
  have hx : s[k]'hk = c := hx0.symm
  clear hx0
  go_enter Try.func27, Try.ntmps27
  go_wp2_with fail
  go_ret
  exact ⟨rfl, rfl⟩

theorem ext_take (t : ByteArray) (n : Nat) : (t.extract 0 n).data.toList = t.data.toList.take n := by rw [extract_list]; rfl
/-- A text held against the beginning of another one. -/
theorem eq_head (l : List UInt8) (t : ByteArray) (n : Nat) : ((mk l).toList == (t.extract 0 n).toList) = decide (l = t.data.toList.take n) := by
  rw [eq_toList]
  refine decide_eq_decide.2 ⟨fun h => ?_, fun h => ?_⟩
  · have e := congrArg (fun s : ByteArray => s.data.toList) h
    have e2 : (mk l).data.toList = (t.extract 0 n).data.toList := e
    rw [ext_take, mk_list] at e2
    exact e2
  · apply list_inj
    rw [ext_take]
    exact h
theorem wrap8 (a : Int) (b : Nat) (h : (b : Int) = a % 256) : IntKind.u8.wrap a = (b : Int) := by rw [IntKind.wrap_u8, h]

def firstR (t : List UInt8) : Ending := .returned (.tuple #[.int .u8 (cand t).1.toNat, .int .i64 (cand t).2, .bool (decide (sp (cand t).1 = t.take (cand t).2))])
theorem firstR_eq {t : List UInt8} {c : UInt8} {n : Nat} {q : Bool} {x : Int} (h : cand t = (c, n)) (hq : decide (sp c = t.take n) = q) (hx : x = c.toNat) : Ending.returned (.tuple #[.int .u8 x, .int .i64 n, .bool q]) = firstR t := by
  unfold firstR
  rw [h, hx, ← hq]

set_option maxHeartbeats 2000000 in
set_option maxRecDepth 100000 in
theorem first_num (t : ByteArray) (w : World) (hs : t.size ≤ 1000000) (h0 : 0 < t.size) (h92 : (t.data.toList.getD 0 0).toNat = 92)
    (h4 : 4 ≤ t.data.toList.length ∧ 48 ≤ (t.data.toList.getD 1 0).toNat ∧ (t.data.toList.getD 1 0).toNat ≤ 57) :
    Calls Try.prog 44 #[.string t] w fun e w' => e = firstR t.data.toList ∧ Below w.heap.size w w' := by
  have hx0 := getD_byte h0
  have hsz := Lib.size_eq t
  have hC := cand_num h92 h4
  have k1 : 1 < t.size := by omega
  have k2 : 2 < t.size := by omega
  have k3 : 3 < t.size := by omega
  have hx1 := getD_byte k1
  have hx2 := getD_byte k2
  have hx3 := getD_byte k3
  have d1 := h4.2.1
  have d2 := h4.2.2
  clear h4
  generalize hy0 : t.data.toList.getD 0 0 = x0 at *
  generalize hy1 : t.data.toList.getD 1 0 = x1 at *
  generalize hy2 : t.data.toList.getD 2 0 = x2 at *
  generalize hy3 : t.data.toList.getD 3 0 = x3 at *
  have i0 : t[0]'h0 = x0 := hx0.symm
  have i1 : t[1]'k1 = x1 := hx1.symm
  have i2 : t[2]'k2 = x2 := hx2.symm
  have i3 : t[3]'k3 = x3 := hx3.symm
  have l1 := x1.toNat_lt
  have l2 := x2.toNat_lt
  have l3 := x3.toNat_lt
  obtain ⟨y1, e1⟩ : ∃ y, y = (x1.toNat + 208) % 256 := ⟨_, rfl⟩
  obtain ⟨y2, e2⟩ : ∃ y, y = (x2.toNat + 208) % 256 := ⟨_, rfl⟩
  obtain ⟨y3, e3⟩ : ∃ y, y = (x3.toNat + 208) % 256 := ⟨_, rfl⟩
  obtain ⟨z1, e4⟩ : ∃ y, y = (100 * y1) % 256 := ⟨_, rfl⟩
  obtain ⟨z2, e5⟩ : ∃ y, y = (10 * y2) % 256 := ⟨_, rfl⟩
  obtain ⟨u, e6⟩ : ∃ y, y = (z1 + z2) % 256 := ⟨_, rfl⟩
  obtain ⟨v, e7⟩ : ∃ y, y = (u + y3) % 256 := ⟨_, rfl⟩
  obtain ⟨c, hc⟩ : ∃ c, UInt8.ofNat (100 * (x1.toNat + 208) + 10 * (x2.toNat + 208) + (x3.toNat + 208)) = c := ⟨_, rfl⟩
  have hv : c.toNat = v := by
    rw [← hc, UInt8.toNat_ofNat']
    have e : (2 : Nat) ^ 8 = 256 := rfl
    omega
  have w1 := wrap8 ((x1.toNat : Int) - 48) y1 (by omega)
  have w2 := wrap8 ((x2.toNat : Int) - 48) y2 (by omega)
  have w3 := wrap8 ((x3.toNat : Int) - 48) y3 (by omega)
  have w4 := wrap8 (100 * (y1 : Int)) z1 (by omega)
  have w5 := wrap8 (10 * (y2 : Int)) z2 (by omega)
  have w6 := wrap8 ((z1 : Int) + (z2 : Int)) u (by omega)
  have w7 := wrap8 ((u : Int) + (y3 : Int)) v (by omega)
  have f92 : ((x0.toNat : Int) != 92) = false := bne_eq_false_iff_eq.2 (by omega)
  have hq := eq_head (sp c) t 4
  obtain ⟨q, hQ⟩ : ∃ q, decide (sp c = t.data.toList.take 4) = q := ⟨_, rfl⟩
  rw [hQ] at hq
  rw [hc] at hC
  have t1 : (4 : Int) ≤ (t.size : Int) := by omega
  have t2 : decide ((48 : Int) ≤ (x1.toNat : Int)) = true := decide_eq_true (by omega)
  have t3 : decide ((x1.toNat : Int) ≤ 57) = true := decide_eq_true (by omega)
  have HQ := Lib.hid hQ
  have HC := Lib.hid hC
  have HV := Lib.hid hv
  have SC := spell_any c
  rw [hv] at SC
  have hS := Lib.hid SC
  have hR := Lib.hid (firstR_eq HC.out HQ.out (show (v : Int) = c.toNat by omega))
  clear hy0 hy1 hy2 hy3 hx0 hx1 hx2 hx3 e1 e2 e3 e4 e5 e6 e7 hc hv hQ hC SC h92 hsz
  have hqs := Lib.hid hq
  clear hq
  go_enter Try.func44, Try.ntmps44
  go_wp2_with fail
  go_quiet (fail)
  clear w1 w2 w3 w4 w5 w6 w7
  have hq := hqs.out
  go_wp2_with fail
  go_region_held3 (fun _ => True) (trivial) (first | (go_at_call 38; refine (hS.out _).mono ?_; rintro e w1 ⟨rfl, hB⟩))
  all_goals
    go_wp2_with fail
    go_ret3
    exact ⟨hR.out, (below_drewN (Below.refl _ w) _).trans hB⟩

set_option maxHeartbeats 2000000 in
set_option maxRecDepth 100000 in
theorem first_plain (t : ByteArray) (w : World) (hs : t.size ≤ 1000000) (h0 : 0 < t.size) (h92 : (t.data.toList.getD 0 0).toNat ≠ 92) :
    Calls Try.prog 44 #[.string t] w fun e w' => e = firstR t.data.toList ∧ Below w.heap.size w w' := by
  have hx0 := getD_byte h0
  have hsz := Lib.size_eq t
  have hC := cand_plain h92
  generalize hy0 : t.data.toList.getD 0 0 = x0 at *
  have i0 : t[0]'h0 = x0 := hx0.symm
  have f92 : ((x0.toNat : Int) != 92) = true := bne_iff_ne.2 (by omega)
  have b1 : (1 : Int) ≤ (t.size : Int) := by omega
  have hq := eq_head (sp x0) t 1
  obtain ⟨q, hQ⟩ : ∃ q, decide (sp x0 = t.data.toList.take 1) = q := ⟨_, rfl⟩
  rw [hQ] at hq
  have hS := Lib.hid (fun w => spell_any x0 w)
  have hR := Lib.hid (firstR_eq (x := (x0.toNat : Int)) hC hQ rfl)
  clear hy0 hx0 hC hQ hsz h92
  go_enter Try.func44, Try.ntmps44
  go_wp2_with fail
  go_region_held3 (fun _ => True) (trivial) (first | (go_at_call 38; refine (hS.out _).mono ?_; rintro e w1 ⟨rfl, hB⟩))
  all_goals
    go_wp2_with fail
    go_ret3
    exact ⟨hR.out, (below_drewN (Below.refl _ w) _).trans hB⟩

set_option maxHeartbeats 2000000 in
set_option maxRecDepth 100000 in
theorem first_last (t : ByteArray) (w : World) (hs : t.size ≤ 1000000) (h0 : 0 < t.size) (h92 : (t.data.toList.getD 0 0).toNat = 92) (h2 : ¬ 2 ≤ t.data.toList.length) :
    Calls Try.prog 44 #[.string t] w fun e w' => e = firstR t.data.toList ∧ Below w.heap.size w w' := by
  have hx0 := getD_byte h0
  have hsz := Lib.size_eq t
  have hC := cand_last h92 h2
  generalize hy0 : t.data.toList.getD 0 0 = x0 at *
  have i0 : t[0]'h0 = x0 := hx0.symm
  have f92 : ((x0.toNat : Int) != 92) = false := bne_eq_false_iff_eq.2 (by omega)
  have b1 : (1 : Int) ≤ (t.size : Int) := by omega
  have b2 : (t.size : Int) < 2 := by omega
  have hq := eq_head (sp x0) t 1
  obtain ⟨q, hQ⟩ : ∃ q, decide (sp x0 = t.data.toList.take 1) = q := ⟨_, rfl⟩
  rw [hQ] at hq
  have hS := Lib.hid (fun w => spell_any x0 w)
  have hR := Lib.hid (firstR_eq (x := (x0.toNat : Int)) hC hQ rfl)
  clear hy0 hx0 hC hQ hsz h92 h2
  go_enter Try.func44, Try.ntmps44
  go_wp2_with fail
  go_region_held3 (fun _ => True) (trivial) (first | (go_at_call 38; refine (hS.out _).mono ?_; rintro e w1 ⟨rfl, hB⟩))
  all_goals
    go_wp2_with fail
    go_ret3
    exact ⟨hR.out, (below_drewN (Below.refl _ w) _).trans hB⟩

set_option maxHeartbeats 2000000 in
set_option maxRecDepth 100000 in
theorem first_esc (t : ByteArray) (w : World) (hs : t.size ≤ 1000000) (h0 : 0 < t.size) (h92 : (t.data.toList.getD 0 0).toNat = 92) (h4 : ¬ (4 ≤ t.data.toList.length ∧ 48 ≤ (t.data.toList.getD 1 0).toNat ∧ (t.data.toList.getD 1 0).toNat ≤ 57)) (h2 : 2 ≤ t.data.toList.length) :
    Calls Try.prog 44 #[.string t] w fun e w' => e = firstR t.data.toList ∧ Below w.heap.size w w' := by
  have hx0 := getD_byte h0
  have hsz := Lib.size_eq t
  have hC := cand_esc h92 h4 h2
  have k1 : 1 < t.size := by omega
  have hx1 := getD_byte k1
  generalize hy0 : t.data.toList.getD 0 0 = x0 at *
  have i0 : t[0]'h0 = x0 := hx0.symm
  generalize hy1 : t.data.toList.getD 1 0 = x1 at *
  have i1 : t[1]'k1 = x1 := hx1.symm
  have f92 : ((x0.toNat : Int) != 92) = false := bne_eq_false_iff_eq.2 (by omega)
  have b2 : (2 : Int) ≤ (t.size : Int) := by omega
  have h5 : (t.size : Int) < 4 ∨ ((4 : Int) ≤ t.size ∧ (x1.toNat : Int) < 48) ∨ ((4 : Int) ≤ t.size ∧ (48 : Int) ≤ x1.toNat ∧ (57 : Int) < x1.toNat) := by omega
  have hq := eq_head (sp x1) t 2
  obtain ⟨q, hQ⟩ : ∃ q, decide (sp x1 = t.data.toList.take 2) = q := ⟨_, rfl⟩
  rw [hQ] at hq
  have hS := Lib.hid (fun w => spell_any x1 w)
  have hR := Lib.hid (firstR_eq (x := (x1.toNat : Int)) hC hQ rfl)
  clear hy0 hx0 hC hQ hsz h92 h4 h2 hy1 hx1
  rcases h5 with h5 | ⟨h5, h6⟩ | ⟨h5, h6, h7⟩
  · go_enter Try.func44, Try.ntmps44
    go_wp2_with fail
    go_region_held3 (fun _ => True) (trivial) (first | (go_at_call 38; refine (hS.out _).mono ?_; rintro e w1 ⟨rfl, hB⟩))
    all_goals
      go_wp2_with fail
      go_ret3
      exact ⟨hR.out, (below_drewN (Below.refl _ w) _).trans hB⟩
  · go_enter Try.func44, Try.ntmps44
    go_wp2_with fail
    go_region_held3 (fun _ => True) (trivial) (first | (go_at_call 38; refine (hS.out _).mono ?_; rintro e w1 ⟨rfl, hB⟩))
    all_goals
      go_wp2_with fail
      go_ret3
      exact ⟨hR.out, (below_drewN (Below.refl _ w) _).trans hB⟩
  · go_enter Try.func44, Try.ntmps44
    go_wp2_with fail
    go_region_held3 (fun _ => True) (trivial) (first | (go_at_call 38; refine (hS.out _).mono ?_; rintro e w1 ⟨rfl, hB⟩))
    all_goals
      go_wp2_with fail
      go_ret3
      exact ⟨hR.out, (below_drewN (Below.refl _ w) _).trans hB⟩

theorem first_any (t : ByteArray) (w : World) (hs : t.size ≤ 1000000) (h0 : 0 < t.size) :
    Calls Try.prog 44 #[.string t] w fun e w' => e = firstR t.data.toList ∧ Below w.heap.size w w' := by
  by_cases h92 : (t.data.toList.getD 0 0).toNat = 92
  · by_cases h4 : 4 ≤ t.data.toList.length ∧ 48 ≤ (t.data.toList.getD 1 0).toNat ∧ (t.data.toList.getD 1 0).toNat ≤ 57
    · exact first_num t w hs h0 h92 h4
    · by_cases h2 : 2 ≤ t.data.toList.length
      · exact first_esc t w hs h0 h92 h4 h2
      · exact first_last t w hs h0 h92 h2
  · exact first_plain t w hs h0 h92
theorem cand_le {t : List UInt8} (h : 0 < t.length) : (cand t).2 ≤ t.length := by
  unfold cand
  split
  · exact h
  · split
    · rename_i h4; exact h4.1
    · split
      · assumption
      · exact h
theorem first_yes {t : List UInt8} {c : UInt8} (h0 : 0 < t.length) (h : un t = some c) : firstR t = .returned (.tuple #[.int .u8 c.toNat, .int .i64 ((sp c).length : Nat), .bool true]) := by
  unfold un at h
  by_cases h2 : sp (cand t).1 = t.take (cand t).2
  · rw [if_pos h2] at h
    injection h with h
    have hl := congrArg List.length h2
    have hle := cand_le h0
    rw [List.length_take, Nat.min_eq_left hle, h] at hl
    unfold firstR
    rw [decide_eq_true h2, h, hl]
  · rw [if_neg h2] at h; cases h
theorem first_none {t : List UInt8} (h : un t = none) : ∃ x y : Int, firstR t = .returned (.tuple #[.int .u8 x, .int .i64 y, .bool false]) := by
  unfold un at h
  by_cases h2 : sp (cand t).1 = t.take (cand t).2
  · rw [if_pos h2] at h; cases h
  · exact ⟨_, _, by unfold firstR; rw [decide_eq_false h2]⟩
theorem first_some (t : ByteArray) (c : UInt8) (n : Nat) (w : World) (hs : t.size ≤ 1000000) (h0 : 0 < t.size) (h : Hid (un t.data.toList = some c)) (hn : Hid ((sp c).length = n)) :
    Calls Try.prog 44 #[.string t] w fun e w' => e = .returned (.tuple #[.int .u8 c.toNat, .int .i64 n, .bool true]) ∧ Below w.heap.size w w' := by
  have := first_any t w hs h0
  rw [first_yes (by rw [← Lib.size_eq]; exact h0) h.out, hn.out] at this
  exact this
def FirstNo (w : World) (e : Ending) (w' : World) : Prop := ∃ x y : Int, e = .returned (.tuple #[.int .u8 x, .int .i64 y, .bool false]) ∧ Below w.heap.size w w'
theorem first_no (t : ByteArray) (w : World) (hs : t.size ≤ 1000000) (h0 : 0 < t.size) (h : Hid (un t.data.toList = none)) :
    Calls Try.prog 44 #[.string t] w (FirstNo w) := by
  obtain ⟨x, y, e⟩ := first_none h.out
  exact (first_any t w hs h0).mono fun _ _ ⟨h1, h2⟩ => ⟨x, y, h1.trans e, h2⟩

/-! The document's one. -/
theorem sp_max (c : UInt8) : ((mk (sp c)).size : Int) ≤ 4 := by have := (sp_len c).2; rw [mk_size]; omega
theorem eq_piece (l : List UInt8) (t : ByteArray) (at_ n : Nat) (hn : l.length = n) : ((t.extract at_ (at_ + n)).toList == (mk l).toList) = decide ((t.data.toList.drop at_).take l.length = l) := by
  subst hn
  rw [eq_toList]
  have e : (t.extract at_ (at_ + l.length)).data.toList = (t.data.toList.drop at_).take l.length := by
    rw [extract_list, List.drop_take, Nat.add_sub_cancel_left]
  refine decide_eq_decide.2 ⟨fun h => ?_, fun h => ?_⟩
  · have e1 : (t.extract at_ (at_ + l.length)).data.toList = (mk l).data.toList := by rw [h]
    rw [e, mk_list] at e1
    exact e1
  · apply list_inj
    rw [e, h, mk_list]
def oneR (t : List UInt8) : Ending := match un t with
  | some c => .returned (.tuple #[.int .u8 c.toNat, .bool true])
  | none => .returned (.tuple #[.int .u8 0, .bool false])
theorem oneR_yes {t : List UInt8} {c : UInt8} (h : un t = some c) : Ending.returned (.tuple #[.int .u8 c.toNat, .bool true]) = oneR t := by unfold oneR; rw [h]
theorem oneR_no {t : List UInt8} (h : ∀ k, k < 256 → un t ≠ some (UInt8.ofNat k)) : Ending.returned (.tuple #[.int .u8 0, .bool false]) = oneR t := by
  unfold oneR
  cases hu : un t with
  | none => rfl
  | some c => exact absurd (by rw [UInt8.ofNat_toNat]; exact hu) (h c.toNat c.toNat_lt)

theorem spell_sign (c : UInt8) (k : Nat) (hk : c.toNat = k) (w : World) :
    Calls Try.prog 36 #[.int .u8 k] w fun e w' => e = .returned (.string (mk (sp c))) ∧ Below w.heap.size w w' := by
  subst hk
  exact sign_any c w
set_option maxHeartbeats 2000000 in
set_option maxRecDepth 100000 in
theorem one_any (t : ByteArray) (p : Nat) (w : World) (hs : t.size ≤ 1000000) (hp : p < t.size) :
    Calls Try.prog 35 #[.string t, .int .i64 p] w fun e w' => e = oneR (t.data.toList.drop p) ∧ Below w.heap.size w w' := by
  obtain ⟨r, hr⟩ : ∃ r, r = oneR (t.data.toList.drop p) := ⟨_, rfl⟩
  rw [← hr]
  have R := Lib.hid hr; clear hr
  generalize hg : w.heap.size = g at *
  have G := Lib.hid hg; clear hg
  go_enter Try.func35, Try.ntmps35
  go_wp2_with fail
  go_loopw [6] (fun i wr => ∃ k : Nat, k ≤ 256 ∧ i = .int .i64 k ∧ Hid (∀ j, j < k → un (t.data.toList.drop p) ≠ some (UInt8.ofNat j)) ∧ Below g w wr) (fun i _ => 256 - (intOf i).toNat)
  case atStart => exact ⟨0, Nat.zero_le _, rfl, Lib.hid (fun j hj => absurd hj (Nat.not_lt_zero _)), Below.refl _ _⟩
  case round =>
    obtain ⟨k, hk, rfl, hN, hB⟩ := hrel
    by_cases hlt : k < 256
    · obtain ⟨c, hc⟩ : ∃ c, UInt8.ofNat k = c := ⟨_, rfl⟩
      have hcn : c.toNat = k := by rw [← hc, toNat_of hlt]
      have hS := Lib.hid (fun w => spell_sign c k hcn w)
      have hm := sp_max c
      have hl := (sp_len c).1
      have hsz : (mk (sp c)).size = (sp c).length := mk_size _
      have hpiece := eq_piece (sp c) t p (mk (sp c)).size hsz.symm
      have hU := @un_iff (t.data.toList.drop p) c
      have hlen : (t.data.toList.drop p).length = t.size - p := by rw [List.length_drop, ← Lib.size_eq]
      have hC := Lib.hid hc
      have hCN := Lib.hid hcn
      obtain ⟨q, hq⟩ : ∃ q, decide ((t.data.toList.drop p).take (sp c).length = sp c) = q := ⟨_, rfl⟩
      rw [hq] at hpiece
      generalize mk (sp c) = z at *
      by_cases hfit : (z.size : Int) ≤ (t.size : Int) - (p : Int)
      · cases q with
        | true =>
          have hu : un (t.data.toList.drop p) = some c := hU.2 ⟨by omega, of_decide_eq_true hq⟩
          have hE := oneR_yes hu
          rw [hCN.out] at hE
          have E := Lib.hid hE
          have P := Lib.hid hpiece
          clear hu hE hpiece hU hlen hq hsz hc hcn hN hl
          have hpiece := P.out
          go_wp2_with fail
          refine (hS.out _).mono ?_
          rintro e w1 ⟨rfl, hB1⟩
          go_wp2_with fail
          go_ret2
          exact ⟨E.out.trans R.out.symm, hB.trans (hB1.mono (by have := hB.size; have := G.out; omega))⟩
        | false =>
          have hu : un (t.data.toList.drop p) ≠ some c := fun h => by
            have := decide_eq_true (hU.1 h).2
            rw [hq] at this
            cases this
          have hN2 : Hid (∀ j, j < k + 1 → un (t.data.toList.drop p) ≠ some (UInt8.ofNat j)) := fun j hj => by
            rcases Nat.lt_or_ge j k with h | h
            · exact hN.out j h
            · obtain rfl : j = k := by omega
              rw [hC.out]
              exact hu
          have P := Lib.hid hpiece
          clear hu hpiece hU hlen hq hsz hc hcn hN hl
          have hpiece := P.out
          go_wp2_with fail
          refine (hS.out _).mono ?_
          rintro e w1 ⟨rfl, hB1⟩
          go_wp2_with fail
          go_roundw
          case rel => exact ⟨k + 1, by omega, by go_num, hN2, hB.trans (hB1.mono (by have := hB.size; have := G.out; omega))⟩
          case measure => simp [intOf]; omega
      · have hu : un (t.data.toList.drop p) ≠ some c := fun h => by
          have := (hU.1 h).1
          omega
        have hN2 : Hid (∀ j, j < k + 1 → un (t.data.toList.drop p) ≠ some (UInt8.ofNat j)) := fun j hj => by
          rcases Nat.lt_or_ge j k with h | h
          · exact hN.out j h
          · obtain rfl : j = k := by omega
            rw [hC.out]
            exact hu
        clear hu hpiece hU hlen hq hsz hc hcn hN hl
        go_wp2_with fail
        refine (hS.out _).mono ?_
        rintro e w1 ⟨rfl, hB1⟩
        go_wp2_with fail
        go_roundw
        case rel => exact ⟨k + 1, by omega, by go_num, hN2, hB.trans (hB1.mono (by have := hB.size; have := G.out; omega))⟩
        case measure => simp [intOf]; omega
    · have hE := oneR_no (t := t.data.toList.drop p) (fun j hj => hN.out j (by omega))
      have E := Lib.hid hE
      clear hE hN
      go_wp2_with fail
      go_ret2
      exact ⟨E.out.trans R.out.symm, hB⟩
end Go.Proofs.Ytepbpaaielfpnaa
