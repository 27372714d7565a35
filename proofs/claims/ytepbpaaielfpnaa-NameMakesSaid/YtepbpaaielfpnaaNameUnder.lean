/- The contracts of name's Same and Under (and of slices.EqualFunc as it calls it), and of the document's Same and Under. For texts of at most 10^6 bytes. -/
import Derived.Test.YtepbpaaielfpnaaProg
import Derived.Test.YtepbpaaielfpnaaNameFold
import Derived.WalkKit
import Derived.Lib.Hide
import Derived.Outline
import Derived.IntWalk
import Derived.WalkSpells
import Derived.WalkLawsBesides
import Derived.Deep.RegionHeld3
import Derived.Deep.DeepCutAuto
import Derived.Deep.Draws
namespace Go.Proofs.Ytepbpaaielfpnaa
open Go.RowKit Bytes Low Strs NameMath

theorem foldS_dec (s t : ByteArray) : decide (foldS s = foldS t) = decide (lowL s.data.toList = lowL t.data.toList) :=
  decide_eq_decide.2 ⟨fun h => mk_inj h, fun h => by unfold foldS; rw [h]⟩
theorem same_is (s t : ByteArray) (q : Bool) (w : World) (hs : s.size ≤ 1000000) (h : Hid (decide (lowL s.data.toList = lowL t.data.toList) = q)) :
    Calls Try.prog 31 #[.string s, .string t] w fun e w' => e = .returned (.bool q) ∧ Below w.heap.size w w' := by
  have := same_any s t w (by omega)
  rwa [foldS_dec, h.out] at this

theorem nameSame_is (s t : ByteArray) (q : Bool) (w : World) (hs : s.size ≤ 1000000) (ht : t.size ≤ 1000000) (h : Hid (sameN s.data.toList t.data.toList = q)) :
    Calls Try.prog 18 #[.string s, .string t] w fun e w' => e = .returned (.bool q) ∧ Below w.heap.size w w' := by
  obtain ⟨a, ha⟩ : ∃ a, isN s.data.toList = a := ⟨_, rfl⟩
  obtain ⟨b, hb⟩ : ∃ b, isN t.data.toList = b := ⟨_, rfl⟩
  have h' := h.out
  unfold sameN at h'
  rw [ha, hb] at h'
  have HA := Lib.hid ha; clear ha
  have HB := Lib.hid hb; clear hb
  cases a with
  | false =>
    obtain rfl : false = q := h'
    clear h
    go_enter Try.func18, Try.ntmps18
    go_wp2_with fail
    refine (is_is s false _ hs HA).mono ?_
    rintro e w' ⟨rfl, rfl⟩
    go_wp2_with fail
    go_ret
    exact ⟨rfl, Below.refl _ _⟩
  | true =>
    cases b with
    | false =>
      obtain rfl : false = q := h'
      clear h
      go_enter Try.func18, Try.ntmps18
      go_wp2_with fail
      refine (is_is s true _ hs HA).mono ?_
      rintro e w' ⟨rfl, rfl⟩
      go_wp2_with fail
      refine (is_is t false _ ht HB).mono ?_
      rintro e w' ⟨rfl, rfl⟩
      go_wp2_with fail
      go_ret
      exact ⟨rfl, Below.refl _ _⟩
    | true =>
      have HQ := Lib.hid (show decide (lowL s.data.toList = lowL t.data.toList) = q from h')
      clear h
      go_enter Try.func18, Try.ntmps18
      go_wp2_with fail
      refine (is_is s true _ hs HA).mono ?_
      rintro e w' ⟨rfl, rfl⟩
      go_wp2_with fail
      refine (is_is t true _ ht HB).mono ?_
      rintro e w' ⟨rfl, rfl⟩
      go_wp2_with fail
      refine (same_is s t q _ hs HQ).mono ?_
      rintro e w1 ⟨rfl, hB⟩
      go_wp2_with fail
      go_ret
      exact ⟨rfl, hB⟩

theorem refNameSame_is (s t : ByteArray) (q : Bool) (w : World) (hs : s.size ≤ 1000000) (ht : t.size ≤ 1000000) (h : Hid (sameN s.data.toList t.data.toList = q)) :
    Calls Try.prog 19 #[.string s, .string t] w fun e w' => e = .returned (.bool q) ∧ Below w.heap.size w w' := by
  obtain ⟨a, ha⟩ : ∃ a, isN s.data.toList = a := ⟨_, rfl⟩
  obtain ⟨b, hb⟩ : ∃ b, isN t.data.toList = b := ⟨_, rfl⟩
  have h' := h.out
  unfold sameN at h'
  rw [ha, hb] at h'
  have HA := Lib.hid ha
  have HB := Lib.hid hb
  cases a with
  | false =>
    obtain rfl : false = q := h'
    clear h ha hb
    go_enter Try.func19, Try.ntmps19
    go_wp2_with fail
    refine (refIs_is s false _ hs HA).mono ?_
    rintro e w1 ⟨rfl, hB⟩
    go_wp2_with fail
    go_ret
    exact ⟨rfl, hB⟩
  | true =>
    cases b with
    | false =>
      obtain rfl : false = q := h'
      clear h ha hb
      go_enter Try.func19, Try.ntmps19
      go_wp2_with fail
      refine (refIs_is s true _ hs HA).mono ?_
      rintro e w1 ⟨rfl, n1⟩
      have s1 := n1.size
      go_wp2_with fail
      refine (refIs_is t false _ ht HB).mono ?_
      rintro e w2 ⟨rfl, hB⟩
      have n2 := n1.trans (hB.mono s1)
      clear n1 hB s1
      go_wp2_with fail
      go_ret
      exact ⟨rfl, n2⟩
    | true =>
      obtain ⟨x, hx⟩ : ∃ x, mk (foldN s.data.toList) = x := ⟨_, rfl⟩
      obtain ⟨y, hy⟩ : ∃ y, mk (foldN t.data.toList) = y := ⟨_, rfl⟩
      have hq : (x.toList == y.toList) = q := by
        rw [← hx, ← hy, eq_toList, foldN_yes ha, foldN_yes hb, ← h']
        exact decide_eq_decide.2 ⟨fun h => mk_inj h, fun h => by rw [h]⟩
      have HX := Lib.hid hx
      have HY := Lib.hid hy
      clear h' h ha hb hx hy
      go_enter Try.func19, Try.ntmps19
      go_wp2_with fail
      refine (refIs_is s true _ hs HA).mono ?_
      rintro e w1 ⟨rfl, n1⟩
      have s1 := n1.size
      go_wp2_with fail
      refine (refIs_is t true _ ht HB).mono ?_
      rintro e w2 ⟨rfl, hB⟩
      have n2 := n1.trans (hB.mono s1)
      have s2 := n2.size
      clear n1 hB s1
      go_wp2_with fail
      refine (refNameFold_is s x _ hs HX).mono ?_
      rintro e w3 ⟨rfl, hB⟩
      have n3 := n2.trans (hB.mono s2)
      have s3 := n3.size
      clear n2 hB s2
      go_wp2_with fail
      refine (refNameFold_is t y _ ht HY).mono ?_
      rintro e w4 ⟨rfl, hB⟩
      have n4 := n3.trans (hB.mono s3)
      clear n3 hB s3
      go_wp2_with fail
      go_ret
      exact ⟨rfl, n4⟩

theorem lowLs_at {L : List (List UInt8)} {k : Nat} (h : k < L.length) : (lowLs L)[k]? = some (lowL (L.getD k [])) := by
  unfold lowLs
  rw [List.getElem?_map, List.getElem?_eq_getElem h, List.getD_eq_getElem?_getD, List.getElem?_eq_getElem h]
  rfl
theorem lowLs_same {L M : List (List UInt8)} (hl : L.length = M.length) (h : ∀ j, j < L.length → lowL (L.getD j []) = lowL (M.getD j [])) : lowLs L = lowLs M := by
  apply List.ext_getElem?
  intro j
  rcases Nat.lt_or_ge j L.length with hj | hj
  · rw [lowLs_at hj, lowLs_at (by omega), h j hj]
  · rw [List.getElem?_eq_none (by rw [lowLs_len]; exact hj), List.getElem?_eq_none (by rw [lowLs_len]; omega)]
theorem lowLs_other {L M : List (List UInt8)} {j : Nat} (h1 : j < L.length) (h2 : j < M.length) (h : lowL (L.getD j []) ≠ lowL (M.getD j [])) : lowLs L ≠ lowLs M := by
  intro e
  have e1 := lowLs_at h1
  rw [e, lowLs_at h2] at e1
  injection e1 with e1
  exact h e1.symm

set_option maxHeartbeats 2000000 in
set_option maxRecDepth 100000 in
theorem equalFunc_is (A B : Option Addr) (c1 c2 n m : Nat) (L M : List (List UInt8)) (q : Bool) (w : World) (hr : RdS w w.heap.size A L) (hr2 : RdS w w.heap.size B M) (hn0 : Hid (L.length = n)) (hm0 : Hid (M.length = m)) (hn : n ≤ 1000000) (hl : ∀ k, (L.getD k []).length ≤ 1000000)
    (hq : Hid (decide (lowLs L = lowLs M) = q)) :
    Calls Try.prog 33 #[.slice A n c1, .slice B m c2, .func (.func 31) #[] #[]] w fun e w' => e = .returned (.bool q) ∧ Below w.heap.size w w' := by
  have HR := Lib.hid hr; clear hr
  have HR2 := Lib.hid hr2; clear hr2
  have HL := Lib.hid hl; clear hl
  by_cases hnm : n = m
  · have hnmi : ((n : Int) != (m : Int)) = false := bne_eq_false_iff_eq.2 (by omega)
    have hnm2 : n ≤ m := by omega
    have hnm3 : m ≤ n := by omega
    clear hnm
    generalize hg : w.heap.size = g at *
    have G := Lib.hid hg; clear hg
    go_enter Try.func33, Try.ntmps33
    go_wp2_with fail
    go_loopw [17] (fun i wr => ∃ k : Nat, k ≤ n ∧ i = .int .i64 k ∧ Hid (∀ j, j < k → lowL (L.getD j []) = lowL (M.getD j [])) ∧ Below g w wr) (fun i _ => n - (intOf i).toNat)
    case atStart => exact ⟨0, Nat.zero_le _, rfl, Lib.hid (fun j hj => absurd hj (Nat.not_lt_zero _)), Below.refl _ _⟩
    case round =>
      obtain ⟨k, hk, rfl, hE, hB⟩ := hrel
      by_cases hlt : k < n
      · have hlt2 : k < m := by omega
        have hkl : k < L.length := by rw [hn0.out]; exact hlt
        have hkm : k < M.length := by rw [hm0.out]; exact hlt2
        obtain ⟨a, rfl, hab, hcell⟩ := (HR.out.on hB (Nat.le_refl _)).get hkl
        obtain ⟨b, rfl, hbb, hcell2⟩ := (HR2.out.on hB (Nat.le_refl _)).get hkm
        have hlen := HL.out k
        obtain ⟨z, hz⟩ : ∃ z, decide (lowL (L.getD k []) = lowL (M.getD k [])) = z := ⟨_, rfl⟩
        have hS := Lib.hid (fun w => same_is (mk (L.getD k [])) (mk (M.getD k [])) z w (by rw [mk_size]; exact hlen) (Lib.hid hz))
        cases z with
        | true =>
          have hE2 : Hid (∀ j, j < k + 1 → lowL (L.getD j []) = lowL (M.getD j [])) := fun j hj => by
            rcases Nat.lt_or_ge j k with h | h
            · exact hE.out j h
            · obtain rfl : j = k := by omega
              exact of_decide_eq_true hz
          generalize mk (L.getD k []) = x at *
          generalize mk (M.getD k []) = y at *
          clear hz hlen hkl hkm hE
          go_wp2_with fail
          refine (hS.out _).mono ?_
          rintro e w1 ⟨rfl, hB1⟩
          have hBB := hB.trans (hB1.mono (by have := hB.size; have := G.out; omega))
          go_wp2_with fail
          go_roundw
          case rel => exact ⟨k + 1, by omega, by go_num, hE2, hBB⟩
          case measure => simp [intOf]; omega
        | false =>
          obtain rfl : q = false := by
            rw [← hq.out]
            exact decide_eq_false (lowLs_other hkl hkm (of_decide_eq_false hz))
          generalize mk (L.getD k []) = x at *
          generalize mk (M.getD k []) = y at *
          clear hz hlen hkl hkm hE hq
          go_wp2_with fail
          refine (hS.out _).mono ?_
          rintro e w1 ⟨rfl, hB1⟩
          have hBB := hB.trans (hB1.mono (by have := hB.size; have := G.out; omega))
          go_wp2_with fail
          go_ret
          exact ⟨rfl, hBB⟩
      · obtain rfl : q = true := by
          rw [← hq.out]
          exact decide_eq_true (lowLs_same (by rw [hn0.out, hm0.out]; omega) (fun j hj => hE.out j (by rw [hn0.out] at hj; omega)))
        clear hE hq
        go_wp2_with fail
        go_ret
        exact ⟨rfl, hB⟩
  · obtain rfl : q = false := by
      rw [← hq.out]
      refine decide_eq_false (fun h => hnm ?_)
      have := congrArg List.length h
      rw [lowLs_len, lowLs_len, hn0.out, hm0.out] at this
      exact this
    have hnmi : ((n : Int) != (m : Int)) = true := bne_iff_ne.2 (by omega)
    clear hnm hq
    go_enter Try.func33, Try.ntmps33
    go_wp2_with fail
    go_ret
    exact ⟨rfl, Below.refl _ _⟩

theorem drop_small {L : List (List UInt8)} (h : ∀ k, (L.getD k []).length ≤ 1000000) (d : Nat) : ∀ k, ((L.drop d).getD k []).length ≤ 1000000 := fun k => by
  rw [List.getD_eq_getElem?_getD, List.getElem?_drop, ← List.getD_eq_getElem?_getD]
  exact h _

set_option maxHeartbeats 4000000 in
set_option maxRecDepth 100000 in
theorem under_yes (s t : ByteArray) (L M : List (List UInt8)) (q : Bool) (w : World) (hs : s.size ≤ 1000000) (ht : t.size ≤ 1000000) (hL : Hid (labels s.data.toList = some L)) (hM : Hid (labels t.data.toList = some M)) (h : Hid (underL L M = q)) :
    Calls Try.prog 20 #[.string s, .string t] w fun e w' => e = .returned (.bool q) ∧ Below w.heap.size w w' := by
  have HA := Lib.hid (isN_of hL.out)
  have HB := Lib.hid (isN_of hM.out)
  obtain ⟨hLc, hLl⟩ := lab_small hL.out
  obtain ⟨hMc, _⟩ := lab_small hM.out
  have HLl := Lib.hid hLl; clear hLl
  obtain ⟨n, hn0⟩ : ∃ n, L.length = n := ⟨_, rfl⟩
  obtain ⟨m, hm0⟩ : ∃ m, M.length = m := ⟨_, rfl⟩
  rw [hn0] at hLc
  rw [hm0] at hMc
  have hq := h.out
  unfold underL at hq
  rw [hn0, hm0] at hq
  have HN := Lib.hid hn0
  have HM := Lib.hid hm0
  by_cases hmn : m ≤ n
  · obtain ⟨d, hd⟩ : ∃ d, n - m = d := ⟨_, rfl⟩
    rw [hd] at hq
    have HQ : Hid (decide (lowLs (L.drop d) = lowLs M) = q) := by
      show _ = _
      rw [← hq]
      exact decide_eq_decide.2 ⟨fun e => ⟨hmn, e⟩, fun e => e.2⟩
    have hdi : (n : Int) - (m : Int) = (d : Int) := by omega
    have hd0 : (0 : Int) ≤ (d : Int) := by omega
    have hdn : (d : Int) ≤ (n : Int) := by omega
    have hnd : n - d = m := by omega
    have HDL : Hid ((L.drop d).length = m) := by show _ = _; rw [List.length_drop, hn0]; exact hnd
    have HND := Lib.hid hnd
    have HDI := Lib.hid hdi
    clear hq hd h hn0 hm0 hmn hnd hdi
    go_enter Try.func20, Try.ntmps20
    go_wp2_with fail
    refine (is_is s true _ hs HA).mono ?_
    rintro e w' ⟨rfl, rfl⟩
    go_wp2_with fail
    refine (is_is t true _ ht HB).mono ?_
    rintro e w' ⟨rfl, rfl⟩
    go_wp2_with fail
    refine (labels_yes s L _ hs hL).mono ?_
    rintro e w1 ⟨v1, rfl, hO1, n1⟩
    obtain ⟨A, c, rfl, hcap, hr1, _⟩ := own_rds hO1 rfl
    have s1 := n1.size
    clear hO1
    rw [HN.out] at hcap ⊢
    go_wp2_with fail
    refine (labels_yes t M _ ht hM).mono ?_
    rintro e w2 ⟨v2, rfl, hO2, hB⟩
    obtain ⟨B, c2, rfl, _, hr2, _⟩ := own_rds hO2 rfl
    have n2 := n1.trans (hB.mono s1)
    have s2 := n2.size
    have hr1' := hr1.on hB hB.size
    have hcut := hr1'.cut (k := d) c (by rw [HN.out]; exact hcap)
    have HC := Lib.hid hcut
    have HR2 := Lib.hid hr2
    clear hO2 n1 hB s1 hr1 hr1' hcut hr2
    rw [HM.out]
    have hdi := HDI.out
    have hnd := HND.out
    by_cases hcd : c = d
    · have HC2 := HC.out
      rw [if_pos hcd] at HC2
      have HC3 := Lib.hid HC2
      clear HC2 HC
      go_wp2_with fail
      refine (equalFunc_is _ _ _ _ m m (L.drop d) M q _ HC3.out HR2.out HDL HM (by omega) (drop_small HLl.out d) HQ).mono ?_
      rintro e w3 ⟨rfl, hB⟩
      have n3 := n2.trans (hB.mono s2)
      clear n2 hB
      go_wp2_with fail
      go_ret
      exact ⟨rfl, n3⟩
    · have HC2 := HC.out
      rw [if_neg hcd] at HC2
      have HC3 := Lib.hid HC2
      clear HC2 HC
      go_wp2_with fail
      refine (equalFunc_is _ _ _ _ m m (L.drop d) M q _ HC3.out HR2.out HDL HM (by omega) (drop_small HLl.out d) HQ).mono ?_
      rintro e w3 ⟨rfl, hB⟩
      have n3 := n2.trans (hB.mono s2)
      clear n2 hB
      go_wp2_with fail
      go_ret
      exact ⟨rfl, n3⟩
  · obtain rfl : false = q := by rw [← hq]; exact (decide_eq_false (fun e => hmn e.1)).symm
    have hneg : decide ((0 : Int) ≤ (n : Int) - (m : Int)) = false := decide_eq_false (by omega)
    have hneg2 : decide ((m : Int) ≤ (n : Int)) = false := decide_eq_false (by omega)
    have hneg3 : (n : Int) < (m : Int) := by omega
    clear hq h hn0 hm0 hmn
    go_enter Try.func20, Try.ntmps20
    go_wp2_with fail
    refine (is_is s true _ hs HA).mono ?_
    rintro e w' ⟨rfl, rfl⟩
    go_wp2_with fail
    refine (is_is t true _ ht HB).mono ?_
    rintro e w' ⟨rfl, rfl⟩
    go_wp2_with fail
    refine (labels_yes s L _ hs hL).mono ?_
    rintro e w1 ⟨v1, rfl, hO1, n1⟩
    obtain ⟨A, c, rfl, _, _, _⟩ := own_rds hO1 rfl
    have s1 := n1.size
    clear hO1
    rw [HN.out]
    go_wp2_with fail
    refine (labels_yes t M _ ht hM).mono ?_
    rintro e w2 ⟨v2, rfl, hO2, hB⟩
    obtain ⟨B, c2, rfl, _, _, _⟩ := own_rds hO2 rfl
    have n2 := n1.trans (hB.mono s1)
    clear hO2 n1 hB s1
    rw [HM.out]
    go_wp2_with fail
    go_ret
    exact ⟨rfl, n2⟩
end Go.Proofs.Ytepbpaaielfpnaa
