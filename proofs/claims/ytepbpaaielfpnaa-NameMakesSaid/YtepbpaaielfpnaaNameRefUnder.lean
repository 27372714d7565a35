/- The contracts of name's Under at any two texts, and of the document's Under. For texts of at most 10^6 bytes. -/
import Derived.Test.YtepbpaaielfpnaaProg
import Derived.Test.YtepbpaaielfpnaaNameUnder
import Derived.WalkKit
import Derived.Lib.Hide
import Derived.Outline
import Derived.IntWalk
import Derived.WalkSpells
import Derived.WalkLawsBesides
import Derived.Deep.RegionHeld3
import Derived.Deep.DeepCutAuto
import Derived.Deep.Draws
namespace Go.Proofs.Ytepbpaaielfpnaa
open Go.RowKit Bytes Low Strs NameMath

theorem under_is (s t : ByteArray) (q : Bool) (w : World) (hs : s.size ≤ 1000000) (ht : t.size ≤ 1000000) (h : Hid (underN s.data.toList t.data.toList = q)) :
    Calls Try.prog 20 #[.string s, .string t] w fun e w' => e = .returned (.bool q) ∧ Below w.heap.size w w' := by
  cases ha : isN s.data.toList with
  | false =>
    obtain rfl : false = q := by
      rw [← h.out]
      unfold underN
      rw [ha]
      rfl
    have HA := Lib.hid ha
    clear ha h
    go_enter Try.func20, Try.ntmps20
    go_wp2_with fail
    refine (is_is s false _ hs HA).mono ?_
    rintro e w' ⟨rfl, rfl⟩
    go_wp2_with fail
    go_ret
    exact ⟨rfl, Below.refl _ _⟩
  | true =>
    cases hb : isN t.data.toList with
    | false =>
      obtain rfl : false = q := by
        rw [← h.out]
        unfold underN
        rw [ha, hb]
        rfl
      have HA := Lib.hid ha
      have HB := Lib.hid hb
      clear ha hb h
      go_enter Try.func20, Try.ntmps20
      go_wp2_with fail
      refine (is_is s true _ hs HA).mono ?_
      rintro e w' ⟨rfl, rfl⟩
      go_wp2_with fail
      refine (is_is t false _ ht HB).mono ?_
      rintro e w' ⟨rfl, rfl⟩
      go_wp2_with fail
      go_ret
      exact ⟨rfl, Below.refl _ _⟩
    | true =>
      obtain ⟨L, hL⟩ := isN_some ha
      obtain ⟨M, hM⟩ := isN_some hb
      exact under_yes s t L M q w hs ht (Lib.hid hL) (Lib.hid hM) (Lib.hid (by rw [← h.out, underN_of hL hM]))

/-- Nothing that stood in world w has changed. -/
def Held (w w' : World) : Prop := Below w.heap.size w w'
theorem refFold_held (x r : ByteArray) (pa pb : Addr) (va vb : Value) (w W : World) (hx : x.size ≤ 1000000) (hr : Hid (foldS x = r)) (ha : pa.block < w.heap.size) (hb : pb.block < w.heap.size)
    (hS : W.cell? pa = some va ∧ W.cell? pb = some vb ∧ Held w W) :
    Calls Try.prog 26 #[.string x] W fun e w' => e = .returned (.string r) ∧ w'.cell? pa = some va ∧ w'.cell? pb = some vb ∧ Held w w' := by
  obtain ⟨h1, h2, h3⟩ := hS
  have h3' : Below w.heap.size w W := h3
  have hle := h3'.size
  have := refFold_any x W (by omega)
  rw [hr.out] at this
  exact this.mono fun _ _ ⟨he, hB⟩ => ⟨he, (hB.cell (by omega)).trans h1, (hB.cell (by omega)).trans h2, h3'.trans (hB.mono hle)⟩

set_option maxHeartbeats 4000000 in
set_option maxRecDepth 100000 in
theorem refUnder_yes (s t : ByteArray) (L M : List (List UInt8)) (q : Bool) (w : World) (hs : s.size ≤ 1000000) (ht : t.size ≤ 1000000) (hL : Hid (labels s.data.toList = some L)) (hM : Hid (labels t.data.toList = some M)) (h : Hid (underL L M = q)) :
    Calls Try.prog 21 #[.string s, .string t] w fun e w' => e = .returned (.bool q) ∧ Below w.heap.size w w' := by
  obtain ⟨hLc, hLl⟩ := lab_small hL.out
  obtain ⟨hMc, hMl⟩ := lab_small hM.out
  have HLl := Lib.hid hLl; clear hLl
  have HMl := Lib.hid hMl; clear hMl
  obtain ⟨n, hn0⟩ : ∃ n, L.length = n := ⟨_, rfl⟩
  obtain ⟨m, hm0⟩ : ∃ m, M.length = m := ⟨_, rfl⟩
  rw [hn0] at hLc
  rw [hm0] at hMc
  have hq := h.out
  unfold underL at hq
  rw [hn0, hm0] at hq
  have HN := Lib.hid hn0
  have HM := Lib.hid hm0
  by_cases hmn : m ≤ n
  · obtain ⟨d, hd⟩ : ∃ d, n - m = d := ⟨_, rfl⟩
    rw [hd] at hq
    have HQ : Hid (decide (lowLs (L.drop d) = lowLs M) = q) := by
      show _ = _
      rw [← hq]
      exact decide_eq_decide.2 ⟨fun e => ⟨hmn, e⟩, fun e => e.2⟩
    have hdi : (n : Int) - (m : Int) = (d : Int) := by omega
    have hmni : ¬ (n : Int) < (m : Int) := by omega
    have hmnd : decide (n < m) = false := decide_eq_false (by omega)
    have hnd : n = d + m := by omega
    have HDL : Hid ((L.drop d).length = m) := by show _ = _; rw [List.length_drop, hn0]; omega
    have HDI := Lib.hid hdi
    have HND := Lib.hid hnd
    have hd255 : d ≤ 255 := by omega
    clear hq hd h hn0 hm0 hmn hdi hnd
    generalize hg : w.heap.size = g at *
    have G := Lib.hid hg; clear hg
    go_enter Try.func21, Try.ntmps21
    go_wp2_with fail
    refine (refLabels_yes s L _ hs hL).mono ?_
    rintro e w1 ⟨v1, rfl, hO1, n1⟩
    obtain ⟨A, c, rfl, hcap, hr1, _⟩ := own_rds hO1 rfl
    have s1 := n1.size
    clear hO1 hcap
    rw [HN.out]
    go_wp2_with fail
    refine (refLabels_yes t M _ ht hM).mono ?_
    rintro e w2 ⟨v2, rfl, hO2, hB⟩
    obtain ⟨B, c2, rfl, _, hr2, _⟩ := own_rds hO2 rfl
    rw [G.out] at n1 s1
    have n2 := n1.trans (hB.mono s1)
    have HR1 := Lib.hid (hr1.on hB hB.size)
    have HR2 := Lib.hid hr2
    clear hO2 n1 hB s1 hr1 hr2
    rw [HM.out]
    go_wp2_with fail
    obtain ⟨wo, rfl⟩ : ∃ wo : World, wo = w2 := ⟨_, rfl⟩
    go_loopw [9] (fun i wr => ∃ k : Nat, k ≤ m ∧ i = .int .i64 k ∧ Hid (∀ j, j < k → lowL ((L.drop d).getD j []) = lowL (M.getD j [])) ∧ Below wo.heap.size wo wr) (fun i _ => m - (intOf i).toNat)
    case atStart => exact ⟨0, Nat.zero_le _, rfl, Lib.hid (fun j hj => absurd hj (Nat.not_lt_zero _)), Below.refl _ _⟩
    case round =>
      obtain ⟨k, hk, rfl, hE, hB⟩ := hrel
      by_cases hlt : k < m
      · obtain ⟨p, hp⟩ : ∃ p, d + k = p := ⟨_, rfl⟩
        have hpl : p < L.length := by rw [HN.out, HND.out]; omega
        have hkm : k < M.length := by rw [HM.out]; exact hlt
        have hgd : (L.drop d).getD k [] = L.getD p [] := by rw [List.getD_eq_getElem?_getD, List.getElem?_drop, ← List.getD_eq_getElem?_getD, hp]
        have hcut : k < (L.drop d).length := by rw [HDL.out]; exact hlt
        obtain ⟨a, rfl, hab, hcell⟩ := (HR1.out.on hB hB.size).get hpl
        obtain ⟨b, rfl, hbb, hcell2⟩ := (HR2.out.on hB hB.size).get hkm
        have hl1 := HLl.out p
        have hl2 := HMl.out k
        obtain ⟨z, hz⟩ : ∃ z, decide (lowL ((L.drop d).getD k []) = lowL (M.getD k [])) = z := ⟨_, rfl⟩
        have hx1 : (mk (L.getD p [])).size ≤ 1000000 := by rw [mk_size]; exact hl1
        have hx2 : (mk (M.getD k [])).size ≤ 1000000 := by rw [mk_size]; exact hl2
        obtain ⟨r1, hr1⟩ : ∃ r, foldS (mk (L.getD p [])) = r := ⟨_, rfl⟩
        obtain ⟨r2, hr2⟩ : ∃ r, foldS (mk (M.getD k [])) = r := ⟨_, rfl⟩
        have hne : (!(r1.toList == r2.toList)) = !z := by
          rw [← hr1, ← hr2, eq_toList, foldS_dec, mk_list, mk_list, ← hgd, hz]
        have R1 := Lib.hid hr1
        have R2 := Lib.hid hr2
        have hwn : IntKind.i64.wrap ((n : Int) - (m : Int)) = (d : Int) := by rw [HDI.out]; exact IntWalk.i64_in _ (by omega)
        have hwp : IntKind.i64.wrap ((d : Int) + (k : Int)) = (p : Int) := by rw [IntWalk.i64_in _ (by omega)]; omega
        have hpn : p < n := by have := HND.out; omega
        have hpn2 : (p : Int) < (n : Int) := by omega
        have hpn3 : (0 : Int) ≤ (p : Int) := by omega
        have hH : Held wr wr := Below.refl _ _
        have hHd : Held wr wr.drew := (Below.refl _ _).drew
        have ha2 : (a.add p).block < wr.heap.size := by rw [add_block]; exact hab
        have hb2 : (b.add k).block < wr.heap.size := by rw [add_block]; exact hbb
        cases z with
        | true =>
          have hE2 : Hid (∀ j, j < k + 1 → lowL ((L.drop d).getD j []) = lowL (M.getD j [])) := fun j hj => by
            rcases Nat.lt_or_ge j k with h | h
            · exact hE.out j h
            · obtain rfl : j = k := by omega
              exact of_decide_eq_true hz
          generalize mk (L.getD p []) = x at *
          generalize mk (M.getD k []) = y at *
          clear hz hkm hE hpl hgd hcut hl1 hl2 hr1 hr2 hp hab hbb
          go_wp2_with fail
          go_region_held3 (fun w' => w'.cell? (a.add p) = some (.string x) ∧ w'.cell? (b.add k) = some (.string y) ∧ Held wr w') (go_keep)
            (first | (go_at_call 26; (with_reducible refine (refFold_held x r1 (a.add p) (b.add k) (.string x) (.string y) wr _ hx1 R1 ha2 hb2 ?_).mono ?_); (simp [*]); rintro e w3 ⟨rfl, k0, k1, hH3⟩) | (go_at_call 26; (with_reducible refine (refFold_held y r2 (a.add p) (b.add k) (.string x) (.string y) wr _ hx2 R2 ha2 hb2 ?_).mono ?_); (simp [*]); rintro e w3 ⟨rfl, k0, k1, hH3⟩))
          all_goals
            have hBB : Below wo.heap.size wo w3 := hB.trans (Below.mono hH3 hB.size)
            go_wp2_with fail
            go_roundw
            case rel => exact ⟨k + 1, by omega, by go_num, hE2, hBB⟩
            case measure => simp [intOf]; omega
        | false =>
          obtain rfl : q = false := by
            rw [← HQ.out]
            exact decide_eq_false (lowLs_other hcut hkm (of_decide_eq_false hz))
          generalize mk (L.getD p []) = x at *
          generalize mk (M.getD k []) = y at *
          clear hz hkm hE hpl hgd hcut hl1 hl2 hr1 hr2 hp hab hbb HQ
          go_wp2_with fail
          go_region_held3 (fun w' => w'.cell? (a.add p) = some (.string x) ∧ w'.cell? (b.add k) = some (.string y) ∧ Held wr w') (go_keep)
            (first | (go_at_call 26; (with_reducible refine (refFold_held x r1 (a.add p) (b.add k) (.string x) (.string y) wr _ hx1 R1 ha2 hb2 ?_).mono ?_); (simp [*]); rintro e w3 ⟨rfl, k0, k1, hH3⟩) | (go_at_call 26; (with_reducible refine (refFold_held y r2 (a.add p) (b.add k) (.string x) (.string y) wr _ hx2 R2 ha2 hb2 ?_).mono ?_); (simp [*]); rintro e w3 ⟨rfl, k0, k1, hH3⟩))
          all_goals
            have hBB : Below wo.heap.size wo w3 := hB.trans (Below.mono hH3 hB.size)
            go_wp2_with fail
            go_ret
            exact ⟨rfl, n2.trans (hBB.mono (by have := n2.size; have := G.out; omega))⟩
      · obtain rfl : q = true := by
          rw [← HQ.out]
          exact decide_eq_true (lowLs_same (by rw [HDL.out, HM.out]) (fun j hj => hE.out j (by rw [HDL.out] at hj; omega)))
        clear hE HQ
        go_wp2_with fail
        go_ret
        exact ⟨rfl, n2.trans (hB.mono (by have := n2.size; have := G.out; omega))⟩
  · obtain rfl : false = q := by rw [← hq]; exact (decide_eq_false (fun e => hmn e.1)).symm
    have hlti : (n : Int) < (m : Int) := by omega
    clear hq h hn0 hm0 hmn
    go_enter Try.func21, Try.ntmps21
    go_wp2_with fail
    refine (refLabels_yes s L _ hs hL).mono ?_
    rintro e w1 ⟨v1, rfl, hO1, n1⟩
    obtain ⟨A, c, rfl, _, _, _⟩ := own_rds hO1 rfl
    have s1 := n1.size
    clear hO1
    rw [HN.out]
    go_wp2_with fail
    refine (refLabels_yes t M _ ht hM).mono ?_
    rintro e w2 ⟨v2, rfl, hO2, hB⟩
    obtain ⟨B, c2, rfl, _, _, _⟩ := own_rds hO2 rfl
    have n2 := n1.trans (hB.mono s1)
    clear hO2 n1 hB s1
    rw [HM.out]
    go_wp2_with fail
    go_ret
    exact ⟨rfl, n2⟩

theorem refUnder_is (s t : ByteArray) (q : Bool) (w : World) (hs : s.size ≤ 1000000) (ht : t.size ≤ 1000000) (h : Hid (underN s.data.toList t.data.toList = q)) :
    Calls Try.prog 21 #[.string s, .string t] w fun e w' => e = .returned (.bool q) ∧ Below w.heap.size w w' := by
  cases ha : isN s.data.toList with
  | false =>
    obtain rfl : false = q := by
      rw [← h.out]
      unfold underN
      rw [ha]
      rfl
    obtain ⟨b, hb⟩ : ∃ b, isN t.data.toList = b := ⟨_, rfl⟩
    have HA := Lib.hid ha
    have HB := Lib.hid hb
    clear ha hb h
    go_enter Try.func21, Try.ntmps21
    go_wp2_with fail
    refine (refLabels_is s false _ hs HA).mono ?_
    rintro e w1 ⟨v1, rfl, n1⟩
    have s1 := n1.size
    go_wp2_with fail
    refine (refLabels_is t b _ ht HB).mono ?_
    rintro e w2 ⟨v2, rfl, hB⟩
    have n2 := n1.trans (hB.mono s1)
    clear n1 hB s1
    go_wp2_with fail
    go_ret
    exact ⟨rfl, n2⟩
  | true =>
    cases hb : isN t.data.toList with
    | false =>
      obtain rfl : false = q := by
        rw [← h.out]
        unfold underN
        rw [ha, hb]
        rfl
      have HA := Lib.hid ha
      have HB := Lib.hid hb
      clear ha hb h
      go_enter Try.func21, Try.ntmps21
      go_wp2_with fail
      refine (refLabels_is s true _ hs HA).mono ?_
      rintro e w1 ⟨v1, rfl, n1⟩
      have s1 := n1.size
      go_wp2_with fail
      refine (refLabels_is t false _ ht HB).mono ?_
      rintro e w2 ⟨v2, rfl, hB⟩
      have n2 := n1.trans (hB.mono s1)
      clear n1 hB s1
      go_wp2_with fail
      go_ret
      exact ⟨rfl, n2⟩
    | true =>
      obtain ⟨L, hL⟩ := isN_some ha
      obtain ⟨M, hM⟩ := isN_some hb
      exact refUnder_yes s t L M q w hs ht (Lib.hid hL) (Lib.hid hM) (Lib.hid (by rw [← h.out, underN_of hL hM]))
end Go.Proofs.Ytepbpaaielfpnaa
