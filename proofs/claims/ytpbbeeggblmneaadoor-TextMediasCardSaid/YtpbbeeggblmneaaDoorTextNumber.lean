/- The contracts of text's Number and Decimal, and of the document's. -/
import Derived.Test.YtpbbeeggblmneaaDoorProg
import Derived.Test.YtpbbeeggblmneaaDoorTextMath
import Derived.Test.YtpbbeeggblmneaaDoorTextBytes
import Derived.Test.YtpbbeeggblmneaaDoorTextFold
import Derived.Test.YtpbbeeggblmneaaDoorTextSame
import Derived.Test.YtpbbeeggblmneaaDoorTextValue
import Derived.Test.YtpbbeeggblmneaaDoorShelf
import Derived.Lib.ItoaLen
import Derived.WalkKit
import Derived.Lib.Hide
import Derived.Outline
import Derived.IntWalk
import Derived.WalkSpells
import Derived.WalkLawsBesides
import Derived.Deep.Draws
import Derived.Deep.CutBlock
import Derived.Deep.DeepCutAuto
namespace Go.Proofs.YtpbbeeggblmneaaDoor
open Go.RowKit TextMath

theorem itoa_is (B : Nat) (n : Nat) (t : ByteArray) (h : Hid (mk (Lib.decDigits n) = t)) (w : World) (hS : Std B w) (hn : (n : Int) ≤ 9223372036854775807) :
    Calls Tryd.prog 31 #[.int .i64 n] w fun e w' => e = .returned (.string t) ∧ Below w.heap.size w w' := by
  refine (Tryd.strconv_Itoa n (by omega) hn w hS.tab).mono ?_
  rintro e w' ⟨rfl, k, os, rfl⟩
  refine ⟨?_, Lib.below_grow _ w (Nat.le_refl _) k os⟩
  rw [Lib.itoa_nonneg, ← h.out]
  rfl

theorem number_any (B : Nat) (n : Int) (w : World) (hS : Std B w) (h0 : -9223372036854775808 ≤ n) (h1 : n ≤ 9223372036854775807) :
    Calls Tryd.prog 20 #[.int .i64 n] w fun e w' => e = .returned (.string (numS n)) ∧ Below w.heap.size w w' := by
  have HS := Lib.hid hS; clear hS
  by_cases h : n < 0
  · have E := Lib.hid (num_neg h)
    go_enter Tryd.func20, Tryd.ntmps20
    go_wp2_with fail
    go_ret
    exact ⟨by rw [E.out]; rfl, Below.refl _ _⟩
  · obtain ⟨u, rfl⟩ := Int.eq_ofNat_of_zero_le (show 0 ≤ n by omega)
    obtain ⟨t, ht⟩ : ∃ t, t = numS (u : Int) := ⟨_, rfl⟩
    rw [← ht]
    have E := Lib.hid (show mk (Lib.decDigits u) = t by rw [ht, num_nat])
    clear ht
    go_enter Tryd.func20, Tryd.ntmps20
    go_wp2_with fail
    refine (itoa_is B u t E _ HS.out h1).mono ?_
    rintro e w1 ⟨rfl, hB⟩
    go_wp2_with fail
    go_ret
    exact ⟨rfl, hB⟩

theorem conv_one (W : World) (x : UInt8) :
    (convert 31 9 (.slice (some ⟨W.heap.size, 0, none⟩) 1 1)).run Tryd.prog (W.alloc (.cells #[.int .u8 x.toNat] 5)) = .ok (.string (mk [x])) (W.alloc (.cells #[.int .u8 x.toNat] 5)) := by
  refine run_convert_bytes_back _ _ _ 5 ⟨W.heap.size, 0, none⟩ 1 [x] Tryd.underlying31 Tryd.underlying5 Tryd.underlying9 (fun j hj => ?_)
  have e : j = 0 := by simpa using hj
  subst e
  simp [Addr.add]

/-- Behind some rounds: the digits still to come, and those that stand. -/
def NumRel (n u : Nat) (q : ByteArray) : Prop := Lib.decDigits n = Lib.decDigits u ++ q.data.toList
theorem numRel_size {n u : Nat} {q : ByteArray} (h : NumRel n u q) (hn : n < 18446744073709551616) : q.size ≤ 20 := by
  have e := congrArg List.length h
  rw [List.length_append, Lib.decDigits_length, ← Lib.size_eq] at e
  have := Lib.nDigits_le20 n hn
  omega
theorem numRel_step {n u : Nat} {q : ByteArray} {x : UInt8} (h : NumRel n u q) (hu : 9 < u) (hx : x = UInt8.ofNat (48 + u % 10)) : NumRel n (u / 10) (mk [x] ++ q) := by
  unfold NumRel at *
  rw [h, dec_step (by omega), cat_list, mk_list, hx, List.append_assoc]
theorem numRel_end {n u : Nat} {q : ByteArray} {x : UInt8} (h : NumRel n u q) (hu : u ≤ 9) (hx : x = UInt8.ofNat (48 + u)) : mk [x] ++ q = mk (Lib.decDigits n) := by
  unfold NumRel at h
  apply list_inj
  rw [h, cat_list, mk_list, mk_list, Lib.decDigits_one (by omega), hx]

set_option maxHeartbeats 1000000 in
theorem refNumber_any (n : Int) (w : World) (h0 : -9223372036854775808 ≤ n) (h1 : n ≤ 9223372036854775807) :
    Calls Tryd.prog 21 #[.int .i64 n] w fun e w' => e = .returned (.string (numS n)) ∧ Below w.heap.size w w' := by
  by_cases h : n < 0
  · have E := Lib.hid (num_neg h)
    go_enter Tryd.func21, Tryd.ntmps21
    go_wp2_with fail
    go_ret
    exact ⟨by rw [E.out]; rfl, Below.refl _ _⟩
  · obtain ⟨u0, rfl⟩ := Int.eq_ofNat_of_zero_le (show 0 ≤ n by omega)
    obtain ⟨t, ht⟩ : ∃ t, t = numS (u0 : Int) := ⟨_, rfl⟩
    rw [← ht]
    have E := Lib.hid (show mk (Lib.decDigits u0) = t by rw [ht, num_nat])
    clear ht
    generalize hg : w.heap.size = g at *
    have G := Lib.hid hg; clear hg
    go_enter Tryd.func21, Tryd.ntmps21
    go_wp2_with fail
    go_loopw [0, 3] (fun i v wr => ∃ (u : Nat) (q : ByteArray), u ≤ u0 ∧ i = .int .i64 u ∧ v = .string q ∧ Hid (NumRel u0 u q) ∧ q.size ≤ 20 ∧ Below g w wr) (fun i _ _ => (intOf i).toNat)
    case atStart => exact ⟨u0, ⟨#[]⟩, Nat.le_refl _, rfl, rfl, Lib.hid (by unfold NumRel; simp), by decide, Below.refl _ _⟩
    case round =>
      rename_i wr _
      obtain ⟨u, q, hu, rfl, rfl, hR, hq, hB⟩ := hrel
      by_cases h9 : 9 < u
      · obtain ⟨x, hx⟩ : ∃ x, x = UInt8.ofNat (48 + u % 10) := ⟨_, rfl⟩
        have hR' := Lib.hid (numRel_step hR.out h9 hx)
        have hq' := numRel_size hR'.out (by omega)
        have hz : ((48 : Int) + (u : Int) % 10) = x.toNat := by rw [hx, UInt8.toNat_ofNat']; omega
        have hcv := conv_one wr x
        have hs1 := mk_size [x]
        have hdec : u / 10 < u := by omega
        generalize hp : mk [x] = p at *
        clear hx
        go_wp2_with fail
        go_roundw
        case rel => exact ⟨u / 10, p ++ q, by omega, by go_num, rfl, hR', hq', hB.alloc (by have := hB.size; have := G.out; omega) _⟩
        case measure => simp [intOf]; omega
      · obtain ⟨x, hx⟩ : ∃ x, x = UInt8.ofNat (48 + u) := ⟨_, rfl⟩
        have hE := Lib.hid ((numRel_end hR.out (show u ≤ 9 by omega) hx).trans E.out)
        have hz : ((48 : Int) + (u : Int)) = x.toNat := by rw [hx, UInt8.toNat_ofNat']; omega
        have hcv := conv_one wr x
        have hs1 := mk_size [x]
        generalize hp : mk [x] = p at *
        clear hx hR
        go_wp2_with fail
        go_ret
        exact ⟨by rw [← hE.out]; rfl, hB.alloc (by have := hB.size; have := G.out; omega) _⟩

theorem decN_no {l : List UInt8} {most : Int} (h : decOk l most = false) : decN l most = 0 := by unfold decN; rw [h]; rfl
theorem dec_no {l : List UInt8} {most : Int} (h : decOk l most = false) : Hid (decOk l most = false) ∧ Hid (decN l most = 0) := ⟨h, decN_no h⟩
theorem no_empty {l : List UInt8} {most : Int} (h : l.length = 0) : decOk l most = false := by
  rw [List.length_eq_zero_iff.1 h]; rfl
theorem no_long {l : List UInt8} {most : Int} (h : 9 < l.length) : decOk l most = false := by
  unfold decOk; rw [decide_eq_false (show ¬ l.length ≤ 9 by omega)]; simp
theorem no_lead {l : List UInt8} {most : Int} (h : leadB l = false) : decOk l most = false := by
  unfold decOk; rw [h]; simp
theorem no_digit {l : List UInt8} {most : Int} (h : l.all digitB = false) : decOk l most = false := by
  unfold decOk; rw [h]; simp
theorem no_most {l : List UInt8} {most : Int} (h : most < (dval l : Int)) : decOk l most = false := by
  unfold decOk; rw [decide_eq_false (show ¬ (dval l : Int) ≤ most by omega)]; simp
theorem dec_yes {l : List UInt8} {most : Int} (h0 : l.length ≠ 0) (h1 : l.length ≤ 9) (h2 : leadB l = true) (h3 : l.all digitB = true) (h4 : (dval l : Int) ≤ most) : Hid (decOk l most = true) ∧ Hid (decN l most = dval l) := by
  have e : decOk l most = true := by
    unfold decOk
    rw [h2, h3, decide_eq_true h1, decide_eq_true h4]
    cases l with
    | nil => exact absurd rfl h0
    | cons b l => rfl
  refine ⟨e, ?_⟩
  show decN l most = _
  unfold decN
  rw [e]; rfl
theorem not_digit {s : ByteArray} {k : Nat} {x : UInt8} (h : k < s.size) (hx : s.data.toList.getD k 0 = x) (hq : inB 48 57 x = false) : s.data.toList.all digitB = false := by
  have h' : k < s.data.toList.length := by rw [← Lib.size_eq]; exact h
  rw [List.all_eq_false]
  refine ⟨x, ?_, by unfold digitB; rw [hq]; simp⟩
  rw [← hx, List.getD_eq_getElem?_getD, List.getElem?_eq_getElem h']
  exact List.getElem_mem h'
/-- Behind k digits: v is their number. -/
def DecRel (s : ByteArray) (k v : Nat) : Prop := v = dval (s.data.toList.take k) ∧ ∀ j, j < k → digitB (s.data.toList.getD j 0) = true
theorem decRel_start (s : ByteArray) : DecRel s 0 0 := ⟨rfl, fun _ hj => absurd hj (Nat.not_lt_zero _)⟩
theorem decRel_step {s : ByteArray} {k v : Nat} {x : UInt8} (h : DecRel s k v) (hk : k < s.size) (hx : s.data.toList.getD k 0 = x) (hq : inB 48 57 x = true) : DecRel s (k + 1) (10 * v + (x.toNat - 48)) := by
  have hk' : k < s.data.toList.length := by rw [← Lib.size_eq]; exact hk
  refine ⟨?_, fun j hj => ?_⟩
  · rw [take_snoc hk', dval_snoc, ← h.1, hx]
  · rcases Nat.lt_or_ge j k with h' | h'
    · exact h.2 j h'
    · have e : j = k := by omega
      subst e
      rw [hx]; exact hq
theorem decRel_lt {s : ByteArray} {k v : Nat} (h : DecRel s k v) (hk : k ≤ s.size) (h9 : k ≤ 9) : v < 1000000000 := by
  have hl : (s.data.toList.take k).length = k := by rw [List.length_take, ← Lib.size_eq]; omega
  have ha : (s.data.toList.take k).all digitB = true := by
    rw [List.all_eq_true]
    intro c hc
    obtain ⟨j, hj, e⟩ := List.mem_iff_getElem.1 hc
    rw [hl] at hj
    have := h.2 j hj
    rw [List.getElem_take] at e
    have hj' : j < s.data.toList.length := by rw [← Lib.size_eq]; omega
    rw [List.getD_eq_getElem?_getD, List.getElem?_eq_getElem hj', e] at this
    exact this
  have := dval_lt _ ha
  rw [hl, ← h.1] at this
  have h2 : 10 ^ k ≤ 10 ^ 9 := Nat.pow_le_pow_right (by omega) h9
  omega
theorem decRel_end {s : ByteArray} {k v : Nat} (h : DecRel s k v) (hk : k = s.size) : v = dval s.data.toList ∧ s.data.toList.all digitB = true := by
  refine ⟨?_, all_of h.2 hk⟩
  rw [h.1, List.take_of_length_le (by rw [← Lib.size_eq]; omega)]
theorem lead_short {s : ByteArray} (h : s.size ≤ 1) : leadB s.data.toList = true := by
  unfold leadB
  rw [decide_eq_true (by rw [← Lib.size_eq]; exact h)]; rfl
theorem lead_long {s : ByteArray} {x : UInt8} (h : 1 < s.size) (hx : s.data.toList.getD 0 0 = x) : leadB s.data.toList = !(x == 48) := by
  have h' : 0 < s.data.toList.length := by rw [← Lib.size_eq]; omega
  unfold leadB
  rw [decide_eq_false (by rw [← Lib.size_eq]; omega), List.head?_eq_getElem?, List.getElem?_eq_getElem h', Bool.false_or]
  have e : s.data.toList[0] = x := by rw [← hx, List.getD_eq_getElem?_getD, List.getElem?_eq_getElem h']; rfl
  rw [e]
  rfl

set_option maxHeartbeats 2000000 in
set_option maxRecDepth 100000 in
theorem decimal_any (s : ByteArray) (most : Int) (w : World) (hs : s.size ≤ 140737488351232) :
    Calls Tryd.prog 18 #[.string s, .int .i64 most] w fun e w' => e = .returned (.tuple #[.int .i64 (decN s.data.toList most), .bool (decOk s.data.toList most)]) ∧ w = w' := by
  obtain ⟨N, hN⟩ : ∃ N, decN s.data.toList most = N := ⟨_, rfl⟩
  obtain ⟨O, hO⟩ : ∃ O, decOk s.data.toList most = O := ⟨_, rfl⟩
  rw [hN, hO]
  have HN := Lib.hid hN
  have HO := Lib.hid hO
  clear hN hO
  have hsz := Lib.size_eq s
  by_cases hz : s.size = 0
  · have E := dec_no (most := most) (no_empty (show s.data.toList.length = 0 by omega))
    obtain rfl : N = 0 := HN.out.symm.trans E.2.out
    obtain rfl : O = false := HO.out.symm.trans E.1.out
    have f1 : s.toList.isEmpty = true := by rw [Lib.toList_data, List.length_eq_zero_iff.1 (show s.data.toList.length = 0 by omega)]; rfl
    clear E hsz
    go_enter Tryd.func18, Tryd.ntmps18
    go_wp2_with fail
    go_ret2
    exact ⟨rfl, rfl⟩
  have f1 : s.toList.isEmpty = false := by
    rw [Lib.toList_data]
    cases hl : s.data.toList with
    | nil => rw [hl] at hsz; exact absurd hsz hz
    | cons b l => rfl
  by_cases h9 : 9 < s.size
  · have E := dec_no (most := most) (no_long (show 9 < s.data.toList.length by omega))
    obtain rfl : N = 0 := HN.out.symm.trans E.2.out
    obtain rfl : O = false := HO.out.symm.trans E.1.out
    clear E hsz
    go_enter Tryd.func18, Tryd.ntmps18
    go_wp2_with fail
    go_ret2
    exact ⟨rfl, rfl⟩
  have HSZ := Lib.hid hsz
  clear hsz
  have l0 : 0 < s.size := by omega
  go_enter Tryd.func18, Tryd.ntmps18
  go_upto_region 1 with fail
  have f9 : decide ((9 : Int) < s.size) = false := decide_eq_false (by omega)
  go_cut [24] from 8 to 24 (fun c wx => c = .bool (!leadB s.data.toList) ∧ w = wx)
  case first =>
    by_cases h1 : 1 < s.size
    · have hx0 := getD_byte l0
      generalize hx1 : s.data.toList.getD 0 0 = x at hx0
      have hx : s[0]'l0 = x := hx0.symm
      have HL := Lib.hid (lead_long h1 hx1)
      clear hx0 hx1
      by_cases h48 : x.toNat = 48
      · have f48 : ((x.toNat : Int) == 48) = true := by rw [h48]; rfl
        have e48 : x = 48 := UInt8.toNat_inj.1 h48
        have HL' : Hid ((!leadB s.data.toList) = true) := by show _ = _; rw [HL.out, e48]; rfl
        clear e48 h48 HL
        go_wp2_with fail
        go_meet
        exact ⟨by rw [HL'.out], rfl⟩
      · have f48 : ((x.toNat : Int) == 48) = false := beq_eq_false_iff_ne.2 (by omega)
        have e48 : x ≠ 48 := fun e => h48 (by rw [e]; rfl)
        have HL' : Hid ((!leadB s.data.toList) = false) := by show _ = _; rw [HL.out, beq_eq_false_iff_ne.2 e48]; rfl
        clear e48 h48 HL
        go_wp2_with fail
        go_meet
        exact ⟨by rw [HL'.out], rfl⟩
    · have HL' : Hid ((!leadB s.data.toList) = false) := by show _ = _; rw [lead_short (by omega)]; rfl
      have f2 : decide ((1 : Int) < s.size) = false := decide_eq_false (by omega)
      go_wp2_with fail
      go_meet
      exact ⟨by rw [HL'.out], rfl⟩
  case rest =>
    obtain ⟨rfl, rfl⟩ := hcut
    obtain ⟨L, hL⟩ : ∃ L, leadB s.data.toList = L := ⟨_, rfl⟩
    rw [hL]
    have HL := Lib.hid hL
    clear hL
    cases L with
    | false =>
      have E := dec_no (most := most) (no_lead HL.out)
      obtain rfl : N = 0 := HN.out.symm.trans E.2.out
      obtain rfl : O = false := HO.out.symm.trans E.1.out
      clear E
      go_wp2_with fail
      go_ret2
      exact ⟨rfl, rfl⟩
    | true =>
    go_wp2_with fail
    go_loop [6, 27] (fun a i => ∃ k v : Nat, k ≤ s.size ∧ i = .int .i64 k ∧ a = .int .i64 v ∧ Hid (DecRel s k v) ∧ v < 1000000000) (fun _ i => s.size - (intOf i).toNat)
    case atStart => exact ⟨0, 0, Nat.zero_le _, rfl, rfl, decRel_start s, by decide⟩
    case round =>
      obtain ⟨k, v, hk, rfl, rfl, hR, hv⟩ := hrel
      by_cases hlt : k < s.size
      · have hx0 := getD_byte hlt
        generalize hx1 : s.data.toList.getD k 0 = x at hx0
        have hx : s[k]'hlt = x := hx0.symm
        have HX := Lib.hid hx1
        clear hx0 hx1
        obtain ⟨q, hq⟩ : ∃ q, inB 48 57 x = q := ⟨_, rfl⟩
        have HQ := Lib.hid hq
        clear hq
        cases q with
        | false =>
          have E := dec_no (most := most) (no_digit (not_digit hlt HX.out HQ.out))
          obtain rfl : N = 0 := HN.out.symm.trans E.2.out
          obtain rfl : O = false := HO.out.symm.trans E.1.out
          clear E
          go_wp2_with fail
          refine (within_is x 48 57 false HQ _).mono ?_
          rintro e w' ⟨rfl, rfl⟩
          go_wp2_with fail
          go_ret2
          exact ⟨rfl, rfl⟩
        | true =>
          have hR' := Lib.hid (decRel_step hR.out hlt HX.out HQ.out)
          have hv' := decRel_lt hR'.out (by omega) (by omega)
          have hd := digitB_iff.1 (show digitB x = true from HQ.out)
          have hd1 := hd.1
          have hd2 := hd.2
          clear hd
          go_wp2_with fail
          refine (within_is x 48 57 true HQ _).mono ?_
          rintro e w' ⟨rfl, rfl⟩
          go_wp2_with fail
          go_round
          case rel =>
            refine ⟨trivial, ?_⟩
            (repeat apply Exists.intro)
            exact ⟨⟨k + 1, 10 * v + (x.toNat - 48), by omega, by go_num, congrArg (Value.int .i64) (by omega), hR', hv'⟩, rfl⟩
          case measure => simp [intOf]; omega
      · have hE := decRel_end hR.out (show k = s.size by omega)
        have HE := Lib.hid hE
        clear hE
        by_cases hm : most < v
        · have E := dec_no (l := s.data.toList) (most := most) (no_most (by rw [← HE.out.1]; exact hm))
          obtain rfl : N = 0 := HN.out.symm.trans E.2.out
          obtain rfl : O = false := HO.out.symm.trans E.1.out
          clear E
          go_wp2_with fail
          go_ret2
          exact ⟨rfl, rfl⟩
        · have E := dec_yes (l := s.data.toList) (most := most) (by rw [← HSZ.out]; exact hz) (by rw [← HSZ.out]; omega) HL.out HE.out.2 (by rw [← HE.out.1]; omega)
          obtain rfl : N = (v : Int) := HN.out.symm.trans (E.2.out.trans (by rw [← HE.out.1]))
          obtain rfl : O = true := HO.out.symm.trans E.1.out
          clear E
          go_wp2_with fail
          go_ret2
          exact ⟨rfl, rfl⟩

theorem refNumber_is (n : Nat) (t : ByteArray) (h : Hid (mk (Lib.decDigits n) = t)) (w : World) (hn : (n : Int) ≤ 9223372036854775807) :
    Calls Tryd.prog 21 #[.int .i64 n] w fun e w' => e = .returned (.string t) ∧ Below w.heap.size w w' := by
  have := refNumber_any n w (by omega) hn
  rwa [num_nat, h.out] at this

set_option maxHeartbeats 2000000 in
set_option maxRecDepth 100000 in
theorem refDecimal_any (s : ByteArray) (most : Int) (w : World) :
    Calls Tryd.prog 19 #[.string s, .int .i64 most] w fun e w' => e = .returned (.tuple #[.int .i64 (decN s.data.toList most), .bool (decOk s.data.toList most)]) ∧ Below w.heap.size w w' := by
  obtain ⟨N, hN⟩ : ∃ N, decN s.data.toList most = N := ⟨_, rfl⟩
  obtain ⟨O, hO⟩ : ∃ O, decOk s.data.toList most = O := ⟨_, rfl⟩
  rw [hN, hO]
  have HN := Lib.hid hN
  have HO := Lib.hid hO
  clear hN hO
  have hsz := Lib.size_eq s
  by_cases h9 : 9 < s.size
  · have E := dec_no (most := most) (no_long (show 9 < s.data.toList.length by omega))
    obtain rfl : N = 0 := HN.out.symm.trans E.2.out
    obtain rfl : O = false := HO.out.symm.trans E.1.out
    clear E hsz
    go_enter Tryd.func19, Tryd.ntmps19
    go_wp2_with fail
    go_ret2
    exact ⟨rfl, Below.refl _ _⟩
  have HSZ := Lib.hid hsz
  clear hsz
  go_enter Tryd.func19, Tryd.ntmps19
  go_wp2_with fail
  go_loop [6, 7] (fun a i => ∃ k v : Nat, k ≤ s.size ∧ i = .int .i64 k ∧ a = .int .i64 v ∧ Hid (DecRel s k v) ∧ v < 1000000000) (fun _ i => s.size - (intOf i).toNat)
  case atStart => exact ⟨0, 0, Nat.zero_le _, rfl, rfl, decRel_start s, by decide⟩
  case round =>
    obtain ⟨k, v, hk, rfl, rfl, hR, hv⟩ := hrel
    by_cases hlt : k < s.size
    · have hx0 := getD_byte hlt
      generalize hx1 : s.data.toList.getD k 0 = x at hx0
      have hx : s[k]'hlt = x := hx0.symm
      have HX := Lib.hid hx1
      clear hx0 hx1
      obtain ⟨q, hq⟩ : ∃ q, inB 48 57 x = q := ⟨_, rfl⟩
      have HQ := Lib.hid hq
      clear hq
      cases q with
      | false =>
        have E := dec_no (most := most) (no_digit (not_digit hlt HX.out HQ.out))
        obtain rfl : N = 0 := HN.out.symm.trans E.2.out
        obtain rfl : O = false := HO.out.symm.trans E.1.out
        clear E
        go_wp2_with fail
        refine (in_is x 48 57 false HQ _).mono ?_
        rintro e w' ⟨rfl, rfl⟩
        go_wp2_with fail
        go_ret2
        exact ⟨rfl, Below.refl _ _⟩
      | true =>
        have hR' := Lib.hid (decRel_step hR.out hlt HX.out HQ.out)
        have hv' := decRel_lt hR'.out (by omega) (by omega)
        have hd := digitB_iff.1 (show digitB x = true from HQ.out)
        have hd1 := hd.1
        have hd2 := hd.2
        clear hd
        go_wp2_with fail
        refine (in_is x 48 57 true HQ _).mono ?_
        rintro e w' ⟨rfl, rfl⟩
        go_wp2_with fail
        go_round
        case rel => exact ⟨k + 1, 10 * v + (x.toNat - 48), by omega, by go_num, congrArg (Value.int .i64) (by omega), hR', hv'⟩
        case measure => simp [intOf]; omega
    · have hE := decRel_end hR.out (show k = s.size by omega)
      have HE := Lib.hid hE
      have hb := back_iff hE.2
      rw [← hE.1] at hb
      clear hE
      have HB := Lib.hid hb
      clear hb
      obtain ⟨t, ht⟩ : ∃ t, mk (Lib.decDigits v) = t := ⟨_, rfl⟩
      have HT := Lib.hid ht
      clear ht
      by_cases hts : t = s
      · have f1 : (t.toList == s.toList) = true := by rw [hts]; exact beq_self_eq_true _
        have hl := HB.out.1 (by have := HT.out; rw [hts] at this; exact congrArg (fun b => b.data.toList) this)
        have HL := Lib.hid hl
        clear hl
        clear hts
        by_cases hm : most < v
        · have E := dec_no (l := s.data.toList) (most := most) (no_most (by rw [← HE.out.1]; exact hm))
          obtain rfl : N = 0 := HN.out.symm.trans E.2.out
          obtain rfl : O = false := HO.out.symm.trans E.1.out
          clear E
          have fm : decide (most < (v : Int)) = true := decide_eq_true (by omega)
          go_wp2_with fail
          refine (refNumber_is v t HT _ (by omega)).mono ?_
          rintro e w1 ⟨rfl, hB⟩
          go_wp2_with fail
          go_ret2
          exact ⟨rfl, hB⟩
        · have E := dec_yes (l := s.data.toList) (most := most) (fun h => HL.out.1 (List.length_eq_zero_iff.1 h)) (by rw [← HSZ.out]; omega) HL.out.2 HE.out.2 (by rw [← HE.out.1]; omega)
          obtain rfl : N = (v : Int) := HN.out.symm.trans (E.2.out.trans (by rw [← HE.out.1]))
          obtain rfl : O = true := HO.out.symm.trans E.1.out
          clear E
          have fm : decide (most < (v : Int)) = false := decide_eq_false (by omega)
          go_wp2_with fail
          refine (refNumber_is v t HT _ (by omega)).mono ?_
          rintro e w1 ⟨rfl, hB⟩
          go_wp2_with fail
          go_ret2
          exact ⟨rfl, hB⟩
      · have f1 : (t.toList == s.toList) = false := ne_toList hts
        have hno : ¬ (s.data.toList ≠ [] ∧ leadB s.data.toList = true) := fun h => hts (by rw [← HT.out]; exact list_inj (HB.out.2 h))
        have e : decOk s.data.toList most = false := by
          by_cases h0 : s.data.toList = []
          · exact no_empty (by rw [h0]; rfl)
          · exact no_lead (by
              cases hl : leadB s.data.toList with
              | false => rfl
              | true => exact absurd ⟨h0, hl⟩ hno)
        have E := dec_no e
        obtain rfl : N = 0 := HN.out.symm.trans E.2.out
        obtain rfl : O = false := HO.out.symm.trans E.1.out
        clear E e hno hts
        go_wp2_with fail
        refine (refNumber_is v t HT _ (by omega)).mono ?_
        rintro e w1 ⟨rfl, hB⟩
        go_wp2_with fail
        go_ret2
        exact ⟨rfl, hB⟩
end Go.Proofs.YtpbbeeggblmneaaDoor
