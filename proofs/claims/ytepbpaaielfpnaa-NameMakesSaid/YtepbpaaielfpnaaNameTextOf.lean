/- The contracts of name's Text and of the document's Text. For texts of at most 10^6 bytes. -/
import Derived.Test.YtepbpaaielfpnaaProg
import Derived.Test.YtepbpaaielfpnaaBytes
import Derived.Test.YtepbpaaielfpnaaStrs
import Derived.Test.YtepbpaaielfpnaaBuilder
import Derived.Test.YtepbpaaielfpnaaShelf
import Derived.Test.YtepbpaaielfpnaaNameMath
import Derived.Test.YtepbpaaielfpnaaNameText
import Derived.Test.YtepbpaaielfpnaaNameSpell
import Derived.Test.YtepbpaaielfpnaaNameFirst
import Derived.Test.YtepbpaaielfpnaaNameLabels
import Derived.Test.YtepbpaaielfpnaaNameRefLabels
import Derived.Test.YtepbpaaielfpnaaNameFold
import Derived.WalkKit
import Derived.Lib.Hide
import Derived.Outline
import Derived.IntWalk
import Derived.WalkSpells
import Derived.WalkLawsBesides
namespace Go.Proofs.Ytepbpaaielfpnaa
open Go.RowKit Bytes Strs NameMath

theorem bld_below {w w' : World} {B b : Nat} {l : List UInt8} (h : Bld B b l w) (hB : Below w.heap.size w w') : Bld B b l w' := by
  have key : ∀ p, Lib.BuilderAt 50 5 B b p (byteCells l) w → Lib.BuilderAt 50 5 B b p (byteCells l) w' := fun p h => by
    have hlt := h.lt
    obtain ⟨h1, v, hb, hown, hne⟩ := h
    exact ⟨h1, v, (hB.block b hlt).trans hb, own_below hown hB, hne⟩
  rcases h with h | h
  · exact Or.inl (key _ h)
  · exact Or.inr (key _ h)
theorem own_rd {w : World} {base n c : Nat} {e : TypeId} {A : Option Addr} {L : List (List UInt8)} (h : w.ownsRow base e 1 (.slice A n c) n (strCs L)) (hn : n = L.length) : RdS w w.heap.size A L := by
  obtain ⟨A', c', e, _, hr, _⟩ := own_rds h hn
  injection e with e1
  rw [e1]
  exact hr
theorem own_far {w : World} {base n b : Nat} {e : TypeId} {v : Value} {xs : List Value} (h : w.ownsRow base e 1 v n xs) (hb : b < base) : v.ownBlock ≠ some b := fun he => by
  have := (h.lt b he).1
  omega
theorem list_eq (s : ByteArray) (l : List UInt8) : (s.toList == l) = decide (s.data.toList = l) := by
  rw [Lib.toList_data]
  by_cases h : s.data.toList = l
  · rw [decide_eq_true h, h]; exact beq_self_eq_true _
  · rw [decide_eq_false h]; exact beq_eq_false_iff_ne.2 h
theorem root_eq (s : ByteArray) : (s.toList == [0]) = decide (s.data.toList = [0]) := list_eq s [0]
theorem wire_255 {s : List UInt8} {L : List (List UInt8)} (h : labels s = some L) : (wire L).length ≤ 254 := by
  obtain ⟨h1, _, h3⟩ := labels_some h
  have := nameL_len L
  rw [h1] at this
  omega
theorem lab_63 {s : List UInt8} {L : List (List UInt8)} (h : labels s = some L) {k : Nat} (hk : k < L.length) : (L.getD k []).length ≤ 63 := by
  obtain ⟨_, h2, _⟩ := labels_some h
  exact (okLab_iff.1 (List.all_eq_true.1 h2 (L.getD k []) (by rw [List.getD_eq_getElem?_getD, List.getElem?_eq_getElem hk]; exact List.getElem_mem hk))).2
theorem flat_bound {l : List UInt8} (h : l.length ≤ 63) (j : Nat) : ((l.take j).flatMap sp).length ≤ 252 := by
  have h1 := flat_len (l.take j)
  have h2 : (l.take j).length ≤ l.length := by rw [List.length_take]; omega
  omega
theorem txt_bound {s : List UInt8} {L : List (List UInt8)} (h : labels s = some L) (k : Nat) : (txt (L.take k)).length ≤ 1016 := by
  have h1 := txt_take_le L k
  have h2 := wire_255 h
  omega

set_option maxHeartbeats 4000000 in
set_option maxRecDepth 100000 in
theorem text_many (s : ByteArray) (L : List (List UInt8)) (w : World) (hs : s.size ≤ 1000000) (hL : Hid (labL s.data.toList = L)) (hroot : s.data.toList ≠ [0])
    (h63 : Hid (∀ k, k < L.length → (L.getD k []).length ≤ 63)) (hn1 : L.length ≤ 1000000) (htx : Hid (∀ k, (txt (L.take k)).length ≤ 1016)) :
    Calls Try.prog 24 #[.string s] w fun e w' => e = .returned (.string (mk (txt L))) ∧ Below w.heap.size w w' := by
  obtain ⟨r, hr⟩ : ∃ r, r = mk (txt L) := ⟨_, rfl⟩
  rw [← hr]
  have R := Lib.hid hr; clear hr
  have hrt := root_eq s
  rw [decide_eq_false hroot] at hrt
  clear hroot
  obtain ⟨n, hn0⟩ : ∃ n, n = L.length := ⟨_, rfl⟩
  rw [← hn0] at hn1
  have HN := Lib.hid hn0; clear hn0
  have hfr : Bld w.heap.size w.heap.size [] (w.alloc (.cells #[.pointer none, .slice none 0 0] 50)) := Lib.fresh_isBuilder 50 5 w
  have HF := Lib.hid hfr
  clear hfr
  have hBA : Below w.heap.size w (w.alloc (.cells #[.pointer none, .slice none 0 0] 50)) := (Below.refl _ _).alloc (Nat.le_refl _) _
  have hsz : (w.alloc (.cells #[.pointer none, .slice none 0 0] 50)).heap.size = w.heap.size + 1 := by simp
  have HSZ := Lib.hid hsz
  have HBA := Lib.hid hBA
  clear hsz hBA
  go_enter Try.func24, Try.ntmps24
  go_wp2_with fail
  generalize hw1 : w.alloc (.cells #[.pointer none, .slice none 0 0] 50) = w1 at *
  generalize hg : w.heap.size = g at *
  have G := Lib.hid hg
  clear hg hw1
  refine (labels_any s L _ hs hL).mono ?_
  rintro e w2 ⟨v, rfl, hO, hB⟩
  have hBd := Lib.hid (bld_below HF.out hB)
  have hB2 : Below g w w2 := HBA.out.trans (hB.mono (by rw [HSZ.out]; omega))
  rw [HSZ.out, ← HN.out] at hO
  obtain ⟨A, c, rfl, _, _, _⟩ := own_rds hO HN.out
  have HO := Lib.hid hO
  clear hO hB HF HBA HSZ
  go_wp2_with fail
  go_loopw [12] (fun i wr => ∃ k : Nat, k ≤ n ∧ i = .int .i64 k ∧ Hid (Bld g g (txt (L.take k)) wr) ∧ Hid (wr.ownsRow (g + 1) 9 1 (.slice A n c) n (strCs L)) ∧ Below g w wr) (fun i _ => n - (intOf i).toNat)
  case atStart => exact ⟨0, Nat.zero_le _, rfl, hBd, HO, hB2⟩
  case round =>
    obtain ⟨k, hk, rfl, hBk, hOk, hBw⟩ := hrel
    by_cases hlt : k < n
    · have hkl : k < L.length := by rw [← HN.out]; exact hlt
      obtain ⟨a, rfl, hab, hcell⟩ := (own_rd hOk.out HN.out).get hkl
      have hl63 := h63.out k hkl
      have htk := txt_take hkl
      have hx63 := mk_size (L.getD k [])
      have hmx := mk_list (L.getD k [])
      generalize L.getD k [] = l at *
      generalize mk l = x at *
      have HML := Lib.hid hmx
      have HTK := Lib.hid htk
      have hxs : x.size ≤ 63 := by omega
      have HX := Lib.hid hx63
      have hl63' := Lib.hid hl63
      clear hmx htk hx63 hkl hl63
      go_wp2_with fail
      obtain ⟨wo, rfl⟩ : ∃ wo : World, wo = wr := ⟨_, rfl⟩
      go_loopw [18] (fun i wi => ∃ j : Nat, j ≤ x.size ∧ i = .int .i64 j ∧ Hid (Bld g g (txt (L.take k) ++ (l.take j).flatMap sp) wi) ∧ Hid (wi.ownsRow (g + 1) 9 1 (.slice (some a) n c) n (strCs L)) ∧ Below g w wi) (fun i _ => x.size - (intOf i).toNat)
      case atStart => exact ⟨0, Nat.zero_le _, rfl, by rw [List.take_zero, List.flatMap_nil, List.append_nil]; exact hBk, hOk, hBw⟩
      case round =>
        obtain ⟨j, hj, rfl, hBj, hOj, hBi⟩ := hrel
        by_cases hjlt : j < x.size
        · have hx0 := getD_byte hjlt
          rw [HML.out] at hx0
          have hjl : j < l.length := by rw [← HX.out]; exact hjlt
          have hft := flat_take hjl
          generalize hc0 : l.getD j 0 = y at *
          have hx : x[j]'hjlt = y := hx0.symm
          have HFT := Lib.hid hft
          have h1 := htx.out k
          have h2 := flat_bound hl63'.out j
          have hcat : (txt (L.take k) ++ (l.take j).flatMap sp) ++ sp y = txt (L.take k) ++ (l.take (j + 1)).flatMap sp := by rw [hft, List.append_assoc]
          have HCAT := Lib.hid hcat
          have hlen : (txt (L.take k) ++ (l.take j).flatMap sp).length ≤ 1268 := by rw [List.length_append]; omega
          have hsl : (mk (sp y)).size ≤ 4 := by rw [mk_size]; exact (sp_len y).2
          have hS := Lib.hid (fun w => spell_any y w)
          have hmy := Lib.hid (mk_list (sp y))
          generalize mk (sp y) = z at *
          have HLEN := Lib.hid hlen
          clear hx0 hc0 hft hcat hjl h1 h2 hlen
          go_wp2_with fail
          refine (hS.out _).mono ?_
          rintro e w3 ⟨rfl, hB3⟩
          have hb3 := bld_below hBj.out hB3
          have ho3 := own_below hOj.out hB3
          have hB3' := hBi.trans (hB3.mono (by have := hBi.size; have := G.out; omega))
          have hsz3 := hB3'.size
          have HB3 := Lib.hid hb3
          have HO3 := Lib.hid ho3
          clear hBj hOj hBi hB3 hb3 ho3
          go_wp2_with fail
          refine (writeString_any g g _ z _ HB3.out (by have := HLEN.out; omega) (by have := G.out; omega)).mono ?_
          rintro e w4 ⟨rfl, hb4, hB4, hk4⟩
          rw [hmy.out, HCAT.out] at hb4
          have ho4 := own_others HO3.out hk4 (by decide) (own_far HO3.out (Nat.lt_succ_self g))
          have hB4' := hB3'.trans hB4
          have HB4 := Lib.hid hb4
          have HO4 := Lib.hid ho4
          clear HB3 HO3 hB3' hB4 hk4 hb4 ho4
          go_wp2_with fail
          go_roundw
          case rel => exact ⟨j + 1, by omega, by go_num, HB4, HO4, hB4'⟩
          case measure => simp [intOf]; omega
        · have hjx : j = x.size := by omega
          have hbj := hBj.out
          rw [show l.take j = l from List.take_of_length_le (by rw [← HX.out]; omega)] at hbj
          have h1 := htx.out k
          have h2 := flat_bound hl63'.out l.length
          rw [List.take_length] at h2
          have HBJ := Lib.hid hbj
          have hlen : (txt (L.take k) ++ l.flatMap sp).length ≤ 1268 := by rw [List.length_append]; omega
          have HLEN := Lib.hid hlen
          have hsz3 := hBi.size
          clear hbj hBj h1 h2 hlen hjx
          go_wp2_with fail
          refine (writeByte_any g g _ 46 _ HBJ.out (by have := HLEN.out; omega) (by have := G.out; omega)).mono ?_
          rintro e w4 ⟨rfl, hb4, hB4, hk4⟩
          rw [List.append_assoc, ← HTK.out] at hb4
          have ho4 := own_others hOj.out hk4 (by decide) (own_far hOj.out (Nat.lt_succ_self g))
          have hB4' := hBi.trans hB4
          have HB4 := Lib.hid hb4
          have HO4 := Lib.hid ho4
          clear HBJ hOj hBi hB4 hk4 hb4 ho4
          go_wp2_with fail
          go_roundw
          case rel => exact ⟨k + 1, by omega, by go_num, HB4, HO4, hB4'⟩
          case measure => simp [intOf]; omega
    · have hkn : k = n := by omega
      have hbk := hBk.out
      rw [List.take_of_length_le (by rw [← HN.out]; omega)] at hbk
      have HBK := Lib.hid hbk
      have hsz3 := hBw.size
      clear hbk hBk hkn
      go_wp2_with fail
      refine (Try.Builder_String_any g g (txt L) _ HBK.out (by have := G.out; omega)).mono ?_
      rintro e w4 ⟨rfl, hB4⟩
      go_wp2_with fail
      go_ret
      exact ⟨by rw [R.out]; rfl, by rw [G.out]; exact hBw.trans hB4⟩

theorem nameText_is (s t : ByteArray) (w : World) (hs : s.size ≤ 1000000) (ht : Hid (mk (textN s.data.toList) = t)) :
    Calls Try.prog 24 #[.string s] w fun e w' => e = .returned (.string t) ∧ Below w.heap.size w w' := by
  by_cases hroot : s.data.toList = [0]
  · have hrt := root_eq s
    rw [decide_eq_true hroot] at hrt
    obtain rfl : ⟨#[46]⟩ = t := by
      rw [← ht.out, hroot, textN_of labels_root]
      rfl
    clear hroot ht
    go_enter Try.func24, Try.ntmps24
    go_wp2_with fail
    go_ret
    exact ⟨rfl, Below.refl _ _⟩
  · cases hN : isN s.data.toList with
    | true =>
      obtain ⟨L, hL⟩ := isN_some hN
      have hne : L ≠ [] := fun e => hroot (by rw [e] at hL; exact nil_root hL)
      obtain ⟨hc, _⟩ := lab_small hL
      have := text_many s L w hs (Lib.hid (labL_of hL)) hroot (Lib.hid fun k hk => lab_63 hL hk) (by omega) (Lib.hid (txt_bound hL))
      rw [← ht.out, textN_of hL]
      unfold textL
      rw [if_neg hne]
      exact this
    | false =>
      have := text_many s [] w hs (Lib.hid (labL_no hN)) hroot (Lib.hid fun k hk => absurd hk (Nat.not_lt_zero _)) (Nat.zero_le _) (Lib.hid fun k => by rw [List.take_nil]; exact Nat.zero_le _)
      rw [← ht.out, textN_no hN]
      exact this

set_option maxHeartbeats 4000000 in
set_option maxRecDepth 100000 in
theorem refText_many (s : ByteArray) (L : List (List UInt8)) (w : World) (hs : s.size ≤ 1000000) (hL : Hid (labels s.data.toList = some L)) (hne : L ≠ [])
    (h63 : Hid (∀ k, k < L.length → (L.getD k []).length ≤ 63)) (hn1 : L.length ≤ 1000000) (htx : Hid (∀ k, (txt (L.take k)).length ≤ 1016)) :
    Calls Try.prog 25 #[.string s] w fun e w' => e = .returned (.string (mk (txt L))) ∧ Below w.heap.size w w' := by
  obtain ⟨r, hr⟩ : ∃ r, r = mk (txt L) := ⟨_, rfl⟩
  rw [← hr]
  have R := Lib.hid hr; clear hr
  obtain ⟨n, hn0⟩ : ∃ n, n = L.length := ⟨_, rfl⟩
  have hnz : 0 < n := by rw [hn0]; exact List.length_pos_iff.2 hne
  rw [← hn0] at hn1
  have hnz2 : ((n : Int) == 0) = false := beq_eq_false_iff_ne.2 (by omega)
  have HN := Lib.hid hn0; clear hn0 hne
  generalize hg : w.heap.size = g at *
  have G := Lib.hid hg
  clear hg
  go_enter Try.func25, Try.ntmps25
  go_wp2_with fail
  refine (refLabels_yes s L _ hs hL).mono ?_
  rintro e w2 ⟨v, rfl, hO, hB⟩
  obtain ⟨A, c, rfl, _, hr1, _⟩ := own_rds hO rfl
  have HR := Lib.hid hr1
  rw [G.out] at hB
  rw [← HN.out]
  clear hO hr1
  go_wp2_with fail
  obtain ⟨wo, rfl⟩ : ∃ wo : World, wo = w2 := ⟨_, rfl⟩
  go_loopw [5, 6] (fun v i wr => ∃ (k : Nat) (t : ByteArray), k ≤ n ∧ i = .int .i64 k ∧ v = .string t ∧ t.size ≤ 1016 ∧ Hid (t = mk (txt (L.take k))) ∧ Below wo.heap.size wo wr) (fun _ i _ => n - (intOf i).toNat)
  case atStart => exact ⟨0, ⟨#[]⟩, Nat.zero_le _, rfl, rfl, by decide, Lib.hid rfl, Below.refl _ _⟩
  case round =>
    obtain ⟨k, t, hk, rfl, rfl, ht, hT, hBw⟩ := hrel
    by_cases hlt : k < n
    · have hkl : k < L.length := by rw [← HN.out]; exact hlt
      have hl63 := h63.out k hkl
      have htk := txt_take hkl
      have htb := htx.out (k + 1)
      obtain ⟨l, hl0⟩ : ∃ l, L.getD k [] = l := ⟨_, rfl⟩
      have HL0 := Lib.hid hl0
      obtain ⟨a, rfl, _, _⟩ := (HR.out.on hBw hBw.size).get hkl
      have hcellw : Hid (∀ wi, Below wr.heap.size wr wi → wi.cell? (a.add k) = some (.string (mk l))) := fun wi hb => by
        obtain ⟨a', e, _, hc⟩ := (HR.out.on (hBw.trans (hb.mono hBw.size)) (Nat.le_trans hBw.size hb.size)).get hkl
        injection e with e
        rw [← HL0.out, e]
        exact hc
      have hx63 := mk_size l
      have hmx := mk_list l
      rw [hl0] at hl63 htk
      have hft0 : ∀ j, ((l.take j).flatMap sp).length ≤ 252 := flat_bound hl63
      generalize mk l = x at *
      have HX := Lib.hid hx63
      have HML := Lib.hid hmx
      have HTK := Lib.hid htk
      have HTB := Lib.hid htb
      have hxs : x.size ≤ 63 := by omega
      have HFT0 := Lib.hid hft0
      clear hx63 hmx htk htb hft0 hl63 hkl hl0
      go_wp2_with fail
      obtain ⟨wp, rfl⟩ : ∃ wp : World, wp = wr := ⟨_, rfl⟩
      go_loopw [5, 7] (fun v i wi => ∃ (j : Nat) (q : ByteArray), j ≤ x.size ∧ i = .int .i64 j ∧ v = .string q ∧ q.size ≤ 1268 ∧ Hid (q = mk (txt (L.take k) ++ (l.take j).flatMap sp)) ∧ Below wp.heap.size wp wi) (fun _ i _ => x.size - (intOf i).toNat)
      case atStart => exact ⟨0, t, Nat.zero_le _, rfl, rfl, by omega, Lib.hid (by rw [hT.out, List.take_zero, List.flatMap_nil, List.append_nil]), Below.refl _ _⟩
      case round =>
        obtain ⟨j, q, hj, rfl, rfl, hq, hQ, hBi⟩ := hrel
        have hcell := hcellw.out _ hBi
        by_cases hjlt : j < x.size
        · have hx0 := getD_byte hjlt
          rw [HML.out] at hx0
          have hjl : j < l.length := by rw [← HX.out]; exact hjlt
          have hft := flat_take hjl
          generalize hc0 : l.getD j 0 = y at *
          have hx : x[j]'hjlt = y := hx0.symm
          have h2 := HFT0.out (j + 1)
          have h1 := htx.out k
          have hcat : q ++ mk (sp y) = mk (txt (L.take k) ++ (l.take (j + 1)).flatMap sp) := by rw [hQ.out, mk_cat, hft, List.append_assoc]
          have hqs : (q ++ mk (sp y)).size ≤ 1268 := by rw [hcat, mk_size, List.length_append]; omega
          have HCAT := Lib.hid hcat
          have hsl : (mk (sp y)).size ≤ 4 := by rw [mk_size]; exact (sp_len y).2
          have hS := Lib.hid (fun w => sign_any y w)
          generalize mk (sp y) = z at *
          clear hx0 hc0 hft hcat hjl h1 h2
          go_wp2_with fail
          refine (hS.out _).mono ?_
          rintro e w3 ⟨rfl, hB3⟩
          have hB3' := hBi.trans (hB3.mono hBi.size)
          clear hBi hB3 hcell
          go_wp2_with fail
          go_roundw
          case rel => exact ⟨j + 1, _, by omega, by go_num, rfl, hqs, HCAT, hB3'⟩
          case measure => simp [intOf]; omega
        · have hq2 := hQ.out
          rw [show l.take j = l from List.take_of_length_le (by rw [← HX.out]; omega)] at hq2
          have hcat : q ++ ⟨#[46]⟩ = mk (txt (L.take (k + 1))) := by rw [hq2, HTK.out, ← List.append_assoc, ← mk_cat]; rfl
          have hqs : (q ++ ⟨#[46]⟩).size ≤ 1016 := by rw [hcat, mk_size]; exact HTB.out
          have HCAT := Lib.hid hcat
          have h46 : (⟨#[46]⟩ : ByteArray).size ≤ 1 := Nat.le_refl _
          have hBB := hBw.trans (hBi.mono hBw.size)
          clear hq2 hcat hQ
          go_wp2_with fail
          go_roundw
          case rel => exact ⟨k + 1, _, by omega, by go_num, rfl, hqs, HCAT, hBB⟩
          case measure => simp [intOf]; omega
    · have hE : t = r := by
        rw [hT.out, R.out, List.take_of_length_le (by rw [← HN.out]; omega)]
      subst hE
      clear hT
      go_wp2_with fail
      go_ret
      exact ⟨rfl, hB.trans (hBw.mono (by have := hB.size; have := G.out; omega))⟩
theorem refText_is (s t : ByteArray) (w : World) (hs : s.size ≤ 1000000) (ht : Hid (mk (textN s.data.toList) = t)) :
    Calls Try.prog 25 #[.string s] w fun e w' => e = .returned (.string t) ∧ Below w.heap.size w w' := by
  cases hN : isN s.data.toList with
  | true =>
    obtain ⟨L, hL⟩ := isN_some hN
    by_cases hne : L = []
    · subst hne
      obtain rfl : ⟨#[46]⟩ = t := by rw [← ht.out, textN_of hL]; rfl
      have HL := Lib.hid hL
      clear ht hL hN
      go_enter Try.func25, Try.ntmps25
      go_wp2_with fail
      refine (refLabels_yes s [] _ hs HL).mono ?_
      rintro e w2 ⟨v, rfl, hO, hB⟩
      obtain ⟨A, c, rfl, _, _, _⟩ := own_rds hO rfl
      rw [List.length_nil]
      clear hO
      go_wp2_with fail
      go_ret
      exact ⟨rfl, hB⟩
    · obtain ⟨hc, _⟩ := lab_small hL
      have := refText_many s L w hs (Lib.hid hL) hne (Lib.hid fun k hk => lab_63 hL hk) (by omega) (Lib.hid (txt_bound hL))
      rw [← ht.out, textN_of hL]
      unfold textL
      rw [if_neg hne]
      exact this
  | false =>
    obtain rfl : ⟨#[]⟩ = t := by rw [← ht.out, textN_no hN]; rfl
    have HN := Lib.hid hN
    clear ht hN
    go_enter Try.func25, Try.ntmps25
    go_wp2_with fail
    refine (refLabels_no s _ hs HN).mono ?_
    rintro e w1 ⟨v, rfl, hB⟩
    go_wp2_with fail
    go_ret
    exact ⟨rfl, hB⟩
end Go.Proofs.Ytepbpaaielfpnaa
