/- The contract of the document's Read. For texts of at most 10^5 bytes. -/
import Derived.Test.YtepbpaaielfpnaaProg
import Derived.Test.YtepbpaaielfpnaaBytes
import Derived.Test.YtepbpaaielfpnaaStrs
import Derived.Test.YtepbpaaielfpnaaNameMath
import Derived.Test.YtepbpaaielfpnaaNameText
import Derived.Test.YtepbpaaielfpnaaNameSpell
import Derived.Test.YtepbpaaielfpnaaNameFirst
import Derived.Test.YtepbpaaielfpnaaNameMake
import Derived.Test.YtepbpaaielfpnaaNameRefMake
import Derived.Test.YtepbpaaielfpnaaNameTextOf
import Derived.Test.YtepbpaaielfpnaaNameRead
import Derived.WalkKit
import Derived.Lib.Hide
import Derived.Outline
import Derived.IntWalk
import Derived.WalkSpells
import Derived.WalkLawsBesides
namespace Go.Proofs.Ytepbpaaielfpnaa
open Go.RowKit Bytes Strs NameMath

theorem one_yes (t : ByteArray) (p : Nat) (c : UInt8) (w : World) (hs : t.size ≤ 1000000) (hp : p < t.size) (h : Hid (un (t.data.toList.drop p) = some c)) :
    Calls Try.prog 35 #[.string t, .int .i64 p] w fun e w' => e = .returned (.tuple #[.int .u8 c.toNat, .bool true]) ∧ Below w.heap.size w w' := by
  have := one_any t p w hs hp
  rwa [← oneR_yes h.out] at this
theorem one_no (t : ByteArray) (p : Nat) (w : World) (hs : t.size ≤ 1000000) (hp : p < t.size) (h : Hid (un (t.data.toList.drop p) = none)) :
    Calls Try.prog 35 #[.string t, .int .i64 p] w fun e w' => e = .returned (.tuple #[.int .u8 0, .bool false]) ∧ Below w.heap.size w w' := by
  have := one_any t p w hs hp
  rwa [← oneR_no (fun k _ => by rw [h.out]; intro e; cases e)] at this

set_option maxHeartbeats 4000000 in
set_option maxRecDepth 100000 in
theorem refRead_many (s : ByteArray) (o : Option (List (List UInt8))) (r : ByteArray) (E : Nat) (w : World) (hs : s.size ≤ 100000) (hdot : (s.toList == [46]) = false) (ho : Hid (rd [] [] s.data.toList = o))
    (hno : Hid (o = none → r = ⟨#[]⟩ ∧ E = 4)) (hyes : Hid (∀ L, o = some L → r = mk (makeL L) ∧ E = makeE L)) :
    Calls Try.prog 23 #[.string s] w fun e w' => e = .returned (.tuple #[.string r, .int .i64 E]) ∧ Below w.heap.size w w' := by
  obtain ⟨i9, hi, hz0, hz1, hz2⟩ := info_parts info9
  have KI := Lib.hid hi; clear hi
  have KZ0 := Lib.hid hz0; clear hz0
  have KZ1 := Lib.hid hz1; clear hz1
  have KZ2 := Lib.hid hz2; clear hz2
  generalize hg : w.heap.size = g at *
  have G := Lib.hid hg; clear hg
  go_enter Try.func23, Try.ntmps23
  go_wp2_with fail
  go_loopw [4, 5, 6] (fun v l i wr => ∃ (p n : Nat) (A : List (List UInt8)) (cur : List UInt8) (y : ByteArray), p ≤ s.size ∧ n ≤ p ∧ y.size ≤ p ∧ i = .int .i64 p ∧ l = .string y ∧ Hid (y.data.toList = cur) ∧ Hid (A.length = n) ∧ Hid (wr.ownsRow g 9 1 v n (strCs A)) ∧ Hid (rd A cur (s.data.toList.drop p) = o) ∧ Below g w wr) (fun _ _ i _ => s.size - (intOf i).toNat)
  case atStart => exact ⟨0, 0, [], [], ⟨#[]⟩, Nat.zero_le _, Nat.le_refl _, Nat.le_refl _, rfl, rfl, Lib.hid rfl, Lib.hid rfl, Lib.hid (World.ownsRow_nil _ _ _ _), ho, Below.refl _ _⟩
  case round =>
    obtain ⟨p, n, A, cur, y, hp, hnp, hyp, rfl, rfl, hY, hn, hV, hR, hB⟩ := hrel
    have hys := Lib.size_eq y
    rw [hY.out] at hys
    have hye : y.toList.isEmpty = decide (cur.length = 0) := by
      rw [Lib.toList_data, hY.out]
      cases cur <;> rfl
    have HYS := Lib.hid hys
    clear hys
    by_cases hlt : p < s.size
    · have hdl : (s.data.toList.drop p).length ≠ 0 := by rw [List.length_drop, ← Lib.size_eq]; omega
      have hd0 : (s.data.toList.drop p).getD 0 0 = s.data.toList.getD p 0 := by rw [List.getD_eq_getElem?_getD, List.getElem?_drop, ← List.getD_eq_getElem?_getD]; rfl
      have hx0 := getD_byte hlt
      generalize hx1 : s.data.toList.getD p 0 = x at hx0 hd0
      have hx : s[p]'hlt = x := hx0.symm
      have HD0 := Lib.hid hd0
      have HDL := Lib.hid hdl
      have hlx := x.toNat_lt
      clear hx0 hx1 hd0 hdl
      by_cases h46 : x.toNat = 46
      · have hz : ((x.toNat : Int) == 46) = true := beq_iff_eq.2 (by omega)
        by_cases hm0 : cur.length = 0
        · have hc := rd_void (L := A) HDL.out (by rw [HD0.out]; exact h46) hm0
          have hon : o = none := by rw [← hR.out, hc]
          obtain ⟨rfl, rfl⟩ := hno.out hon
          rw [decide_eq_true hm0] at hye
          clear hc h46 hm0 hon ho hno hyes hR
          go_wp2_with fail
          go_ret2
          exact ⟨rfl, hB⟩
        · rw [decide_eq_false hm0] at hye
          have hR2 : Hid (rd (A ++ [cur]) [] (s.data.toList.drop (p + 1)) = o) := by
            have := (rd_dot (L := A) HDL.out (by rw [HD0.out]; exact h46) hm0).symm.trans hR.out
            rw [List.drop_drop] at this
            exact this
          clear h46 hm0 hR
          go_wp2_with (at_builtin; refine wpList_append_own _ rfl _ _ 22 rfl g 9 i9 (.string ⟨#[]⟩) 1 16 Try.underlying22 KI.out KZ0.out KZ1.out KZ2.out rfl (by decide) _ _ _ rfl (hV.out.alloc _) ⟨wr.heap.size, 0, none⟩ 1 1 [.string y] rfl rfl ?c1 ?c2 ?c3 ?c4 ?c5 ?_)
          case c1 =>
            intro j u hj
            match j, hj with
            | 0, hj => simp at hj; subst hj; simp [Addr.add]
          case c2 => intro u hu; simp at hu; subst hu; rfl
          case c3 => unfold maxLen; omega
          case c4 => omega
          case c5 => have := hB.size; have := G.out; simp; omega
          intro v' w1 hown hgrow _
          have RS := own_str (x := y) hV.out hB G.out hown hgrow
          rw [hY.out] at RS
          have R1 := Lib.hid RS.1
          have R2 := RS.2
          clear RS hown hgrow hV hB
          go_wp2_with fail
          go_roundw
          case rel => exact ⟨p + 1, n + 1, A ++ [cur], [], ⟨#[]⟩, by omega, by omega, Nat.zero_le _, by go_num, rfl, Lib.hid rfl, Lib.hid (by rw [List.length_append, hn.out]; rfl), R1, hR2, R2⟩
          case measure => simp [intOf]; omega
      · have hz : ((x.toNat : Int) == 46) = false := beq_eq_false_iff_ne.2 (by omega)
        obtain ⟨ob, hun⟩ : ∃ ob, un (s.data.toList.drop p) = ob := ⟨_, rfl⟩
        have HUN := Lib.hid hun
        cases ob with
        | none =>
          have hc := rd_bad (L := A) (cur := cur) HDL.out (by rw [HD0.out]; exact h46) hun
          have hon : o = none := by rw [← hR.out, hc]
          obtain ⟨rfl, rfl⟩ := hno.out hon
          clear hc h46 hon ho hno hyes hR hye hun
          go_wp2_with fail
          refine (one_no s p _ (by omega) hlt HUN).mono ?_
          rintro e w3 ⟨rfl, hB3⟩
          go_wp2_with fail
          go_ret2
          exact ⟨rfl, hB.trans (hB3.mono (by have := hB.size; have := G.out; omega))⟩
        | some c =>
          obtain ⟨z, hz4⟩ : ∃ z, (sp c).length = z := ⟨_, rfl⟩
          have hzl := un_len hun
          rw [hz4, List.length_drop, ← Lib.size_eq] at hzl
          have hz1 := (sp_len c).1
          rw [hz4] at hz1
          have hR2 : Hid (rd A (cur ++ [c]) (s.data.toList.drop (p + z)) = o) := by
            have := (rd_byte (L := A) (cur := cur) HDL.out (by rw [HD0.out]; exact h46) hun).symm.trans hR.out
            rw [List.drop_drop, hz4] at this
            exact this
          have hS := Lib.hid (fun w => sign_any c w)
          have hzs : (mk (sp c)).size = z := by rw [mk_size, hz4]
          generalize mk (sp c) = sc at *
          have hzs1 : (sc.size : Int) ≤ (z : Int) := by omega
          have hzs2 : (z : Int) ≤ (sc.size : Int) := by omega
          have HZS := Lib.hid hzs
          clear hun h46 hz4 hye hR hzs
          go_wp2_with fail
          refine (one_yes s p c _ (by omega) hlt HUN).mono ?_
          rintro e w3 ⟨rfl, hB3⟩
          have hV3 := Lib.hid (own_below hV.out hB3)
          have hB4 := hB.trans (hB3.mono (by have := hB.size; have := G.out; omega))
          have hcv := conv_new w3 [c] #[.int .u8 c.toNat] 1 rfl rfl
          have hyc := mk_size [c]
          have hmc := Lib.hid (mk_list [c])
          generalize mk [c] = d at *
          have hdl : d.size ≤ 1 := Nat.le_of_eq hyc
          have hcat : (y ++ d).data.toList = cur ++ [c] := by rw [cat_list, hY.out, hmc.out]
          have hcs : (y ++ d).size ≤ p + z := by rw [ByteArray.size_append]; omega
          have HCAT := Lib.hid hcat
          have hV5 : Hid ((w3.alloc (.cells #[.int .u8 (c.toNat : Int)] 5)).ownsRow g 9 1 u4 n (strCs A)) := Lib.hid (hV3.out.alloc _)
          have hB5 : Below g w (w3.alloc (.cells #[.int .u8 (c.toNat : Int)] 5)) := hB4.alloc (by have := hB4.size; have := G.out; omega) _
          have hs5 := hB5.size
          clear hV hB hB3 hyc hcat hV3 hB4
          go_wp2_with fail
          refine (hS.out _).mono ?_
          rintro e w6 ⟨rfl, hB6⟩
          have hV6 := Lib.hid (own_below hV5.out hB6)
          have hB7 := hB5.trans (hB6.mono (by have := G.out; omega))
          clear hV5 hB5 hB6 hs5 hcv
          have hR3 : Hid (rd A (cur ++ [c]) (s.data.toList.drop (p + sc.size)) = o) := by rw [HZS.out]; exact hR2
          clear hR2
          go_wp2_with fail
          go_roundw
          case rel => exact ⟨p + sc.size, n, A, cur ++ [c], _, by omega, by omega, by omega, by go_num, rfl, HCAT, hn, hV6, hR3, hB7⟩
          case measure => simp [intOf]; omega
    · have hR2 := hR.out
      rw [rd_end (by rw [List.length_drop, ← Lib.size_eq]; omega), hn.out] at hR2
      obtain ⟨av, cv, rfl, _⟩ := own_form hV.out
      by_cases hm0 : cur.length = 0
      · rw [decide_eq_true hm0] at hye
        by_cases hn0 : n = 0
        · rw [if_neg (fun h => h.2 hn0)] at hR2
          obtain ⟨rfl, rfl⟩ := hno.out hR2.symm
          have hn1 : ((n : Int) == 0) = true := beq_iff_eq.2 (by omega)
          clear hn0 hm0 hR2 hR ho hno hyes
          go_wp2_with fail
          go_ret2
          exact ⟨rfl, hB⟩
        · rw [if_pos ⟨hm0, hn0⟩] at hR2
          obtain ⟨rfl, rfl⟩ := hyes.out A hR2.symm
          have hn1 : ((n : Int) == 0) = false := beq_eq_false_iff_ne.2 (by omega)
          have hrd := own_rd hV.out hn.out.symm
          have hM := Lib.hid (refMake_any av cv A wr hrd (by rw [hn.out]; omega))
          rw [hn.out] at hM
          obtain ⟨r', hrr⟩ : ∃ r, mk (makeL A) = r := ⟨_, rfl⟩
          obtain ⟨E', hE⟩ : ∃ E, makeE A = E := ⟨_, rfl⟩
          rw [hrr, hE] at hM
          have HRR := Lib.hid hrr
          have HEE := Lib.hid hE
          clear hn0 hm0 hR2 hR ho hno hyes hrd hrr hE
          go_wp2_with fail
          refine (hM.out).mono ?_
          rintro e w3 ⟨rfl, hB3⟩
          go_wp2_with fail
          go_ret2
          exact ⟨by rw [HRR.out, HEE.out]; rfl, hB.trans (hB3.mono (by have := hB.size; have := G.out; omega))⟩
      · rw [decide_eq_false hm0] at hye
        rw [if_neg (fun h => hm0 h.1)] at hR2
        obtain ⟨rfl, rfl⟩ := hno.out hR2.symm
        clear hm0 hR2 hR ho hno hyes
        go_wp2_with fail
        go_ret2
        exact ⟨rfl, hB⟩

theorem refRead_is (s t : ByteArray) (E : Nat) (w : World) (hs : s.size ≤ 100000) (ht : Hid (mk (readL s.data.toList) = t)) (hE : Hid (readE s.data.toList = E)) :
    Calls Try.prog 23 #[.string s] w fun e w' => e = .returned (.tuple #[.string t, .int .i64 E]) ∧ Below w.heap.size w w' := by
  by_cases hdot : s.data.toList = [46]
  · have hrt := list_eq s [46]
    rw [decide_eq_true hdot] at hrt
    obtain rfl : ⟨#[0]⟩ = t := by rw [← ht.out, hdot]; rfl
    obtain rfl : 0 = E := by rw [← hE.out, hdot]; rfl
    clear hdot ht hE
    go_enter Try.func23, Try.ntmps23
    go_wp2_with fail
    go_ret2
    exact ⟨rfl, Below.refl _ _⟩
  · have hrt := list_eq s [46]
    rw [decide_eq_false hdot] at hrt
    have hr : readO s.data.toList = rd [] [] s.data.toList := by unfold readO; rw [if_neg hdot]
    refine refRead_many s (rd [] [] s.data.toList) t E w hs hrt (Lib.hid rfl) (Lib.hid fun h => ?_) (Lib.hid fun L h => ?_)
    · rw [h] at hr
      exact ⟨by rw [← ht.out, readL_no hr]; rfl, by rw [← hE.out, readE_no hr]⟩
    · rw [h] at hr
      exact ⟨by rw [← ht.out, readL_of hr], by rw [← hE.out, readE_of hr]⟩
end Go.Proofs.Ytepbpaaielfpnaa
