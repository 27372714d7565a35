/- Texts of one proof, one behind the other: NameRefLabels, NumRefPut, RecRefShaped, RecRefPlain, RecRefCheck, RecRefPlainO. -/
import Derived.Test.YtpmmjmnleoicjaaProg
import Derived.Test.YtpmmjmnleoicjaaBytes
import Derived.Test.YtpmmjmnleoicjaaStrs
import Derived.Test.YtpmmjmnleoicjaaNameMath
import Derived.Test.YtpmmjmnleoicjaaNameLbs
import Derived.Test.YtpmmjmnleoicjaaNumBe
import Derived.Test.YtpmmjmnleoicjaaRecAt
import Derived.Test.YtpmmjmnleoicjaaRecShape
import Derived.WalkKit
import Derived.Lib.Hide
import Derived.Outline
import Derived.IntWalk
import Derived.WalkSpells
import Derived.WalkLawsBesides

/- The contracts of the document's Labels and Is of names. For texts of at most 10^6 bytes. -/
namespace Go.Proofs.Ytpmmjmnleoicjaa
open Go.RowKit Bytes Strs NameMath

/-- Labels and whether there are any came back. -/
def RetLab (w : World) (o : Option (List (List UInt8))) (e : Ending) (w' : World) : Prop :=
  ∃ v b, e = .returned (.tuple #[v, .bool b]) ∧ b = o.isSome ∧ (∀ L, o = some L → w'.ownsRow w.heap.size 9 1 v L.length (strCs L)) ∧ Below w.heap.size w w'
def RefRel (l : List UInt8) (A : List (List UInt8)) (k : Nat) : Prop := lbs l = (lbs (l.drop k)).map (A ++ ·)
theorem refRel_end {l : List UInt8} {A : List (List UInt8)} {k : Nat} (h : RefRel l A k) (hk : l.length ≤ k) : lbs l = none := by
  unfold RefRel at h
  rw [lbs_end hk] at h
  exact h
theorem refRel_one {l : List UInt8} {A : List (List UInt8)} {k : Nat} {x : UInt8} (h : RefRel l A k) (hk : k < l.length) (hx : l.getD k 0 = x) (h0 : x.toNat = 0) (he : k + 1 = l.length) : lbs l = some A := by
  unfold RefRel at h
  rw [lbs_at0 hk hx h0, if_pos he] at h
  rw [h, Option.map_some, List.append_nil]
theorem refRel_not {l : List UInt8} {A : List (List UInt8)} {k : Nat} {x : UInt8} (h : RefRel l A k) (hk : k < l.length) (hx : l.getD k 0 = x) (h0 : x.toNat = 0) (he : k + 1 ≠ l.length) : lbs l = none := by
  unfold RefRel at h
  rw [lbs_at0 hk hx h0, if_neg he] at h
  exact h
theorem refRel_bad {l : List UInt8} {A : List (List UInt8)} {k : Nat} {x : UInt8} (h : RefRel l A k) (hk : k < l.length) (hx : l.getD k 0 = x) (h0 : x.toNat ≠ 0) (h1 : 63 < x.toNat ∨ l.length < k + 1 + x.toNat) : lbs l = none := by
  unfold RefRel at h
  rw [lbs_atbad hk hx h0 h1] at h
  exact h
theorem refRel_more {l : List UInt8} {A : List (List UInt8)} {k : Nat} {x : UInt8} (h : RefRel l A k) (hk : k < l.length) (hx : l.getD k 0 = x) (h0 : x.toNat ≠ 0) (h1 : x.toNat ≤ 63) (h2 : k + 1 + x.toNat ≤ l.length) :
    RefRel l (A ++ [(l.drop (k + 1)).take x.toNat]) (k + 1 + x.toNat) := by
  unfold RefRel at h ⊢
  rw [h, lbs_atmore hk hx h0 h1 h2, Option.map_map]
  refine congrArg (fun f => Option.map f (lbs (l.drop (k + 1 + x.toNat)))) ?_
  funext M
  simp
theorem labels_short {l : List UInt8} (h : l.length ≤ 255) : labels l = lbs l := by unfold labels; rw [if_pos h]
theorem labels_long {l : List UInt8} (h : 255 < l.length) : labels l = none := by unfold labels; rw [if_neg (by omega)]

set_option maxHeartbeats 4000000 in
set_option maxRecDepth 100000 in
theorem refLabels_any (s : ByteArray) (w : World) (hs : s.size ≤ 1000000) :
    Calls Try.prog 80 #[.string s] w (RetLab w (labels s.data.toList)) := by
  obtain ⟨o, ho⟩ : ∃ o, labels s.data.toList = o := ⟨_, rfl⟩
  rw [ho]
  have SZ := Lib.hid (Lib.size_eq s)
  by_cases hlong : (255 : Int) < s.size
  · obtain rfl : none = o := by rw [← ho, labels_long (by rw [← SZ.out]; omega)]
    clear ho
    by_cases h0 : (0 : Int) < s.size
    · go_enter Try.func80, Try.ntmps80
      go_wp2_with fail
      go_loopw [4, 5] (fun v i wr => v = .slice none 0 0 ∧ i = .int .i64 0 ∧ wr = w) (fun _ _ _ => 0)
      case atStart => exact ⟨rfl, rfl, rfl⟩
      case round =>
        obtain ⟨rfl, rfl, rfl⟩ := hrel
        go_wp2_with fail
        go_ret2
        exact ⟨_, _, rfl, rfl, fun L h => (by cases h), Below.refl _ _⟩
    · omega
  have hO := Lib.hid (ho.symm.trans (labels_short (by rw [← SZ.out]; omega)))
  clear ho
  obtain ⟨i0, hi, hz0, hz1, hz2⟩ := info_parts info9
  have HI := Lib.hid hi; clear hi
  have HZ0 := Lib.hid hz0; clear hz0
  have HZ1 := Lib.hid hz1; clear hz1
  have HZ2 := Lib.hid hz2; clear hz2
  have h255 : (s.size : Int) ≤ 255 := by omega
  generalize hg : w.heap.size = g at *
  have G := Lib.hid hg; clear hg
  go_enter Try.func80, Try.ntmps80
  go_wp2_with fail
  go_loopw [4, 5] (fun v i wr => ∃ (k : Nat) (A : List (List UInt8)), k ≤ s.size ∧ A.length ≤ k ∧ i = .int .i64 k ∧ Hid (wr.ownsRow g 9 1 v A.length (strCs A)) ∧ Hid (RefRel s.data.toList A k) ∧ Below g w wr) (fun _ i _ => s.size - (intOf i).toNat)
  case atStart => exact ⟨0, [], Nat.zero_le _, Nat.zero_le _, rfl, Lib.hid (World.ownsRow_nil _ _ _ _), Lib.hid (by unfold RefRel; simp), Below.refl _ _⟩
  case round =>
    obtain ⟨k, A, hk, hA, rfl, hW, hR, hB⟩ := hrel
    by_cases hlt : k < s.size
    · have hkl : k < s.data.toList.length := by rw [← SZ.out]; exact hlt
      have hx0 := getD_byte hlt
      generalize hx1 : s.data.toList.getD k 0 = x at hx0
      have hx : s[k]'hlt = x := hx0.symm
      have HX := Lib.hid hx1
      clear hx0 hx1
      have hlx := x.toNat_lt
      by_cases h0 : x.toNat = 0
      · have hz : ((x.toNat : Int) == 0) = true := beq_iff_eq.2 (by omega)
        by_cases he : k + 1 = s.size
        · have hq : ((k : Int) == (s.size : Int) - 1) = true := beq_iff_eq.2 (by omega)
          obtain rfl : o = some A := hO.out.trans (refRel_one hR.out hkl HX.out h0 (by rw [← SZ.out]; exact he))
          clear h0 he hkl hR hO
          go_wp2_with fail
          go_ret2
          exact ⟨_, _, rfl, rfl, fun L h => (by injection h with h; subst h; rw [G.out]; exact hW.out), by rw [G.out]; exact hB⟩
        · have hq : ((k : Int) == (s.size : Int) - 1) = false := beq_eq_false_iff_ne.2 (by omega)
          obtain rfl : o = none := hO.out.trans (refRel_not hR.out hkl HX.out h0 (by rw [← SZ.out]; exact he))
          clear h0 he hkl hR hO
          go_wp2_with fail
          go_ret2
          exact ⟨_, _, rfl, rfl, fun L h => (by cases h), by rw [G.out]; exact hB⟩
      · have hz : ((x.toNat : Int) == 0) = false := beq_eq_false_iff_ne.2 (by omega)
        by_cases hbad : 63 < x.toNat ∨ s.size < k + 1 + x.toNat
        · obtain rfl : o = none := hO.out.trans (refRel_bad hR.out hkl HX.out h0 (by rw [← SZ.out]; exact hbad))
          have hb : (63 : Int) < x.toNat ∨ ((x.toNat : Int) ≤ 63 ∧ (s.size : Int) - 1 - (k : Int) < x.toNat) := by omega
          clear h0 hbad hkl hR hO
          rcases hb with hb | ⟨hb, hb2⟩
          · go_wp2_with fail
            go_ret2
            exact ⟨_, _, rfl, rfl, fun L h => (by cases h), by rw [G.out]; exact hB⟩
          · go_wp2_with fail
            go_ret2
            exact ⟨_, _, rfl, rfl, fun L h => (by cases h), by rw [G.out]; exact hB⟩
        · have hR2 := Lib.hid (refRel_more hR.out hkl HX.out h0 (by omega) (by rw [← SZ.out]; omega))
          have hb : (x.toNat : Int) ≤ 63 := by omega
          have hb2 : (x.toNat : Int) ≤ (s.size : Int) - 1 - (k : Int) := by omega
          have hini : (k : Int) + 1 + (x.toNat : Int) ≤ (s.size : Int) := by omega
          have HP := Lib.hid (piece_list s (k + 1) x.toNat)
          clear h0 hbad hkl hR
          go_wp2_with (at_builtin; refine wpList_append_own _ rfl _ _ 57 rfl g 9 i0 (.string ⟨#[]⟩) 1 16 Try.underlying57 HI.out HZ0.out HZ1.out HZ2.out rfl (by decide) _ _ _ rfl (hW.out.alloc _) ⟨wr.heap.size, 0, none⟩ 1 1 [.string (s.extract (k + 1) (k + 1 + x.toNat))] rfl rfl ?c1 ?c2 ?c3 ?c4 ?c5 ?_)
          case c1 =>
            intro j u hj
            match j, hj with
            | 0, hj => simp at hj; subst hj; simp [Addr.add]
          case c2 => intro u hu; simp at hu; subst hu; rfl
          case c3 => unfold maxLen; omega
          case c4 => omega
          case c5 => have := hB.size; have := G.out; simp; omega
          intro v' w2 hown hgrow _
          have RS := own_str (x := s.extract (k + 1) (k + 1 + x.toNat)) hW.out hB G.out hown hgrow
          rw [HP.out] at RS
          have R1 := Lib.hid RS.1
          have R2 := RS.2
          clear RS hown hgrow hW hB
          go_wp2_with fail
          go_roundw
          case rel => exact ⟨k + 1 + x.toNat, _, by omega, by rw [List.length_append, List.length_singleton]; omega, by go_num, by rw [List.length_append]; exact R1, hR2, R2⟩
          case measure => simp [intOf]; omega
    · obtain rfl : o = none := hO.out.trans (refRel_end hR.out (by rw [← SZ.out]; omega))
      clear hR hO
      go_wp2_with fail
      go_ret2
      exact ⟨_, _, rfl, rfl, fun L h => (by cases h), by rw [G.out]; exact hB⟩

def RetLabYes (w : World) (L : List (List UInt8)) (e : Ending) (w' : World) : Prop :=
  ∃ v, e = .returned (.tuple #[v, .bool true]) ∧ w'.ownsRow w.heap.size 9 1 v L.length (strCs L) ∧ Below w.heap.size w w'
def RetLabNo (w : World) (e : Ending) (w' : World) : Prop := ∃ v, e = .returned (.tuple #[v, .bool false]) ∧ Below w.heap.size w w'
theorem refLabels_yes (s : ByteArray) (L : List (List UInt8)) (w : World) (hs : s.size ≤ 1000000) (hL : Hid (labels s.data.toList = some L)) :
    Calls Try.prog 80 #[.string s] w (RetLabYes w L) := by
  have := refLabels_any s w hs
  rw [hL.out] at this
  exact this.mono fun _ _ ⟨v, b, he, hb, hO, hB⟩ => ⟨v, by rw [he, hb]; rfl, hO L rfl, hB⟩
theorem refLabels_no (s : ByteArray) (w : World) (hs : s.size ≤ 1000000) (hN : Hid (isN s.data.toList = false)) :
    Calls Try.prog 80 #[.string s] w (RetLabNo w) := by
  have := refLabels_any s w hs
  rw [isN_none hN.out] at this
  exact this.mono fun _ _ ⟨v, b, he, hb, hO, hB⟩ => ⟨v, by rw [he, hb]; rfl, hB⟩
def RetLabIs (w : World) (q : Bool) (e : Ending) (w' : World) : Prop := ∃ v, e = .returned (.tuple #[v, .bool q]) ∧ Below w.heap.size w w'
theorem refLabels_is (s : ByteArray) (q : Bool) (w : World) (hs : s.size ≤ 1000000) (hq : Hid (isN s.data.toList = q)) :
    Calls Try.prog 80 #[.string s] w (RetLabIs w q) :=
  (refLabels_any s w hs).mono fun _ _ ⟨v, b, he, hb, _, hB⟩ => ⟨v, by rw [he, hb, ← hq.out]; rfl, hB⟩
set_option maxHeartbeats 1000000 in
set_option maxRecDepth 100000 in
theorem refLabels_long (s : ByteArray) (w : World) (hs : s.size ≤ maxLen) (hl : 255 < s.size) :
    Calls Try.prog 80 #[.string s] w (RetLabIs w false) := by
  unfold maxLen at hs
  have hlong : (255 : Int) < s.size := by omega
  have h0 : (0 : Int) < s.size := by omega
  go_enter Try.func80, Try.ntmps80
  go_wp2_with fail
  go_loopw [4, 5] (fun v i wr => v = .slice none 0 0 ∧ i = .int .i64 0 ∧ wr = w) (fun _ _ _ => 0)
  case atStart => exact ⟨rfl, rfl, rfl⟩
  case round =>
    obtain ⟨rfl, rfl, rfl⟩ := hrel
    go_wp2_with fail
    go_ret2
    exact ⟨_, rfl, Below.refl _ _⟩
theorem refIs_long (s : ByteArray) (w : World) (hs : s.size ≤ maxLen) (hl : 255 < s.size) :
    Calls Try.prog 39 #[.string s] w fun e w' => e = .returned (.bool false) ∧ Below w.heap.size w w' := by
  go_enter Try.func39, Try.ntmps39
  go_wp2_with fail
  refine (refLabels_long s _ hs hl).mono ?_
  rintro e w1 ⟨v, rfl, hB⟩
  go_wp2_with fail
  go_ret
  exact ⟨rfl, hB⟩
theorem refIs_is (s : ByteArray) (q : Bool) (w : World) (hs : s.size ≤ 1000000) (hq : Hid (isN s.data.toList = q)) :
    Calls Try.prog 39 #[.string s] w fun e w' => e = .returned (.bool q) ∧ Below w.heap.size w w' := by
  go_enter Try.func39, Try.ntmps39
  go_wp2_with fail
  refine (refLabels_is s q _ hs hq).mono ?_
  rintro e w1 ⟨v, rfl, hB⟩
  go_wp2_with fail
  go_ret
  exact ⟨rfl, hB⟩
end Go.Proofs.Ytpmmjmnleoicjaa

/- The contract of the document's Put: a text with a number's lowest bytes behind it, big-endian. For texts of at most 10^6 bytes, sizes up to 8. -/
namespace Go.Proofs.Ytpmmjmnleoicjaa
open Go.RowKit Bytes

theorem ofNat_mod (x : Nat) : ((UInt8.ofNat x).toNat : Int) = (x : Int) % 256 := by
  rw [UInt8.toNat_ofNat']
  have e : (2 : Nat) ^ 8 = 256 := rfl
  omega
set_option maxHeartbeats 2000000 in
theorem refPut_is (s r : ByteArray) (n k : Nat) (w : World) (hs : s.size ≤ 1000000) (hk : k ≤ 8) (hn : n ≤ 18446744073709551615) (hr : Hid (s.data.toList ++ beTail n k = r.data.toList)) :
    Calls Try.prog 47 #[.string s, .int .u64 n, .int .i64 k] w fun e w' => e = .returned (.string r) ∧ Below w.heap.size w w' := by
  generalize hg : w.heap.size = g at *
  have G := Lib.hid hg; clear hg
  go_enter Try.func47, Try.ntmps47
  go_wp2_with fail
  go_loopw [7, 8, 1] (fun v i u wr => ∃ (j x : Nat) (t : ByteArray), j ≤ k ∧ i = .int .i64 j ∧ u = .int .u64 x ∧ v = .string t ∧ t.size ≤ 8 ∧ x ≤ n ∧ Hid (t = mk (beTail n j)) ∧ Hid (x = n / 256 ^ j) ∧ Below g w wr) (fun _ i _ _ => k - (intOf i).toNat)
  case atStart => exact ⟨0, n, _, Nat.zero_le _, rfl, rfl, rfl, by decide, Nat.le_refl _, Lib.hid rfl, Lib.hid (by simp), Below.refl _ _⟩
  case round =>
    obtain ⟨j, x, t, hj, rfl, rfl, rfl, ht, hxn, hT, hX, hB⟩ := hrel
    by_cases hlt : j < k
    · have h8 : (j : Int) < 8 := by omega
      have hc2 : (convert 74 9 (.slice (some ⟨wr.heap.size, 0, none⟩) 1 1)).run Try.prog (wr.alloc (.cells #[.int .u8 ((x : Int) % 256)] 5)) = .ok (.string (mk [UInt8.ofNat x])) (wr.alloc (.cells #[.int .u8 ((x : Int) % 256)] 5)) := conv_new wr [UInt8.ofNat x] _ 1 (by rw [← ofNat_mod]; rfl) rfl
      have hq := mk_size [UInt8.ofNat x]
      have hcat : mk [UInt8.ofNat x] ++ t = mk (beTail n (j + 1)) := by rw [hT.out, mk_cat, hX.out]; rfl
      have hX2 : Hid (x / 256 = n / 256 ^ (j + 1)) := by show _ = _; rw [Nat.pow_succ, ← Nat.div_div_eq_div_mul, ← hX.out]
      have hz : (mk [UInt8.ofNat x] ++ t).size ≤ 8 := by rw [hcat, mk_size, beTail_length]; omega
      generalize mk [UInt8.ofNat x] = q at *
      have hq1 : q.size ≤ 1 := Nat.le_of_eq hq
      have HC := Lib.hid hcat
      clear hq hcat hT hX
      go_wp2_with fail
      go_roundw
      case rel => exact ⟨j + 1, x / 256, _, by omega, by go_num, by go_num, rfl, hz, by omega, HC, hX2, hB.alloc (by have := hB.size; have := G.out; omega) _⟩
      case measure => simp [intOf]; omega
    · obtain rfl : j = k := by omega
      have hr2 : r = s ++ t := list_inj (by rw [← hr.out, cat_list, hT.out, mk_list])
      have HR := Lib.hid hr2
      clear hr2 hT hX hr
      go_wp2_with fail
      go_ret
      exact ⟨by rw [HR.out]; rfl, hB⟩
end Go.Proofs.Ytpmmjmnleoicjaa

/- The contract of the document's own look at a record's shape. For records of at most 10^5 texts of at most 10^5 bytes. -/
namespace Go.Proofs.Ytpmmjmnleoicjaa
open Go.RowKit Bytes Strs Nums NameMath RecMath

theorem cntOk_is {R : Rec} {n1 n2 n3 a b c k : Nat} (hk : R.kind = k) (h1 : R.names.length = n1) (h2 : R.nums.length = n2) (h3 : R.texts.length = n3) (ha : shA k = a) (hb : shB k = b) (hc : shC k = c) : cntOk R = decide (n1 = a ∧ n2 = b ∧ ((k = 16 ∧ 0 < n3) ∨ (k ≠ 16 ∧ n3 = c))) := by
  subst hk h1 h2 h3 ha hb hc
  rfl
theorem badNum_6 (n : Nat) : badNum 6 n = false := decide_eq_false (fun h => h.2 rfl)
theorem badNum_not {k : Nat} (hk : k ≠ 6) (n : Nat) : badNum k n = decide (65535 < n) := decide_eq_decide.2 ⟨fun h => h.1, fun h => ⟨h, hk⟩⟩
theorem badText_16 (l : List UInt8) : badText 16 l = decide (255 < l.length) := by simp [badText]
theorem badText_1 (l : List UInt8) : badText 1 l = decide (l.length ≠ 4) := by simp [badText]
theorem badText_28 (l : List UInt8) : badText 28 l = decide (l.length ≠ 16) := by simp [badText]
theorem badText_not {k : Nat} (h16 : k ≠ 16) (h1 : k ≠ 1) (h28 : k ≠ 28) (l : List UInt8) : badText k l = false := by simp [badText, h16, h1, h28]

set_option maxHeartbeats 4000000 in
set_option maxRecDepth 100000 in
theorem refShaped_16 (R : Rec) (x : ByteArray) (k l t : Nat) (A1 : Option Addr) (n1 c1 : Nat) (A2 : Option Addr) (n2 c2 : Nat) (A3 : Option Addr) (n3 c3 : Nat) (q : Bool) (w : World) (hR : Hid (RecAt w w.heap.size R x k l t A1 n1 A2 n2 A3 n3)) (hS : Hid (Small R)) (hk : k = 16) (hq : Hid (shapedB R = q)) :
    Calls Try.prog 92 #[.agg #[.string x, .int .u16 k, .int .u16 l, .int .u32 t, .slice A1 n1 c1, .slice A2 n2 c2, .slice A3 n3 c3]] w fun e w' => e = .returned (.bool q) ∧ Below w.heap.size w w' := by
  subst hk
  obtain ⟨a, ha⟩ : ∃ a, shA 16 = a := ⟨_, rfl⟩
  obtain ⟨b, hb⟩ : ∃ b, shB 16 = b := ⟨_, rfl⟩
  obtain ⟨c, hc⟩ : ∃ c, shC 16 = c := ⟨_, rfl⟩
  have hm1 := hR.out.m1 hS.out
  have hm2 := hR.out.m2 hS.out
  have hm3 := hR.out.m3 hS.out
  have hcn := cntOk_is hR.out.kind hR.out.len1 hR.out.len2 hR.out.len3 ha hb hc
  have hsh : q = (cntOk R && !R.nums.any (badNum 16) && !R.texts.any (badText 16)) := by rw [← hq.out]; unfold shapedB; rw [hR.out.kind]
  rw [hcn] at hsh
  have HSH := Lib.hid hsh
  have HA := Lib.hid ha
  have HB := Lib.hid hb
  have HC := Lib.hid hc
  have HR2 := Lib.hid (hR.out.box (.cells #[.string x, .int .u16 16, .int .u16 l, .int .u32 t, .slice A1 n1 c1, .slice A2 n2 c2, .slice A3 n3 c3] 60))
  have HB0 : Hid (Below w.heap.size w (w.alloc (.cells #[.string x, .int .u16 16, .int .u16 l, .int .u32 t, .slice A1 n1 c1, .slice A2 n2 c2, .slice A3 n3 c3] 60))) := (Below.refl _ _).alloc (Nat.le_refl _) _
  have d1 : (w.alloc (.cells #[.string x, .int .u16 16, .int .u16 l, .int .u32 t, .slice A1 n1 c1, .slice A2 n2 c2, .slice A3 n3 c3] 60)).cell? ⟨w.heap.size, 1, none⟩ = some (.int .u16 16) := by simp
  have d4 : (w.alloc (.cells #[.string x, .int .u16 16, .int .u16 l, .int .u32 t, .slice A1 n1 c1, .slice A2 n2 c2, .slice A3 n3 c3] 60)).cell? ⟨w.heap.size, 4, none⟩ = some (.slice A1 n1 c1) := by simp
  have d5 : (w.alloc (.cells #[.string x, .int .u16 16, .int .u16 l, .int .u32 t, .slice A1 n1 c1, .slice A2 n2 c2, .slice A3 n3 c3] 60)).cell? ⟨w.heap.size, 5, none⟩ = some (.slice A2 n2 c2) := by simp
  have d6 : (w.alloc (.cells #[.string x, .int .u16 16, .int .u16 l, .int .u32 t, .slice A1 n1 c1, .slice A2 n2 c2, .slice A3 n3 c3] 60)).cell? ⟨w.heap.size, 6, none⟩ = some (.slice A3 n3 c3) := by simp
  clear hcn hsh ha hb hc hq hR
  by_cases e1 : n1 = a
  rotate_left
  · have f : ((n1 : Int) != (a : Int)) = true := int_nne e1
    obtain rfl : q = false := by rw [HSH.out, decide_eq_false (by rintro ⟨r1, r2, r3⟩; exact e1 r1), Bool.false_and, Bool.false_and]
    clear e1 HSH
    go_enter Try.func92, Try.ntmps92
    go_wp2_with fail
    refine (refShape_is 16 a b c _ HA HB HC).mono ?_
    rintro e w' ⟨rfl, rfl⟩
    generalize w.alloc (.cells #[.string x, .int .u16 16, .int .u16 l, .int .u32 t, .slice A1 n1 c1, .slice A2 n2 c2, .slice A3 n3 c3] 60) = wb at *
    go_wp2_with fail
    go_ret
    exact ⟨rfl, HB0.out⟩
  have f1 : ((n1 : Int) != (a : Int)) = false := int_neq e1
  by_cases e2 : n2 = b
  rotate_left
  · have f : ((n2 : Int) != (b : Int)) = true := int_nne e2
    obtain rfl : q = false := by rw [HSH.out, decide_eq_false (by rintro ⟨r1, r2, r3⟩; exact e2 r2), Bool.false_and, Bool.false_and]
    clear e1 e2 HSH
    go_enter Try.func92, Try.ntmps92
    go_wp2_with fail
    refine (refShape_is 16 a b c _ HA HB HC).mono ?_
    rintro e w' ⟨rfl, rfl⟩
    generalize w.alloc (.cells #[.string x, .int .u16 16, .int .u16 l, .int .u32 t, .slice A1 n1 c1, .slice A2 n2 c2, .slice A3 n3 c3] 60) = wb at *
    go_wp2_with fail
    go_ret
    exact ⟨rfl, HB0.out⟩
  have f2 : ((n2 : Int) != (b : Int)) = false := int_neq e2
  by_cases e3 : 0 < n3
  rotate_left
  · have f : ((n3 : Int) == 0) = true := int_eq (show n3 = 0 by omega)
    obtain rfl : q = false := by rw [HSH.out, decide_eq_false (by rintro ⟨r1, r2, r3⟩; omega), Bool.false_and, Bool.false_and]
    clear e3 HSH e1 e2
    go_enter Try.func92, Try.ntmps92
    go_wp2_with fail
    refine (refShape_is 16 a b c _ HA HB HC).mono ?_
    rintro e w' ⟨rfl, rfl⟩
    generalize w.alloc (.cells #[.string x, .int .u16 16, .int .u16 l, .int .u32 t, .slice A1 n1 c1, .slice A2 n2 c2, .slice A3 n3 c3] 60) = wb at *
    go_wp2_with fail
    go_ret
    exact ⟨rfl, HB0.out⟩
  have f3 : ((n3 : Int) == 0) = false := int_ne (show n3 ≠ 0 by omega)
  have hcnt : decide (n1 = a ∧ n2 = b ∧ ((16 = 16 ∧ 0 < n3) ∨ (16 ≠ 16 ∧ n3 = c))) = true := decide_eq_true ⟨e1, e2, Or.inl ⟨rfl, e3⟩⟩
  obtain ⟨z1, hz1⟩ : ∃ z, R.nums.any (badNum 16) = z := ⟨_, rfl⟩
  obtain ⟨z2, hz2⟩ : ∃ z, R.texts.any (badText 16) = z := ⟨_, rfl⟩
  have hsh := HSH.out
  rw [hcnt, hz1, hz2, Bool.true_and] at hsh
  have HQ := Lib.hid hsh
  have HZ1 := Lib.hid hz1
  have HZ2 := Lib.hid hz2
  have HL2 := Lib.hid HR2.out.len2
  have HL3 := Lib.hid HR2.out.len3
  have HRD2 := Lib.hid HR2.out.rd2
  have HRD3 := Lib.hid HR2.out.rd3
  clear hsh hz1 hz2 hcnt HSH e1 e2 e3 HR2
  go_enter Try.func92, Try.ntmps92
  go_wp2_with fail
  refine (refShape_is 16 a b c _ HA HB HC).mono ?_
  rintro e w' ⟨rfl, rfl⟩
  generalize w.alloc (.cells #[.string x, .int .u16 16, .int .u16 l, .int .u32 t, .slice A1 n1 c1, .slice A2 n2 c2, .slice A3 n3 c3] 60) = wb at *
  go_wp2_with fail
  go_loop [6] (fun i => ∃ j : Nat, j ≤ n2 ∧ i = .int .i64 j ∧ Hid ((R.nums.drop j).any (badNum 16) = z1)) (fun i => n2 - (intOf i).toNat)
  case atStart => exact ⟨0, Nat.zero_le _, rfl, HZ1⟩
  case round =>
    obtain ⟨j, hj, rfl, hH⟩ := hrel
    by_cases hlt : j < n2
    · have hkl : j < R.nums.length := by rw [HL2.out]; exact hlt
      obtain ⟨ad, rfl, hab, hcell⟩ := HRD2.out.get hkl
      have hd := hH.out
      rw [num_drop hkl, List.any_cons, badNum_not (by decide)] at hd
      generalize R.nums.getD j 0 = y at *
      by_cases hy : (65535 : Int) < y
      · rw [decide_eq_true (by omega), Bool.true_or] at hd
        subst hd
        obtain rfl : q = false := HQ.out
        clear hH hkl HQ
        go_wp2_with fail
        go_ret
        exact ⟨rfl, HB0.out⟩
      · rw [decide_eq_false (by omega), Bool.false_or] at hd
        have HD := Lib.hid hd
        clear hd hH hkl
        go_wp2_with fail
        go_round
        case rel => exact ⟨j + 1, by omega, by go_num, HD⟩
        case measure => simp [intOf]; omega
    · have hz := hH.out
      rw [List.drop_of_length_le (by rw [HL2.out]; omega)] at hz
      have hqz : q = !z2 := by rw [HQ.out, ← hz]; rfl
      have HQ2 := Lib.hid hqz
      clear hz hH hqz HQ
      go_wp2_with fail
      go_loop [7] (fun i => ∃ j : Nat, j ≤ n3 ∧ i = .int .i64 j ∧ Hid ((R.texts.drop j).any (badText 16) = z2)) (fun i => n3 - (intOf i).toNat)
      case atStart => exact ⟨0, Nat.zero_le _, rfl, HZ2⟩
      case round =>
        obtain ⟨m, hm, rfl, hH⟩ := hrel
        by_cases hlt2 : m < n3
        · have hkl : m < R.texts.length := by rw [HL3.out]; exact hlt2
          obtain ⟨ad, rfl, hab, hcell⟩ := HRD3.out.get hkl
          have hd := hH.out
          rw [lab_drop hkl, List.any_cons, badText_16] at hd
          have hsz := mk_size (R.texts.getD m [])
          generalize mk (R.texts.getD m []) = y at *
          rw [← hsz] at hd
          by_cases hy : (255 : Int) < y.size
          · rw [decide_eq_true (by omega), Bool.true_or] at hd
            subst hd
            obtain rfl : q = false := HQ2.out
            clear hH hkl HQ2 hsz
            go_wp2_with fail
            go_ret
            exact ⟨rfl, HB0.out⟩
          · rw [decide_eq_false (by omega), Bool.false_or] at hd
            have HD := Lib.hid hd
            clear hd hH hkl hsz
            go_wp2_with fail
            go_round
            case rel => exact ⟨m + 1, by omega, by go_num, HD⟩
            case measure => simp [intOf]; omega
        · have hz := hH.out
          rw [List.drop_of_length_le (by rw [HL3.out]; omega)] at hz
          obtain rfl : q = true := by rw [HQ2.out, ← hz]; rfl
          clear hz hH HQ2
          go_wp2_with fail
          go_ret
          exact ⟨rfl, HB0.out⟩

set_option maxHeartbeats 4000000 in
set_option maxRecDepth 100000 in
theorem refShaped_1 (R : Rec) (x : ByteArray) (k l t : Nat) (A1 : Option Addr) (n1 c1 : Nat) (A2 : Option Addr) (n2 c2 : Nat) (A3 : Option Addr) (n3 c3 : Nat) (q : Bool) (w : World) (hR : Hid (RecAt w w.heap.size R x k l t A1 n1 A2 n2 A3 n3)) (hS : Hid (Small R)) (hk : k = 1) (hq : Hid (shapedB R = q)) :
    Calls Try.prog 92 #[.agg #[.string x, .int .u16 k, .int .u16 l, .int .u32 t, .slice A1 n1 c1, .slice A2 n2 c2, .slice A3 n3 c3]] w fun e w' => e = .returned (.bool q) ∧ Below w.heap.size w w' := by
  subst hk
  obtain ⟨a, ha⟩ : ∃ a, shA 1 = a := ⟨_, rfl⟩
  obtain ⟨b, hb⟩ : ∃ b, shB 1 = b := ⟨_, rfl⟩
  obtain ⟨c, hc⟩ : ∃ c, shC 1 = c := ⟨_, rfl⟩
  have hm1 := hR.out.m1 hS.out
  have hm2 := hR.out.m2 hS.out
  have hm3 := hR.out.m3 hS.out
  have hcn := cntOk_is hR.out.kind hR.out.len1 hR.out.len2 hR.out.len3 ha hb hc
  have hsh : q = (cntOk R && !R.nums.any (badNum 1) && !R.texts.any (badText 1)) := by rw [← hq.out]; unfold shapedB; rw [hR.out.kind]
  rw [hcn] at hsh
  have HSH := Lib.hid hsh
  have HA := Lib.hid ha
  have HB := Lib.hid hb
  have HC := Lib.hid hc
  have HR2 := Lib.hid (hR.out.box (.cells #[.string x, .int .u16 1, .int .u16 l, .int .u32 t, .slice A1 n1 c1, .slice A2 n2 c2, .slice A3 n3 c3] 60))
  have HB0 : Hid (Below w.heap.size w (w.alloc (.cells #[.string x, .int .u16 1, .int .u16 l, .int .u32 t, .slice A1 n1 c1, .slice A2 n2 c2, .slice A3 n3 c3] 60))) := (Below.refl _ _).alloc (Nat.le_refl _) _
  have d1 : (w.alloc (.cells #[.string x, .int .u16 1, .int .u16 l, .int .u32 t, .slice A1 n1 c1, .slice A2 n2 c2, .slice A3 n3 c3] 60)).cell? ⟨w.heap.size, 1, none⟩ = some (.int .u16 1) := by simp
  have d4 : (w.alloc (.cells #[.string x, .int .u16 1, .int .u16 l, .int .u32 t, .slice A1 n1 c1, .slice A2 n2 c2, .slice A3 n3 c3] 60)).cell? ⟨w.heap.size, 4, none⟩ = some (.slice A1 n1 c1) := by simp
  have d5 : (w.alloc (.cells #[.string x, .int .u16 1, .int .u16 l, .int .u32 t, .slice A1 n1 c1, .slice A2 n2 c2, .slice A3 n3 c3] 60)).cell? ⟨w.heap.size, 5, none⟩ = some (.slice A2 n2 c2) := by simp
  have d6 : (w.alloc (.cells #[.string x, .int .u16 1, .int .u16 l, .int .u32 t, .slice A1 n1 c1, .slice A2 n2 c2, .slice A3 n3 c3] 60)).cell? ⟨w.heap.size, 6, none⟩ = some (.slice A3 n3 c3) := by simp
  clear hcn hsh ha hb hc hq hR
  by_cases e1 : n1 = a
  rotate_left
  · have f : ((n1 : Int) != (a : Int)) = true := int_nne e1
    obtain rfl : q = false := by rw [HSH.out, decide_eq_false (by rintro ⟨r1, r2, r3⟩; exact e1 r1), Bool.false_and, Bool.false_and]
    clear e1 HSH
    go_enter Try.func92, Try.ntmps92
    go_wp2_with fail
    refine (refShape_is 1 a b c _ HA HB HC).mono ?_
    rintro e w' ⟨rfl, rfl⟩
    generalize w.alloc (.cells #[.string x, .int .u16 1, .int .u16 l, .int .u32 t, .slice A1 n1 c1, .slice A2 n2 c2, .slice A3 n3 c3] 60) = wb at *
    go_wp2_with fail
    go_ret
    exact ⟨rfl, HB0.out⟩
  have f1 : ((n1 : Int) != (a : Int)) = false := int_neq e1
  by_cases e2 : n2 = b
  rotate_left
  · have f : ((n2 : Int) != (b : Int)) = true := int_nne e2
    obtain rfl : q = false := by rw [HSH.out, decide_eq_false (by rintro ⟨r1, r2, r3⟩; exact e2 r2), Bool.false_and, Bool.false_and]
    clear e1 e2 HSH
    go_enter Try.func92, Try.ntmps92
    go_wp2_with fail
    refine (refShape_is 1 a b c _ HA HB HC).mono ?_
    rintro e w' ⟨rfl, rfl⟩
    generalize w.alloc (.cells #[.string x, .int .u16 1, .int .u16 l, .int .u32 t, .slice A1 n1 c1, .slice A2 n2 c2, .slice A3 n3 c3] 60) = wb at *
    go_wp2_with fail
    go_ret
    exact ⟨rfl, HB0.out⟩
  have f2 : ((n2 : Int) != (b : Int)) = false := int_neq e2
  by_cases e3 : n3 = c
  rotate_left
  · have f : ((n3 : Int) != (c : Int)) = true := int_nne e3
    obtain rfl : q = false := by rw [HSH.out, decide_eq_false (by rintro ⟨r1, r2, r3⟩; omega), Bool.false_and, Bool.false_and]
    clear e3 HSH e1 e2
    go_enter Try.func92, Try.ntmps92
    go_wp2_with fail
    refine (refShape_is 1 a b c _ HA HB HC).mono ?_
    rintro e w' ⟨rfl, rfl⟩
    generalize w.alloc (.cells #[.string x, .int .u16 1, .int .u16 l, .int .u32 t, .slice A1 n1 c1, .slice A2 n2 c2, .slice A3 n3 c3] 60) = wb at *
    go_wp2_with fail
    go_ret
    exact ⟨rfl, HB0.out⟩
  have f3 : ((n3 : Int) != (c : Int)) = false := int_neq e3
  have hcnt : decide (n1 = a ∧ n2 = b ∧ ((1 = 16 ∧ 0 < n3) ∨ (1 ≠ 16 ∧ n3 = c))) = true := decide_eq_true ⟨e1, e2, Or.inr ⟨by decide, e3⟩⟩
  obtain ⟨z1, hz1⟩ : ∃ z, R.nums.any (badNum 1) = z := ⟨_, rfl⟩
  obtain ⟨z2, hz2⟩ : ∃ z, R.texts.any (badText 1) = z := ⟨_, rfl⟩
  have hsh := HSH.out
  rw [hcnt, hz1, hz2, Bool.true_and] at hsh
  have HQ := Lib.hid hsh
  have HZ1 := Lib.hid hz1
  have HZ2 := Lib.hid hz2
  have HL2 := Lib.hid HR2.out.len2
  have HL3 := Lib.hid HR2.out.len3
  have HRD2 := Lib.hid HR2.out.rd2
  have HRD3 := Lib.hid HR2.out.rd3
  clear hsh hz1 hz2 hcnt HSH e1 e2 e3 HR2
  go_enter Try.func92, Try.ntmps92
  go_wp2_with fail
  refine (refShape_is 1 a b c _ HA HB HC).mono ?_
  rintro e w' ⟨rfl, rfl⟩
  generalize w.alloc (.cells #[.string x, .int .u16 1, .int .u16 l, .int .u32 t, .slice A1 n1 c1, .slice A2 n2 c2, .slice A3 n3 c3] 60) = wb at *
  go_wp2_with fail
  go_loop [6] (fun i => ∃ j : Nat, j ≤ n2 ∧ i = .int .i64 j ∧ Hid ((R.nums.drop j).any (badNum 1) = z1)) (fun i => n2 - (intOf i).toNat)
  case atStart => exact ⟨0, Nat.zero_le _, rfl, HZ1⟩
  case round =>
    obtain ⟨j, hj, rfl, hH⟩ := hrel
    by_cases hlt : j < n2
    · have hkl : j < R.nums.length := by rw [HL2.out]; exact hlt
      obtain ⟨ad, rfl, hab, hcell⟩ := HRD2.out.get hkl
      have hd := hH.out
      rw [num_drop hkl, List.any_cons, badNum_not (by decide)] at hd
      generalize R.nums.getD j 0 = y at *
      by_cases hy : (65535 : Int) < y
      · rw [decide_eq_true (by omega), Bool.true_or] at hd
        subst hd
        obtain rfl : q = false := HQ.out
        clear hH hkl HQ
        go_wp2_with fail
        go_ret
        exact ⟨rfl, HB0.out⟩
      · rw [decide_eq_false (by omega), Bool.false_or] at hd
        have HD := Lib.hid hd
        clear hd hH hkl
        go_wp2_with fail
        go_round
        case rel => exact ⟨j + 1, by omega, by go_num, HD⟩
        case measure => simp [intOf]; omega
    · have hz := hH.out
      rw [List.drop_of_length_le (by rw [HL2.out]; omega)] at hz
      have hqz : q = !z2 := by rw [HQ.out, ← hz]; rfl
      have HQ2 := Lib.hid hqz
      clear hz hH hqz HQ
      go_wp2_with fail
      go_loop [7] (fun i => ∃ j : Nat, j ≤ n3 ∧ i = .int .i64 j ∧ Hid ((R.texts.drop j).any (badText 1) = z2)) (fun i => n3 - (intOf i).toNat)
      case atStart => exact ⟨0, Nat.zero_le _, rfl, HZ2⟩
      case round =>
        obtain ⟨m, hm, rfl, hH⟩ := hrel
        by_cases hlt2 : m < n3
        · have hkl : m < R.texts.length := by rw [HL3.out]; exact hlt2
          obtain ⟨ad, rfl, hab, hcell⟩ := HRD3.out.get hkl
          have hd := hH.out
          rw [lab_drop hkl, List.any_cons, badText_1] at hd
          have hsz := mk_size (R.texts.getD m [])
          generalize mk (R.texts.getD m []) = y at *
          rw [← hsz] at hd
          by_cases hy : y.size = 4
          · rw [decide_eq_false (by omega), Bool.false_or] at hd
            have gy : ((y.size : Int) != 4) = false := int_neq hy
            clear hy
            have HD := Lib.hid hd
            clear hd hH hkl hsz
            go_wp2_with fail
            go_round
            case rel => exact ⟨m + 1, by omega, by go_num, HD⟩
            case measure => simp [intOf]; omega
          · rw [decide_eq_true hy, Bool.true_or] at hd
            have gy : ((y.size : Int) != 4) = true := int_nne hy
            clear hy
            subst hd
            obtain rfl : q = false := HQ2.out
            clear hH hkl HQ2 hsz
            go_wp2_with fail
            go_ret
            exact ⟨rfl, HB0.out⟩
        · have hz := hH.out
          rw [List.drop_of_length_le (by rw [HL3.out]; omega)] at hz
          obtain rfl : q = true := by rw [HQ2.out, ← hz]; rfl
          clear hz hH HQ2
          go_wp2_with fail
          go_ret
          exact ⟨rfl, HB0.out⟩

set_option maxHeartbeats 4000000 in
set_option maxRecDepth 100000 in
theorem refShaped_28 (R : Rec) (x : ByteArray) (k l t : Nat) (A1 : Option Addr) (n1 c1 : Nat) (A2 : Option Addr) (n2 c2 : Nat) (A3 : Option Addr) (n3 c3 : Nat) (q : Bool) (w : World) (hR : Hid (RecAt w w.heap.size R x k l t A1 n1 A2 n2 A3 n3)) (hS : Hid (Small R)) (hk : k = 28) (hq : Hid (shapedB R = q)) :
    Calls Try.prog 92 #[.agg #[.string x, .int .u16 k, .int .u16 l, .int .u32 t, .slice A1 n1 c1, .slice A2 n2 c2, .slice A3 n3 c3]] w fun e w' => e = .returned (.bool q) ∧ Below w.heap.size w w' := by
  subst hk
  obtain ⟨a, ha⟩ : ∃ a, shA 28 = a := ⟨_, rfl⟩
  obtain ⟨b, hb⟩ : ∃ b, shB 28 = b := ⟨_, rfl⟩
  obtain ⟨c, hc⟩ : ∃ c, shC 28 = c := ⟨_, rfl⟩
  have hm1 := hR.out.m1 hS.out
  have hm2 := hR.out.m2 hS.out
  have hm3 := hR.out.m3 hS.out
  have hcn := cntOk_is hR.out.kind hR.out.len1 hR.out.len2 hR.out.len3 ha hb hc
  have hsh : q = (cntOk R && !R.nums.any (badNum 28) && !R.texts.any (badText 28)) := by rw [← hq.out]; unfold shapedB; rw [hR.out.kind]
  rw [hcn] at hsh
  have HSH := Lib.hid hsh
  have HA := Lib.hid ha
  have HB := Lib.hid hb
  have HC := Lib.hid hc
  have HR2 := Lib.hid (hR.out.box (.cells #[.string x, .int .u16 28, .int .u16 l, .int .u32 t, .slice A1 n1 c1, .slice A2 n2 c2, .slice A3 n3 c3] 60))
  have HB0 : Hid (Below w.heap.size w (w.alloc (.cells #[.string x, .int .u16 28, .int .u16 l, .int .u32 t, .slice A1 n1 c1, .slice A2 n2 c2, .slice A3 n3 c3] 60))) := (Below.refl _ _).alloc (Nat.le_refl _) _
  have d1 : (w.alloc (.cells #[.string x, .int .u16 28, .int .u16 l, .int .u32 t, .slice A1 n1 c1, .slice A2 n2 c2, .slice A3 n3 c3] 60)).cell? ⟨w.heap.size, 1, none⟩ = some (.int .u16 28) := by simp
  have d4 : (w.alloc (.cells #[.string x, .int .u16 28, .int .u16 l, .int .u32 t, .slice A1 n1 c1, .slice A2 n2 c2, .slice A3 n3 c3] 60)).cell? ⟨w.heap.size, 4, none⟩ = some (.slice A1 n1 c1) := by simp
  have d5 : (w.alloc (.cells #[.string x, .int .u16 28, .int .u16 l, .int .u32 t, .slice A1 n1 c1, .slice A2 n2 c2, .slice A3 n3 c3] 60)).cell? ⟨w.heap.size, 5, none⟩ = some (.slice A2 n2 c2) := by simp
  have d6 : (w.alloc (.cells #[.string x, .int .u16 28, .int .u16 l, .int .u32 t, .slice A1 n1 c1, .slice A2 n2 c2, .slice A3 n3 c3] 60)).cell? ⟨w.heap.size, 6, none⟩ = some (.slice A3 n3 c3) := by simp
  clear hcn hsh ha hb hc hq hR
  by_cases e1 : n1 = a
  rotate_left
  · have f : ((n1 : Int) != (a : Int)) = true := int_nne e1
    obtain rfl : q = false := by rw [HSH.out, decide_eq_false (by rintro ⟨r1, r2, r3⟩; exact e1 r1), Bool.false_and, Bool.false_and]
    clear e1 HSH
    go_enter Try.func92, Try.ntmps92
    go_wp2_with fail
    refine (refShape_is 28 a b c _ HA HB HC).mono ?_
    rintro e w' ⟨rfl, rfl⟩
    generalize w.alloc (.cells #[.string x, .int .u16 28, .int .u16 l, .int .u32 t, .slice A1 n1 c1, .slice A2 n2 c2, .slice A3 n3 c3] 60) = wb at *
    go_wp2_with fail
    go_ret
    exact ⟨rfl, HB0.out⟩
  have f1 : ((n1 : Int) != (a : Int)) = false := int_neq e1
  by_cases e2 : n2 = b
  rotate_left
  · have f : ((n2 : Int) != (b : Int)) = true := int_nne e2
    obtain rfl : q = false := by rw [HSH.out, decide_eq_false (by rintro ⟨r1, r2, r3⟩; exact e2 r2), Bool.false_and, Bool.false_and]
    clear e1 e2 HSH
    go_enter Try.func92, Try.ntmps92
    go_wp2_with fail
    refine (refShape_is 28 a b c _ HA HB HC).mono ?_
    rintro e w' ⟨rfl, rfl⟩
    generalize w.alloc (.cells #[.string x, .int .u16 28, .int .u16 l, .int .u32 t, .slice A1 n1 c1, .slice A2 n2 c2, .slice A3 n3 c3] 60) = wb at *
    go_wp2_with fail
    go_ret
    exact ⟨rfl, HB0.out⟩
  have f2 : ((n2 : Int) != (b : Int)) = false := int_neq e2
  by_cases e3 : n3 = c
  rotate_left
  · have f : ((n3 : Int) != (c : Int)) = true := int_nne e3
    obtain rfl : q = false := by rw [HSH.out, decide_eq_false (by rintro ⟨r1, r2, r3⟩; omega), Bool.false_and, Bool.false_and]
    clear e3 HSH e1 e2
    go_enter Try.func92, Try.ntmps92
    go_wp2_with fail
    refine (refShape_is 28 a b c _ HA HB HC).mono ?_
    rintro e w' ⟨rfl, rfl⟩
    generalize w.alloc (.cells #[.string x, .int .u16 28, .int .u16 l, .int .u32 t, .slice A1 n1 c1, .slice A2 n2 c2, .slice A3 n3 c3] 60) = wb at *
    go_wp2_with fail
    go_ret
    exact ⟨rfl, HB0.out⟩
  have f3 : ((n3 : Int) != (c : Int)) = false := int_neq e3
  have hcnt : decide (n1 = a ∧ n2 = b ∧ ((28 = 16 ∧ 0 < n3) ∨ (28 ≠ 16 ∧ n3 = c))) = true := decide_eq_true ⟨e1, e2, Or.inr ⟨by decide, e3⟩⟩
  obtain ⟨z1, hz1⟩ : ∃ z, R.nums.any (badNum 28) = z := ⟨_, rfl⟩
  obtain ⟨z2, hz2⟩ : ∃ z, R.texts.any (badText 28) = z := ⟨_, rfl⟩
  have hsh := HSH.out
  rw [hcnt, hz1, hz2, Bool.true_and] at hsh
  have HQ := Lib.hid hsh
  have HZ1 := Lib.hid hz1
  have HZ2 := Lib.hid hz2
  have HL2 := Lib.hid HR2.out.len2
  have HL3 := Lib.hid HR2.out.len3
  have HRD2 := Lib.hid HR2.out.rd2
  have HRD3 := Lib.hid HR2.out.rd3
  clear hsh hz1 hz2 hcnt HSH e1 e2 e3 HR2
  go_enter Try.func92, Try.ntmps92
  go_wp2_with fail
  refine (refShape_is 28 a b c _ HA HB HC).mono ?_
  rintro e w' ⟨rfl, rfl⟩
  generalize w.alloc (.cells #[.string x, .int .u16 28, .int .u16 l, .int .u32 t, .slice A1 n1 c1, .slice A2 n2 c2, .slice A3 n3 c3] 60) = wb at *
  go_wp2_with fail
  go_loop [6] (fun i => ∃ j : Nat, j ≤ n2 ∧ i = .int .i64 j ∧ Hid ((R.nums.drop j).any (badNum 28) = z1)) (fun i => n2 - (intOf i).toNat)
  case atStart => exact ⟨0, Nat.zero_le _, rfl, HZ1⟩
  case round =>
    obtain ⟨j, hj, rfl, hH⟩ := hrel
    by_cases hlt : j < n2
    · have hkl : j < R.nums.length := by rw [HL2.out]; exact hlt
      obtain ⟨ad, rfl, hab, hcell⟩ := HRD2.out.get hkl
      have hd := hH.out
      rw [num_drop hkl, List.any_cons, badNum_not (by decide)] at hd
      generalize R.nums.getD j 0 = y at *
      by_cases hy : (65535 : Int) < y
      · rw [decide_eq_true (by omega), Bool.true_or] at hd
        subst hd
        obtain rfl : q = false := HQ.out
        clear hH hkl HQ
        go_wp2_with fail
        go_ret
        exact ⟨rfl, HB0.out⟩
      · rw [decide_eq_false (by omega), Bool.false_or] at hd
        have HD := Lib.hid hd
        clear hd hH hkl
        go_wp2_with fail
        go_round
        case rel => exact ⟨j + 1, by omega, by go_num, HD⟩
        case measure => simp [intOf]; omega
    · have hz := hH.out
      rw [List.drop_of_length_le (by rw [HL2.out]; omega)] at hz
      have hqz : q = !z2 := by rw [HQ.out, ← hz]; rfl
      have HQ2 := Lib.hid hqz
      clear hz hH hqz HQ
      go_wp2_with fail
      go_loop [7] (fun i => ∃ j : Nat, j ≤ n3 ∧ i = .int .i64 j ∧ Hid ((R.texts.drop j).any (badText 28) = z2)) (fun i => n3 - (intOf i).toNat)
      case atStart => exact ⟨0, Nat.zero_le _, rfl, HZ2⟩
      case round =>
        obtain ⟨m, hm, rfl, hH⟩ := hrel
        by_cases hlt2 : m < n3
        · have hkl : m < R.texts.length := by rw [HL3.out]; exact hlt2
          obtain ⟨ad, rfl, hab, hcell⟩ := HRD3.out.get hkl
          have hd := hH.out
          rw [lab_drop hkl, List.any_cons, badText_28] at hd
          have hsz := mk_size (R.texts.getD m [])
          generalize mk (R.texts.getD m []) = y at *
          rw [← hsz] at hd
          by_cases hy : y.size = 16
          · rw [decide_eq_false (by omega), Bool.false_or] at hd
            have gy : ((y.size : Int) != 16) = false := int_neq hy
            clear hy
            have HD := Lib.hid hd
            clear hd hH hkl hsz
            go_wp2_with fail
            go_round
            case rel => exact ⟨m + 1, by omega, by go_num, HD⟩
            case measure => simp [intOf]; omega
          · rw [decide_eq_true hy, Bool.true_or] at hd
            have gy : ((y.size : Int) != 16) = true := int_nne hy
            clear hy
            subst hd
            obtain rfl : q = false := HQ2.out
            clear hH hkl HQ2 hsz
            go_wp2_with fail
            go_ret
            exact ⟨rfl, HB0.out⟩
        · have hz := hH.out
          rw [List.drop_of_length_le (by rw [HL3.out]; omega)] at hz
          obtain rfl : q = true := by rw [HQ2.out, ← hz]; rfl
          clear hz hH HQ2
          go_wp2_with fail
          go_ret
          exact ⟨rfl, HB0.out⟩

set_option maxHeartbeats 4000000 in
set_option maxRecDepth 100000 in
theorem refShaped_6 (R : Rec) (x : ByteArray) (k l t : Nat) (A1 : Option Addr) (n1 c1 : Nat) (A2 : Option Addr) (n2 c2 : Nat) (A3 : Option Addr) (n3 c3 : Nat) (q : Bool) (w : World) (hR : Hid (RecAt w w.heap.size R x k l t A1 n1 A2 n2 A3 n3)) (hS : Hid (Small R)) (hk : k = 6) (hq : Hid (shapedB R = q)) :
    Calls Try.prog 92 #[.agg #[.string x, .int .u16 k, .int .u16 l, .int .u32 t, .slice A1 n1 c1, .slice A2 n2 c2, .slice A3 n3 c3]] w fun e w' => e = .returned (.bool q) ∧ Below w.heap.size w w' := by
  subst hk
  obtain ⟨a, ha⟩ : ∃ a, shA 6 = a := ⟨_, rfl⟩
  obtain ⟨b, hb⟩ : ∃ b, shB 6 = b := ⟨_, rfl⟩
  obtain ⟨c, hc⟩ : ∃ c, shC 6 = c := ⟨_, rfl⟩
  have hm1 := hR.out.m1 hS.out
  have hm2 := hR.out.m2 hS.out
  have hm3 := hR.out.m3 hS.out
  have hcn := cntOk_is hR.out.kind hR.out.len1 hR.out.len2 hR.out.len3 ha hb hc
  have hsh : q = (cntOk R && !R.nums.any (badNum 6) && !R.texts.any (badText 6)) := by rw [← hq.out]; unfold shapedB; rw [hR.out.kind]
  rw [hcn] at hsh
  have HSH := Lib.hid hsh
  have HA := Lib.hid ha
  have HB := Lib.hid hb
  have HC := Lib.hid hc
  have HR2 := Lib.hid (hR.out.box (.cells #[.string x, .int .u16 6, .int .u16 l, .int .u32 t, .slice A1 n1 c1, .slice A2 n2 c2, .slice A3 n3 c3] 60))
  have HB0 : Hid (Below w.heap.size w (w.alloc (.cells #[.string x, .int .u16 6, .int .u16 l, .int .u32 t, .slice A1 n1 c1, .slice A2 n2 c2, .slice A3 n3 c3] 60))) := (Below.refl _ _).alloc (Nat.le_refl _) _
  have d1 : (w.alloc (.cells #[.string x, .int .u16 6, .int .u16 l, .int .u32 t, .slice A1 n1 c1, .slice A2 n2 c2, .slice A3 n3 c3] 60)).cell? ⟨w.heap.size, 1, none⟩ = some (.int .u16 6) := by simp
  have d4 : (w.alloc (.cells #[.string x, .int .u16 6, .int .u16 l, .int .u32 t, .slice A1 n1 c1, .slice A2 n2 c2, .slice A3 n3 c3] 60)).cell? ⟨w.heap.size, 4, none⟩ = some (.slice A1 n1 c1) := by simp
  have d5 : (w.alloc (.cells #[.string x, .int .u16 6, .int .u16 l, .int .u32 t, .slice A1 n1 c1, .slice A2 n2 c2, .slice A3 n3 c3] 60)).cell? ⟨w.heap.size, 5, none⟩ = some (.slice A2 n2 c2) := by simp
  have d6 : (w.alloc (.cells #[.string x, .int .u16 6, .int .u16 l, .int .u32 t, .slice A1 n1 c1, .slice A2 n2 c2, .slice A3 n3 c3] 60)).cell? ⟨w.heap.size, 6, none⟩ = some (.slice A3 n3 c3) := by simp
  clear hcn hsh ha hb hc hq hR
  by_cases e1 : n1 = a
  rotate_left
  · have f : ((n1 : Int) != (a : Int)) = true := int_nne e1
    obtain rfl : q = false := by rw [HSH.out, decide_eq_false (by rintro ⟨r1, r2, r3⟩; exact e1 r1), Bool.false_and, Bool.false_and]
    clear e1 HSH
    go_enter Try.func92, Try.ntmps92
    go_wp2_with fail
    refine (refShape_is 6 a b c _ HA HB HC).mono ?_
    rintro e w' ⟨rfl, rfl⟩
    generalize w.alloc (.cells #[.string x, .int .u16 6, .int .u16 l, .int .u32 t, .slice A1 n1 c1, .slice A2 n2 c2, .slice A3 n3 c3] 60) = wb at *
    go_wp2_with fail
    go_ret
    exact ⟨rfl, HB0.out⟩
  have f1 : ((n1 : Int) != (a : Int)) = false := int_neq e1
  by_cases e2 : n2 = b
  rotate_left
  · have f : ((n2 : Int) != (b : Int)) = true := int_nne e2
    obtain rfl : q = false := by rw [HSH.out, decide_eq_false (by rintro ⟨r1, r2, r3⟩; exact e2 r2), Bool.false_and, Bool.false_and]
    clear e1 e2 HSH
    go_enter Try.func92, Try.ntmps92
    go_wp2_with fail
    refine (refShape_is 6 a b c _ HA HB HC).mono ?_
    rintro e w' ⟨rfl, rfl⟩
    generalize w.alloc (.cells #[.string x, .int .u16 6, .int .u16 l, .int .u32 t, .slice A1 n1 c1, .slice A2 n2 c2, .slice A3 n3 c3] 60) = wb at *
    go_wp2_with fail
    go_ret
    exact ⟨rfl, HB0.out⟩
  have f2 : ((n2 : Int) != (b : Int)) = false := int_neq e2
  by_cases e3 : n3 = c
  rotate_left
  · have f : ((n3 : Int) != (c : Int)) = true := int_nne e3
    obtain rfl : q = false := by rw [HSH.out, decide_eq_false (by rintro ⟨r1, r2, r3⟩; omega), Bool.false_and, Bool.false_and]
    clear e3 HSH e1 e2
    go_enter Try.func92, Try.ntmps92
    go_wp2_with fail
    refine (refShape_is 6 a b c _ HA HB HC).mono ?_
    rintro e w' ⟨rfl, rfl⟩
    generalize w.alloc (.cells #[.string x, .int .u16 6, .int .u16 l, .int .u32 t, .slice A1 n1 c1, .slice A2 n2 c2, .slice A3 n3 c3] 60) = wb at *
    go_wp2_with fail
    go_ret
    exact ⟨rfl, HB0.out⟩
  have f3 : ((n3 : Int) != (c : Int)) = false := int_neq e3
  have hcnt : decide (n1 = a ∧ n2 = b ∧ ((6 = 16 ∧ 0 < n3) ∨ (6 ≠ 16 ∧ n3 = c))) = true := decide_eq_true ⟨e1, e2, Or.inr ⟨by decide, e3⟩⟩
  obtain ⟨z1, hz1⟩ : ∃ z, R.nums.any (badNum 6) = z := ⟨_, rfl⟩
  obtain ⟨z2, hz2⟩ : ∃ z, R.texts.any (badText 6) = z := ⟨_, rfl⟩
  have hsh := HSH.out
  rw [hcnt, hz1, hz2, Bool.true_and] at hsh
  have HQ := Lib.hid hsh
  have HZ1 := Lib.hid hz1
  have HZ2 := Lib.hid hz2
  have HL2 := Lib.hid HR2.out.len2
  have HL3 := Lib.hid HR2.out.len3
  have HRD2 := Lib.hid HR2.out.rd2
  have HRD3 := Lib.hid HR2.out.rd3
  clear hsh hz1 hz2 hcnt HSH e1 e2 e3 HR2
  go_enter Try.func92, Try.ntmps92
  go_wp2_with fail
  refine (refShape_is 6 a b c _ HA HB HC).mono ?_
  rintro e w' ⟨rfl, rfl⟩
  generalize w.alloc (.cells #[.string x, .int .u16 6, .int .u16 l, .int .u32 t, .slice A1 n1 c1, .slice A2 n2 c2, .slice A3 n3 c3] 60) = wb at *
  go_wp2_with fail
  go_loop [6] (fun i => ∃ j : Nat, j ≤ n2 ∧ i = .int .i64 j ∧ Hid ((R.nums.drop j).any (badNum 6) = z1)) (fun i => n2 - (intOf i).toNat)
  case atStart => exact ⟨0, Nat.zero_le _, rfl, HZ1⟩
  case round =>
    obtain ⟨j, hj, rfl, hH⟩ := hrel
    by_cases hlt : j < n2
    · have hkl : j < R.nums.length := by rw [HL2.out]; exact hlt
      obtain ⟨ad, rfl, hab, hcell⟩ := HRD2.out.get hkl
      have hd := hH.out
      rw [num_drop hkl, List.any_cons, badNum_6, Bool.false_or] at hd
      generalize R.nums.getD j 0 = y at *
      have HD := Lib.hid hd
      clear hd hH hkl
      go_wp2_with fail
      go_round
      case rel => exact ⟨j + 1, by omega, by go_num, HD⟩
      case measure => simp [intOf]; omega
    · have hz := hH.out
      rw [List.drop_of_length_le (by rw [HL2.out]; omega)] at hz
      have hqz : q = !z2 := by rw [HQ.out, ← hz]; rfl
      have HQ2 := Lib.hid hqz
      clear hz hH hqz HQ
      go_wp2_with fail
      go_loop [7] (fun i => ∃ j : Nat, j ≤ n3 ∧ i = .int .i64 j ∧ Hid ((R.texts.drop j).any (badText 6) = z2)) (fun i => n3 - (intOf i).toNat)
      case atStart => exact ⟨0, Nat.zero_le _, rfl, HZ2⟩
      case round =>
        obtain ⟨m, hm, rfl, hH⟩ := hrel
        by_cases hlt2 : m < n3
        · have hkl : m < R.texts.length := by rw [HL3.out]; exact hlt2
          obtain ⟨ad, rfl, hab, hcell⟩ := HRD3.out.get hkl
          have hd := hH.out
          rw [lab_drop hkl, List.any_cons, badText_not (by decide) (by decide) (by decide), Bool.false_or] at hd
          have hsz := mk_size (R.texts.getD m [])
          generalize mk (R.texts.getD m []) = y at *
          have HD := Lib.hid hd
          clear hd hH hkl hsz
          go_wp2_with fail
          go_round
          case rel => exact ⟨m + 1, by omega, by go_num, HD⟩
          case measure => simp [intOf]; omega
        · have hz := hH.out
          rw [List.drop_of_length_le (by rw [HL3.out]; omega)] at hz
          obtain rfl : q = true := by rw [HQ2.out, ← hz]; rfl
          clear hz hH HQ2
          go_wp2_with fail
          go_ret
          exact ⟨rfl, HB0.out⟩

set_option maxHeartbeats 4000000 in
set_option maxRecDepth 100000 in
theorem refShaped_other (R : Rec) (x : ByteArray) (k l t : Nat) (A1 : Option Addr) (n1 c1 : Nat) (A2 : Option Addr) (n2 c2 : Nat) (A3 : Option Addr) (n3 c3 : Nat) (q : Bool) (w : World) (hR : Hid (RecAt w w.heap.size R x k l t A1 n1 A2 n2 A3 n3)) (hS : Hid (Small R)) (h16 : k ≠ 16) (h1 : k ≠ 1) (h28 : k ≠ 28) (h6 : k ≠ 6) (hq : Hid (shapedB R = q)) :
    Calls Try.prog 92 #[.agg #[.string x, .int .u16 k, .int .u16 l, .int .u32 t, .slice A1 n1 c1, .slice A2 n2 c2, .slice A3 n3 c3]] w fun e w' => e = .returned (.bool q) ∧ Below w.heap.size w w' := by
  have g16 : ((k : Int) == 16) = false := int_ne h16
  have g16n : ((k : Int) != 16) = true := int_nne h16
  have g1 : ((k : Int) == 1) = false := int_ne h1
  have g28 : ((k : Int) == 28) = false := int_ne h28
  have g6 : ((k : Int) != 6) = true := int_nne h6
  obtain ⟨a, ha⟩ : ∃ a, shA k = a := ⟨_, rfl⟩
  obtain ⟨b, hb⟩ : ∃ b, shB k = b := ⟨_, rfl⟩
  obtain ⟨c, hc⟩ : ∃ c, shC k = c := ⟨_, rfl⟩
  have hm1 := hR.out.m1 hS.out
  have hm2 := hR.out.m2 hS.out
  have hm3 := hR.out.m3 hS.out
  have hcn := cntOk_is hR.out.kind hR.out.len1 hR.out.len2 hR.out.len3 ha hb hc
  have hsh : q = (cntOk R && !R.nums.any (badNum k) && !R.texts.any (badText k)) := by rw [← hq.out]; unfold shapedB; rw [hR.out.kind]
  rw [hcn] at hsh
  have HSH := Lib.hid hsh
  have HA := Lib.hid ha
  have HB := Lib.hid hb
  have HC := Lib.hid hc
  have HR2 := Lib.hid (hR.out.box (.cells #[.string x, .int .u16 k, .int .u16 l, .int .u32 t, .slice A1 n1 c1, .slice A2 n2 c2, .slice A3 n3 c3] 60))
  have HB0 : Hid (Below w.heap.size w (w.alloc (.cells #[.string x, .int .u16 k, .int .u16 l, .int .u32 t, .slice A1 n1 c1, .slice A2 n2 c2, .slice A3 n3 c3] 60))) := (Below.refl _ _).alloc (Nat.le_refl _) _
  have d1 : (w.alloc (.cells #[.string x, .int .u16 k, .int .u16 l, .int .u32 t, .slice A1 n1 c1, .slice A2 n2 c2, .slice A3 n3 c3] 60)).cell? ⟨w.heap.size, 1, none⟩ = some (.int .u16 k) := by simp
  have d4 : (w.alloc (.cells #[.string x, .int .u16 k, .int .u16 l, .int .u32 t, .slice A1 n1 c1, .slice A2 n2 c2, .slice A3 n3 c3] 60)).cell? ⟨w.heap.size, 4, none⟩ = some (.slice A1 n1 c1) := by simp
  have d5 : (w.alloc (.cells #[.string x, .int .u16 k, .int .u16 l, .int .u32 t, .slice A1 n1 c1, .slice A2 n2 c2, .slice A3 n3 c3] 60)).cell? ⟨w.heap.size, 5, none⟩ = some (.slice A2 n2 c2) := by simp
  have d6 : (w.alloc (.cells #[.string x, .int .u16 k, .int .u16 l, .int .u32 t, .slice A1 n1 c1, .slice A2 n2 c2, .slice A3 n3 c3] 60)).cell? ⟨w.heap.size, 6, none⟩ = some (.slice A3 n3 c3) := by simp
  clear hcn hsh ha hb hc hq hR
  by_cases e1 : n1 = a
  rotate_left
  · have f : ((n1 : Int) != (a : Int)) = true := int_nne e1
    obtain rfl : q = false := by rw [HSH.out, decide_eq_false (by rintro ⟨r1, r2, r3⟩; exact e1 r1), Bool.false_and, Bool.false_and]
    clear e1 HSH
    go_enter Try.func92, Try.ntmps92
    go_wp2_with fail
    refine (refShape_is k a b c _ HA HB HC).mono ?_
    rintro e w' ⟨rfl, rfl⟩
    generalize w.alloc (.cells #[.string x, .int .u16 k, .int .u16 l, .int .u32 t, .slice A1 n1 c1, .slice A2 n2 c2, .slice A3 n3 c3] 60) = wb at *
    go_wp2_with fail
    go_ret
    exact ⟨rfl, HB0.out⟩
  have f1 : ((n1 : Int) != (a : Int)) = false := int_neq e1
  by_cases e2 : n2 = b
  rotate_left
  · have f : ((n2 : Int) != (b : Int)) = true := int_nne e2
    obtain rfl : q = false := by rw [HSH.out, decide_eq_false (by rintro ⟨r1, r2, r3⟩; exact e2 r2), Bool.false_and, Bool.false_and]
    clear e1 e2 HSH
    go_enter Try.func92, Try.ntmps92
    go_wp2_with fail
    refine (refShape_is k a b c _ HA HB HC).mono ?_
    rintro e w' ⟨rfl, rfl⟩
    generalize w.alloc (.cells #[.string x, .int .u16 k, .int .u16 l, .int .u32 t, .slice A1 n1 c1, .slice A2 n2 c2, .slice A3 n3 c3] 60) = wb at *
    go_wp2_with fail
    go_ret
    exact ⟨rfl, HB0.out⟩
  have f2 : ((n2 : Int) != (b : Int)) = false := int_neq e2
  by_cases e3 : n3 = c
  rotate_left
  · have f : ((n3 : Int) != (c : Int)) = true := int_nne e3
    obtain rfl : q = false := by rw [HSH.out, decide_eq_false (by rintro ⟨r1, r2, r3⟩; omega), Bool.false_and, Bool.false_and]
    clear e3 HSH e1 e2
    go_enter Try.func92, Try.ntmps92
    go_wp2_with fail
    refine (refShape_is k a b c _ HA HB HC).mono ?_
    rintro e w' ⟨rfl, rfl⟩
    generalize w.alloc (.cells #[.string x, .int .u16 k, .int .u16 l, .int .u32 t, .slice A1 n1 c1, .slice A2 n2 c2, .slice A3 n3 c3] 60) = wb at *
    go_wp2_with fail
    go_ret
    exact ⟨rfl, HB0.out⟩
  have f3 : ((n3 : Int) != (c : Int)) = false := int_neq e3
  have hcnt : decide (n1 = a ∧ n2 = b ∧ ((k = 16 ∧ 0 < n3) ∨ (k ≠ 16 ∧ n3 = c))) = true := decide_eq_true ⟨e1, e2, Or.inr ⟨h16, e3⟩⟩
  obtain ⟨z1, hz1⟩ : ∃ z, R.nums.any (badNum k) = z := ⟨_, rfl⟩
  obtain ⟨z2, hz2⟩ : ∃ z, R.texts.any (badText k) = z := ⟨_, rfl⟩
  have hsh := HSH.out
  rw [hcnt, hz1, hz2, Bool.true_and] at hsh
  have HQ := Lib.hid hsh
  have HZ1 := Lib.hid hz1
  have HZ2 := Lib.hid hz2
  have HL2 := Lib.hid HR2.out.len2
  have HL3 := Lib.hid HR2.out.len3
  have HRD2 := Lib.hid HR2.out.rd2
  have HRD3 := Lib.hid HR2.out.rd3
  clear hsh hz1 hz2 hcnt HSH e1 e2 e3 HR2
  go_enter Try.func92, Try.ntmps92
  go_wp2_with fail
  refine (refShape_is k a b c _ HA HB HC).mono ?_
  rintro e w' ⟨rfl, rfl⟩
  generalize w.alloc (.cells #[.string x, .int .u16 k, .int .u16 l, .int .u32 t, .slice A1 n1 c1, .slice A2 n2 c2, .slice A3 n3 c3] 60) = wb at *
  go_wp2_with fail
  go_loop [6] (fun i => ∃ j : Nat, j ≤ n2 ∧ i = .int .i64 j ∧ Hid ((R.nums.drop j).any (badNum k) = z1)) (fun i => n2 - (intOf i).toNat)
  case atStart => exact ⟨0, Nat.zero_le _, rfl, HZ1⟩
  case round =>
    obtain ⟨j, hj, rfl, hH⟩ := hrel
    by_cases hlt : j < n2
    · have hkl : j < R.nums.length := by rw [HL2.out]; exact hlt
      obtain ⟨ad, rfl, hab, hcell⟩ := HRD2.out.get hkl
      have hd := hH.out
      rw [num_drop hkl, List.any_cons, badNum_not h6] at hd
      generalize R.nums.getD j 0 = y at *
      by_cases hy : (65535 : Int) < y
      · rw [decide_eq_true (by omega), Bool.true_or] at hd
        subst hd
        obtain rfl : q = false := HQ.out
        clear hH hkl HQ
        go_wp2_with fail
        go_ret
        exact ⟨rfl, HB0.out⟩
      · rw [decide_eq_false (by omega), Bool.false_or] at hd
        have HD := Lib.hid hd
        clear hd hH hkl
        go_wp2_with fail
        go_round
        case rel => exact ⟨j + 1, by omega, by go_num, HD⟩
        case measure => simp [intOf]; omega
    · have hz := hH.out
      rw [List.drop_of_length_le (by rw [HL2.out]; omega)] at hz
      have hqz : q = !z2 := by rw [HQ.out, ← hz]; rfl
      have HQ2 := Lib.hid hqz
      clear hz hH hqz HQ
      go_wp2_with fail
      go_loop [7] (fun i => ∃ j : Nat, j ≤ n3 ∧ i = .int .i64 j ∧ Hid ((R.texts.drop j).any (badText k) = z2)) (fun i => n3 - (intOf i).toNat)
      case atStart => exact ⟨0, Nat.zero_le _, rfl, HZ2⟩
      case round =>
        obtain ⟨m, hm, rfl, hH⟩ := hrel
        by_cases hlt2 : m < n3
        · have hkl : m < R.texts.length := by rw [HL3.out]; exact hlt2
          obtain ⟨ad, rfl, hab, hcell⟩ := HRD3.out.get hkl
          have hd := hH.out
          rw [lab_drop hkl, List.any_cons, badText_not h16 h1 h28, Bool.false_or] at hd
          have hsz := mk_size (R.texts.getD m [])
          generalize mk (R.texts.getD m []) = y at *
          have HD := Lib.hid hd
          clear hd hH hkl hsz
          go_wp2_with fail
          go_round
          case rel => exact ⟨m + 1, by omega, by go_num, HD⟩
          case measure => simp [intOf]; omega
        · have hz := hH.out
          rw [List.drop_of_length_le (by rw [HL3.out]; omega)] at hz
          obtain rfl : q = true := by rw [HQ2.out, ← hz]; rfl
          clear hz hH HQ2
          go_wp2_with fail
          go_ret
          exact ⟨rfl, HB0.out⟩

theorem refShaped_is (R : Rec) (x : ByteArray) (k l t : Nat) (A1 : Option Addr) (n1 c1 : Nat) (A2 : Option Addr) (n2 c2 : Nat) (A3 : Option Addr) (n3 c3 : Nat) (q : Bool) (w : World) (hR : Hid (RecAt w w.heap.size R x k l t A1 n1 A2 n2 A3 n3)) (hS : Hid (Small R)) (hq : Hid (shapedB R = q)) :
    Calls Try.prog 92 #[.agg #[.string x, .int .u16 k, .int .u16 l, .int .u32 t, .slice A1 n1 c1, .slice A2 n2 c2, .slice A3 n3 c3]] w fun e w' => e = .returned (.bool q) ∧ Below w.heap.size w w' := by
  by_cases h16 : k = 16
  · exact refShaped_16 R x k l t A1 n1 c1 A2 n2 c2 A3 n3 c3 q w hR hS h16 hq
  by_cases h1 : k = 1
  · exact refShaped_1 R x k l t A1 n1 c1 A2 n2 c2 A3 n3 c3 q w hR hS h1 hq
  by_cases h28 : k = 28
  · exact refShaped_28 R x k l t A1 n1 c1 A2 n2 c2 A3 n3 c3 q w hR hS h28 hq
  by_cases h6 : k = 6
  · exact refShaped_6 R x k l t A1 n1 c1 A2 n2 c2 A3 n3 c3 q w hR hS h6 hq
  · exact refShaped_other R x k l t A1 n1 c1 A2 n2 c2 A3 n3 c3 q w hR hS h16 h1 h28 h6 hq
end Go.Proofs.Ytpmmjmnleoicjaa

/- The contract of the document's own plain bytes of a record that has its shape. For records of at most 10^5 texts of at most 10^5 bytes. -/
namespace Go.Proofs.Ytpmmjmnleoicjaa
open Go.RowKit Bytes Strs Nums NameMath RecMath

theorem nil_text {p : ByteArray} (h : p.data.toList = []) : p = ⟨#[]⟩ := list_inj h
theorem cat_le {s p : ByteArray} {r : List UInt8} (h : s.data.toList ++ r = p.data.toList) : s.size ≤ p.size := by
  rw [Lib.size_eq, Lib.size_eq, ← h, List.length_append]
  omega

set_option maxHeartbeats 8000000 in
set_option maxRecDepth 100000 in
theorem refPlain_6 (R : Rec) (x : ByteArray) (k l t : Nat) (A1 : Option Addr) (n1 c1 : Nat) (A2 : Option Addr) (n2 c2 : Nat) (A3 : Option Addr) (n3 c3 : Nat) (f : Bool) (p : ByteArray) (w : World) (hR : Hid (RecAt w w.heap.size R x k l t A1 n1 A2 n2 A3 n3)) (hS : Hid (Small R)) (hk : k = 6) (hc : Hid (shapedB R = true)) (hf : Hid (fitsB R = f)) (hp : Hid (p.data.toList = if f = true then plainL R else [])) :
    Calls Try.prog 93 #[.agg #[.string x, .int .u16 k, .int .u16 l, .int .u32 t, .slice A1 n1 c1, .slice A2 n2 c2, .slice A3 n3 c3]] w fun e w' => e = .returned (.tuple #[.string p, .bool f]) ∧ Below w.heap.size w w' := by
  subst hk
  have hm1 := hR.out.m1 hS.out
  have hm2 := hR.out.m2 hS.out
  have hm3 := hR.out.m3 hS.out
  have hkd := hR.out.kind
  have HR2 := Lib.hid (hR.out.box (.cells #[.string x, .int .u16 6, .int .u16 l, .int .u32 t, .slice A1 n1 c1, .slice A2 n2 c2, .slice A3 n3 c3] 60))
  have HB0 : Hid (Below w.heap.size w (w.alloc (.cells #[.string x, .int .u16 6, .int .u16 l, .int .u32 t, .slice A1 n1 c1, .slice A2 n2 c2, .slice A3 n3 c3] 60))) := (Below.refl _ _).alloc (Nat.le_refl _) _
  have d1 : (w.alloc (.cells #[.string x, .int .u16 6, .int .u16 l, .int .u32 t, .slice A1 n1 c1, .slice A2 n2 c2, .slice A3 n3 c3] 60)).cell? ⟨w.heap.size, 1, none⟩ = some (.int .u16 6) := by simp
  have d4 : (w.alloc (.cells #[.string x, .int .u16 6, .int .u16 l, .int .u32 t, .slice A1 n1 c1, .slice A2 n2 c2, .slice A3 n3 c3] 60)).cell? ⟨w.heap.size, 4, none⟩ = some (.slice A1 n1 c1) := by simp
  have d5 : (w.alloc (.cells #[.string x, .int .u16 6, .int .u16 l, .int .u32 t, .slice A1 n1 c1, .slice A2 n2 c2, .slice A3 n3 c3] 60)).cell? ⟨w.heap.size, 5, none⟩ = some (.slice A2 n2 c2) := by simp
  have d6 : (w.alloc (.cells #[.string x, .int .u16 6, .int .u16 l, .int .u32 t, .slice A1 n1 c1, .slice A2 n2 c2, .slice A3 n3 c3] 60)).cell? ⟨w.heap.size, 6, none⟩ = some (.slice A3 n3 c3) := by simp
  have hgl : w.heap.size < (w.alloc (.cells #[.string x, .int .u16 6, .int .u16 l, .int .u32 t, .slice A1 n1 c1, .slice A2 n2 c2, .slice A3 n3 c3] 60)).heap.size := by simp
  have HL1 := Lib.hid HR2.out.len1
  have HL2 := Lib.hid HR2.out.len2
  have HL3 := Lib.hid HR2.out.len3
  have HRD1 := Lib.hid HR2.out.rd1
  have HRD2 := Lib.hid HR2.out.rd2
  have HRD3 := Lib.hid HR2.out.rd3
  have h02 : (0 : Int) < n2 := by
    have h := hc.out
    unfold shapedB at h
    rw [Bool.and_eq_true, Bool.and_eq_true] at h
    have h2 := (cnt_of h.1.1).2.1
    rw [HL2.out, hkd, show shB 6 = 5 from rfl] at h2
    omega
  have hsp := hc.out
  unfold shapedB at hsp
  rw [hkd, Bool.and_eq_true, Bool.and_eq_true] at hsp
  have hcnt := hsp.1.1
  have htx : R.texts.any (badText 6) = false := by simpa using hsp.2
  have HTX := Lib.hid htx
  have hfd : f = decide (bulk 6 R.texts ≤ 65535) := by rw [← hf.out]; unfold fitsB; rw [hkd]
  have HF := Lib.hid hfd
  have hlen : bulk 6 R.texts ≤ 65535 → (plainL R).length ≤ 300000 := fun h => plain_len hcnt (by rw [hkd]; exact h) hS.out.s1
  have HLEN := Lib.hid hlen
  have hpl : plainL R = R.names.flatten ++ (numsL 4 R.nums ++ R.texts.flatMap (textL 6)) := by rw [plainL_6 hkd, hkd]
  have HPL := Lib.hid hpl
  clear hsp hcnt htx hfd hlen hpl hc hf hR HR2 hkd
  go_enter Try.func93, Try.ntmps93
  go_wp2_with fail
  generalize w.alloc (.cells #[.string x, .int .u16 6, .int .u16 l, .int .u32 t, .slice A1 n1 c1, .slice A2 n2 c2, .slice A3 n3 c3] 60) = wb at *
  generalize hgw : w.heap.size = g at *
  have HGW := Lib.hid hgw
  clear hgw
  go_loop [4, 5] (fun u i => ∃ (j n : Nat), j ≤ n3 ∧ i = .int .i64 j ∧ u = .int .i64 n ∧ n ≤ 65535 ∧ Hid (bulk 6 R.texts = n + bulk 6 (R.texts.drop j))) (fun _ i => n3 - (intOf i).toNat)
  case atStart => exact ⟨0, 0, Nat.zero_le _, rfl, rfl, Nat.zero_le _, Lib.hid (by simp)⟩
  case round =>
    obtain ⟨j, n, hj, rfl, rfl, hn, hH⟩ := hrel
    by_cases hlt : j < n3
    · have hkl : j < R.texts.length := by rw [HL3.out]; exact hlt
      obtain ⟨ad, rfl, hab, hcell⟩ := HRD3.out.get hkl
      have hd := hH.out
      rw [bulk_drop 6 hkl, if_neg (by decide)] at hd
      have hsz := mk_size (R.texts.getD j [])
      have hs3 := hS.out.s3 j hkl
      rw [← hsz] at hd hs3
      generalize mk (R.texts.getD j []) = y at *
      by_cases hbig : (65535 : Int) < (n : Int) + (y.size : Int)
      · obtain rfl : f = false := by rw [HF.out, decide_eq_false (by omega)]
        obtain rfl : p = ⟨#[]⟩ := nil_text hp.out
        clear hd hH hkl hsz
        go_wp2_with fail
        go_ret2
        exact ⟨rfl, by have h := HB0.out; rw [← HGW.out] at h; exact h⟩
      · have HD : Hid (bulk 6 R.texts = (n + y.size) + bulk 6 (R.texts.drop (j + 1))) := by show _ = _; omega
        clear hd hH hkl hsz
        go_wp2_with fail
        go_round
        case rel => exact ⟨j + 1, n + y.size, by omega, by go_num, by go_num, by omega, HD⟩
        case measure => simp [intOf]; omega
    · have hd := hH.out
      rw [List.drop_of_length_le (by rw [HL3.out]; omega), bulk_nil, Nat.add_zero] at hd
      obtain rfl : f = true := by rw [HF.out, decide_eq_true (by omega)]
      have hp' : p.data.toList = plainL R := hp.out
      have hpz : p.size ≤ 300000 := by rw [Lib.size_eq, hp']; exact HLEN.out (by omega)
      rw [HPL.out] at hp'
      have HP := Lib.hid hp'
      clear hd hH hp' HF hp
      go_wp2_with fail
      go_loopw [6, 7] (fun u i wr => ∃ s : ByteArray, i = .int .i64 0 ∧ u = .string s ∧ Hid (s.data.toList ++ (R.names.flatten ++ (numsL 4 R.nums ++ R.texts.flatMap (textL 6))) = p.data.toList) ∧ Below wb.heap.size wb wr) (fun _ _ _ => 0)
      case atStart => exact ⟨_, rfl, rfl, Lib.hid HP.out.symm, Below.refl _ _⟩
      case round =>
        obtain ⟨s, rfl, rfl, hH, hB⟩ := hrel
        have q1 : wr.cell? ⟨g, 1, none⟩ = some (.int .u16 6) := (hB.cell (p := ⟨g, 1, none⟩) hgl).trans d1
        have q4 : wr.cell? ⟨g, 4, none⟩ = some (.slice A1 n1 c1) := (hB.cell (p := ⟨g, 4, none⟩) hgl).trans d4
        have q5 : wr.cell? ⟨g, 5, none⟩ = some (.slice A2 n2 c2) := (hB.cell (p := ⟨g, 5, none⟩) hgl).trans d5
        have q6 : wr.cell? ⟨g, 6, none⟩ = some (.slice A3 n3 c3) := (hB.cell (p := ⟨g, 6, none⟩) hgl).trans d6
        have HD := hH
        clear hH
        go_wp2_with fail
        go_loopw [6, 8] (fun u i wr => ∃ (j : Nat) (s : ByteArray), j ≤ n1 ∧ i = .int .i64 j ∧ u = .string s ∧ Hid (s.data.toList ++ ((R.names.drop j).flatten ++ (numsL 4 R.nums ++ R.texts.flatMap (textL 6))) = p.data.toList) ∧ Below wb.heap.size wb wr) (fun _ i _ => n1 - (intOf i).toNat)
        case atStart => exact ⟨0, _, Nat.zero_le _, rfl, rfl, HD, hB⟩
        case round =>
          obtain ⟨j, s, hj, rfl, rfl, hH, hB⟩ := hrel
          have q1 : wr.cell? ⟨g, 1, none⟩ = some (.int .u16 6) := (hB.cell (p := ⟨g, 1, none⟩) hgl).trans d1
          have q4 : wr.cell? ⟨g, 4, none⟩ = some (.slice A1 n1 c1) := (hB.cell (p := ⟨g, 4, none⟩) hgl).trans d4
          have q5 : wr.cell? ⟨g, 5, none⟩ = some (.slice A2 n2 c2) := (hB.cell (p := ⟨g, 5, none⟩) hgl).trans d5
          have q6 : wr.cell? ⟨g, 6, none⟩ = some (.slice A3 n3 c3) := (hB.cell (p := ⟨g, 6, none⟩) hgl).trans d6
          by_cases hlt : j < n1
          · have hkl : j < R.names.length := by rw [HL1.out]; exact hlt
            obtain ⟨ad, rfl, hab, hcell⟩ := (HRD1.out.on hB hB.size).get hkl
            have hd := hH.out
            rw [flat_drop hkl, List.append_assoc, ← List.append_assoc] at hd
            have hs1 := hS.out.s1 j hkl
            have hsz := cat_le hH.out
            have hml := mk_list (R.names.getD j [])
            rw [← mk_size] at hs1
            rw [← hml] at hd
            generalize mk (R.names.getD j []) = y at *
            rw [← cat_list] at hd
            have HD := Lib.hid hd
            have hs6 : s.size ≤ 1000000 := by omega
            clear hd hH hkl hml
            go_wp2_with fail
            go_roundw
            case rel => exact ⟨j + 1, _, by omega, by go_num, rfl, HD, hB⟩
            case measure => simp [intOf]; omega
          · have hd := hH.out
            rw [List.drop_of_length_le (by rw [HL1.out]; omega)] at hd
            have HD : Hid (s.data.toList ++ (numsL 4 R.nums ++ R.texts.flatMap (textL 6)) = p.data.toList) := hd
            clear hd hH
            go_wp2_with fail
            go_loopw [6, 9] (fun u i wr => ∃ (j : Nat) (s : ByteArray), j ≤ n2 ∧ i = .int .i64 j ∧ u = .string s ∧ Hid (s.data.toList ++ (numsL 4 (R.nums.drop j) ++ (R.texts.flatMap (textL 6))) = p.data.toList) ∧ Below wb.heap.size wb wr) (fun _ i _ => n2 - (intOf i).toNat)
            case atStart => exact ⟨0, _, Nat.zero_le _, rfl, rfl, HD, hB⟩
            case round =>
              obtain ⟨j, s, hj, rfl, rfl, hH, hB⟩ := hrel
              have q1 : wr.cell? ⟨g, 1, none⟩ = some (.int .u16 6) := (hB.cell (p := ⟨g, 1, none⟩) hgl).trans d1
              have q4 : wr.cell? ⟨g, 4, none⟩ = some (.slice A1 n1 c1) := (hB.cell (p := ⟨g, 4, none⟩) hgl).trans d4
              have q5 : wr.cell? ⟨g, 5, none⟩ = some (.slice A2 n2 c2) := (hB.cell (p := ⟨g, 5, none⟩) hgl).trans d5
              have q6 : wr.cell? ⟨g, 6, none⟩ = some (.slice A3 n3 c3) := (hB.cell (p := ⟨g, 6, none⟩) hgl).trans d6
              by_cases hlt : j < n2
              · have hkl : j < R.nums.length := by rw [HL2.out]; exact hlt
                obtain ⟨ad, rfl, hab, hcell⟩ := (HRD2.out.on hB hB.size).get hkl
                have hd := hH.out
                rw [numsL_drop 4 hkl, List.append_assoc, ← List.append_assoc] at hd
                have hu := hS.out.u2 j hkl
                have hsz := cat_le hH.out
                generalize R.nums.getD j 0 = y at *
                have hr : s.data.toList ++ beTail y 4 = (mk (s.data.toList ++ beTail y 4)).data.toList := (mk_list _).symm
                rw [hr] at hd
                have HD := Lib.hid hd
                have HRR := Lib.hid hr
                have hs6 : s.size ≤ 1000000 := by omega
                have hy8 : y ≤ 18446744073709551615 := by omega
                clear hd hH hkl hr
                generalize mk (s.data.toList ++ beTail y 4) = r at *
                go_wp2_with fail
                refine (refPut_is s r y 4 _ hs6 (by decide) hy8 HRR).mono ?_
                rintro e w3 ⟨rfl, hB3⟩
                have hBB := hB.trans (hB3.mono hB.size)
                clear hB hB3 q1 q4 q5 q6 hcell
                go_wp2_with fail
                go_roundw
                case rel => exact ⟨j + 1, r, by omega, by go_num, rfl, HD, hBB⟩
                case measure => simp [intOf]; omega
              · have hd := hH.out
                rw [List.drop_of_length_le (by rw [HL2.out]; omega)] at hd
                have HD : Hid (s.data.toList ++ (R.texts.flatMap (textL 6)) = p.data.toList) := hd
                clear hd hH
                go_wp2_with fail
                go_loopw [6, 10] (fun u i wr => ∃ (j : Nat) (s : ByteArray), j ≤ n3 ∧ i = .int .i64 j ∧ u = .string s ∧ Hid (s.data.toList ++ ((R.texts.drop j).flatMap (textL 6)) = p.data.toList) ∧ Below wb.heap.size wb wr) (fun _ i _ => n3 - (intOf i).toNat)
                case atStart => exact ⟨0, _, Nat.zero_le _, rfl, rfl, HD, hB⟩
                case round =>
                  obtain ⟨j, s, hj, rfl, rfl, hH, hB⟩ := hrel
                  have q1 : wr.cell? ⟨g, 1, none⟩ = some (.int .u16 6) := (hB.cell (p := ⟨g, 1, none⟩) hgl).trans d1
                  have q4 : wr.cell? ⟨g, 4, none⟩ = some (.slice A1 n1 c1) := (hB.cell (p := ⟨g, 4, none⟩) hgl).trans d4
                  have q5 : wr.cell? ⟨g, 5, none⟩ = some (.slice A2 n2 c2) := (hB.cell (p := ⟨g, 5, none⟩) hgl).trans d5
                  have q6 : wr.cell? ⟨g, 6, none⟩ = some (.slice A3 n3 c3) := (hB.cell (p := ⟨g, 6, none⟩) hgl).trans d6
                  by_cases hlt : j < n3
                  · have hkl : j < R.texts.length := by rw [HL3.out]; exact hlt
                    obtain ⟨ad, rfl, hab, hcell⟩ := (HRD3.out.on hB hB.size).get hkl
                    have hd := hH.out
                    rw [textL_drop 6 hkl, textL_not (by decide), ← List.append_assoc] at hd
                    have hs1 := hS.out.s3 j hkl
                    have hsz := cat_le hH.out
                    have hml := mk_list (R.texts.getD j [])
                    rw [← mk_size] at hs1
                    rw [← hml] at hd
                    generalize mk (R.texts.getD j []) = y at *
                    rw [← cat_list] at hd
                    have HD := Lib.hid hd
                    have hs6 : s.size ≤ 1000000 := by omega
                    clear hd hH hkl hml
                    go_wp2_with fail
                    go_roundw
                    case rel => exact ⟨j + 1, _, by omega, by go_num, rfl, HD, hB⟩
                    case measure => simp [intOf]; omega
                  · have hd := hH.out
                    rw [List.drop_of_length_le (by rw [HL3.out]; omega), List.flatMap_nil, List.append_nil] at hd
                    have HE := Lib.hid (list_inj hd)
                    clear hd hH
                    go_wp2_with fail
                    go_ret2
                    exact ⟨by rw [HE.out]; rfl, by have h := HB0.out; rw [← HGW.out] at h; exact h.trans (hB.mono h.size)⟩

set_option maxHeartbeats 8000000 in
set_option maxRecDepth 100000 in
theorem refPlain_16 (R : Rec) (x : ByteArray) (k l t : Nat) (A1 : Option Addr) (n1 c1 : Nat) (A2 : Option Addr) (n2 c2 : Nat) (A3 : Option Addr) (n3 c3 : Nat) (f : Bool) (p : ByteArray) (w : World) (hR : Hid (RecAt w w.heap.size R x k l t A1 n1 A2 n2 A3 n3)) (hS : Hid (Small R)) (hk : k = 16) (hc : Hid (shapedB R = true)) (hf : Hid (fitsB R = f)) (hp : Hid (p.data.toList = if f = true then plainL R else [])) :
    Calls Try.prog 93 #[.agg #[.string x, .int .u16 k, .int .u16 l, .int .u32 t, .slice A1 n1 c1, .slice A2 n2 c2, .slice A3 n3 c3]] w fun e w' => e = .returned (.tuple #[.string p, .bool f]) ∧ Below w.heap.size w w' := by
  subst hk
  have hm1 := hR.out.m1 hS.out
  have hm2 := hR.out.m2 hS.out
  have hm3 := hR.out.m3 hS.out
  have hkd := hR.out.kind
  have HR2 := Lib.hid (hR.out.box (.cells #[.string x, .int .u16 16, .int .u16 l, .int .u32 t, .slice A1 n1 c1, .slice A2 n2 c2, .slice A3 n3 c3] 60))
  have HB0 : Hid (Below w.heap.size w (w.alloc (.cells #[.string x, .int .u16 16, .int .u16 l, .int .u32 t, .slice A1 n1 c1, .slice A2 n2 c2, .slice A3 n3 c3] 60))) := (Below.refl _ _).alloc (Nat.le_refl _) _
  have d1 : (w.alloc (.cells #[.string x, .int .u16 16, .int .u16 l, .int .u32 t, .slice A1 n1 c1, .slice A2 n2 c2, .slice A3 n3 c3] 60)).cell? ⟨w.heap.size, 1, none⟩ = some (.int .u16 16) := by simp
  have d4 : (w.alloc (.cells #[.string x, .int .u16 16, .int .u16 l, .int .u32 t, .slice A1 n1 c1, .slice A2 n2 c2, .slice A3 n3 c3] 60)).cell? ⟨w.heap.size, 4, none⟩ = some (.slice A1 n1 c1) := by simp
  have d5 : (w.alloc (.cells #[.string x, .int .u16 16, .int .u16 l, .int .u32 t, .slice A1 n1 c1, .slice A2 n2 c2, .slice A3 n3 c3] 60)).cell? ⟨w.heap.size, 5, none⟩ = some (.slice A2 n2 c2) := by simp
  have d6 : (w.alloc (.cells #[.string x, .int .u16 16, .int .u16 l, .int .u32 t, .slice A1 n1 c1, .slice A2 n2 c2, .slice A3 n3 c3] 60)).cell? ⟨w.heap.size, 6, none⟩ = some (.slice A3 n3 c3) := by simp
  have hgl : w.heap.size < (w.alloc (.cells #[.string x, .int .u16 16, .int .u16 l, .int .u32 t, .slice A1 n1 c1, .slice A2 n2 c2, .slice A3 n3 c3] 60)).heap.size := by simp
  have HL1 := Lib.hid HR2.out.len1
  have HL2 := Lib.hid HR2.out.len2
  have HL3 := Lib.hid HR2.out.len3
  have HRD1 := Lib.hid HR2.out.rd1
  have HRD2 := Lib.hid HR2.out.rd2
  have HRD3 := Lib.hid HR2.out.rd3
  have hsp := hc.out
  unfold shapedB at hsp
  rw [hkd, Bool.and_eq_true, Bool.and_eq_true] at hsp
  have hcnt := hsp.1.1
  have htx : R.texts.any (badText 16) = false := by simpa using hsp.2
  have HTX := Lib.hid htx
  have hfd : f = decide (bulk 16 R.texts ≤ 65535) := by rw [← hf.out]; unfold fitsB; rw [hkd]
  have HF := Lib.hid hfd
  have hlen : bulk 16 R.texts ≤ 65535 → (plainL R).length ≤ 300000 := fun h => plain_len hcnt (by rw [hkd]; exact h) hS.out.s1
  have HLEN := Lib.hid hlen
  have hpl : plainL R = numsL 2 R.nums ++ (R.names.flatten ++ R.texts.flatMap (textL 16)) := by rw [plainL_not (by rw [hkd]; decide), hkd]
  have HPL := Lib.hid hpl
  clear hsp hcnt htx hfd hlen hpl hc hf hR HR2 hkd
  go_enter Try.func93, Try.ntmps93
  go_wp2_with fail
  generalize w.alloc (.cells #[.string x, .int .u16 16, .int .u16 l, .int .u32 t, .slice A1 n1 c1, .slice A2 n2 c2, .slice A3 n3 c3] 60) = wb at *
  generalize hgw : w.heap.size = g at *
  have HGW := Lib.hid hgw
  clear hgw
  go_loop [4, 5] (fun u i => ∃ (j n : Nat), j ≤ n3 ∧ i = .int .i64 j ∧ u = .int .i64 n ∧ n ≤ 65535 ∧ Hid (bulk 16 R.texts = n + bulk 16 (R.texts.drop j))) (fun _ i => n3 - (intOf i).toNat)
  case atStart => exact ⟨0, 0, Nat.zero_le _, rfl, rfl, Nat.zero_le _, Lib.hid (by simp)⟩
  case round =>
    obtain ⟨j, n, hj, rfl, rfl, hn, hH⟩ := hrel
    by_cases hlt : j < n3
    · have hkl : j < R.texts.length := by rw [HL3.out]; exact hlt
      obtain ⟨ad, rfl, hab, hcell⟩ := HRD3.out.get hkl
      have hd := hH.out
      rw [bulk_drop 16 hkl, if_pos rfl] at hd
      have hsz := mk_size (R.texts.getD j [])
      have hs3 := hS.out.s3 j hkl
      rw [← hsz] at hd hs3
      generalize mk (R.texts.getD j []) = y at *
      by_cases hbig : (65535 : Int) < (n : Int) + (y.size : Int) + 1
      · obtain rfl : f = false := by rw [HF.out, decide_eq_false (by omega)]
        obtain rfl : p = ⟨#[]⟩ := nil_text hp.out
        clear hd hH hkl hsz
        go_wp2_with fail
        go_ret2
        exact ⟨rfl, by have h := HB0.out; rw [← HGW.out] at h; exact h⟩
      · have HD : Hid (bulk 16 R.texts = (n + y.size + 1) + bulk 16 (R.texts.drop (j + 1))) := by show _ = _; omega
        clear hd hH hkl hsz
        go_wp2_with fail
        go_round
        case rel => exact ⟨j + 1, n + y.size + 1, by omega, by go_num, by go_num, by omega, HD⟩
        case measure => simp [intOf]; omega
    · have hd := hH.out
      rw [List.drop_of_length_le (by rw [HL3.out]; omega), bulk_nil, Nat.add_zero] at hd
      obtain rfl : f = true := by rw [HF.out, decide_eq_true (by omega)]
      have hp' : p.data.toList = plainL R := hp.out
      have hpz : p.size ≤ 300000 := by rw [Lib.size_eq, hp']; exact HLEN.out (by omega)
      rw [HPL.out] at hp'
      have HP := Lib.hid hp'
      clear hd hH hp' HF hp
      go_wp2_with fail
      go_loopw [6, 7] (fun u i wr => ∃ (j : Nat) (s : ByteArray), j ≤ n2 ∧ i = .int .i64 j ∧ u = .string s ∧ Hid (s.data.toList ++ (numsL 2 (R.nums.drop j) ++ (R.names.flatten ++ R.texts.flatMap (textL 16))) = p.data.toList) ∧ Below wb.heap.size wb wr) (fun _ i _ => n2 - (intOf i).toNat)
      case atStart => exact ⟨0, _, Nat.zero_le _, rfl, rfl, Lib.hid HP.out.symm, Below.refl _ _⟩
      case round =>
        obtain ⟨j, s, hj, rfl, rfl, hH, hB⟩ := hrel
        have q1 : wr.cell? ⟨g, 1, none⟩ = some (.int .u16 16) := (hB.cell (p := ⟨g, 1, none⟩) hgl).trans d1
        have q4 : wr.cell? ⟨g, 4, none⟩ = some (.slice A1 n1 c1) := (hB.cell (p := ⟨g, 4, none⟩) hgl).trans d4
        have q5 : wr.cell? ⟨g, 5, none⟩ = some (.slice A2 n2 c2) := (hB.cell (p := ⟨g, 5, none⟩) hgl).trans d5
        have q6 : wr.cell? ⟨g, 6, none⟩ = some (.slice A3 n3 c3) := (hB.cell (p := ⟨g, 6, none⟩) hgl).trans d6
        by_cases hlt : j < n2
        · have hkl : j < R.nums.length := by rw [HL2.out]; exact hlt
          obtain ⟨ad, rfl, hab, hcell⟩ := (HRD2.out.on hB hB.size).get hkl
          have hd := hH.out
          rw [numsL_drop 2 hkl, List.append_assoc, ← List.append_assoc] at hd
          have hu := hS.out.u2 j hkl
          have hsz := cat_le hH.out
          generalize R.nums.getD j 0 = y at *
          have hr : s.data.toList ++ beTail y 2 = (mk (s.data.toList ++ beTail y 2)).data.toList := (mk_list _).symm
          rw [hr] at hd
          have HD := Lib.hid hd
          have HRR := Lib.hid hr
          have hs6 : s.size ≤ 1000000 := by omega
          have hy8 : y ≤ 18446744073709551615 := by omega
          clear hd hH hkl hr
          generalize mk (s.data.toList ++ beTail y 2) = r at *
          go_wp2_with fail
          refine (refPut_is s r y 2 _ hs6 (by decide) hy8 HRR).mono ?_
          rintro e w3 ⟨rfl, hB3⟩
          have hBB := hB.trans (hB3.mono hB.size)
          clear hB hB3 q1 q4 q5 q6 hcell
          go_wp2_with fail
          go_roundw
          case rel => exact ⟨j + 1, r, by omega, by go_num, rfl, HD, hBB⟩
          case measure => simp [intOf]; omega
        · have hd := hH.out
          rw [List.drop_of_length_le (by rw [HL2.out]; omega)] at hd
          have HD : Hid (s.data.toList ++ (R.names.flatten ++ R.texts.flatMap (textL 16)) = p.data.toList) := hd
          clear hd hH
          go_wp2_with fail
          go_loopw [6, 8] (fun u i wr => ∃ (j : Nat) (s : ByteArray), j ≤ n1 ∧ i = .int .i64 j ∧ u = .string s ∧ Hid (s.data.toList ++ ((R.names.drop j).flatten ++ (R.texts.flatMap (textL 16))) = p.data.toList) ∧ Below wb.heap.size wb wr) (fun _ i _ => n1 - (intOf i).toNat)
          case atStart => exact ⟨0, _, Nat.zero_le _, rfl, rfl, HD, hB⟩
          case round =>
            obtain ⟨j, s, hj, rfl, rfl, hH, hB⟩ := hrel
            have q1 : wr.cell? ⟨g, 1, none⟩ = some (.int .u16 16) := (hB.cell (p := ⟨g, 1, none⟩) hgl).trans d1
            have q4 : wr.cell? ⟨g, 4, none⟩ = some (.slice A1 n1 c1) := (hB.cell (p := ⟨g, 4, none⟩) hgl).trans d4
            have q5 : wr.cell? ⟨g, 5, none⟩ = some (.slice A2 n2 c2) := (hB.cell (p := ⟨g, 5, none⟩) hgl).trans d5
            have q6 : wr.cell? ⟨g, 6, none⟩ = some (.slice A3 n3 c3) := (hB.cell (p := ⟨g, 6, none⟩) hgl).trans d6
            by_cases hlt : j < n1
            · have hkl : j < R.names.length := by rw [HL1.out]; exact hlt
              obtain ⟨ad, rfl, hab, hcell⟩ := (HRD1.out.on hB hB.size).get hkl
              have hd := hH.out
              rw [flat_drop hkl, List.append_assoc, ← List.append_assoc] at hd
              have hs1 := hS.out.s1 j hkl
              have hsz := cat_le hH.out
              have hml := mk_list (R.names.getD j [])
              rw [← mk_size] at hs1
              rw [← hml] at hd
              generalize mk (R.names.getD j []) = y at *
              rw [← cat_list] at hd
              have HD := Lib.hid hd
              have hs6 : s.size ≤ 1000000 := by omega
              clear hd hH hkl hml
              go_wp2_with fail
              go_roundw
              case rel => exact ⟨j + 1, _, by omega, by go_num, rfl, HD, hB⟩
              case measure => simp [intOf]; omega
            · have hd := hH.out
              rw [List.drop_of_length_le (by rw [HL1.out]; omega)] at hd
              have HD : Hid (s.data.toList ++ (R.texts.flatMap (textL 16)) = p.data.toList) := hd
              clear hd hH
              go_wp2_with fail
              go_loopw [6, 9] (fun u i wr => ∃ s : ByteArray, i = .int .i64 0 ∧ u = .string s ∧ Hid (s.data.toList ++ (R.texts.flatMap (textL 16)) = p.data.toList) ∧ Below wb.heap.size wb wr) (fun _ _ _ => 0)
              case atStart => exact ⟨_, rfl, rfl, HD, hB⟩
              case round =>
                obtain ⟨s, rfl, rfl, hH, hB⟩ := hrel
                have q1 : wr.cell? ⟨g, 1, none⟩ = some (.int .u16 16) := (hB.cell (p := ⟨g, 1, none⟩) hgl).trans d1
                have q4 : wr.cell? ⟨g, 4, none⟩ = some (.slice A1 n1 c1) := (hB.cell (p := ⟨g, 4, none⟩) hgl).trans d4
                have q5 : wr.cell? ⟨g, 5, none⟩ = some (.slice A2 n2 c2) := (hB.cell (p := ⟨g, 5, none⟩) hgl).trans d5
                have q6 : wr.cell? ⟨g, 6, none⟩ = some (.slice A3 n3 c3) := (hB.cell (p := ⟨g, 6, none⟩) hgl).trans d6
                have HD := hH
                clear hH
                have hz : (0 : Int) < n2 ∨ (n2 : Int) ≤ 0 := by omega
                rcases hz with hz | hz
                all_goals
                  go_wp2_with fail
                  go_loopw [6, 10] (fun u i wr => ∃ (j : Nat) (s : ByteArray), j ≤ n3 ∧ i = .int .i64 j ∧ u = .string s ∧ Hid (s.data.toList ++ ((R.texts.drop j).flatMap (textL 16)) = p.data.toList) ∧ Below wb.heap.size wb wr) (fun _ i _ => n3 - (intOf i).toNat)
                  case atStart => exact ⟨0, _, Nat.zero_le _, rfl, rfl, HD, hB⟩
                  case round =>
                    obtain ⟨j, s, hj, rfl, rfl, hH, hB⟩ := hrel
                    have q1 : wr.cell? ⟨g, 1, none⟩ = some (.int .u16 16) := (hB.cell (p := ⟨g, 1, none⟩) hgl).trans d1
                    have q4 : wr.cell? ⟨g, 4, none⟩ = some (.slice A1 n1 c1) := (hB.cell (p := ⟨g, 4, none⟩) hgl).trans d4
                    have q5 : wr.cell? ⟨g, 5, none⟩ = some (.slice A2 n2 c2) := (hB.cell (p := ⟨g, 5, none⟩) hgl).trans d5
                    have q6 : wr.cell? ⟨g, 6, none⟩ = some (.slice A3 n3 c3) := (hB.cell (p := ⟨g, 6, none⟩) hgl).trans d6
                    by_cases hlt : j < n3
                    · have hkl : j < R.texts.length := by rw [HL3.out]; exact hlt
                      obtain ⟨ad, rfl, hab, hcell0⟩ := (HRD3.out.on hB hB.size).get hkl
                      have hd := hH.out
                      rw [textL_drop 16 hkl, textL_16] at hd
                      have hs1 := any_short HTX.out j hkl
                      have hsz := cat_le hH.out
                      have hml := mk_list (R.texts.getD j [])
                      have hlq := mk_size (R.texts.getD j [])
                      have hof := ofNat_mod (R.texts.getD j []).length
                      have hd2 : (s ++ mk [UInt8.ofNat (R.texts.getD j []).length] ++ mk (R.texts.getD j [])).data.toList ++ (R.texts.drop (j + 1)).flatMap (textL 16) = p.data.toList := by
                        rw [cat_list, cat_list, mk_list, mk_list, ← hd]
                        simp
                      have hc2 : (convert 74 9 (.slice (some ⟨wr.heap.size, 0, none⟩) 1 1)).run Try.prog (wr.alloc (.cells #[.int .u8 ((mk (R.texts.getD j [])).size : Int)] 5)) = .ok (.string (mk [UInt8.ofNat (R.texts.getD j []).length])) (wr.alloc (.cells #[.int .u8 ((mk (R.texts.getD j [])).size : Int)] 5)) := conv_new wr [UInt8.ofNat (R.texts.getD j []).length] _ 1 (by
                        rw [hlq, byteCells_one, hof]
                        refine congrArg (fun z => [Value.int .u8 z]) ?_
                        omega) rfl
                      have hq1 : (mk [UInt8.ofNat (R.texts.getD j []).length]).size ≤ 1 := Nat.le_of_eq (mk_size _)
                      have hlt2 : ad.block < wr.heap.size := hab
                      have hcell2 : (wr.alloc (.cells #[.int .u8 ((mk (R.texts.getD j [])).size : Int)] 5)).cell? (ad.add j) = some (.string (mk (R.texts.getD j []))) := (World.cell?_alloc_lt _ _ _ (by rw [add_block]; exact hlt2)).trans hcell0
                      have hgr : g < wr.heap.size := Nat.lt_of_lt_of_le hgl hB.size
                      have q6a : (wr.alloc (.cells #[.int .u8 ((mk (R.texts.getD j [])).size : Int)] 5)).cell? ⟨g, 6, none⟩ = some (.slice (some ad) n3 c3) := (World.cell?_alloc_lt _ _ _ hgr).trans q6
                      have hcell := hcell0
                      have hy255 : (mk (R.texts.getD j [])).size ≤ 255 := by rw [hlq]; exact hs1
                      have hwl := hB.size
                      generalize UInt8.ofNat (R.texts.getD j []).length = c at *
                      generalize mk [c] = q at *
                      generalize mk (R.texts.getD j []) = y at *
                      have HD := Lib.hid hd2
                      have hs6 : s.size ≤ 1000000 := by omega
                      have hs7 : (s ++ q).size ≤ 1000001 := by rw [ByteArray.size_append]; omega
                      have hBB := Lib.hid (hB.alloc hwl (.cells #[.int .u8 (y.size : Int)] 5))
                      clear hd hd2 hH hkl hml hlq hof hcell0 hs1
                      go_wp2_with fail
                      go_roundw
                      case rel => exact ⟨j + 1, _, by omega, by go_num, rfl, HD, hBB.out⟩
                      case measure => simp [intOf]; omega
                    · have hd := hH.out
                      rw [List.drop_of_length_le (by rw [HL3.out]; omega), List.flatMap_nil, List.append_nil] at hd
                      have HE := Lib.hid (list_inj hd)
                      clear hd hH
                      go_wp2_with fail
                      go_ret2
                      exact ⟨by rw [HE.out]; rfl, by have h := HB0.out; rw [← HGW.out] at h; exact h.trans (hB.mono h.size)⟩

set_option maxHeartbeats 8000000 in
set_option maxRecDepth 100000 in
theorem refPlain_other (R : Rec) (x : ByteArray) (k l t : Nat) (A1 : Option Addr) (n1 c1 : Nat) (A2 : Option Addr) (n2 c2 : Nat) (A3 : Option Addr) (n3 c3 : Nat) (f : Bool) (p : ByteArray) (w : World) (hR : Hid (RecAt w w.heap.size R x k l t A1 n1 A2 n2 A3 n3)) (hS : Hid (Small R)) (h16 : k ≠ 16) (h6 : k ≠ 6) (hc : Hid (shapedB R = true)) (hf : Hid (fitsB R = f)) (hp : Hid (p.data.toList = if f = true then plainL R else [])) :
    Calls Try.prog 93 #[.agg #[.string x, .int .u16 k, .int .u16 l, .int .u32 t, .slice A1 n1 c1, .slice A2 n2 c2, .slice A3 n3 c3]] w fun e w' => e = .returned (.tuple #[.string p, .bool f]) ∧ Below w.heap.size w w' := by
  have g16 : ((k : Int) == 16) = false := int_ne h16
  have g6 : ((k : Int) != 6) = true := int_nne h6
  have g6e : ((k : Int) == 6) = false := int_ne h6
  have hm1 := hR.out.m1 hS.out
  have hm2 := hR.out.m2 hS.out
  have hm3 := hR.out.m3 hS.out
  have hkd := hR.out.kind
  have HR2 := Lib.hid (hR.out.box (.cells #[.string x, .int .u16 k, .int .u16 l, .int .u32 t, .slice A1 n1 c1, .slice A2 n2 c2, .slice A3 n3 c3] 60))
  have HB0 : Hid (Below w.heap.size w (w.alloc (.cells #[.string x, .int .u16 k, .int .u16 l, .int .u32 t, .slice A1 n1 c1, .slice A2 n2 c2, .slice A3 n3 c3] 60))) := (Below.refl _ _).alloc (Nat.le_refl _) _
  have d1 : (w.alloc (.cells #[.string x, .int .u16 k, .int .u16 l, .int .u32 t, .slice A1 n1 c1, .slice A2 n2 c2, .slice A3 n3 c3] 60)).cell? ⟨w.heap.size, 1, none⟩ = some (.int .u16 k) := by simp
  have d4 : (w.alloc (.cells #[.string x, .int .u16 k, .int .u16 l, .int .u32 t, .slice A1 n1 c1, .slice A2 n2 c2, .slice A3 n3 c3] 60)).cell? ⟨w.heap.size, 4, none⟩ = some (.slice A1 n1 c1) := by simp
  have d5 : (w.alloc (.cells #[.string x, .int .u16 k, .int .u16 l, .int .u32 t, .slice A1 n1 c1, .slice A2 n2 c2, .slice A3 n3 c3] 60)).cell? ⟨w.heap.size, 5, none⟩ = some (.slice A2 n2 c2) := by simp
  have d6 : (w.alloc (.cells #[.string x, .int .u16 k, .int .u16 l, .int .u32 t, .slice A1 n1 c1, .slice A2 n2 c2, .slice A3 n3 c3] 60)).cell? ⟨w.heap.size, 6, none⟩ = some (.slice A3 n3 c3) := by simp
  have hgl : w.heap.size < (w.alloc (.cells #[.string x, .int .u16 k, .int .u16 l, .int .u32 t, .slice A1 n1 c1, .slice A2 n2 c2, .slice A3 n3 c3] 60)).heap.size := by simp
  have HL1 := Lib.hid HR2.out.len1
  have HL2 := Lib.hid HR2.out.len2
  have HL3 := Lib.hid HR2.out.len3
  have HRD1 := Lib.hid HR2.out.rd1
  have HRD2 := Lib.hid HR2.out.rd2
  have HRD3 := Lib.hid HR2.out.rd3
  have hsp := hc.out
  unfold shapedB at hsp
  rw [hkd, Bool.and_eq_true, Bool.and_eq_true] at hsp
  have hcnt := hsp.1.1
  have htx : R.texts.any (badText k) = false := by simpa using hsp.2
  have HTX := Lib.hid htx
  have hfd : f = decide (bulk k R.texts ≤ 65535) := by rw [← hf.out]; unfold fitsB; rw [hkd]
  have HF := Lib.hid hfd
  have hlen : bulk k R.texts ≤ 65535 → (plainL R).length ≤ 300000 := fun h => plain_len hcnt (by rw [hkd]; exact h) hS.out.s1
  have HLEN := Lib.hid hlen
  have hpl : plainL R = numsL 2 R.nums ++ (R.names.flatten ++ R.texts.flatMap (textL k)) := by rw [plainL_not (by rw [hkd]; exact h6), hkd]
  have HPL := Lib.hid hpl
  clear hsp hcnt htx hfd hlen hpl hc hf hR HR2 hkd
  go_enter Try.func93, Try.ntmps93
  go_wp2_with fail
  generalize w.alloc (.cells #[.string x, .int .u16 k, .int .u16 l, .int .u32 t, .slice A1 n1 c1, .slice A2 n2 c2, .slice A3 n3 c3] 60) = wb at *
  generalize hgw : w.heap.size = g at *
  have HGW := Lib.hid hgw
  clear hgw
  go_loop [4, 5] (fun u i => ∃ (j n : Nat), j ≤ n3 ∧ i = .int .i64 j ∧ u = .int .i64 n ∧ n ≤ 65535 ∧ Hid (bulk k R.texts = n + bulk k (R.texts.drop j))) (fun _ i => n3 - (intOf i).toNat)
  case atStart => exact ⟨0, 0, Nat.zero_le _, rfl, rfl, Nat.zero_le _, Lib.hid (by simp)⟩
  case round =>
    obtain ⟨j, n, hj, rfl, rfl, hn, hH⟩ := hrel
    by_cases hlt : j < n3
    · have hkl : j < R.texts.length := by rw [HL3.out]; exact hlt
      obtain ⟨ad, rfl, hab, hcell⟩ := HRD3.out.get hkl
      have hd := hH.out
      rw [bulk_drop k hkl, if_neg h16] at hd
      have hsz := mk_size (R.texts.getD j [])
      have hs3 := hS.out.s3 j hkl
      rw [← hsz] at hd hs3
      generalize mk (R.texts.getD j []) = y at *
      by_cases hbig : (65535 : Int) < (n : Int) + (y.size : Int)
      · obtain rfl : f = false := by rw [HF.out, decide_eq_false (by omega)]
        obtain rfl : p = ⟨#[]⟩ := nil_text hp.out
        clear hd hH hkl hsz
        go_wp2_with fail
        go_ret2
        exact ⟨rfl, by have h := HB0.out; rw [← HGW.out] at h; exact h⟩
      · have HD : Hid (bulk k R.texts = (n + y.size) + bulk k (R.texts.drop (j + 1))) := by show _ = _; omega
        clear hd hH hkl hsz
        go_wp2_with fail
        go_round
        case rel => exact ⟨j + 1, n + y.size, by omega, by go_num, by go_num, by omega, HD⟩
        case measure => simp [intOf]; omega
    · have hd := hH.out
      rw [List.drop_of_length_le (by rw [HL3.out]; omega), bulk_nil, Nat.add_zero] at hd
      obtain rfl : f = true := by rw [HF.out, decide_eq_true (by omega)]
      have hp' : p.data.toList = plainL R := hp.out
      have hpz : p.size ≤ 300000 := by rw [Lib.size_eq, hp']; exact HLEN.out (by omega)
      rw [HPL.out] at hp'
      have HP := Lib.hid hp'
      clear hd hH hp' HF hp
      go_wp2_with fail
      go_loopw [6, 7] (fun u i wr => ∃ (j : Nat) (s : ByteArray), j ≤ n2 ∧ i = .int .i64 j ∧ u = .string s ∧ Hid (s.data.toList ++ (numsL 2 (R.nums.drop j) ++ (R.names.flatten ++ R.texts.flatMap (textL k))) = p.data.toList) ∧ Below wb.heap.size wb wr) (fun _ i _ => n2 - (intOf i).toNat)
      case atStart => exact ⟨0, _, Nat.zero_le _, rfl, rfl, Lib.hid HP.out.symm, Below.refl _ _⟩
      case round =>
        obtain ⟨j, s, hj, rfl, rfl, hH, hB⟩ := hrel
        have q1 : wr.cell? ⟨g, 1, none⟩ = some (.int .u16 k) := (hB.cell (p := ⟨g, 1, none⟩) hgl).trans d1
        have q4 : wr.cell? ⟨g, 4, none⟩ = some (.slice A1 n1 c1) := (hB.cell (p := ⟨g, 4, none⟩) hgl).trans d4
        have q5 : wr.cell? ⟨g, 5, none⟩ = some (.slice A2 n2 c2) := (hB.cell (p := ⟨g, 5, none⟩) hgl).trans d5
        have q6 : wr.cell? ⟨g, 6, none⟩ = some (.slice A3 n3 c3) := (hB.cell (p := ⟨g, 6, none⟩) hgl).trans d6
        by_cases hlt : j < n2
        · have hkl : j < R.nums.length := by rw [HL2.out]; exact hlt
          obtain ⟨ad, rfl, hab, hcell⟩ := (HRD2.out.on hB hB.size).get hkl
          have hd := hH.out
          rw [numsL_drop 2 hkl, List.append_assoc, ← List.append_assoc] at hd
          have hu := hS.out.u2 j hkl
          have hsz := cat_le hH.out
          generalize R.nums.getD j 0 = y at *
          have hr : s.data.toList ++ beTail y 2 = (mk (s.data.toList ++ beTail y 2)).data.toList := (mk_list _).symm
          rw [hr] at hd
          have HD := Lib.hid hd
          have HRR := Lib.hid hr
          have hs6 : s.size ≤ 1000000 := by omega
          have hy8 : y ≤ 18446744073709551615 := by omega
          clear hd hH hkl hr
          generalize mk (s.data.toList ++ beTail y 2) = r at *
          go_wp2_with fail
          refine (refPut_is s r y 2 _ hs6 (by decide) hy8 HRR).mono ?_
          rintro e w3 ⟨rfl, hB3⟩
          have hBB := hB.trans (hB3.mono hB.size)
          clear hB hB3 q1 q4 q5 q6 hcell
          go_wp2_with fail
          go_roundw
          case rel => exact ⟨j + 1, r, by omega, by go_num, rfl, HD, hBB⟩
          case measure => simp [intOf]; omega
        · have hd := hH.out
          rw [List.drop_of_length_le (by rw [HL2.out]; omega)] at hd
          have HD : Hid (s.data.toList ++ (R.names.flatten ++ R.texts.flatMap (textL k)) = p.data.toList) := hd
          clear hd hH
          go_wp2_with fail
          go_loopw [6, 8] (fun u i wr => ∃ (j : Nat) (s : ByteArray), j ≤ n1 ∧ i = .int .i64 j ∧ u = .string s ∧ Hid (s.data.toList ++ ((R.names.drop j).flatten ++ (R.texts.flatMap (textL k))) = p.data.toList) ∧ Below wb.heap.size wb wr) (fun _ i _ => n1 - (intOf i).toNat)
          case atStart => exact ⟨0, _, Nat.zero_le _, rfl, rfl, HD, hB⟩
          case round =>
            obtain ⟨j, s, hj, rfl, rfl, hH, hB⟩ := hrel
            have q1 : wr.cell? ⟨g, 1, none⟩ = some (.int .u16 k) := (hB.cell (p := ⟨g, 1, none⟩) hgl).trans d1
            have q4 : wr.cell? ⟨g, 4, none⟩ = some (.slice A1 n1 c1) := (hB.cell (p := ⟨g, 4, none⟩) hgl).trans d4
            have q5 : wr.cell? ⟨g, 5, none⟩ = some (.slice A2 n2 c2) := (hB.cell (p := ⟨g, 5, none⟩) hgl).trans d5
            have q6 : wr.cell? ⟨g, 6, none⟩ = some (.slice A3 n3 c3) := (hB.cell (p := ⟨g, 6, none⟩) hgl).trans d6
            by_cases hlt : j < n1
            · have hkl : j < R.names.length := by rw [HL1.out]; exact hlt
              obtain ⟨ad, rfl, hab, hcell⟩ := (HRD1.out.on hB hB.size).get hkl
              have hd := hH.out
              rw [flat_drop hkl, List.append_assoc, ← List.append_assoc] at hd
              have hs1 := hS.out.s1 j hkl
              have hsz := cat_le hH.out
              have hml := mk_list (R.names.getD j [])
              rw [← mk_size] at hs1
              rw [← hml] at hd
              generalize mk (R.names.getD j []) = y at *
              rw [← cat_list] at hd
              have HD := Lib.hid hd
              have hs6 : s.size ≤ 1000000 := by omega
              clear hd hH hkl hml
              go_wp2_with fail
              go_roundw
              case rel => exact ⟨j + 1, _, by omega, by go_num, rfl, HD, hB⟩
              case measure => simp [intOf]; omega
            · have hd := hH.out
              rw [List.drop_of_length_le (by rw [HL1.out]; omega)] at hd
              have HD : Hid (s.data.toList ++ (R.texts.flatMap (textL k)) = p.data.toList) := hd
              clear hd hH
              go_wp2_with fail
              go_loopw [6, 9] (fun u i wr => ∃ s : ByteArray, i = .int .i64 0 ∧ u = .string s ∧ Hid (s.data.toList ++ (R.texts.flatMap (textL k)) = p.data.toList) ∧ Below wb.heap.size wb wr) (fun _ _ _ => 0)
              case atStart => exact ⟨_, rfl, rfl, HD, hB⟩
              case round =>
                obtain ⟨s, rfl, rfl, hH, hB⟩ := hrel
                have q1 : wr.cell? ⟨g, 1, none⟩ = some (.int .u16 k) := (hB.cell (p := ⟨g, 1, none⟩) hgl).trans d1
                have q4 : wr.cell? ⟨g, 4, none⟩ = some (.slice A1 n1 c1) := (hB.cell (p := ⟨g, 4, none⟩) hgl).trans d4
                have q5 : wr.cell? ⟨g, 5, none⟩ = some (.slice A2 n2 c2) := (hB.cell (p := ⟨g, 5, none⟩) hgl).trans d5
                have q6 : wr.cell? ⟨g, 6, none⟩ = some (.slice A3 n3 c3) := (hB.cell (p := ⟨g, 6, none⟩) hgl).trans d6
                have HD := hH
                clear hH
                have hz : (0 : Int) < n2 ∨ (n2 : Int) ≤ 0 := by omega
                rcases hz with hz | hz
                all_goals
                  go_wp2_with fail
                  go_loopw [6, 10] (fun u i wr => ∃ (j : Nat) (s : ByteArray), j ≤ n3 ∧ i = .int .i64 j ∧ u = .string s ∧ Hid (s.data.toList ++ ((R.texts.drop j).flatMap (textL k)) = p.data.toList) ∧ Below wb.heap.size wb wr) (fun _ i _ => n3 - (intOf i).toNat)
                  case atStart => exact ⟨0, _, Nat.zero_le _, rfl, rfl, HD, hB⟩
                  case round =>
                    obtain ⟨j, s, hj, rfl, rfl, hH, hB⟩ := hrel
                    have q1 : wr.cell? ⟨g, 1, none⟩ = some (.int .u16 k) := (hB.cell (p := ⟨g, 1, none⟩) hgl).trans d1
                    have q4 : wr.cell? ⟨g, 4, none⟩ = some (.slice A1 n1 c1) := (hB.cell (p := ⟨g, 4, none⟩) hgl).trans d4
                    have q5 : wr.cell? ⟨g, 5, none⟩ = some (.slice A2 n2 c2) := (hB.cell (p := ⟨g, 5, none⟩) hgl).trans d5
                    have q6 : wr.cell? ⟨g, 6, none⟩ = some (.slice A3 n3 c3) := (hB.cell (p := ⟨g, 6, none⟩) hgl).trans d6
                    by_cases hlt : j < n3
                    · have hkl : j < R.texts.length := by rw [HL3.out]; exact hlt
                      obtain ⟨ad, rfl, hab, hcell⟩ := (HRD3.out.on hB hB.size).get hkl
                      have hd := hH.out
                      rw [textL_drop k hkl, textL_not h16, ← List.append_assoc] at hd
                      have hs1 := hS.out.s3 j hkl
                      have hsz := cat_le hH.out
                      have hml := mk_list (R.texts.getD j [])
                      rw [← mk_size] at hs1
                      rw [← hml] at hd
                      generalize mk (R.texts.getD j []) = y at *
                      rw [← cat_list] at hd
                      have HD := Lib.hid hd
                      have hs6 : s.size ≤ 1000000 := by omega
                      clear hd hH hkl hml
                      go_wp2_with fail
                      go_roundw
                      case rel => exact ⟨j + 1, _, by omega, by go_num, rfl, HD, hB⟩
                      case measure => simp [intOf]; omega
                    · have hd := hH.out
                      rw [List.drop_of_length_le (by rw [HL3.out]; omega), List.flatMap_nil, List.append_nil] at hd
                      have HE := Lib.hid (list_inj hd)
                      clear hd hH
                      go_wp2_with fail
                      go_ret2
                      exact ⟨by rw [HE.out]; rfl, by have h := HB0.out; rw [← HGW.out] at h; exact h.trans (hB.mono h.size)⟩

theorem refPlain_is (R : Rec) (x : ByteArray) (k l t : Nat) (A1 : Option Addr) (n1 c1 : Nat) (A2 : Option Addr) (n2 c2 : Nat) (A3 : Option Addr) (n3 c3 : Nat) (f : Bool) (p : ByteArray) (w : World) (hR : Hid (RecAt w w.heap.size R x k l t A1 n1 A2 n2 A3 n3)) (hS : Hid (Small R)) (hc : Hid (shapedB R = true)) (hf : Hid (fitsB R = f)) (hp : Hid (p.data.toList = if f = true then plainL R else [])) :
    Calls Try.prog 93 #[.agg #[.string x, .int .u16 k, .int .u16 l, .int .u32 t, .slice A1 n1 c1, .slice A2 n2 c2, .slice A3 n3 c3]] w fun e w' => e = .returned (.tuple #[.string p, .bool f]) ∧ Below w.heap.size w w' := by
  by_cases h16 : k = 16
  · exact refPlain_16 R x k l t A1 n1 c1 A2 n2 c2 A3 n3 c3 f p w hR hS h16 hc hf hp
  by_cases h6 : k = 6
  · exact refPlain_6 R x k l t A1 n1 c1 A2 n2 c2 A3 n3 c3 f p w hR hS h6 hc hf hp
  · exact refPlain_other R x k l t A1 n1 c1 A2 n2 c2 A3 n3 c3 f p w hR hS h16 h6 hc hf hp
end Go.Proofs.Ytpmmjmnleoicjaa

/- The contracts of the document's Check and Plain. For records of at most 10^5 texts of at most 10^5 bytes. -/
namespace Go.Proofs.Ytpmmjmnleoicjaa
open Go.RowKit Bytes Strs Nums NameMath RecMath

theorem not_badName {s : ByteArray} {q : Bool} (h : badName s.data.toList = q) : isN s.data.toList = !q := by
  rw [← h]
  unfold badName
  cases isN s.data.toList <;> rfl
theorem badName_mk {l : List UInt8} {q : Bool} (h : badName l = q) : isN (mk l).data.toList = !q := not_badName (by rw [mk_list]; exact h)

set_option maxHeartbeats 8000000 in
set_option maxRecDepth 100000 in
theorem refCheck_is (R : Rec) (x : ByteArray) (k l t : Nat) (A1 : Option Addr) (n1 c1 : Nat) (A2 : Option Addr) (n2 c2 : Nat) (A3 : Option Addr) (n3 c3 : Nat) (E : Nat) (w : World) (hR : Hid (RecAt w w.heap.size R x k l t A1 n1 A2 n2 A3 n3)) (hS : Hid (Small R)) (hE : Hid (checkE R = E)) :
    Calls Try.prog 52 #[.agg #[.string x, .int .u16 k, .int .u16 l, .int .u32 t, .slice A1 n1 c1, .slice A2 n2 c2, .slice A3 n3 c3]] w fun e w' => e = .returned (.int .i64 E) ∧ Below w.heap.size w w' := by
  have hm1 := hR.out.m1 hS.out
  have hx := hR.out.size hS.out
  have hx6 : x.size ≤ 1000000 := by omega
  have hm6 : n1 ≤ 1000000 := by omega
  have HR2 := Lib.hid (hR.out.box (.cells #[.string x, .int .u16 k, .int .u16 l, .int .u32 t, .slice A1 n1 c1, .slice A2 n2 c2, .slice A3 n3 c3] 60))
  have HB0 : Hid (Below w.heap.size w (w.alloc (.cells #[.string x, .int .u16 k, .int .u16 l, .int .u32 t, .slice A1 n1 c1, .slice A2 n2 c2, .slice A3 n3 c3] 60))) := (Below.refl _ _).alloc (Nat.le_refl _) _
  have hgl : w.heap.size < (w.alloc (.cells #[.string x, .int .u16 k, .int .u16 l, .int .u32 t, .slice A1 n1 c1, .slice A2 n2 c2, .slice A3 n3 c3] 60)).heap.size := by simp
  have d0 : (w.alloc (.cells #[.string x, .int .u16 k, .int .u16 l, .int .u32 t, .slice A1 n1 c1, .slice A2 n2 c2, .slice A3 n3 c3] 60)).cell? ⟨w.heap.size, 0, none⟩ = some (.string x) := by simp
  have d1 : (w.alloc (.cells #[.string x, .int .u16 k, .int .u16 l, .int .u32 t, .slice A1 n1 c1, .slice A2 n2 c2, .slice A3 n3 c3] 60)).cell? ⟨w.heap.size, 1, none⟩ = some (.int .u16 k) := by simp
  have d2 : (w.alloc (.cells #[.string x, .int .u16 k, .int .u16 l, .int .u32 t, .slice A1 n1 c1, .slice A2 n2 c2, .slice A3 n3 c3] 60)).cell? ⟨w.heap.size, 2, none⟩ = some (.int .u16 l) := by simp
  have d3 : (w.alloc (.cells #[.string x, .int .u16 k, .int .u16 l, .int .u32 t, .slice A1 n1 c1, .slice A2 n2 c2, .slice A3 n3 c3] 60)).cell? ⟨w.heap.size, 3, none⟩ = some (.int .u32 t) := by simp
  have d4 : (w.alloc (.cells #[.string x, .int .u16 k, .int .u16 l, .int .u32 t, .slice A1 n1 c1, .slice A2 n2 c2, .slice A3 n3 c3] 60)).cell? ⟨w.heap.size, 4, none⟩ = some (.slice A1 n1 c1) := by simp
  have d5 : (w.alloc (.cells #[.string x, .int .u16 k, .int .u16 l, .int .u32 t, .slice A1 n1 c1, .slice A2 n2 c2, .slice A3 n3 c3] 60)).cell? ⟨w.heap.size, 5, none⟩ = some (.slice A2 n2 c2) := by simp
  have d6 : (w.alloc (.cells #[.string x, .int .u16 k, .int .u16 l, .int .u32 t, .slice A1 n1 c1, .slice A2 n2 c2, .slice A3 n3 c3] 60)).cell? ⟨w.heap.size, 6, none⟩ = some (.slice A3 n3 c3) := by simp
  obtain ⟨z1, hz1⟩ : ∃ z, badName x.data.toList = z := ⟨_, rfl⟩
  obtain ⟨z2, hz2⟩ : ∃ z, R.names.any badName = z := ⟨_, rfl⟩
  have hn : namesB R = (!z1 && !z2) := by unfold namesB; rw [← hR.out.name, hz1, hz2]
  have HN := Lib.hid hn
  have HI := Lib.hid (not_badName hz1)
  have HZ2 := Lib.hid hz2
  have HL1 := Lib.hid HR2.out.len1
  have hlate : lateB R = decide (2147483647 < t ∧ k ≠ 41) := by unfold lateB; rw [hR.out.ttl, hR.out.kind]
  have HLT := Lib.hid hlate
  clear hn hz1 hz2 hlate hR
  go_enter Try.func52, Try.ntmps52
  go_wp2_with fail
  generalize w.alloc (.cells #[.string x, .int .u16 k, .int .u16 l, .int .u32 t, .slice A1 n1 c1, .slice A2 n2 c2, .slice A3 n3 c3] 60) = wb at *
  generalize hgw : w.heap.size = g at *
  have HGW := Lib.hid hgw
  clear hgw
  refine (refIs_is x (!z1) _ hx6 HI).mono ?_
  rintro e w1 ⟨rfl, hB1⟩
  cases z1 with
  | true =>
    obtain rfl : 40 = E := by rw [← hE.out, checkE_40 (by rw [HN.out]; rfl)]
    clear hE HN
    go_wp2_with fail
    go_ret
    exact ⟨rfl, by have h := HB0.out; rw [← HGW.out] at h; exact h.trans (hB1.mono h.size)⟩
  | false =>
    go_wp2_with fail
    go_loopw [3] (fun i wr => ∃ j : Nat, j ≤ n1 ∧ i = .int .i64 j ∧ Hid ((R.names.drop j).any badName = z2) ∧ Below wb.heap.size wb wr) (fun i _ => n1 - (intOf i).toNat)
    case atStart => exact ⟨0, Nat.zero_le _, rfl, HZ2, hB1⟩
    case round =>
      obtain ⟨j, hj, rfl, hH, hB⟩ := hrel
      have q0 : wr.cell? ⟨g, 0, none⟩ = some (.string x) := (hB.cell (p := ⟨g, 0, none⟩) hgl).trans d0
      have q1 : wr.cell? ⟨g, 1, none⟩ = some (.int .u16 k) := (hB.cell (p := ⟨g, 1, none⟩) hgl).trans d1
      have q2 : wr.cell? ⟨g, 2, none⟩ = some (.int .u16 l) := (hB.cell (p := ⟨g, 2, none⟩) hgl).trans d2
      have q3 : wr.cell? ⟨g, 3, none⟩ = some (.int .u32 t) := (hB.cell (p := ⟨g, 3, none⟩) hgl).trans d3
      have q4 : wr.cell? ⟨g, 4, none⟩ = some (.slice A1 n1 c1) := (hB.cell (p := ⟨g, 4, none⟩) hgl).trans d4
      have q5 : wr.cell? ⟨g, 5, none⟩ = some (.slice A2 n2 c2) := (hB.cell (p := ⟨g, 5, none⟩) hgl).trans d5
      have q6 : wr.cell? ⟨g, 6, none⟩ = some (.slice A3 n3 c3) := (hB.cell (p := ⟨g, 6, none⟩) hgl).trans d6
      by_cases hlt : j < n1
      · have hkl : j < R.names.length := by rw [HL1.out]; exact hlt
        obtain ⟨ad, rfl, hab, hcell⟩ := (HR2.out.rd1.on hB hB.size).get hkl
        have hd := hH.out
        rw [lab_drop hkl, List.any_cons] at hd
        obtain ⟨z, hz⟩ : ∃ z, badName (R.names.getD j []) = z := ⟨_, rfl⟩
        have HZ := Lib.hid (badName_mk hz)
        have hs1 := hS.out.s1 j hkl
        rw [← mk_size] at hs1
        rw [hz] at hd
        have HD := Lib.hid hd
        have hy6 : (mk (R.names.getD j [])).size ≤ 1000000 := by omega
        clear hd hz hH hkl hs1
        generalize mk (R.names.getD j []) = y at *
        go_wp2_with fail
        refine (refIs_is y (!z) _ hy6 HZ).mono ?_
        rintro e w3 ⟨rfl, hB3⟩
        have hBB := hB.trans (hB3.mono hB.size)
        clear hB hB3 q0 q1 q2 q3 q4 q5 q6 hcell
        cases z with
        | true =>
          have hzz := HD.out
          rw [Bool.true_or] at hzz
          subst hzz
          obtain rfl : 40 = E := by rw [← hE.out, checkE_40 (by rw [HN.out]; rfl)]
          clear hE HN HD HZ2
          go_wp2_with fail
          go_ret
          exact ⟨rfl, by have h := HB0.out; rw [← HGW.out] at h; exact h.trans (hBB.mono h.size)⟩
        | false =>
          rw [Bool.false_or] at HD
          go_wp2_with fail
          go_roundw
          case rel => exact ⟨j + 1, by omega, by go_num, HD, hBB⟩
          case measure => simp [intOf]; omega
      · have hd := hH.out
        rw [List.drop_of_length_le (by rw [HL1.out]; omega)] at hd
        obtain rfl : z2 = false := by rw [← hd]; rfl
        have hn : namesB R = true := HN.out
        obtain ⟨q, hq⟩ : ∃ q, shapedB R = q := ⟨_, rfl⟩
        obtain ⟨f, hf⟩ : ∃ f, fitsB R = f := ⟨_, rfl⟩
        have he : E = if (q && f) = false then 50 else if decide (2147483647 < t ∧ k ≠ 41) = true then 1 else 0 := by
          rw [← hE.out, ← HLT.out, ← hq, ← hf]
          unfold checkE
          rw [if_neg (by rw [hn]; decide)]
          rfl
        have HE := Lib.hid he
        have HQ := Lib.hid hq
        have HF := Lib.hid hf
        have HRw := Lib.hid (HR2.out.on hB hB.size)
        clear hd hH hn hq hf he hE HN HZ2
        go_wp2_with fail
        refine (refShaped_is R x k l t A1 n1 c1 A2 n2 c2 A3 n3 c3 q _ HRw hS HQ).mono ?_
        rintro e w4 ⟨rfl, hB4⟩
        have hBB := hB.trans (hB4.mono hB.size)
        clear hB hB4 q0 q1 q2 q3 q4 q5 q6 HRw
        cases q with
        | false =>
          obtain rfl : E = 50 := HE.out
          clear HE
          go_wp2_with fail
          go_ret
          exact ⟨rfl, by have h := HB0.out; rw [← HGW.out] at h; exact h.trans (hBB.mono h.size)⟩
        | true =>
          have q0 : w4.cell? ⟨g, 0, none⟩ = some (.string x) := (hBB.cell (p := ⟨g, 0, none⟩) hgl).trans d0
          have q1 : w4.cell? ⟨g, 1, none⟩ = some (.int .u16 k) := (hBB.cell (p := ⟨g, 1, none⟩) hgl).trans d1
          have q2 : w4.cell? ⟨g, 2, none⟩ = some (.int .u16 l) := (hBB.cell (p := ⟨g, 2, none⟩) hgl).trans d2
          have q3 : w4.cell? ⟨g, 3, none⟩ = some (.int .u32 t) := (hBB.cell (p := ⟨g, 3, none⟩) hgl).trans d3
          have q4 : w4.cell? ⟨g, 4, none⟩ = some (.slice A1 n1 c1) := (hBB.cell (p := ⟨g, 4, none⟩) hgl).trans d4
          have q5 : w4.cell? ⟨g, 5, none⟩ = some (.slice A2 n2 c2) := (hBB.cell (p := ⟨g, 5, none⟩) hgl).trans d5
          have q6 : w4.cell? ⟨g, 6, none⟩ = some (.slice A3 n3 c3) := (hBB.cell (p := ⟨g, 6, none⟩) hgl).trans d6
          have HRw := Lib.hid (HR2.out.on hBB hBB.size)
          have HP : Hid ((mk (if f = true then plainL R else [])).data.toList = if f = true then plainL R else []) := mk_list _
          generalize mk (if f = true then plainL R else []) = p at *
          go_wp2_with fail
          refine (refPlain_is R x k l t A1 n1 c1 A2 n2 c2 A3 n3 c3 f p _ HRw hS HQ HF HP).mono ?_
          rintro e w5 ⟨rfl, hB5⟩
          have hB6 := hBB.trans (hB5.mono hBB.size)
          clear hBB hB5 q0 q1 q2 q3 q4 q5 q6 HRw HP
          cases f with
          | false =>
            obtain rfl : E = 50 := HE.out
            clear HE
            go_wp2_with fail
            go_ret
            exact ⟨rfl, by have h := HB0.out; rw [← HGW.out] at h; exact h.trans (hB6.mono h.size)⟩
          | true =>
            have q1 : w5.cell? ⟨g, 1, none⟩ = some (.int .u16 k) := (hB6.cell (p := ⟨g, 1, none⟩) hgl).trans d1
            have q3 : w5.cell? ⟨g, 3, none⟩ = some (.int .u32 t) := (hB6.cell (p := ⟨g, 3, none⟩) hgl).trans d3
            by_cases h1 : (2147483647 : Int) < t
            · by_cases h41 : k = 41
              · obtain rfl : E = 0 := by rw [HE.out, if_neg (by decide), if_neg (by rw [decide_eq_false (fun h => h.2 h41)]; decide)]
                have g41 : ((k : Int) != 41) = false := int_neq h41
                clear h41 HE
                go_wp2_with fail
                go_ret
                exact ⟨rfl, by have h := HB0.out; rw [← HGW.out] at h; exact h.trans (hB6.mono h.size)⟩
              · obtain rfl : E = 1 := by rw [HE.out, if_neg (by decide), if_pos (decide_eq_true ⟨by omega, h41⟩)]
                have g41 : ((k : Int) != 41) = true := int_nne h41
                clear h41 HE
                go_wp2_with fail
                go_ret
                exact ⟨rfl, by have h := HB0.out; rw [← HGW.out] at h; exact h.trans (hB6.mono h.size)⟩
            · obtain rfl : E = 0 := by rw [HE.out, if_neg (by decide), if_neg (by rw [decide_eq_false (fun h => h1 (by omega))]; decide)]
              clear HE
              go_wp2_with fail
              go_ret
              exact ⟨rfl, by have h := HB0.out; rw [← HGW.out] at h; exact h.trans (hB6.mono h.size)⟩
end Go.Proofs.Ytpmmjmnleoicjaa

/- The contract of the document's Plain. For records of at most 10^5 texts of at most 10^5 bytes. -/
namespace Go.Proofs.Ytpmmjmnleoicjaa
open Go.RowKit Bytes Strs Nums NameMath RecMath

set_option maxHeartbeats 2000000 in
theorem refPlainO_is (R : Rec) (x : ByteArray) (k l t : Nat) (A1 : Option Addr) (n1 c1 : Nat) (A2 : Option Addr) (n2 c2 : Nat) (A3 : Option Addr) (n3 c3 : Nat) (p : ByteArray) (w : World) (hR : Hid (RecAt w w.heap.size R x k l t A1 n1 A2 n2 A3 n3)) (hS : Hid (Small R)) (hp : Hid (mk (plainO R) = p)) :
    Calls Try.prog 57 #[.agg #[.string x, .int .u16 k, .int .u16 l, .int .u32 t, .slice A1 n1 c1, .slice A2 n2 c2, .slice A3 n3 c3]] w fun e w' => e = .returned (.string p) ∧ Below w.heap.size w w' := by
  have HR2 := Lib.hid (hR.out.box (.cells #[.string x, .int .u16 k, .int .u16 l, .int .u32 t, .slice A1 n1 c1, .slice A2 n2 c2, .slice A3 n3 c3] 60))
  have HB0 : Hid (Below w.heap.size w (w.alloc (.cells #[.string x, .int .u16 k, .int .u16 l, .int .u32 t, .slice A1 n1 c1, .slice A2 n2 c2, .slice A3 n3 c3] 60))) := (Below.refl _ _).alloc (Nat.le_refl _) _
  have hgl : w.heap.size < (w.alloc (.cells #[.string x, .int .u16 k, .int .u16 l, .int .u32 t, .slice A1 n1 c1, .slice A2 n2 c2, .slice A3 n3 c3] 60)).heap.size := by simp
  have d0 : (w.alloc (.cells #[.string x, .int .u16 k, .int .u16 l, .int .u32 t, .slice A1 n1 c1, .slice A2 n2 c2, .slice A3 n3 c3] 60)).cell? ⟨w.heap.size, 0, none⟩ = some (.string x) := by simp
  have d1 : (w.alloc (.cells #[.string x, .int .u16 k, .int .u16 l, .int .u32 t, .slice A1 n1 c1, .slice A2 n2 c2, .slice A3 n3 c3] 60)).cell? ⟨w.heap.size, 1, none⟩ = some (.int .u16 k) := by simp
  have d2 : (w.alloc (.cells #[.string x, .int .u16 k, .int .u16 l, .int .u32 t, .slice A1 n1 c1, .slice A2 n2 c2, .slice A3 n3 c3] 60)).cell? ⟨w.heap.size, 2, none⟩ = some (.int .u16 l) := by simp
  have d3 : (w.alloc (.cells #[.string x, .int .u16 k, .int .u16 l, .int .u32 t, .slice A1 n1 c1, .slice A2 n2 c2, .slice A3 n3 c3] 60)).cell? ⟨w.heap.size, 3, none⟩ = some (.int .u32 t) := by simp
  have d4 : (w.alloc (.cells #[.string x, .int .u16 k, .int .u16 l, .int .u32 t, .slice A1 n1 c1, .slice A2 n2 c2, .slice A3 n3 c3] 60)).cell? ⟨w.heap.size, 4, none⟩ = some (.slice A1 n1 c1) := by simp
  have d5 : (w.alloc (.cells #[.string x, .int .u16 k, .int .u16 l, .int .u32 t, .slice A1 n1 c1, .slice A2 n2 c2, .slice A3 n3 c3] 60)).cell? ⟨w.heap.size, 5, none⟩ = some (.slice A2 n2 c2) := by simp
  have d6 : (w.alloc (.cells #[.string x, .int .u16 k, .int .u16 l, .int .u32 t, .slice A1 n1 c1, .slice A2 n2 c2, .slice A3 n3 c3] 60)).cell? ⟨w.heap.size, 6, none⟩ = some (.slice A3 n3 c3) := by simp
  obtain ⟨E, hE⟩ : ∃ E, checkE R = E := ⟨_, rfl⟩
  have HE := Lib.hid hE
  clear hE
  go_enter Try.func57, Try.ntmps57
  go_wp2_with fail
  generalize w.alloc (.cells #[.string x, .int .u16 k, .int .u16 l, .int .u32 t, .slice A1 n1 c1, .slice A2 n2 c2, .slice A3 n3 c3] 60) = wb at *
  generalize hgw : w.heap.size = g at *
  have HGW := Lib.hid hgw
  clear hgw
  refine (refCheck_is R x k l t A1 n1 c1 A2 n2 c2 A3 n3 c3 E _ HR2 hS HE).mono ?_
  rintro e w1 ⟨rfl, hB⟩
  by_cases h0 : E = 0
  · subst h0
    have hok := check_ok HE.out
    have hc := okB_cnt hok.2.1
    have hsh : shapedB R = true := by have := hok.2.1; unfold okB at this; rw [Bool.and_eq_true] at this; exact this.1
    have hft : fitsB R = true := by have := hok.2.1; unfold okB at this; rw [Bool.and_eq_true] at this; exact this.2
    have HP : Hid (p.data.toList = if true = true then plainL R else []) := by show _ = _; rw [if_pos rfl, ← hp.out, mk_list, plainO_ok HE.out]
    have q0 : w1.cell? ⟨g, 0, none⟩ = some (.string x) := (hB.cell (p := ⟨g, 0, none⟩) hgl).trans d0
    have q1 : w1.cell? ⟨g, 1, none⟩ = some (.int .u16 k) := (hB.cell (p := ⟨g, 1, none⟩) hgl).trans d1
    have q2 : w1.cell? ⟨g, 2, none⟩ = some (.int .u16 l) := (hB.cell (p := ⟨g, 2, none⟩) hgl).trans d2
    have q3 : w1.cell? ⟨g, 3, none⟩ = some (.int .u32 t) := (hB.cell (p := ⟨g, 3, none⟩) hgl).trans d3
    have q4 : w1.cell? ⟨g, 4, none⟩ = some (.slice A1 n1 c1) := (hB.cell (p := ⟨g, 4, none⟩) hgl).trans d4
    have q5 : w1.cell? ⟨g, 5, none⟩ = some (.slice A2 n2 c2) := (hB.cell (p := ⟨g, 5, none⟩) hgl).trans d5
    have q6 : w1.cell? ⟨g, 6, none⟩ = some (.slice A3 n3 c3) := (hB.cell (p := ⟨g, 6, none⟩) hgl).trans d6
    have HRw := Lib.hid (HR2.out.on hB hB.size)
    have HSH := Lib.hid hsh
    have HFT := Lib.hid hft
    clear hok hc hsh hft hp
    go_wp2_with fail
    refine (refPlain_is R x k l t A1 n1 c1 A2 n2 c2 A3 n3 c3 true p _ HRw hS HSH HFT HP).mono ?_
    rintro e w2 ⟨rfl, hB2⟩
    have hB3 := hB.trans (hB2.mono hB.size)
    clear hB hB2
    go_wp2_with fail
    go_ret
    exact ⟨rfl, by have h := HB0.out; rw [← HGW.out] at h; exact h.trans (hB3.mono h.size)⟩
  · have g0 : ((E : Int) != 0) = true := int_nne h0
    obtain rfl : p = ⟨#[]⟩ := by rw [← hp.out, plainO_no (by rw [HE.out]; exact h0)]; rfl
    clear h0
    go_wp2_with fail
    go_ret
    exact ⟨rfl, by have h := HB0.out; rw [← HGW.out] at h; exact h.trans (hB.mono h.size)⟩
end Go.Proofs.Ytpmmjmnleoicjaa
