/- The contracts of the document's Labels and Is of names. For texts of at most 10^6 bytes. -/
import Derived.Test.YtpmmjmnleoicjaaProg
import Derived.Test.YtpmmjmnleoicjaaBytes
import Derived.Test.YtpmmjmnleoicjaaStrs
import Derived.Test.YtpmmjmnleoicjaaNameMath
import Derived.Test.YtpmmjmnleoicjaaNameLbs
import Derived.WalkKit
import Derived.Lib.Hide
import Derived.Outline
import Derived.IntWalk
import Derived.WalkSpells
import Derived.WalkLawsBesides
namespace Go.Proofs.Ytpmmjmnleoicjaa
open Go.RowKit Bytes Strs NameMath

/-- Labels and whether there are any came back. -/
def RetLab (w : World) (o : Option (List (List UInt8))) (e : Ending) (w' : World) : Prop :=
  ∃ v b, e = .returned (.tuple #[v, .bool b]) ∧ b = o.isSome ∧ (∀ L, o = some L → w'.ownsRow w.heap.size 9 1 v L.length (strCs L)) ∧ Below w.heap.size w w'
def RefRel (l : List UInt8) (A : List (List UInt8)) (k : Nat) : Prop := lbs l = (lbs (l.drop k)).map (A ++ ·)
theorem refRel_end {l : List UInt8} {A : List (List UInt8)} {k : Nat} (h : RefRel l A k) (hk : l.length ≤ k) : lbs l = none := by
  unfold RefRel at h
  rw [lbs_end hk] at h
  exact h
theorem refRel_one {l : List UInt8} {A : List (List UInt8)} {k : Nat} {x : UInt8} (h : RefRel l A k) (hk : k < l.length) (hx : l.getD k 0 = x) (h0 : x.toNat = 0) (he : k + 1 = l.length) : lbs l = some A := by
  unfold RefRel at h
  rw [lbs_at0 hk hx h0, if_pos he] at h
  rw [h, Option.map_some, List.append_nil]
theorem refRel_not {l : List UInt8} {A : List (List UInt8)} {k : Nat} {x : UInt8} (h : RefRel l A k) (hk : k < l.length) (hx : l.getD k 0 = x) (h0 : x.toNat = 0) (he : k + 1 ≠ l.length) : lbs l = none := by
  unfold RefRel at h
  rw [lbs_at0 hk hx h0, if_neg he] at h
  exact h
theorem refRel_bad {l : List UInt8} {A : List (List UInt8)} {k : Nat} {x : UInt8} (h : RefRel l A k) (hk : k < l.length) (hx : l.getD k 0 = x) (h0 : x.toNat ≠ 0) (h1 : 63 < x.toNat ∨ l.length < k + 1 + x.toNat) : lbs l = none := by
  unfold RefRel at h
  rw [lbs_atbad hk hx h0 h1] at h
  exact h
theorem refRel_more {l : List UInt8} {A : List (List UInt8)} {k : Nat} {x : UInt8} (h : RefRel l A k) (hk : k < l.length) (hx : l.getD k 0 = x) (h0 : x.toNat ≠ 0) (h1 : x.toNat ≤ 63) (h2 : k + 1 + x.toNat ≤ l.length) :
    RefRel l (A ++ [(l.drop (k + 1)).take x.toNat]) (k + 1 + x.toNat) := by
  unfold RefRel at h ⊢
  rw [h, lbs_atmore hk hx h0 h1 h2, Option.map_map]
  refine congrArg (fun f => Option.map f (lbs (l.drop (k + 1 + x.toNat)))) ?_
  funext M
  simp
theorem labels_short {l : List UInt8} (h : l.length ≤ 255) : labels l = lbs l := by unfold labels; rw [if_pos h]
theorem labels_long {l : List UInt8} (h : 255 < l.length) : labels l = none := by unfold labels; rw [if_neg (by omega)]

set_option maxHeartbeats 4000000 in
set_option maxRecDepth 100000 in
theorem refLabels_any (s : ByteArray) (w : World) (hs : s.size ≤ 1000000) :
    Calls Try.prog 80 #[.string s] w (RetLab w (labels s.data.toList)) := by
  obtain ⟨o, ho⟩ : ∃ o, labels s.data.toList = o := ⟨_, rfl⟩
  rw [ho]
  have SZ := Lib.hid (Lib.size_eq s)
  by_cases hlong : (255 : Int) < s.size
  · obtain rfl : none = o := by rw [← ho, labels_long (by rw [← SZ.out]; omega)]
    clear ho
    by_cases h0 : (0 : Int) < s.size
    · go_enter Try.func80, Try.ntmps80
      go_wp2_with fail
      go_loopw [4, 5] (fun v i wr => v = .slice none 0 0 ∧ i = .int .i64 0 ∧ wr = w) (fun _ _ _ => 0)
      case atStart => exact ⟨rfl, rfl, rfl⟩
      case round =>
        obtain ⟨rfl, rfl, rfl⟩ := hrel
        go_wp2_with fail
        go_ret2
        exact ⟨_, _, rfl, rfl, fun L h => (by cases h), Below.refl _ _⟩
    · omega
  have hO := Lib.hid (ho.symm.trans (labels_short (by rw [← SZ.out]; omega)))
  clear ho
  obtain ⟨i0, hi, hz0, hz1, hz2⟩ := info_parts info9
  have HI := Lib.hid hi; clear hi
  have HZ0 := Lib.hid hz0; clear hz0
  have HZ1 := Lib.hid hz1; clear hz1
  have HZ2 := Lib.hid hz2; clear hz2
  have h255 : (s.size : Int) ≤ 255 := by omega
  generalize hg : w.heap.size = g at *
  have G := Lib.hid hg; clear hg
  go_enter Try.func80, Try.ntmps80
  go_wp2_with fail
  go_loopw [4, 5] (fun v i wr => ∃ (k : Nat) (A : List (List UInt8)), k ≤ s.size ∧ A.length ≤ k ∧ i = .int .i64 k ∧ Hid (wr.ownsRow g 9 1 v A.length (strCs A)) ∧ Hid (RefRel s.data.toList A k) ∧ Below g w wr) (fun _ i _ => s.size - (intOf i).toNat)
  case atStart => exact ⟨0, [], Nat.zero_le _, Nat.zero_le _, rfl, Lib.hid (World.ownsRow_nil _ _ _ _), Lib.hid (by unfold RefRel; simp), Below.refl _ _⟩
  case round =>
    obtain ⟨k, A, hk, hA, rfl, hW, hR, hB⟩ := hrel
    by_cases hlt : k < s.size
    · have hkl : k < s.data.toList.length := by rw [← SZ.out]; exact hlt
      have hx0 := getD_byte hlt
      generalize hx1 : s.data.toList.getD k 0 = x at hx0
      have hx : s[k]'hlt = x := hx0.symm
      have HX := Lib.hid hx1
      clear hx0 hx1
      have hlx := x.toNat_lt
      by_cases h0 : x.toNat = 0
      · have hz : ((x.toNat : Int) == 0) = true := beq_iff_eq.2 (by omega)
        by_cases he : k + 1 = s.size
        · have hq : ((k : Int) == (s.size : Int) - 1) = true := beq_iff_eq.2 (by omega)
          obtain rfl : o = some A := hO.out.trans (refRel_one hR.out hkl HX.out h0 (by rw [← SZ.out]; exact he))
          clear h0 he hkl hR hO
          go_wp2_with fail
          go_ret2
          exact ⟨_, _, rfl, rfl, fun L h => (by injection h with h; subst h; rw [G.out]; exact hW.out), by rw [G.out]; exact hB⟩
        · have hq : ((k : Int) == (s.size : Int) - 1) = false := beq_eq_false_iff_ne.2 (by omega)
          obtain rfl : o = none := hO.out.trans (refRel_not hR.out hkl HX.out h0 (by rw [← SZ.out]; exact he))
          clear h0 he hkl hR hO
          go_wp2_with fail
          go_ret2
          exact ⟨_, _, rfl, rfl, fun L h => (by cases h), by rw [G.out]; exact hB⟩
      · have hz : ((x.toNat : Int) == 0) = false := beq_eq_false_iff_ne.2 (by omega)
        by_cases hbad : 63 < x.toNat ∨ s.size < k + 1 + x.toNat
        · obtain rfl : o = none := hO.out.trans (refRel_bad hR.out hkl HX.out h0 (by rw [← SZ.out]; exact hbad))
          have hb : (63 : Int) < x.toNat ∨ ((x.toNat : Int) ≤ 63 ∧ (s.size : Int) - 1 - (k : Int) < x.toNat) := by omega
          clear h0 hbad hkl hR hO
          rcases hb with hb | ⟨hb, hb2⟩
          · go_wp2_with fail
            go_ret2
            exact ⟨_, _, rfl, rfl, fun L h => (by cases h), by rw [G.out]; exact hB⟩
          · go_wp2_with fail
            go_ret2
            exact ⟨_, _, rfl, rfl, fun L h => (by cases h), by rw [G.out]; exact hB⟩
        · have hR2 := Lib.hid (refRel_more hR.out hkl HX.out h0 (by omega) (by rw [← SZ.out]; omega))
          have hb : (x.toNat : Int) ≤ 63 := by omega
          have hb2 : (x.toNat : Int) ≤ (s.size : Int) - 1 - (k : Int) := by omega
          have hini : (k : Int) + 1 + (x.toNat : Int) ≤ (s.size : Int) := by omega
          have HP := Lib.hid (piece_list s (k + 1) x.toNat)
          clear h0 hbad hkl hR
          go_wp2_with (at_builtin; refine wpList_append_own _ rfl _ _ 57 rfl g 9 i0 (.string ⟨#[]⟩) 1 16 Try.underlying57 HI.out HZ0.out HZ1.out HZ2.out rfl (by decide) _ _ _ rfl (hW.out.alloc _) ⟨wr.heap.size, 0, none⟩ 1 1 [.string (s.extract (k + 1) (k + 1 + x.toNat))] rfl rfl ?c1 ?c2 ?c3 ?c4 ?c5 ?_)
          case c1 =>
            intro j u hj
            match j, hj with
            | 0, hj => simp at hj; subst hj; simp [Addr.add]
          case c2 => intro u hu; simp at hu; subst hu; rfl
          case c3 => unfold maxLen; omega
          case c4 => omega
          case c5 => have := hB.size; have := G.out; simp; omega
          intro v' w2 hown hgrow _
          have RS := own_str (x := s.extract (k + 1) (k + 1 + x.toNat)) hW.out hB G.out hown hgrow
          rw [HP.out] at RS
          have R1 := Lib.hid RS.1
          have R2 := RS.2
          clear RS hown hgrow hW hB
          go_wp2_with fail
          go_roundw
          case rel => exact ⟨k + 1 + x.toNat, _, by omega, by rw [List.length_append, List.length_singleton]; omega, by go_num, by rw [List.length_append]; exact R1, hR2, R2⟩
          case measure => simp [intOf]; omega
    · obtain rfl : o = none := hO.out.trans (refRel_end hR.out (by rw [← SZ.out]; omega))
      clear hR hO
      go_wp2_with fail
      go_ret2
      exact ⟨_, _, rfl, rfl, fun L h => (by cases h), by rw [G.out]; exact hB⟩

def RetLabYes (w : World) (L : List (List UInt8)) (e : Ending) (w' : World) : Prop :=
  ∃ v, e = .returned (.tuple #[v, .bool true]) ∧ w'.ownsRow w.heap.size 9 1 v L.length (strCs L) ∧ Below w.heap.size w w'
def RetLabNo (w : World) (e : Ending) (w' : World) : Prop := ∃ v, e = .returned (.tuple #[v, .bool false]) ∧ Below w.heap.size w w'
theorem refLabels_yes (s : ByteArray) (L : List (List UInt8)) (w : World) (hs : s.size ≤ 1000000) (hL : Hid (labels s.data.toList = some L)) :
    Calls Try.prog 80 #[.string s] w (RetLabYes w L) := by
  have := refLabels_any s w hs
  rw [hL.out] at this
  exact this.mono fun _ _ ⟨v, b, he, hb, hO, hB⟩ => ⟨v, by rw [he, hb]; rfl, hO L rfl, hB⟩
theorem refLabels_no (s : ByteArray) (w : World) (hs : s.size ≤ 1000000) (hN : Hid (isN s.data.toList = false)) :
    Calls Try.prog 80 #[.string s] w (RetLabNo w) := by
  have := refLabels_any s w hs
  rw [isN_none hN.out] at this
  exact this.mono fun _ _ ⟨v, b, he, hb, hO, hB⟩ => ⟨v, by rw [he, hb]; rfl, hB⟩
def RetLabIs (w : World) (q : Bool) (e : Ending) (w' : World) : Prop := ∃ v, e = .returned (.tuple #[v, .bool q]) ∧ Below w.heap.size w w'
theorem refLabels_is (s : ByteArray) (q : Bool) (w : World) (hs : s.size ≤ 1000000) (hq : Hid (isN s.data.toList = q)) :
    Calls Try.prog 80 #[.string s] w (RetLabIs w q) :=
  (refLabels_any s w hs).mono fun _ _ ⟨v, b, he, hb, _, hB⟩ => ⟨v, by rw [he, hb, ← hq.out]; rfl, hB⟩
set_option maxHeartbeats 1000000 in
set_option maxRecDepth 100000 in
theorem refLabels_long (s : ByteArray) (w : World) (hs : s.size ≤ maxLen) (hl : 255 < s.size) :
    Calls Try.prog 80 #[.string s] w (RetLabIs w false) := by
  unfold maxLen at hs
  have hlong : (255 : Int) < s.size := by omega
  have h0 : (0 : Int) < s.size := by omega
  go_enter Try.func80, Try.ntmps80
  go_wp2_with fail
  go_loopw [4, 5] (fun v i wr => v = .slice none 0 0 ∧ i = .int .i64 0 ∧ wr = w) (fun _ _ _ => 0)
  case atStart => exact ⟨rfl, rfl, rfl⟩
  case round =>
    obtain ⟨rfl, rfl, rfl⟩ := hrel
    go_wp2_with fail
    go_ret2
    exact ⟨_, rfl, Below.refl _ _⟩
theorem refIs_long (s : ByteArray) (w : World) (hs : s.size ≤ maxLen) (hl : 255 < s.size) :
    Calls Try.prog 39 #[.string s] w fun e w' => e = .returned (.bool false) ∧ Below w.heap.size w w' := by
  go_enter Try.func39, Try.ntmps39
  go_wp2_with fail
  refine (refLabels_long s _ hs hl).mono ?_
  rintro e w1 ⟨v, rfl, hB⟩
  go_wp2_with fail
  go_ret
  exact ⟨rfl, hB⟩
theorem refIs_is (s : ByteArray) (q : Bool) (w : World) (hs : s.size ≤ 1000000) (hq : Hid (isN s.data.toList = q)) :
    Calls Try.prog 39 #[.string s] w fun e w' => e = .returned (.bool q) ∧ Below w.heap.size w w' := by
  go_enter Try.func39, Try.ntmps39
  go_wp2_with fail
  refine (refLabels_is s q _ hs hq).mono ?_
  rintro e w1 ⟨v, rfl, hB⟩
  go_wp2_with fail
  go_ret
  exact ⟨rfl, hB⟩
end Go.Proofs.Ytpmmjmnleoicjaa
