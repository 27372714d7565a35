/- Texts of one proof, one behind the other: NameRefLabels, RecRefCheck, RefRec. -/
import Derived.Test.YtihkmdojakalbaaProg
import Derived.Test.YtihkmdojakalbaaReadMessagesProofG1
import Derived.Test.YtihkmdojakalbaaReadMessagesProofG2
import Derived.Test.YtihkmdojakalbaaReadMessagesProofG15
import Derived.Test.YtihkmdojakalbaaReadMessagesProofG10
import Derived.Test.YtihkmdojakalbaaReadMessagesProofG14
import Derived.Test.YtihkmdojakalbaaReadMessagesProofG6
import Derived.Test.YtihkmdojakalbaaReadMessagesProofG12
import Derived.Test.YtihkmdojakalbaaReadMessagesProofG11
import Derived.Test.YtihkmdojakalbaaReadMessagesProofG8
import Derived.Test.YtihkmdojakalbaaReadMessagesProofG7
import Derived.Test.YtihkmdojakalbaaReadMessagesProofG13
import Derived.WalkKit
import Derived.Lib.Hide
import Derived.Outline
import Derived.IntWalk
import Derived.WalkSpells
import Derived.WalkLawsBesides
import Derived.Laws.Rows
import Derived.Deep.QuietTactic
import Derived.BigQuiet
import Derived.Deep.Draws
import Derived.Deep.RegionLaw
import Derived.Deep.CutRange

/- The contracts of the document's Labels and Is of names. For texts of at most 10^6 bytes. -/
namespace Go.Proofs.Ytihkmdojakalbaa
open Go.RowKit Bytes Strs NameMath

/-- Labels and whether there are any came back. -/
def RetLab (w : World) (o : Option (List (List UInt8))) (e : Ending) (w' : World) : Prop :=
  ∃ v b, e = .returned (.tuple #[v, .bool b]) ∧ b = o.isSome ∧ (∀ L, o = some L → w'.ownsRow w.heap.size 9 1 v L.length (strCs L)) ∧ Below w.heap.size w w'
def RefRel (l : List UInt8) (A : List (List UInt8)) (k : Nat) : Prop := lbs l = (lbs (l.drop k)).map (A ++ ·)
theorem refRel_end {l : List UInt8} {A : List (List UInt8)} {k : Nat} (h : RefRel l A k) (hk : l.length ≤ k) : lbs l = none := by
  unfold RefRel at h
  rw [lbs_end hk] at h
  exact h
theorem refRel_one {l : List UInt8} {A : List (List UInt8)} {k : Nat} {x : UInt8} (h : RefRel l A k) (hk : k < l.length) (hx : l.getD k 0 = x) (h0 : x.toNat = 0) (he : k + 1 = l.length) : lbs l = some A := by
  unfold RefRel at h
  rw [lbs_at0 hk hx h0, if_pos he] at h
  rw [h, Option.map_some, List.append_nil]
theorem refRel_not {l : List UInt8} {A : List (List UInt8)} {k : Nat} {x : UInt8} (h : RefRel l A k) (hk : k < l.length) (hx : l.getD k 0 = x) (h0 : x.toNat = 0) (he : k + 1 ≠ l.length) : lbs l = none := by
  unfold RefRel at h
  rw [lbs_at0 hk hx h0, if_neg he] at h
  exact h
theorem refRel_bad {l : List UInt8} {A : List (List UInt8)} {k : Nat} {x : UInt8} (h : RefRel l A k) (hk : k < l.length) (hx : l.getD k 0 = x) (h0 : x.toNat ≠ 0) (h1 : 63 < x.toNat ∨ l.length < k + 1 + x.toNat) : lbs l = none := by
  unfold RefRel at h
  rw [lbs_atbad hk hx h0 h1] at h
  exact h
theorem refRel_more {l : List UInt8} {A : List (List UInt8)} {k : Nat} {x : UInt8} (h : RefRel l A k) (hk : k < l.length) (hx : l.getD k 0 = x) (h0 : x.toNat ≠ 0) (h1 : x.toNat ≤ 63) (h2 : k + 1 + x.toNat ≤ l.length) :
    RefRel l (A ++ [(l.drop (k + 1)).take x.toNat]) (k + 1 + x.toNat) := by
  unfold RefRel at h ⊢
  rw [h, lbs_atmore hk hx h0 h1 h2, Option.map_map]
  refine congrArg (fun f => Option.map f (lbs (l.drop (k + 1 + x.toNat)))) ?_
  funext M
  simp
theorem labels_short {l : List UInt8} (h : l.length ≤ 255) : labels l = lbs l := by unfold labels; rw [if_pos h]
theorem labels_long {l : List UInt8} (h : 255 < l.length) : labels l = none := by unfold labels; rw [if_neg (by omega)]

set_option maxHeartbeats 4000000 in
set_option maxRecDepth 100000 in
theorem refLabels_any (s : ByteArray) (w : World) (hs : s.size ≤ 1000000) :
    Calls Try.prog 66 #[.string s] w (RetLab w (labels s.data.toList)) := by
  obtain ⟨o, ho⟩ : ∃ o, labels s.data.toList = o := ⟨_, rfl⟩
  rw [ho]
  have SZ := Lib.hid (Lib.size_eq s)
  by_cases hlong : (255 : Int) < s.size
  · obtain rfl : none = o := by rw [← ho, labels_long (by rw [← SZ.out]; omega)]
    clear ho
    by_cases h0 : (0 : Int) < s.size
    · go_enter Try.func66, Try.ntmps66
      go_wp2_with fail
      go_loopw [4, 5] (fun v i wr => v = .slice none 0 0 ∧ i = .int .i64 0 ∧ wr = w) (fun _ _ _ => 0)
      case atStart => exact ⟨rfl, rfl, rfl⟩
      case round =>
        obtain ⟨rfl, rfl, rfl⟩ := hrel
        go_wp2_with fail
        go_ret2
        exact ⟨_, _, rfl, rfl, fun L h => (by cases h), Below.refl _ _⟩
    · omega
  have hO := Lib.hid (ho.symm.trans (labels_short (by rw [← SZ.out]; omega)))
  clear ho
  obtain ⟨i0, hi, hz0, hz1, hz2⟩ := info_parts info9
  have HI := Lib.hid hi; clear hi
  have HZ0 := Lib.hid hz0; clear hz0
  have HZ1 := Lib.hid hz1; clear hz1
  have HZ2 := Lib.hid hz2; clear hz2
  have h255 : (s.size : Int) ≤ 255 := by omega
  generalize hg : w.heap.size = g at *
  have G := Lib.hid hg; clear hg
  go_enter Try.func66, Try.ntmps66
  go_wp2_with fail
  go_loopw [4, 5] (fun v i wr => ∃ (k : Nat) (A : List (List UInt8)), k ≤ s.size ∧ A.length ≤ k ∧ i = .int .i64 k ∧ Hid (wr.ownsRow g 9 1 v A.length (strCs A)) ∧ Hid (RefRel s.data.toList A k) ∧ Below g w wr) (fun _ i _ => s.size - (intOf i).toNat)
  case atStart => exact ⟨0, [], Nat.zero_le _, Nat.zero_le _, rfl, Lib.hid (World.ownsRow_nil _ _ _ _), Lib.hid (by unfold RefRel; simp), Below.refl _ _⟩
  case round =>
    obtain ⟨k, A, hk, hA, rfl, hW, hR, hB⟩ := hrel
    by_cases hlt : k < s.size
    · have hkl : k < s.data.toList.length := by rw [← SZ.out]; exact hlt
      have hx0 := getD_byte hlt
      generalize hx1 : s.data.toList.getD k 0 = x at hx0
      have hx : s[k]'hlt = x := hx0.symm
      have HX := Lib.hid hx1
      clear hx0 hx1
      have hlx := x.toNat_lt
      by_cases h0 : x.toNat = 0
      · have hz : ((x.toNat : Int) == 0) = true := beq_iff_eq.2 (by omega)
        by_cases he : k + 1 = s.size
        · have hq : ((k : Int) == (s.size : Int) - 1) = true := beq_iff_eq.2 (by omega)
          obtain rfl : o = some A := hO.out.trans (refRel_one hR.out hkl HX.out h0 (by rw [← SZ.out]; exact he))
          clear h0 he hkl hR hO
          go_wp2_with fail
          go_ret2
          exact ⟨_, _, rfl, rfl, fun L h => (by injection h with h; subst h; rw [G.out]; exact hW.out), by rw [G.out]; exact hB⟩
        · have hq : ((k : Int) == (s.size : Int) - 1) = false := beq_eq_false_iff_ne.2 (by omega)
          obtain rfl : o = none := hO.out.trans (refRel_not hR.out hkl HX.out h0 (by rw [← SZ.out]; exact he))
          clear h0 he hkl hR hO
          go_wp2_with fail
          go_ret2
          exact ⟨_, _, rfl, rfl, fun L h => (by cases h), by rw [G.out]; exact hB⟩
      · have hz : ((x.toNat : Int) == 0) = false := beq_eq_false_iff_ne.2 (by omega)
        by_cases hbad : 63 < x.toNat ∨ s.size < k + 1 + x.toNat
        · obtain rfl : o = none := hO.out.trans (refRel_bad hR.out hkl HX.out h0 (by rw [← SZ.out]; exact hbad))
          have hb : (63 : Int) < x.toNat ∨ ((x.toNat : Int) ≤ 63 ∧ (s.size : Int) - 1 - (k : Int) < x.toNat) := by omega
          clear h0 hbad hkl hR hO
          rcases hb with hb | ⟨hb, hb2⟩
          · go_wp2_with fail
            go_ret2
            exact ⟨_, _, rfl, rfl, fun L h => (by cases h), by rw [G.out]; exact hB⟩
          · go_wp2_with fail
            go_ret2
            exact ⟨_, _, rfl, rfl, fun L h => (by cases h), by rw [G.out]; exact hB⟩
        · have hR2 := Lib.hid (refRel_more hR.out hkl HX.out h0 (by omega) (by rw [← SZ.out]; omega))
          have hb : (x.toNat : Int) ≤ 63 := by omega
          have hb2 : (x.toNat : Int) ≤ (s.size : Int) - 1 - (k : Int) := by omega
          have hini : (k : Int) + 1 + (x.toNat : Int) ≤ (s.size : Int) := by omega
          have HP := Lib.hid (piece_list s (k + 1) x.toNat)
          clear h0 hbad hkl hR
          go_wp2_with (at_builtin; refine wpList_append_own _ rfl _ _ 45 rfl g 9 i0 (.string ⟨#[]⟩) 1 16 Try.underlying45 HI.out HZ0.out HZ1.out HZ2.out rfl (by decide) _ _ _ rfl (hW.out.alloc _) ⟨wr.heap.size, 0, none⟩ 1 1 [.string (s.extract (k + 1) (k + 1 + x.toNat))] rfl rfl ?c1 ?c2 ?c3 ?c4 ?c5 ?_)
          case c1 =>
            intro j u hj
            match j, hj with
            | 0, hj => simp at hj; subst hj; simp [Addr.add]
          case c2 => intro u hu; simp at hu; subst hu; rfl
          case c3 => unfold maxLen; omega
          case c4 => omega
          case c5 => have := hB.size; have := G.out; simp; omega
          intro v' w2 hown hgrow _
          have RS := own_str (x := s.extract (k + 1) (k + 1 + x.toNat)) hW.out hB G.out hown hgrow
          rw [HP.out] at RS
          have R1 := Lib.hid RS.1
          have R2 := RS.2
          clear RS hown hgrow hW hB
          go_wp2_with fail
          go_roundw
          case rel => exact ⟨k + 1 + x.toNat, _, by omega, by rw [List.length_append, List.length_singleton]; omega, by go_num, by rw [List.length_append]; exact R1, hR2, R2⟩
          case measure => simp [intOf]; omega
    · obtain rfl : o = none := hO.out.trans (refRel_end hR.out (by rw [← SZ.out]; omega))
      clear hR hO
      go_wp2_with fail
      go_ret2
      exact ⟨_, _, rfl, rfl, fun L h => (by cases h), by rw [G.out]; exact hB⟩

def RetLabYes (w : World) (L : List (List UInt8)) (e : Ending) (w' : World) : Prop :=
  ∃ v, e = .returned (.tuple #[v, .bool true]) ∧ w'.ownsRow w.heap.size 9 1 v L.length (strCs L) ∧ Below w.heap.size w w'
def RetLabNo (w : World) (e : Ending) (w' : World) : Prop := ∃ v, e = .returned (.tuple #[v, .bool false]) ∧ Below w.heap.size w w'
theorem refLabels_yes (s : ByteArray) (L : List (List UInt8)) (w : World) (hs : s.size ≤ 1000000) (hL : Hid (labels s.data.toList = some L)) :
    Calls Try.prog 66 #[.string s] w (RetLabYes w L) := by
  have := refLabels_any s w hs
  rw [hL.out] at this
  exact this.mono fun _ _ ⟨v, b, he, hb, hO, hB⟩ => ⟨v, by rw [he, hb]; rfl, hO L rfl, hB⟩
theorem refLabels_no (s : ByteArray) (w : World) (hs : s.size ≤ 1000000) (hN : Hid (isN s.data.toList = false)) :
    Calls Try.prog 66 #[.string s] w (RetLabNo w) := by
  have := refLabels_any s w hs
  rw [isN_none hN.out] at this
  exact this.mono fun _ _ ⟨v, b, he, hb, hO, hB⟩ => ⟨v, by rw [he, hb]; rfl, hB⟩
def RetLabIs (w : World) (q : Bool) (e : Ending) (w' : World) : Prop := ∃ v, e = .returned (.tuple #[v, .bool q]) ∧ Below w.heap.size w w'
theorem refLabels_is (s : ByteArray) (q : Bool) (w : World) (hs : s.size ≤ 1000000) (hq : Hid (isN s.data.toList = q)) :
    Calls Try.prog 66 #[.string s] w (RetLabIs w q) :=
  (refLabels_any s w hs).mono fun _ _ ⟨v, b, he, hb, _, hB⟩ => ⟨v, by rw [he, hb, ← hq.out]; rfl, hB⟩
set_option maxHeartbeats 1000000 in
set_option maxRecDepth 100000 in
theorem refLabels_long (s : ByteArray) (w : World) (hs : s.size ≤ maxLen) (hl : 255 < s.size) :
    Calls Try.prog 66 #[.string s] w (RetLabIs w false) := by
  unfold maxLen at hs
  have hlong : (255 : Int) < s.size := by omega
  have h0 : (0 : Int) < s.size := by omega
  go_enter Try.func66, Try.ntmps66
  go_wp2_with fail
  go_loopw [4, 5] (fun v i wr => v = .slice none 0 0 ∧ i = .int .i64 0 ∧ wr = w) (fun _ _ _ => 0)
  case atStart => exact ⟨rfl, rfl, rfl⟩
  case round =>
    obtain ⟨rfl, rfl, rfl⟩ := hrel
    go_wp2_with fail
    go_ret2
    exact ⟨_, rfl, Below.refl _ _⟩
theorem refIs_long (s : ByteArray) (w : World) (hs : s.size ≤ maxLen) (hl : 255 < s.size) :
    Calls Try.prog 40 #[.string s] w fun e w' => e = .returned (.bool false) ∧ Below w.heap.size w w' := by
  go_enter Try.func40, Try.ntmps40
  go_wp2_with fail
  refine (refLabels_long s _ hs hl).mono ?_
  rintro e w1 ⟨v, rfl, hB⟩
  go_wp2_with fail
  go_ret
  exact ⟨rfl, hB⟩
theorem refIs_is (s : ByteArray) (q : Bool) (w : World) (hs : s.size ≤ 1000000) (hq : Hid (isN s.data.toList = q)) :
    Calls Try.prog 40 #[.string s] w fun e w' => e = .returned (.bool q) ∧ Below w.heap.size w w' := by
  go_enter Try.func40, Try.ntmps40
  go_wp2_with fail
  refine (refLabels_is s q _ hs hq).mono ?_
  rintro e w1 ⟨v, rfl, hB⟩
  go_wp2_with fail
  go_ret
  exact ⟨rfl, hB⟩
end Go.Proofs.Ytihkmdojakalbaa

/- The contracts of the document's Check and Plain. For records of at most 10^5 texts of at most 10^5 bytes. -/
namespace Go.Proofs.Ytihkmdojakalbaa
open Go.RowKit Bytes Strs Nums NameMath RecMath

theorem not_badName {s : ByteArray} {q : Bool} (h : badName s.data.toList = q) : isN s.data.toList = !q := by
  rw [← h]
  unfold badName
  cases isN s.data.toList <;> rfl
theorem badName_mk {l : List UInt8} {q : Bool} (h : badName l = q) : isN (mk l).data.toList = !q := not_badName (by rw [mk_list]; exact h)

set_option maxHeartbeats 8000000 in
set_option maxRecDepth 100000 in
theorem refCheck_is (R : Rec) (x : ByteArray) (k l t : Nat) (A1 : Option Addr) (n1 c1 : Nat) (A2 : Option Addr) (n2 c2 : Nat) (A3 : Option Addr) (n3 c3 : Nat) (E : Nat) (w : World) (hR : Hid (RecAt w w.heap.size R x k l t A1 n1 A2 n2 A3 n3)) (hS : Hid (Small R)) (hE : Hid (checkE R = E)) :
    Calls Try.prog 41 #[.agg #[.string x, .int .u16 k, .int .u16 l, .int .u32 t, .slice A1 n1 c1, .slice A2 n2 c2, .slice A3 n3 c3]] w fun e w' => e = .returned (.int .i64 E) ∧ Below w.heap.size w w' := by
  have hm1 := hR.out.m1 hS.out
  have hx := hR.out.size hS.out
  have hx6 : x.size ≤ 1000000 := by omega
  have hm6 : n1 ≤ 1000000 := by omega
  have HR2 := Lib.hid (hR.out.box (.cells #[.string x, .int .u16 k, .int .u16 l, .int .u32 t, .slice A1 n1 c1, .slice A2 n2 c2, .slice A3 n3 c3] 49))
  have HB0 : Hid (Below w.heap.size w (w.alloc (.cells #[.string x, .int .u16 k, .int .u16 l, .int .u32 t, .slice A1 n1 c1, .slice A2 n2 c2, .slice A3 n3 c3] 49))) := (Below.refl _ _).alloc (Nat.le_refl _) _
  have hgl : w.heap.size < (w.alloc (.cells #[.string x, .int .u16 k, .int .u16 l, .int .u32 t, .slice A1 n1 c1, .slice A2 n2 c2, .slice A3 n3 c3] 49)).heap.size := by simp
  have d0 : (w.alloc (.cells #[.string x, .int .u16 k, .int .u16 l, .int .u32 t, .slice A1 n1 c1, .slice A2 n2 c2, .slice A3 n3 c3] 49)).cell? ⟨w.heap.size, 0, none⟩ = some (.string x) := by simp
  have d1 : (w.alloc (.cells #[.string x, .int .u16 k, .int .u16 l, .int .u32 t, .slice A1 n1 c1, .slice A2 n2 c2, .slice A3 n3 c3] 49)).cell? ⟨w.heap.size, 1, none⟩ = some (.int .u16 k) := by simp
  have d2 : (w.alloc (.cells #[.string x, .int .u16 k, .int .u16 l, .int .u32 t, .slice A1 n1 c1, .slice A2 n2 c2, .slice A3 n3 c3] 49)).cell? ⟨w.heap.size, 2, none⟩ = some (.int .u16 l) := by simp
  have d3 : (w.alloc (.cells #[.string x, .int .u16 k, .int .u16 l, .int .u32 t, .slice A1 n1 c1, .slice A2 n2 c2, .slice A3 n3 c3] 49)).cell? ⟨w.heap.size, 3, none⟩ = some (.int .u32 t) := by simp
  have d4 : (w.alloc (.cells #[.string x, .int .u16 k, .int .u16 l, .int .u32 t, .slice A1 n1 c1, .slice A2 n2 c2, .slice A3 n3 c3] 49)).cell? ⟨w.heap.size, 4, none⟩ = some (.slice A1 n1 c1) := by simp
  have d5 : (w.alloc (.cells #[.string x, .int .u16 k, .int .u16 l, .int .u32 t, .slice A1 n1 c1, .slice A2 n2 c2, .slice A3 n3 c3] 49)).cell? ⟨w.heap.size, 5, none⟩ = some (.slice A2 n2 c2) := by simp
  have d6 : (w.alloc (.cells #[.string x, .int .u16 k, .int .u16 l, .int .u32 t, .slice A1 n1 c1, .slice A2 n2 c2, .slice A3 n3 c3] 49)).cell? ⟨w.heap.size, 6, none⟩ = some (.slice A3 n3 c3) := by simp
  obtain ⟨z1, hz1⟩ : ∃ z, badName x.data.toList = z := ⟨_, rfl⟩
  obtain ⟨z2, hz2⟩ : ∃ z, R.names.any badName = z := ⟨_, rfl⟩
  have hn : namesB R = (!z1 && !z2) := by unfold namesB; rw [← hR.out.name, hz1, hz2]
  have HN := Lib.hid hn
  have HI := Lib.hid (not_badName hz1)
  have HZ2 := Lib.hid hz2
  have HL1 := Lib.hid HR2.out.len1
  have hlate : lateB R = decide (2147483647 < t ∧ k ≠ 41) := by unfold lateB; rw [hR.out.ttl, hR.out.kind]
  have HLT := Lib.hid hlate
  clear hn hz1 hz2 hlate hR
  go_enter Try.func41, Try.ntmps41
  go_wp2_with fail
  generalize w.alloc (.cells #[.string x, .int .u16 k, .int .u16 l, .int .u32 t, .slice A1 n1 c1, .slice A2 n2 c2, .slice A3 n3 c3] 49) = wb at *
  generalize hgw : w.heap.size = g at *
  have HGW := Lib.hid hgw
  clear hgw
  refine (refIs_is x (!z1) _ hx6 HI).mono ?_
  rintro e w1 ⟨rfl, hB1⟩
  cases z1 with
  | true =>
    obtain rfl : 40 = E := by rw [← hE.out, checkE_40 (by rw [HN.out]; rfl)]
    clear hE HN
    go_wp2_with fail
    go_ret
    exact ⟨rfl, by have h := HB0.out; rw [← HGW.out] at h; exact h.trans (hB1.mono h.size)⟩
  | false =>
    go_wp2_with fail
    go_loopw [3] (fun i wr => ∃ j : Nat, j ≤ n1 ∧ i = .int .i64 j ∧ Hid ((R.names.drop j).any badName = z2) ∧ Below wb.heap.size wb wr) (fun i _ => n1 - (intOf i).toNat)
    case atStart => exact ⟨0, Nat.zero_le _, rfl, HZ2, hB1⟩
    case round =>
      obtain ⟨j, hj, rfl, hH, hB⟩ := hrel
      have q0 : wr.cell? ⟨g, 0, none⟩ = some (.string x) := (hB.cell (p := ⟨g, 0, none⟩) hgl).trans d0
      have q1 : wr.cell? ⟨g, 1, none⟩ = some (.int .u16 k) := (hB.cell (p := ⟨g, 1, none⟩) hgl).trans d1
      have q2 : wr.cell? ⟨g, 2, none⟩ = some (.int .u16 l) := (hB.cell (p := ⟨g, 2, none⟩) hgl).trans d2
      have q3 : wr.cell? ⟨g, 3, none⟩ = some (.int .u32 t) := (hB.cell (p := ⟨g, 3, none⟩) hgl).trans d3
      have q4 : wr.cell? ⟨g, 4, none⟩ = some (.slice A1 n1 c1) := (hB.cell (p := ⟨g, 4, none⟩) hgl).trans d4
      have q5 : wr.cell? ⟨g, 5, none⟩ = some (.slice A2 n2 c2) := (hB.cell (p := ⟨g, 5, none⟩) hgl).trans d5
      have q6 : wr.cell? ⟨g, 6, none⟩ = some (.slice A3 n3 c3) := (hB.cell (p := ⟨g, 6, none⟩) hgl).trans d6
      by_cases hlt : j < n1
      · have hkl : j < R.names.length := by rw [HL1.out]; exact hlt
        obtain ⟨ad, rfl, hab, hcell⟩ := (HR2.out.rd1.on hB hB.size).get hkl
        have hd := hH.out
        rw [lab_drop hkl, List.any_cons] at hd
        obtain ⟨z, hz⟩ : ∃ z, badName (R.names.getD j []) = z := ⟨_, rfl⟩
        have HZ := Lib.hid (badName_mk hz)
        have hs1 := hS.out.s1 j hkl
        rw [← mk_size] at hs1
        rw [hz] at hd
        have HD := Lib.hid hd
        have hy6 : (mk (R.names.getD j [])).size ≤ 1000000 := by omega
        clear hd hz hH hkl hs1
        generalize mk (R.names.getD j []) = y at *
        go_wp2_with fail
        refine (refIs_is y (!z) _ hy6 HZ).mono ?_
        rintro e w3 ⟨rfl, hB3⟩
        have hBB := hB.trans (hB3.mono hB.size)
        clear hB hB3 q0 q1 q2 q3 q4 q5 q6 hcell
        cases z with
        | true =>
          have hzz := HD.out
          rw [Bool.true_or] at hzz
          subst hzz
          obtain rfl : 40 = E := by rw [← hE.out, checkE_40 (by rw [HN.out]; rfl)]
          clear hE HN HD HZ2
          go_wp2_with fail
          go_ret
          exact ⟨rfl, by have h := HB0.out; rw [← HGW.out] at h; exact h.trans (hBB.mono h.size)⟩
        | false =>
          rw [Bool.false_or] at HD
          go_wp2_with fail
          go_roundw
          case rel => exact ⟨j + 1, by omega, by go_num, HD, hBB⟩
          case measure => simp [intOf]; omega
      · have hd := hH.out
        rw [List.drop_of_length_le (by rw [HL1.out]; omega)] at hd
        obtain rfl : z2 = false := by rw [← hd]; rfl
        have hn : namesB R = true := HN.out
        obtain ⟨q, hq⟩ : ∃ q, shapedB R = q := ⟨_, rfl⟩
        obtain ⟨f, hf⟩ : ∃ f, fitsB R = f := ⟨_, rfl⟩
        have he : E = if (q && f) = false then 50 else if decide (2147483647 < t ∧ k ≠ 41) = true then 1 else 0 := by
          rw [← hE.out, ← HLT.out, ← hq, ← hf]
          unfold checkE
          rw [if_neg (by rw [hn]; decide)]
          rfl
        have HE := Lib.hid he
        have HQ := Lib.hid hq
        have HF := Lib.hid hf
        have HRw := Lib.hid (HR2.out.on hB hB.size)
        clear hd hH hn hq hf he hE HN HZ2
        go_wp2_with fail
        refine (refShaped_is R x k l t A1 n1 c1 A2 n2 c2 A3 n3 c3 q _ HRw hS HQ).mono ?_
        rintro e w4 ⟨rfl, hB4⟩
        have hBB := hB.trans (hB4.mono hB.size)
        clear hB hB4 q0 q1 q2 q3 q4 q5 q6 HRw
        cases q with
        | false =>
          obtain rfl : E = 50 := HE.out
          clear HE
          go_wp2_with fail
          go_ret
          exact ⟨rfl, by have h := HB0.out; rw [← HGW.out] at h; exact h.trans (hBB.mono h.size)⟩
        | true =>
          have q0 : w4.cell? ⟨g, 0, none⟩ = some (.string x) := (hBB.cell (p := ⟨g, 0, none⟩) hgl).trans d0
          have q1 : w4.cell? ⟨g, 1, none⟩ = some (.int .u16 k) := (hBB.cell (p := ⟨g, 1, none⟩) hgl).trans d1
          have q2 : w4.cell? ⟨g, 2, none⟩ = some (.int .u16 l) := (hBB.cell (p := ⟨g, 2, none⟩) hgl).trans d2
          have q3 : w4.cell? ⟨g, 3, none⟩ = some (.int .u32 t) := (hBB.cell (p := ⟨g, 3, none⟩) hgl).trans d3
          have q4 : w4.cell? ⟨g, 4, none⟩ = some (.slice A1 n1 c1) := (hBB.cell (p := ⟨g, 4, none⟩) hgl).trans d4
          have q5 : w4.cell? ⟨g, 5, none⟩ = some (.slice A2 n2 c2) := (hBB.cell (p := ⟨g, 5, none⟩) hgl).trans d5
          have q6 : w4.cell? ⟨g, 6, none⟩ = some (.slice A3 n3 c3) := (hBB.cell (p := ⟨g, 6, none⟩) hgl).trans d6
          have HRw := Lib.hid (HR2.out.on hBB hBB.size)
          have HP : Hid ((mk (if f = true then plainL R else [])).data.toList = if f = true then plainL R else []) := mk_list _
          generalize mk (if f = true then plainL R else []) = p at *
          go_wp2_with fail
          refine (refPlain_is R x k l t A1 n1 c1 A2 n2 c2 A3 n3 c3 f p _ HRw hS HQ HF HP).mono ?_
          rintro e w5 ⟨rfl, hB5⟩
          have hB6 := hBB.trans (hB5.mono hBB.size)
          clear hBB hB5 q0 q1 q2 q3 q4 q5 q6 HRw HP
          cases f with
          | false =>
            obtain rfl : E = 50 := HE.out
            clear HE
            go_wp2_with fail
            go_ret
            exact ⟨rfl, by have h := HB0.out; rw [← HGW.out] at h; exact h.trans (hB6.mono h.size)⟩
          | true =>
            have q1 : w5.cell? ⟨g, 1, none⟩ = some (.int .u16 k) := (hB6.cell (p := ⟨g, 1, none⟩) hgl).trans d1
            have q3 : w5.cell? ⟨g, 3, none⟩ = some (.int .u32 t) := (hB6.cell (p := ⟨g, 3, none⟩) hgl).trans d3
            by_cases h1 : (2147483647 : Int) < t
            · by_cases h41 : k = 41
              · obtain rfl : E = 0 := by rw [HE.out, if_neg (by decide), if_neg (by rw [decide_eq_false (fun h => h.2 h41)]; decide)]
                have g41 : ((k : Int) != 41) = false := int_neq h41
                clear h41 HE
                go_wp2_with fail
                go_ret
                exact ⟨rfl, by have h := HB0.out; rw [← HGW.out] at h; exact h.trans (hB6.mono h.size)⟩
              · obtain rfl : E = 1 := by rw [HE.out, if_neg (by decide), if_pos (decide_eq_true ⟨by omega, h41⟩)]
                have g41 : ((k : Int) != 41) = true := int_nne h41
                clear h41 HE
                go_wp2_with fail
                go_ret
                exact ⟨rfl, by have h := HB0.out; rw [← HGW.out] at h; exact h.trans (hB6.mono h.size)⟩
            · obtain rfl : E = 0 := by rw [HE.out, if_neg (by decide), if_neg (by rw [decide_eq_false (fun h => h1 (by omega))]; decide)]
              clear HE
              go_wp2_with fail
              go_ret
              exact ⟨rfl, by have h := HB0.out; rw [← HGW.out] at h; exact h.trans (hB6.mono h.size)⟩
end Go.Proofs.Ytihkmdojakalbaa

/- The contract of the document's record. For texts of at most 65535 bytes. -/
namespace Go.Proofs.Ytihkmdojakalbaa
open Go.RowKit NumMath NmMath NameMath Bytes Strs Nums MsgMath RecMath StMath DatMath

/-- A record came back, in rows of the call's own. -/
def RsEnd (w : World) (r : Nat) (s : ByteArray) (R : Rec) (st : St) (e : Ending) (w' : World) : Prop :=
  ∃ v1 v2 v3, e = .returned (.agg #[.string (mk R.name), .int .u16 R.kind, .int .u16 R.cls, .int .u32 R.ttl, v1, v2, v3]) ∧ RecIn w' w.heap.size R v1 v2 v3 ∧ StAt w' r s st ∧ w.grownBy w' (some r)
/-- The state within: the result's block, the record's behind it. -/
structure RsSt (w wr : World) (r B B1 : Nat) (s : ByteArray) (st : St) (c : Array Value) : Prop where
  eB : w.heap.size = B
  rB : r < B
  b01 : B < B1
  lt : B1 < wr.heap.size
  rd : StAt wr r s st
  b0 : wr.heap[B]? = some (.cells #[.string ⟨#[]⟩, .int .u16 0, .int .u16 0, .int .u32 0, .slice none 0 0, .slice none 0 0, .slice none 0 0] 49 (0, 0))
  b1 : wr.heap[B1]? = some (.cells c 49 (0, 0))
  kept : Kept B r w wr
section
variable {w wr w' : World} {r B B1 : Nat} {s : ByteArray} {st st' : St} {c : Array Value}
theorem RsSt.call (h : RsSt w wr r B B1 s st c) (hd : StAt w' r s st') (hg : wr.grownBy w' (some r)) : RsSt w w' r B B1 s st' c :=
  ⟨h.eB, h.rB, h.b01, Nat.lt_of_lt_of_le h.lt hg.size, hd, (grown_block hg (by have := h.lt; have := h.b01; omega) (by have := h.rB; omega)).trans h.b0, (grown_block hg h.lt (by have := h.rB; have := h.b01; omega)).trans h.b1, h.kept.grown hg (by have := h.lt; have := h.b01; omega)⟩
theorem RsSt.set (h : RsSt w wr r B B1 s st c) (i : Nat) (v : Value) : RsSt w (wr.setCell ⟨B1, i, none⟩ v) r B B1 s st (c.setIfInBounds i v) := by
  have h1 := h.rB; have h2 := h.b01
  refine ⟨h.eB, h1, h2, by simpa [World.setCell] using h.lt, h.rd.far (by simp only; omega) _, ?_, ?_, h.kept.setCell (.inr (by simp only; omega)) _⟩
  · rw [Below.heap_setCell _ _ _ _ (by simp only; omega)]; exact h.b0
  · simp [World.setCell, Array.getElem?_modify, h.b1]
theorem RsSt.setErr (h : RsSt w wr r B B1 s st c) (q : Nat) : RsSt w (wr.setCell ⟨r, 2, none⟩ (.int .i64 q)) r B B1 s (st.1, q) c := by
  have h1 := h.rB; have h2 := h.b01
  refine ⟨h.eB, h1, h2, by simpa [World.setCell] using h.lt, h.rd.set2 q, ?_, ?_, h.kept.setCell (.inl rfl) _⟩
  · rw [Below.heap_setCell _ _ _ _ (by simp only; omega)]; exact h.b0
  · rw [Below.heap_setCell _ _ _ _ (by simp only; omega)]; exact h.b1
theorem RsSt.drewN (h : RsSt w wr r B B1 s st c) (n : Nat) : RsSt w (wr.drewN n) r B B1 s st c := ⟨h.eB, h.rB, h.b01, h.lt, h.rd, h.b0, h.b1, h.kept.drewN n⟩
theorem RsSt.drew (h : RsSt w wr r B B1 s st c) : RsSt w wr.drew r B B1 s st c := ⟨h.eB, h.rB, h.b01, h.lt, h.rd, h.b0, h.b1, h.kept.drew⟩
theorem RsSt.sz (h : RsSt w wr r B B1 s st c) : B ≤ wr.heap.size := by have := h.lt; have := h.b01; omega
/-- Behind a call that leaves what stood below. -/
theorem RsSt.below (h : RsSt w wr r B B1 s st c) (hb : Below wr.heap.size wr w') : RsSt w w' r B B1 s st c :=
  ⟨h.eB, h.rB, h.b01, Nat.lt_of_lt_of_le h.lt hb.size, h.rd.held hb, (hb.block B (by have := h.lt; have := h.b01; omega)).trans h.b0, (hb.block B1 h.lt).trans h.b1, h.kept.below (hb.mono h.sz)⟩
theorem RsSt.f0 (h : RsSt w wr r B B1 s st c) (i : Nat) : wr.frozen? ⟨B, i, none⟩ = false := by simp [World.frozen?, h.b0]
theorem RsSt.f1 (h : RsSt w wr r B B1 s st c) (i : Nat) : wr.frozen? ⟨B1, i, none⟩ = false := by simp [World.frozen?, h.b1]
/-- Behind a store of a whole record. -/
theorem RsSt.setRec {x0 : ByteArray} {k0 l0 t0 : Nat} {u1 u2 u3 : Value} (h : RsSt w wr r B B1 s st (recC x0 k0 l0 t0 u1 u2 u3)) (x : ByteArray) (k l t : Nat) (v1 v2 v3 : Value) : RsSt w (((((((wr.setCell ⟨B1, 0, none⟩ (.string x)).setCell ⟨B1, 1, none⟩ (.int .u16 k)).setCell ⟨B1, 2, none⟩ (.int .u16 l)).setCell ⟨B1, 3, none⟩ (.int .u32 t)).setCell ⟨B1, 4, none⟩ v1).setCell ⟨B1, 5, none⟩ v2).setCell ⟨B1, 6, none⟩ v3) r B B1 s st (recC x k l t v1 v2 v3) := by
  have h0 : RsSt w _ r B B1 s st (recC x k0 l0 t0 u1 u2 u3) := h.set 0 (.string x)
  have h1 : RsSt w _ r B B1 s st (recC x k l0 t0 u1 u2 u3) := h0.set 1 (.int .u16 k)
  have h2 : RsSt w _ r B B1 s st (recC x k l t0 u1 u2 u3) := h1.set 2 (.int .u16 l)
  have h3 : RsSt w _ r B B1 s st (recC x k l t u1 u2 u3) := h2.set 3 (.int .u32 t)
  have h4 : RsSt w _ r B B1 s st (recC x k l t v1 u2 u3) := h3.set 4 v1
  have h5 : RsSt w _ r B B1 s st (recC x k l t v1 v2 u3) := h4.set 5 v2
  exact h5.set 6 v3
end
theorem rsSt_start (w w1 : World) (r B B1 : Nat) (s : ByteArray) (st : St) (c : Array Value) (hB : w.heap.size = B) (hr : r < B) (hB1 : w1.heap.size = B1) (hl : B < B1) (hd : StAt w1 r s st) (h0 : w1.heap[B]? = some (.cells #[.string ⟨#[]⟩, .int .u16 0, .int .u16 0, .int .u32 0, .slice none 0 0, .slice none 0 0, .slice none 0 0] 49 (0, 0))) (hk : Kept B r w w1) :
    RsSt w (w1.alloc (.cells c 49)) r B B1 s st c :=
  ⟨hB, hr, hl, by simp; omega, hd.held ((Below.refl _ _).alloc (Nat.le_refl _) _), old_at h0, by rw [← hB1]; exact heap_alloc_new w1 _, hk.alloc (by omega) _⟩
theorem numS_two {l : List UInt8} (st : St) : (numS l 2 st).1 < 65536 := by
  unfold numS
  split
  · exact Nat.zero_lt_succ _
  · split
    · exact nu2_lt _ _
    · exact Nat.zero_lt_succ _
/-- What comes back of the record that stands in its block. -/
theorem rs_end {w wr : World} {r B B1 : Nat} {s : ByteArray} {st : St} {c : Array Value} {R : Rec} {A1 A2 A3 : Option Addr} {m1 m2 m3 c1 c2 c3 : Nat} (h : RsSt w wr r B B1 s st c) (hR : RecIn wr B R (.slice A1 m1 c1) (.slice A2 m2 c2) (.slice A3 m3 c3)) (x : ByteArray) (hx : mk R.name = x) :
    RsEnd w r s R st (.returned (.agg #[.string x, .int .u16 R.kind, .int .u16 R.cls, .int .u32 R.ttl, .slice A1 m1 c1, .slice A2 m2 c2, .slice A3 m3 c3])) (((((((wr.setCell ⟨B, 0, none⟩ (.string x)).setCell ⟨B, 1, none⟩ (.int .u16 R.kind)).setCell ⟨B, 2, none⟩ (.int .u16 R.cls)).setCell ⟨B, 3, none⟩ (.int .u32 R.ttl)).setCell ⟨B, 4, none⟩ (.slice A1 m1 c1)).setCell ⟨B, 5, none⟩ (.slice A2 m2 c2)).setCell ⟨B, 6, none⟩ (.slice A3 m3 c3)) := by
  subst hx
  have hg := setRec_by wr B (.string (mk R.name)) (.int .u16 R.kind) (.int .u16 R.cls) (.int .u32 R.ttl) (.slice A1 m1 c1) (.slice A2 m2 c2) (.slice A3 m3 c3)
  have hb := h.b0
  refine ⟨_, _, _, rfl, ?_, h.rd.other hg (by have := h.rB; omega), ?_⟩
  · rw [h.eB]
    exact ⟨hR.o1.kept hg (row_ne hb hR.o1 (by decide)), hR.o2.kept hg (row_ne hb hR.o2 (by decide)), hR.o3.kept hg (row_ne hb hR.o3 (by decide))⟩
  · exact kept_grown (h.kept.own hg h.sz (fun k e => by injection e with e; omega)) h.eB
set_option maxHeartbeats 4000000 in
set_option maxRecDepth 100000 in
theorem stRecord_any (s : ByteArray) (r p : Nat) (R : Rec) (st' : St) (w : World) (h : StAt w r s (p, 0)) (hs : s.size ≤ 65535) (hp : p ≤ 1000000) (hx : Hid (recS s.data.toList (p, 0) = (R, st'))) :
    Calls Try.prog 27 #[.pointer (some ⟨r, 0, none⟩)] w (RsEnd w r s R st') := by
  have SZ := Lib.hid (Lib.size_eq s)
  have hsl : s.data.toList.length ≤ 1000000 := by rw [← SZ.out]; omega
  obtain ⟨B, hB⟩ : ∃ B, w.heap.size = B := ⟨_, rfl⟩
  obtain ⟨a, st1, h1⟩ : ∃ a st1, nameS s.data.toList (p, 0) = (a, st1) := ⟨_, _, rfl⟩
  have b1 : st1.1 ≤ 1000000 := by have := nameS_le (l := s.data.toList) (N := 1000000) (st := (p, 0)) hp hsl; rw [h1] at this; exact this
  obtain ⟨k, st2, h2⟩ : ∃ k st2, numS s.data.toList 2 st1 = (k, st2) := ⟨_, _, rfl⟩
  have b2 : st2.1 ≤ 1000000 := by have := numS_le (l := s.data.toList) (n := 2) (N := 1000000) (st := st1) b1 hsl; rw [h2] at this; exact this
  have kl : k < 65536 := by have := numS_two (l := s.data.toList) st1; rw [h2] at this; exact this
  obtain ⟨c, st3, h3⟩ : ∃ c st3, numS s.data.toList 2 st2 = (c, st3) := ⟨_, _, rfl⟩
  have b3 : st3.1 ≤ 1000000 := by have := numS_le (l := s.data.toList) (n := 2) (N := 1000000) (st := st2) b2 hsl; rw [h3] at this; exact this
  have cl : c < 65536 := by have := numS_two (l := s.data.toList) st2; rw [h3] at this; exact this
  obtain ⟨t, st4, h4⟩ : ∃ t st4, numS s.data.toList 4 st3 = (t, st4) := ⟨_, _, rfl⟩
  have b4 : st4.1 ≤ 1000000 := by have := numS_le (l := s.data.toList) (n := 4) (N := 1000000) (st := st3) b3 hsl; rw [h4] at this; exact this
  have tl : t < 4294967296 := by have := numS_lt (l := s.data.toList) (n := 4) (by decide) st3; rw [h4] at this; exact this
  obtain ⟨n, st5, h5⟩ : ∃ n st5, numS s.data.toList 2 st4 = (n, st5) := ⟨_, _, rfl⟩
  have b5 : st5.1 ≤ 1000000 := by have := numS_le (l := s.data.toList) (n := 2) (N := 1000000) (st := st4) b4 hsl; rw [h5] at this; exact this
  have nl : n < 65536 := by have := numS_two (l := s.data.toList) st4; rw [h5] at this; exact this
  have hR : (if st5.2 ≠ 0 then ((⟨a, k, c, t, [], [], []⟩ : Rec), st5) else recT s.data.toList a k c t n st5.1) = (R, st') := by
    rw [← hx.out]
    unfold recS
    simp only [h1, h2, h3, h4, h5]
  have HR := Lib.hid hR
  have hrl := h.lt
  have H0 : StAt (w.alloc (.cells #[.string ⟨#[]⟩, .int .u16 0, .int .u16 0, .int .u32 0, .slice none 0 0, .slice none 0 0, .slice none 0 0] 49)) r s (p, 0) := h.held ((Below.refl _ _).alloc (Nat.le_refl _) _)
  have HN := Lib.hid (stName_any s r a (p, 0) st1 _ H0 (by omega) hp h1)
  have HK := Lib.hid (fun w (hd : StAt w r s st1) => stNum_any s r 2 k st1 st2 w hd (by omega) (by decide) (by decide) b1 h2)
  have HC := Lib.hid (fun w (hd : StAt w r s st2) => stNum_any s r 2 c st2 st3 w hd (by omega) (by decide) (by decide) b2 h3)
  have HT := Lib.hid (fun w (hd : StAt w r s st3) => stNum_any s r 4 t st3 st4 w hd (by omega) (by decide) (by decide) b3 h4)
  have HM := Lib.hid (fun w (hd : StAt w r s st4) => stNum_any s r 2 n st4 st5 w hd (by omega) (by decide) (by decide) b4 h5)
  have HB0 : Hid ((w.alloc (.cells #[.string ⟨#[]⟩, .int .u16 0, .int .u16 0, .int .u32 0, .slice none 0 0, .slice none 0 0, .slice none 0 0] 49)).heap[B]? = some (.cells #[.string ⟨#[]⟩, .int .u16 0, .int .u16 0, .int .u32 0, .slice none 0 0, .slice none 0 0, .slice none 0 0] 49 (0, 0))) := by rw [← hB]; exact heap_alloc_new w _
  have HK0 : Hid (Kept B r w (w.alloc (.cells #[.string ⟨#[]⟩, .int .u16 0, .int .u16 0, .int .u32 0, .slice none 0 0, .slice none 0 0, .slice none 0 0] 49))) := (Kept.refl _ _ _).alloc (by omega) _
  have HBL : Hid (B < (w.alloc (.cells #[.string ⟨#[]⟩, .int .u16 0, .int .u16 0, .int .u32 0, .slice none 0 0, .slice none 0 0, .slice none 0 0] 49)).heap.size) := by simp [Hid, hB]
  have hrB : r < B := by omega
  have hN5 : st5.2 = 0 → isN a = true := fun h0 => by
    cases hn : nm s.data.toList s.data.toList.length 2 p p none [] with
    | error x =>
      exfalso
      have hx := nm_ne (by decide) hn
      rw [nameS_no hn] at h1
      injection h1 with _ h1
      have z2 : st2 = st1 := by have := num_keep (l := s.data.toList) (n := 2) (st := st1) (by rw [← h1]; exact hx); rw [h2] at this; exact this
      have z3 : st3 = st2 := by have := num_keep (l := s.data.toList) (n := 2) (st := st2) (by rw [z2, ← h1]; exact hx); rw [h3] at this; exact this
      have z4 : st4 = st3 := by have := num_keep (l := s.data.toList) (n := 4) (st := st3) (by rw [z3, z2, ← h1]; exact hx); rw [h4] at this; exact this
      have z5 : st5 = st4 := by have := num_keep (l := s.data.toList) (n := 2) (st := st4) (by rw [z4, z3, z2, ← h1]; exact hx); rw [h5] at this; exact this
      rw [z5, z4, z3, z2, ← h1] at h0
      exact hx h0
    | ok oq =>
      obtain ⟨o, q⟩ := oq
      rw [nameS_ok hn] at h1
      injection h1 with h1 _
      rw [← h1]
      exact nm_name (Nat.le_refl _) hn
  have HN5 := Lib.hid hN5
  clear hN5
  have HEB := Lib.hid hB
  clear h1 h2 h3 h4 h5 hx hR h H0
  obtain ⟨p5, e5⟩ := st5
  by_cases he : e5 = 0
  · subst he
    have HR2 : Hid (recT s.data.toList a k c t n p5 = (R, st')) := by (show _ = _; rw [← HR.out, if_neg (by simp)])
    have hz : (((0 : Nat) : Int) == 0) = true := rfl
    obtain ⟨d, hd⟩ : ∃ d : Int, (s.size : Int) - p5 = d := ⟨_, rfl⟩
    have hdw : IntKind.i64.wrap ((s.size : Int) - p5) = d := by rw [IntWalk.i64_in _ (by omega)]; exact hd
    by_cases hin : p5 + n ≤ s.size
    · have hRv := HR2.out
      unfold recT at hRv
      rw [if_neg (by rw [← SZ.out]; omega)] at hRv
      obtain ⟨DD, hDD⟩ : ∃ D, datS s.data.toList k (p5 + n) (p5, 0) = D := ⟨_, rfl⟩
      have hsm : DD.st.2 = 0 → Small ⟨a, k, c, t, DD.names, DD.nums, DD.texts⟩ := fun h0 => by
        rw [← hDD] at h0 ⊢
        exact dat_small (HN5.out rfl) (by rw [← SZ.out]; omega) (by omega) (by omega) h0
      rw [hDD] at hRv
      injection hRv with hRa hRb
      have HRA := Lib.hid hRa
      have HRB := Lib.hid hRb
      have HSM := Lib.hid hsm
      obtain ⟨E, hE⟩ : ∃ E, p5 + n = E := ⟨_, rfl⟩
      rw [hE] at hDD
      have HDT := Lib.hid (fun W (hd : StAt W r s (p5, 0)) => data_any s (mk a) r k c t p5 E DD W hd (by omega) (by omega) (by omega) hDD)
      have hEw : IntKind.i64.wrap ((p5 : Int) + (n : Int)) = (E : Int) := by rw [IntWalk.i64_in _ (by omega)]; omega
      have hgt : ¬ d < (n : Int) := by omega
      have hz2 : (((0 : Nat) : Int) != 0) = false := rfl
      obtain ⟨l1, hl1⟩ : ∃ n, DD.names.length = n := ⟨_, rfl⟩
      obtain ⟨l2, hl2⟩ : ∃ n, DD.nums.length = n := ⟨_, rfl⟩
      obtain ⟨l3, hl3⟩ : ∃ n, DD.texts.length = n := ⟨_, rfl⟩
      have HL1 := Lib.hid hl1
      have HL2 := Lib.hid hl2
      have HL3 := Lib.hid hl3
      clear hRa hRb hd hin hDD hsm hE hl1 hl2 hl3
      go_enter Try.func27, Try.ntmps27
      go_wp2_with fail
      refine HN.out.mono ?_
      rintro e w1 ⟨rfl, hD, hG⟩
      obtain ⟨B1, hB1⟩ : ∃ B, w1.heap.size = B := ⟨_, rfl⟩
      have HS := Lib.hid (rsSt_start w w1 r B B1 s st1 (recC (mk a) 0 0 0 (.slice none 0 0) (.slice none 0 0) (.slice none 0 0)) HEB.out hrB hB1 (by rw [← hB1]; exact Nat.lt_of_lt_of_le HBL.out hG.size) hD ((grown_block hG HBL.out (by omega)).trans HB0.out) (HK0.out.grown hG (by have := HBL.out; omega)))
      clear hD hG HN
      go_wp2_with fail
      clear hB1
      generalize w1.alloc (.cells (recC (mk a) 0 0 0 (.slice none 0 0) (.slice none 0 0) (.slice none 0 0)) 49) = wa at HS ⊢
      refine (HK.out _ HS.out.rd).mono ?_
      rintro e w2 ⟨rfl, hD, hG⟩
      have hst := HS.out.call hD hG
      have x1 := cell_of_row _ _ 1 _ _ _ hst.b1
      have xf : ∀ i, w2.frozen? ⟨B1, i, none⟩ = false := fun i => by simp [World.frozen?, hst.b1]
      have hst2 : RsSt w (w2.setCell ⟨B1, 1, none⟩ (.int .u16 k)) r B B1 s _ (recC (mk a) k 0 0 (.slice none 0 0) (.slice none 0 0) (.slice none 0 0)) := hst.set 1 (.int .u16 k)
      have HS2 := Lib.hid hst2
      clear hD hG hst hst2 HK
      go_wp2_with fail
      clear x1 xf
      generalize w2.setCell ⟨B1, 1, none⟩ (.int .u16 k) = wb2 at HS2 ⊢
      clear HS
      have HS := HS2
      clear HS2
      refine (HC.out _ HS.out.rd).mono ?_
      rintro e w3 ⟨rfl, hD, hG⟩
      have hst := HS.out.call hD hG
      have x2 := cell_of_row _ _ 2 _ _ _ hst.b1
      have xf : ∀ i, w3.frozen? ⟨B1, i, none⟩ = false := fun i => by simp [World.frozen?, hst.b1]
      have hst2 : RsSt w (w3.setCell ⟨B1, 2, none⟩ (.int .u16 c)) r B B1 s _ (recC (mk a) k c 0 (.slice none 0 0) (.slice none 0 0) (.slice none 0 0)) := hst.set 2 (.int .u16 c)
      have HS2 := Lib.hid hst2
      clear hD hG hst hst2 HC
      go_wp2_with fail
      clear x2 xf
      generalize w3.setCell ⟨B1, 2, none⟩ (.int .u16 c) = wb3 at HS2 ⊢
      clear HS
      have HS := HS2
      clear HS2
      refine (HT.out _ HS.out.rd).mono ?_
      rintro e w4 ⟨rfl, hD, hG⟩
      have hst := HS.out.call hD hG
      have x3 := cell_of_row _ _ 3 _ _ _ hst.b1
      have xf : ∀ i, w4.frozen? ⟨B1, i, none⟩ = false := fun i => by simp [World.frozen?, hst.b1]
      have hst2 : RsSt w (w4.setCell ⟨B1, 3, none⟩ (.int .u32 t)) r B B1 s _ (recC (mk a) k c t (.slice none 0 0) (.slice none 0 0) (.slice none 0 0)) := hst.set 3 (.int .u32 t)
      have HS2 := Lib.hid hst2
      clear hD hG hst hst2 HT
      go_wp2_with fail
      clear x3 xf
      generalize w4.setCell ⟨B1, 3, none⟩ (.int .u32 t) = wb4 at HS2 ⊢
      clear HS
      have HS := HS2
      clear HS2
      refine (HM.out _ HS.out.rd).mono ?_
      rintro e w5 ⟨rfl, hD, hG⟩
      have HS5 := Lib.hid (HS.out.call hD hG)
      clear hD hG HM HS
      have y0 := HS5.out.rd.c0
      have y1 := HS5.out.rd.c1
      have y2 := HS5.out.rd.c2
      simp only at y1 y2
      go_wp2_with fail
      go_quiet (fail)
      clear hdw
      have HSd : Hid (RsSt w ((w5.drewN nq).drew) r B B1 s (p5, 0) (recC (mk a) k c t (.slice none 0 0) (.slice none 0 0) (.slice none 0 0))) := (HS5.out.drewN nq).drew
      have g0 := cell_of_row _ _ 0 _ _ _ HS5.out.b1
      have g1 := cell_of_row _ _ 1 _ _ _ HS5.out.b1
      have g2 := cell_of_row _ _ 2 _ _ _ HS5.out.b1
      have g3 := cell_of_row _ _ 3 _ _ _ HS5.out.b1
      have g4 := cell_of_row _ _ 4 _ _ _ HS5.out.b1
      have g5 := cell_of_row _ _ 5 _ _ _ HS5.out.b1
      have g6 := cell_of_row _ _ 6 _ _ _ HS5.out.b1
      go_upto_region 10 with fail
      go_cut [] from 50 to 58 (fun wx => ∃ A1 c1 A2 c2 A3 c3, Hid (RsSt w wx r B B1 s DD.st (recC (mk a) k c t (.slice A1 l1 c1) (.slice A2 l2 c2) (.slice A3 l3 c3))) ∧ Hid (RecIn wx B ⟨a, k, c, t, DD.names, DD.nums, DD.texts⟩ (.slice A1 l1 c1) (.slice A2 l2 c2) (.slice A3 l3 c3)))
      case first =>
        go_region_with (go_at_call 54; refine (HDT.out _ HSd.out.rd).mono ?_; rintro e wd ⟨v1, v2, v3, rfl, hO1, hO2, hO3, hD, hG⟩; have hRI : RecIn wd B ⟨a, k, c, t, DD.names, DD.nums, DD.texts⟩ v1 v2 v3 := ⟨row_low hO1 HSd.out.sz, row_low hO2 HSd.out.sz, row_low hO3 HSd.out.sz⟩; obtain ⟨A1, c1, A2, c2, A3, c3, rfl, rfl, rfl, _⟩ := hRI.at_; have hst := HSd.out.call hD hG; have q0 := cell_of_row _ _ 0 _ _ _ hst.b1; have q1 := cell_of_row _ _ 1 _ _ _ hst.b1; have q2 := cell_of_row _ _ 2 _ _ _ hst.b1; have q3 := cell_of_row _ _ 3 _ _ _ hst.b1; have q4 := cell_of_row _ _ 4 _ _ _ hst.b1; have q5 := cell_of_row _ _ 5 _ _ _ hst.b1; have q6 := cell_of_row _ _ 6 _ _ _ hst.b1; have qf := hst.f1; have HST := Lib.hid hst; have HRI := Lib.hid hRI; clear hst hRI hO1 hO2 hO3 hD hG)
        all_goals
          clear hEw q0 q1 q2 q3 q4 q5 q6 qf
          go_wp2_with fail
          go_meet
          have hgr := setRec_by wd B1 (.string (mk a)) (.int .u16 k) (.int .u16 c) (.int .u32 t) (.slice A1 DD.names.length c1) (.slice A2 DD.nums.length c2) (.slice A3 DD.texts.length c3)
          have h1 := HST.out.setRec (mk a) k c t (.slice A1 DD.names.length c1) (.slice A2 DD.nums.length c2) (.slice A3 DD.texts.length c3)
          have h2 : RecIn _ B ⟨a, k, c, t, DD.names, DD.nums, DD.texts⟩ (.slice A1 DD.names.length c1) (.slice A2 DD.nums.length c2) (.slice A3 DD.texts.length c3) := HRI.out.block HST.out.b1 hgr (by decide) (by decide)
          rw [HL1.out, HL2.out, HL3.out] at h1 h2 ⊢
          exact ⟨A1, c1, A2, c2, A3, c3, h1, h2⟩
      case rest =>
        clear hEw HSd g0 g1 g2 g3 g4 g5 g6 HDT y0 y1 y2 HS5
        obtain ⟨A1, c1, A2, c2, A3, c3, HF, HRI⟩ := hcut
        obtain ⟨wz, rfl⟩ : ∃ wz : World, wz = wc := ⟨_, rfl⟩
        have y2 := HF.out.rd.c2
        obtain ⟨⟨pd, ed⟩, hpd⟩ : ∃ st, DD.st = st := ⟨_, rfl⟩
        rw [hpd] at y2 HF HRB HSM
        simp only at y2
        clear hpd
        have e0 := cell_of_row _ _ 0 _ _ _ HF.out.b0
        have e1 := cell_of_row _ _ 1 _ _ _ HF.out.b0
        have e2 := cell_of_row _ _ 2 _ _ _ HF.out.b0
        have e3 := cell_of_row _ _ 3 _ _ _ HF.out.b0
        have e4 := cell_of_row _ _ 4 _ _ _ HF.out.b0
        have e5' := cell_of_row _ _ 5 _ _ _ HF.out.b0
        have e6 := cell_of_row _ _ 6 _ _ _ HF.out.b0
        have ef := HF.out.f0
        have g0 := cell_of_row _ _ 0 _ _ _ HF.out.b1
        have g1 := cell_of_row _ _ 1 _ _ _ HF.out.b1
        have g2 := cell_of_row _ _ 2 _ _ _ HF.out.b1
        have g3 := cell_of_row _ _ 3 _ _ _ HF.out.b1
        have g4 := cell_of_row _ _ 4 _ _ _ HF.out.b1
        have g5 := cell_of_row _ _ 5 _ _ _ HF.out.b1
        have g6 := cell_of_row _ _ 6 _ _ _ HF.out.b1
        by_cases hed : ed = 0
        · subst hed
          have hsm := HSM.out rfl
          obtain ⟨E0, hE0⟩ : ∃ E0, checkE ⟨a, k, c, t, DD.names, DD.nums, DD.texts⟩ = E0 := ⟨_, rfl⟩
          have hrb : (pd, E0) = st' := by rw [← HRB.out, ← hE0]; rfl
          have HRB2 := Lib.hid hrb
          obtain ⟨A1', c1', A2', c2', A3', c3', q1, q2, q3, hat⟩ := HRI.out.at_
          injection q1 with q1a q1b q1c
          injection q2 with q2a q2b q2c
          injection q3 with q3a q3b q3c
          rw [← q1a, ← q2a, ← q3a] at hat
          simp only at hat
          rw [HL1.out, HL2.out, HL3.out] at hat
          have HCK := Lib.hid (refCheck_is ⟨a, k, c, t, DD.names, DD.nums, DD.texts⟩ (mk a) k c t A1 l1 c1 A2 l2 c2 A3 l3 c3 E0 wz hat hsm hE0)
          clear hrb q1a q1b q1c q2a q2b q2c q3a q3b q3c hat hsm hE0 HSM e0 e1 e2 e3 e4 e5' e6 ef
          go_wp2_with fail
          refine HCK.out.mono ?_
          rintro e wy ⟨rfl, hB⟩
          have hF2 := HF.out.below hB
          have xf2 := hF2.rd.fz 2
          have x2 := hF2.rd.c2
          simp only at x2
          have HF0 := HF
          clear HF
          have HF : Hid (RsSt w (wy.setCell ⟨r, 2, none⟩ (.int .i64 E0)) r B B1 s (pd, E0) (recC (mk a) k c t (.slice A1 l1 c1) (.slice A2 l2 c2) (.slice A3 l3 c3))) := hF2.setErr E0
          have hg2 := only_setCell (grown_refl wy (some r)) (p := ⟨r, 2, none⟩) (.inl rfl) (.int .i64 (E0 : Int))
          have HRI2 : Hid (RecIn (wy.setCell ⟨r, 2, none⟩ (.int .i64 E0)) B ⟨a, k, c, t, DD.names, DD.nums, DD.texts⟩ (.slice A1 l1 c1) (.slice A2 l2 c2) (.slice A3 l3 c3)) := (HRI.out.below hB).block hF2.rd hg2 (by decide) (by decide)
          clear hF2 hB HCK HRI g0 g1 g2 g3 g4 g5 g6
          have e0 := cell_of_row _ _ 0 _ _ _ HF.out.b0
          have e1 := cell_of_row _ _ 1 _ _ _ HF.out.b0
          have e2 := cell_of_row _ _ 2 _ _ _ HF.out.b0
          have e3 := cell_of_row _ _ 3 _ _ _ HF.out.b0
          have e4 := cell_of_row _ _ 4 _ _ _ HF.out.b0
          have e5' := cell_of_row _ _ 5 _ _ _ HF.out.b0
          have e6 := cell_of_row _ _ 6 _ _ _ HF.out.b0
          have ef := HF.out.f0
          have g0 := cell_of_row _ _ 0 _ _ _ HF.out.b1
          have g1 := cell_of_row _ _ 1 _ _ _ HF.out.b1
          have g2 := cell_of_row _ _ 2 _ _ _ HF.out.b1
          have g3 := cell_of_row _ _ 3 _ _ _ HF.out.b1
          have g4 := cell_of_row _ _ 4 _ _ _ HF.out.b1
          have g5 := cell_of_row _ _ 5 _ _ _ HF.out.b1
          have g6 := cell_of_row _ _ 6 _ _ _ HF.out.b1
          go_wp2_with fail
          refine bodyPost_ret (v := .agg #[.string (mk a), .int .u16 k, .int .u16 c, .int .u32 t, .slice A1 l1 c1, .slice A2 l2 c2, .slice A3 l3 c3]) (by simp [results, Try.results27, go_sem, e0, e1, e2, e3, e4, e5', e6]) rfl ?_
          rw [← HRA.out, ← HRB2.out]
          exact rs_end HF.out HRI2.out (mk a) rfl
        · have hz1 : ((ed : Int) == 0) = false := beq_eq_false_iff_ne.2 (by omega)
          have hrb : (pd, ed) = st' := by
            have := HRB.out
            rw [if_neg hed] at this
            exact this
          have HRB2 := Lib.hid hrb
          clear hrb hed HRB HSM
          go_wp2_with fail
          refine bodyPost_ret (v := .agg #[.string (mk a), .int .u16 k, .int .u16 c, .int .u32 t, .slice A1 l1 c1, .slice A2 l2 c2, .slice A3 l3 c3]) (by simp [results, Try.results27, go_sem, e0, e1, e2, e3, e4, e5', e6]) rfl ?_
          rw [← HRA.out, ← HRB2.out]
          exact rs_end HF.out HRI.out (mk a) rfl
    · have hRv := HR2.out
      unfold recT at hRv
      rw [if_pos (by rw [← SZ.out]; omega)] at hRv
      injection hRv with hRa hRb
      have HRA := Lib.hid hRa
      have HRB := Lib.hid hRb
      have hgt : d < (n : Int) := by omega
      clear hRa hRb hd hin
      go_enter Try.func27, Try.ntmps27
      go_wp2_with fail
      refine HN.out.mono ?_
      rintro e w1 ⟨rfl, hD, hG⟩
      obtain ⟨B1, hB1⟩ : ∃ B, w1.heap.size = B := ⟨_, rfl⟩
      have HS := Lib.hid (rsSt_start w w1 r B B1 s st1 (recC (mk a) 0 0 0 (.slice none 0 0) (.slice none 0 0) (.slice none 0 0)) HEB.out hrB hB1 (by rw [← hB1]; exact Nat.lt_of_lt_of_le HBL.out hG.size) hD ((grown_block hG HBL.out (by omega)).trans HB0.out) (HK0.out.grown hG (by have := HBL.out; omega)))
      clear hD hG HN
      go_wp2_with fail
      clear hB1
      generalize w1.alloc (.cells (recC (mk a) 0 0 0 (.slice none 0 0) (.slice none 0 0) (.slice none 0 0)) 49) = wa at HS ⊢
      refine (HK.out _ HS.out.rd).mono ?_
      rintro e w2 ⟨rfl, hD, hG⟩
      have hst := HS.out.call hD hG
      have x1 := cell_of_row _ _ 1 _ _ _ hst.b1
      have xf : ∀ i, w2.frozen? ⟨B1, i, none⟩ = false := fun i => by simp [World.frozen?, hst.b1]
      have hst2 : RsSt w (w2.setCell ⟨B1, 1, none⟩ (.int .u16 k)) r B B1 s _ (recC (mk a) k 0 0 (.slice none 0 0) (.slice none 0 0) (.slice none 0 0)) := hst.set 1 (.int .u16 k)
      have HS2 := Lib.hid hst2
      clear hD hG hst hst2 HK
      go_wp2_with fail
      clear x1 xf
      generalize w2.setCell ⟨B1, 1, none⟩ (.int .u16 k) = wb2 at HS2 ⊢
      clear HS
      have HS := HS2
      clear HS2
      refine (HC.out _ HS.out.rd).mono ?_
      rintro e w3 ⟨rfl, hD, hG⟩
      have hst := HS.out.call hD hG
      have x2 := cell_of_row _ _ 2 _ _ _ hst.b1
      have xf : ∀ i, w3.frozen? ⟨B1, i, none⟩ = false := fun i => by simp [World.frozen?, hst.b1]
      have hst2 : RsSt w (w3.setCell ⟨B1, 2, none⟩ (.int .u16 c)) r B B1 s _ (recC (mk a) k c 0 (.slice none 0 0) (.slice none 0 0) (.slice none 0 0)) := hst.set 2 (.int .u16 c)
      have HS2 := Lib.hid hst2
      clear hD hG hst hst2 HC
      go_wp2_with fail
      clear x2 xf
      generalize w3.setCell ⟨B1, 2, none⟩ (.int .u16 c) = wb3 at HS2 ⊢
      clear HS
      have HS := HS2
      clear HS2
      refine (HT.out _ HS.out.rd).mono ?_
      rintro e w4 ⟨rfl, hD, hG⟩
      have hst := HS.out.call hD hG
      have x3 := cell_of_row _ _ 3 _ _ _ hst.b1
      have xf : ∀ i, w4.frozen? ⟨B1, i, none⟩ = false := fun i => by simp [World.frozen?, hst.b1]
      have hst2 : RsSt w (w4.setCell ⟨B1, 3, none⟩ (.int .u32 t)) r B B1 s _ (recC (mk a) k c t (.slice none 0 0) (.slice none 0 0) (.slice none 0 0)) := hst.set 3 (.int .u32 t)
      have HS2 := Lib.hid hst2
      clear hD hG hst hst2 HT
      go_wp2_with fail
      clear x3 xf
      generalize w4.setCell ⟨B1, 3, none⟩ (.int .u32 t) = wb4 at HS2 ⊢
      clear HS
      have HS := HS2
      clear HS2
      refine (HM.out _ HS.out.rd).mono ?_
      rintro e w5 ⟨rfl, hD, hG⟩
      have HS5 := Lib.hid (HS.out.call hD hG)
      clear hD hG HM HS
      have y0 := HS5.out.rd.c0
      have y1 := HS5.out.rd.c1
      have y2 := HS5.out.rd.c2
      simp only at y1 y2
      go_wp2_with fail
      go_quiet (fail)
      have HS6 : Hid (RsSt w ((w5.drewN nq).setCell ⟨r, 2, none⟩ (.int .i64 2)) r B B1 s (p5, 2) (recC (mk a) k c t (.slice none 0 0) (.slice none 0 0) (.slice none 0 0))) := (HS5.out.drewN nq).setErr 2
      have xf2 : World.frozen? (w5.drewN nq) ⟨r, 2, none⟩ = false := (HS5.out.drewN nq).rd.fz 2
      have z2 : World.cell? ((w5.drewN nq).setCell ⟨r, 2, none⟩ (.int .i64 2)) ⟨r, 2, none⟩ = some (.int .i64 2) := HS6.out.rd.c2
      have HF := HS6
      have e0 := cell_of_row _ _ 0 _ _ _ HF.out.b0
      have e1 := cell_of_row _ _ 1 _ _ _ HF.out.b0
      have e2 := cell_of_row _ _ 2 _ _ _ HF.out.b0
      have e3 := cell_of_row _ _ 3 _ _ _ HF.out.b0
      have e4 := cell_of_row _ _ 4 _ _ _ HF.out.b0
      have e5' := cell_of_row _ _ 5 _ _ _ HF.out.b0
      have e6 := cell_of_row _ _ 6 _ _ _ HF.out.b0
      have ef := HF.out.f0
      have g0 := cell_of_row _ _ 0 _ _ _ HF.out.b1
      have g1 := cell_of_row _ _ 1 _ _ _ HF.out.b1
      have g2 := cell_of_row _ _ 2 _ _ _ HF.out.b1
      have g3 := cell_of_row _ _ 3 _ _ _ HF.out.b1
      have g4 := cell_of_row _ _ 4 _ _ _ HF.out.b1
      have g5 := cell_of_row _ _ 5 _ _ _ HF.out.b1
      have g6 := cell_of_row _ _ 6 _ _ _ HF.out.b1
      have HNIL : Hid (RecIn ((w5.drewN nq).setCell ⟨r, 2, none⟩ (.int .i64 2)) B ⟨a, k, c, t, [], [], []⟩ (.slice none 0 0) (.slice none 0 0) (.slice none 0 0)) := ⟨World.ownsRow_nil _ _ _ _, World.ownsRow_nil _ _ _ _, World.ownsRow_nil _ _ _ _⟩
      go_wp2_with fail
      refine bodyPost_ret (v := .agg #[.string (mk a), .int .u16 k, .int .u16 c, .int .u32 t, .slice none 0 0, .slice none 0 0, .slice none 0 0]) (by simp [results, Try.results27, go_sem, e0, e1, e2, e3, e4, e5', e6]) rfl ?_
      rw [← HRA.out, ← HRB.out]
      exact rs_end HF.out HNIL.out (mk a) rfl
  · have hRv := HR.out
    rw [if_pos he] at hRv
    injection hRv with hRa hRb
    have HRA := Lib.hid hRa
    have HRB := Lib.hid hRb
    have hz : ((e5 : Int) == 0) = false := beq_eq_false_iff_ne.2 (by omega)
    have hz2 : ((e5 : Int) != 0) = true := bne_iff_ne.2 (by omega)
    clear hRa hRb he HR
    go_enter Try.func27, Try.ntmps27
    go_wp2_with fail
    refine HN.out.mono ?_
    rintro e w1 ⟨rfl, hD, hG⟩
    obtain ⟨B1, hB1⟩ : ∃ B, w1.heap.size = B := ⟨_, rfl⟩
    have HS := Lib.hid (rsSt_start w w1 r B B1 s st1 (recC (mk a) 0 0 0 (.slice none 0 0) (.slice none 0 0) (.slice none 0 0)) HEB.out hrB hB1 (by rw [← hB1]; exact Nat.lt_of_lt_of_le HBL.out hG.size) hD ((grown_block hG HBL.out (by omega)).trans HB0.out) (HK0.out.grown hG (by have := HBL.out; omega)))
    clear hD hG HN
    go_wp2_with fail
    clear hB1
    generalize w1.alloc (.cells (recC (mk a) 0 0 0 (.slice none 0 0) (.slice none 0 0) (.slice none 0 0)) 49) = wa at HS ⊢
    refine (HK.out _ HS.out.rd).mono ?_
    rintro e w2 ⟨rfl, hD, hG⟩
    have hst := HS.out.call hD hG
    have x1 := cell_of_row _ _ 1 _ _ _ hst.b1
    have xf : ∀ i, w2.frozen? ⟨B1, i, none⟩ = false := fun i => by simp [World.frozen?, hst.b1]
    have hst2 : RsSt w (w2.setCell ⟨B1, 1, none⟩ (.int .u16 k)) r B B1 s _ (recC (mk a) k 0 0 (.slice none 0 0) (.slice none 0 0) (.slice none 0 0)) := hst.set 1 (.int .u16 k)
    have HS2 := Lib.hid hst2
    clear hD hG hst hst2 HK
    go_wp2_with fail
    clear x1 xf
    generalize w2.setCell ⟨B1, 1, none⟩ (.int .u16 k) = wb2 at HS2 ⊢
    clear HS
    have HS := HS2
    clear HS2
    refine (HC.out _ HS.out.rd).mono ?_
    rintro e w3 ⟨rfl, hD, hG⟩
    have hst := HS.out.call hD hG
    have x2 := cell_of_row _ _ 2 _ _ _ hst.b1
    have xf : ∀ i, w3.frozen? ⟨B1, i, none⟩ = false := fun i => by simp [World.frozen?, hst.b1]
    have hst2 : RsSt w (w3.setCell ⟨B1, 2, none⟩ (.int .u16 c)) r B B1 s _ (recC (mk a) k c 0 (.slice none 0 0) (.slice none 0 0) (.slice none 0 0)) := hst.set 2 (.int .u16 c)
    have HS2 := Lib.hid hst2
    clear hD hG hst hst2 HC
    go_wp2_with fail
    clear x2 xf
    generalize w3.setCell ⟨B1, 2, none⟩ (.int .u16 c) = wb3 at HS2 ⊢
    clear HS
    have HS := HS2
    clear HS2
    refine (HT.out _ HS.out.rd).mono ?_
    rintro e w4 ⟨rfl, hD, hG⟩
    have hst := HS.out.call hD hG
    have x3 := cell_of_row _ _ 3 _ _ _ hst.b1
    have xf : ∀ i, w4.frozen? ⟨B1, i, none⟩ = false := fun i => by simp [World.frozen?, hst.b1]
    have hst2 : RsSt w (w4.setCell ⟨B1, 3, none⟩ (.int .u32 t)) r B B1 s _ (recC (mk a) k c t (.slice none 0 0) (.slice none 0 0) (.slice none 0 0)) := hst.set 3 (.int .u32 t)
    have HS2 := Lib.hid hst2
    clear hD hG hst hst2 HT
    go_wp2_with fail
    clear x3 xf
    generalize w4.setCell ⟨B1, 3, none⟩ (.int .u32 t) = wb4 at HS2 ⊢
    clear HS
    have HS := HS2
    clear HS2
    refine (HM.out _ HS.out.rd).mono ?_
    rintro e w5 ⟨rfl, hD, hG⟩
    have HS5 := Lib.hid (HS.out.call hD hG)
    clear hD hG HM HS
    have y0 := HS5.out.rd.c0
    have y1 := HS5.out.rd.c1
    have y2 := HS5.out.rd.c2
    simp only at y1 y2
    go_wp2_with fail
    go_quiet (fail)
    have HF := HS5
    have e0 := cell_of_row _ _ 0 _ _ _ HF.out.b0
    have e1 := cell_of_row _ _ 1 _ _ _ HF.out.b0
    have e2 := cell_of_row _ _ 2 _ _ _ HF.out.b0
    have e3 := cell_of_row _ _ 3 _ _ _ HF.out.b0
    have e4 := cell_of_row _ _ 4 _ _ _ HF.out.b0
    have e5' := cell_of_row _ _ 5 _ _ _ HF.out.b0
    have e6 := cell_of_row _ _ 6 _ _ _ HF.out.b0
    have ef := HF.out.f0
    have g0 := cell_of_row _ _ 0 _ _ _ HF.out.b1
    have g1 := cell_of_row _ _ 1 _ _ _ HF.out.b1
    have g2 := cell_of_row _ _ 2 _ _ _ HF.out.b1
    have g3 := cell_of_row _ _ 3 _ _ _ HF.out.b1
    have g4 := cell_of_row _ _ 4 _ _ _ HF.out.b1
    have g5 := cell_of_row _ _ 5 _ _ _ HF.out.b1
    have g6 := cell_of_row _ _ 6 _ _ _ HF.out.b1
    have HNIL : Hid (RecIn (w5.drewN nq) B ⟨a, k, c, t, [], [], []⟩ (.slice none 0 0) (.slice none 0 0) (.slice none 0 0)) := ⟨World.ownsRow_nil _ _ _ _, World.ownsRow_nil _ _ _ _, World.ownsRow_nil _ _ _ _⟩
    go_wp2_with fail
    refine bodyPost_ret (v := .agg #[.string (mk a), .int .u16 k, .int .u16 c, .int .u32 t, .slice none 0 0, .slice none 0 0, .slice none 0 0]) (by simp [results, Try.results27, go_sem, e0, e1, e2, e3, e4, e5', e6]) rfl ?_
    rw [← HRA.out, ← HRB.out]
    exact rs_end (HF.out.drewN nq) HNIL.out (mk a) rfl
end Go.Proofs.Ytihkmdojakalbaa
