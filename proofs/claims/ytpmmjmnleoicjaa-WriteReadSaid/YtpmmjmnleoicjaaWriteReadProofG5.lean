/- Texts of one proof, one behind the other: RdrSkip, RdrData, RdrNums, RdrNames, RdrTexts, RefSameNone. -/
import Derived.Test.YtpmmjmnleoicjaaProg
import Derived.Test.YtpmmjmnleoicjaaBytes
import Derived.Test.YtpmmjmnleoicjaaNmMath
import Derived.Test.YtpmmjmnleoicjaaNmAt
import Derived.Test.YtpmmjmnleoicjaaWriteReadProofG1
import Derived.Test.YtpmmjmnleoicjaaKept
import Derived.Test.YtpmmjmnleoicjaaRdr
import Derived.Test.YtpmmjmnleoicjaaRdrText
import Derived.Test.YtpmmjmnleoicjaaStrs
import Derived.Test.YtpmmjmnleoicjaaNums
import Derived.Test.YtpmmjmnleoicjaaMsgMath
import Derived.Test.YtpmmjmnleoicjaaOwnRow
import Derived.Test.YtpmmjmnleoicjaaRdrName
import Derived.Test.YtpmmjmnleoicjaaRdrPart
import Derived.Test.YtpmmjmnleoicjaaRecMath
import Derived.Test.YtpmmjmnleoicjaaRdrRead
import Derived.WalkKit
import Derived.Lib.Hide
import Derived.Laws.Rows
import Derived.Outline
import Derived.IntWalk
import Derived.WalkSpells
import Derived.WalkLawsBesides
import Derived.RegionTactic
import Derived.ChangeAlike
import Derived.Laws.AppendOwn

/- The contracts of a message's reader: what is gone by, and whether a name ends. For texts of at most 10^6 bytes. -/
namespace Go.Proofs.Ytpmmjmnleoicjaa
open Go.RowKit NumMath NmMath Bytes StMath

theorem skip_yes (a s : ByteArray) (r p n k : Nat) (w : World) (h : RdrAt w r a s p k) (hp : p + n ≤ s.size) (hs : s.size ≤ 1000000) :
    Calls Try.prog 135 #[.pointer (some ⟨r, 0, none⟩), .int .i64 n] w fun e w' => e = .returned (.tuple #[]) ∧ RdrAt w' r a s ((p + n : Nat) : Int) k ∧ w.grownBy w' (some r) := by
  have h2 := h.c2
  have hf := h.f2 2
  have HL := Lib.hid (left_any a s r p k w h (by omega) hs)
  have H := Lib.hid h
  clear h
  have hlt : ¬ ((s.size : Int) - p < (n : Int)) := by omega
  go_enter Try.func135, Try.ntmps135
  go_wp2_with fail
  refine HL.out.mono ?_
  rintro e w1 ⟨rfl, m, rfl⟩
  have HD := Lib.hid ((H.out.drewN m).set ((p + n : Nat) : Int))
  have HG := Lib.hid (only_setCell (g := r) (grown_drewN (grown_refl w (some r)) m) (p := ⟨r, 2, none⟩) (.inl rfl) (.int .i64 ((p + n : Nat) : Int)))
  go_wp2_with fail
  go_end0
  exact ⟨rfl, HD.out, HG.out⟩

theorem skip_no (a s : ByteArray) (r p n k : Nat) (w : World) (h : RdrAt w r a s p k) (hp : p ≤ s.size) (hn : s.size < p + n) (hs : s.size ≤ 1000000) :
    Calls Try.prog 135 #[.pointer (some ⟨r, 0, none⟩), .int .i64 n] w fun e w' => e = gave k ∧ ∃ m, w' = w.drewN m := by
  have h3 := h.c3
  have HL := Lib.hid (left_any a s r p k w h hp hs)
  clear h
  have hlt : (s.size : Int) - p < (n : Int) := by omega
  go_enter Try.func135, Try.ntmps135
  go_wp2_with fail
  refine HL.out.mono ?_
  rintro e w1 ⟨rfl, m, rfl⟩
  go_wp2_with fail
  exact ⟨rfl, rfl, _, rfl⟩

theorem below_drewN {B : Nat} {w w' : World} (h : Below B w w') (n : Nat) : Below B w (w'.drewN n) := ⟨h.os, h.tape, h.output, h.size, h.block⟩
/-- A name ends, or the reading gave up; nothing that stood has changed. -/
def EndsEnd (w : World) (k : Nat) : Bool → Ending → World → Prop
  | true, e, w' => e = .returned (.tuple #[]) ∧ Below w.heap.size w w'
  | false, e, w' => e = gave k ∧ Below w.heap.size w w'
/-- The place of a reader. -/
def placeOf (w : World) (B : Nat) : Nat :=
  match w.cell? ⟨B, 2, none⟩ with
  | some (.int _ n) => n.toNat
  | _ => 0
theorem placeOf_at {w : World} {B k : Nat} {a s : ByteArray} {p : Int} (h : RdrAt w B a s p k) : placeOf w B = p.toNat := by
  unfold placeOf
  rw [h.c2]

set_option maxHeartbeats 2000000 in
set_option maxRecDepth 100000 in
theorem ended_any (a s : ByteArray) (r k p0 : Nat) (b : Bool) (w : World) (h : RdrAt w r a s p0 k) (hs : s.size ≤ 1000000) (hp0 : p0 ≤ 1000000) (hb : Hid (StMath.ends s.data.toList s.size p0 = b)) :
    Calls Try.prog 138 #[.pointer (some ⟨r, 0, none⟩)] w (EndsEnd w k b) := by
  have SZ := Lib.hid (Lib.size_eq s)
  have h0 := h.c0
  have h1 := h.c1
  have h2 := h.c2
  have h3 := h.c3
  clear h
  obtain ⟨B, hB⟩ : ∃ B, w.heap.size = B := ⟨_, rfl⟩
  have HA : Hid (RdrAt (w.alloc (.cells #[.string a, .string s, .int .i64 p0, .int .i64 k] 91)) B a s p0 k) := by
    rw [← hB]; exact heap_alloc_new w _
  have HB0 : Hid (Below B w (w.alloc (.cells #[.string a, .string s, .int .i64 p0, .int .i64 k] 91))) := (Below.refl _ _).alloc (by omega) _
  have HG := Lib.hid hB
  go_enter Try.func138, Try.ntmps138
  go_wp2_with fail
  clear h0 h1 h2 h3
  generalize w.alloc (.cells #[.string a, .string s, .int .i64 p0, .int .i64 k] 91) = w2 at HA HB0 ⊢
  clear hB
  go_loopw [3] (fun _ wr => ∃ q : Nat, q ≤ 1000000 ∧ Hid (RdrAt wr B a s q k) ∧ Hid (StMath.ends s.data.toList s.size q = b) ∧ Hid (Below B w wr)) (fun _ wr => s.size - placeOf wr B)
  case atStart => exact ⟨p0, hp0, HA, hb, HB0⟩
  case round =>
    obtain ⟨q, hq, hD, hE, hK⟩ := hrel
    have hpl := placeOf_at hD.out
    have HP := Lib.hid hpl
    clear hpl
    by_cases hlt : q < s.size
    · have hpl : q < s.data.toList.length := by rw [← SZ.out]; exact hlt
      obtain ⟨x, hx⟩ : ∃ x, bt s.data.toList q = x := ⟨_, rfl⟩
      have hxl : x < 256 := by rw [← hx]; exact bt_lt _ _
      have hbe : Hid (be ((s.data.toList.drop q).take 1) = x) := by rw [be_bt hpl]; exact hx
      have HN := Lib.hid (number_yes a s B q 1 k x wr hD.out (by decide) (by decide) (by omega) hs hbe)
      clear hbe
      by_cases h192 : 192 ≤ x
      · have hbv : Hid (b = decide (q + 2 ≤ s.size)) := by (show _ = _; rw [← hE.out]; exact ends_ptr hlt (by rw [hx]; exact h192))
        have hge : (192 : Int) ≤ x := by omega
        by_cases hin : q + 2 ≤ s.size
        · have hbt : b = true := by rw [hbv.out]; exact decide_eq_true hin
          subst hbt
          clear hx hpl h192 hbv
          go_wp2_with fail
          refine HN.out.mono ?_
          rintro e w3 ⟨rfl, hD3, hG3⟩
          have HS := Lib.hid (skip_yes a s B (q + 1) 1 k w3 (by exact hD3) (by omega) hs)
          have HK3 := Lib.hid (below_of_grown hK.out hG3 (Nat.le_refl _) (by have := hD.out.lt; omega))
          have HZ3 : Hid (B ≤ w3.heap.size) := by have := hD3.lt; show _ ≤ _; omega
          clear hD3 hG3 HN
          go_wp2_with fail
          refine HS.out.mono ?_
          rintro e w4 ⟨rfl, hD4, hG4⟩
          have HK4 := Lib.hid (below_of_grown HK3.out hG4 (Nat.le_refl _) HZ3.out)
          clear hD4 hG4 HS
          go_wp2_with fail
          go_end0
          refine ⟨rfl, ?_⟩
          rw [HG.out]
          exact HK4.out
        · have hbt : b = false := by rw [hbv.out]; exact decide_eq_false hin
          subst hbt
          clear hx hpl h192 hbv
          go_wp2_with fail
          refine HN.out.mono ?_
          rintro e w3 ⟨rfl, hD3, hG3⟩
          have HS := Lib.hid (skip_no a s B (q + 1) 1 k w3 (by exact hD3) (by omega) (by omega) hs)
          have HK3 := Lib.hid (below_of_grown hK.out hG3 (Nat.le_refl _) (by have := hD.out.lt; omega))
          clear hD3 hG3 HN
          go_wp2_with fail
          refine HS.out.mono ?_
          rintro e w4 ⟨rfl, m, rfl⟩
          clear HS
          go_wp2_with fail
          refine ⟨rfl, rfl, ?_⟩
          rw [HG.out]
          exact below_drewN HK3.out m
      · have hl192 : (x : Int) < 192 := by omega
        by_cases hz : x = 0 ∨ 64 ≤ x
        · have hbt : b = true := by rw [← hE.out]; exact ends_here hlt (by rw [hx]; omega) (by rw [hx]; exact hz)
          subst hbt
          have HK3 : ∀ w3, wr.grownBy w3 (some B) → Below B w w3 := fun w3 hG3 => below_of_grown hK.out hG3 (Nat.le_refl _) (by have := hD.out.lt; omega)
          have HK := Lib.hid HK3
          clear HK3 hx hpl h192
          by_cases h0 : x = 0
          · subst h0
            have h00 : (((0 : Nat) : Int) == 0) = true := rfl
            go_wp2_with fail
            refine HN.out.mono ?_
            rintro e w3 ⟨rfl, hD3, hG3⟩
            have HK3 := Lib.hid (HK.out w3 hG3)
            clear hD3 hG3 HN HK
            go_wp2_with fail
            go_end0
            refine ⟨rfl, ?_⟩
            rw [HG.out]
            exact HK3.out
          · have h00 : ((x : Int) == 0) = false := beq_eq_false_iff_ne.2 (by omega)
            have h64 : (63 : Int) < x := by omega
            go_wp2_with fail
            refine HN.out.mono ?_
            rintro e w3 ⟨rfl, hD3, hG3⟩
            have HK3 := Lib.hid (HK.out w3 hG3)
            clear hD3 hG3 HN HK
            go_wp2_with fail
            go_end0
            refine ⟨rfl, ?_⟩
            rw [HG.out]
            exact HK3.out
        · have h00 : ((x : Int) == 0) = false := beq_eq_false_iff_ne.2 (by omega)
          have h63 : (x : Int) ≤ 63 := by omega
          have hEm : Hid (StMath.ends s.data.toList s.size (q + 1 + x) = b) := by
            show _ = _
            rw [← hE.out, ends_more hlt (by rw [hx]; omega) (by rw [hx]; omega), hx]
            congr 1
            omega
          clear hx hpl h192
          by_cases hin : q + 1 + x ≤ s.size
          · go_wp2_with fail
            refine HN.out.mono ?_
            rintro e w3 ⟨rfl, hD3, hG3⟩
            have HS := Lib.hid (skip_yes a s B (q + 1) x k w3 (by exact hD3) hin hs)
            have HK3 := Lib.hid (below_of_grown hK.out hG3 (Nat.le_refl _) (by have := hD.out.lt; omega))
            have HZ3 : Hid (B ≤ w3.heap.size) := by have := hD3.lt; show _ ≤ _; omega
            clear hD3 hG3 HN
            go_wp2_with fail
            refine HS.out.mono ?_
            rintro e w4 ⟨rfl, hD4, hG4⟩
            have HK4 := Lib.hid (below_of_grown HK3.out hG4 (Nat.le_refl _) HZ3.out)
            have HD4 := Lib.hid hD4
            have HP4 := Lib.hid (placeOf_at hD4)
            clear hD4 hG4 HS
            go_wp2_with fail
            go_roundw
            case rel => exact ⟨q + 1 + x, by omega, HD4, hEm, HK4⟩
            case measure => rw [HP.out, HP4.out]; omega
          · have hbt : b = false := by rw [← hEm.out]; exact ends_not (by omega)
            subst hbt
            go_wp2_with fail
            refine HN.out.mono ?_
            rintro e w3 ⟨rfl, hD3, hG3⟩
            have HS := Lib.hid (skip_no a s B (q + 1) x k w3 (by exact hD3) (by omega) (by omega) hs)
            have HK3 := Lib.hid (below_of_grown hK.out hG3 (Nat.le_refl _) (by have := hD.out.lt; omega))
            clear hD3 hG3 HN
            go_wp2_with fail
            refine HS.out.mono ?_
            rintro e w4 ⟨rfl, m, rfl⟩
            clear HS
            go_wp2_with fail
            refine ⟨rfl, rfl, ?_⟩
            rw [HG.out]
            exact below_drewN HK3.out m
    · have hbt : b = false := by rw [← hE.out]; exact ends_not (by omega)
      subst hbt
      have hno : Hid (holdsB s.size (q : Int) ((1 : Nat) : Int) = false) := holds_no (by omega)
      have HN := Lib.hid (number_no a s B k q 1 wr hD.out hs (by decide) (by omega) (by omega) hno)
      go_wp2_with fail
      refine HN.out.mono ?_
      rintro e w1 ⟨rfl, m, rfl⟩
      go_wp2_with fail
      refine ⟨rfl, rfl, ?_⟩
      rw [HG.out]
      exact below_drewN hK.out m
end Go.Proofs.Ytpmmjmnleoicjaa

/- The contract of a message's reader: a reader of a record's data. For texts of at most 10^6 bytes. -/
namespace Go.Proofs.Ytpmmjmnleoicjaa
open Go.RowKit NumMath NmMath Bytes

/-- A reader of the bytes up to t's end came back; the first reader stands behind these. -/
def SubEnd (w : World) (r p n : Nat) (s t : ByteArray) (e : Ending) (w' : World) : Prop :=
  ∃ q, e = .returned (.pointer (some ⟨q, 0, none⟩)) ∧ w.heap.size ≤ q ∧ RdrAt w' q s t (p : Int) 50 ∧ RdrAt w' r s s ((p + n : Nat) : Int) 2 ∧ w.grownBy w' (some r)

set_option maxHeartbeats 1000000 in
theorem data_yes (s t : ByteArray) (r p n : Nat) (w : World) (h : RdrAt w r s s p 2) (hp : p + n ≤ s.size) (hs : s.size ≤ 1000000) (ht : Hid (s.extract 0 (p + n) = t)) :
    Calls Try.prog 122 #[.pointer (some ⟨r, 0, none⟩), .int .i64 n] w (SubEnd w r p n s t) := by
  have h2 := h.c2
  have HS := Lib.hid (skip_yes s s r p n 2 w h hp hs)
  clear h
  obtain ⟨z, hz⟩ : ∃ z, p + n = z := ⟨_, rfl⟩
  have HZ := Lib.hid hz
  rw [hz] at HS ht hp
  clear hz
  go_enter Try.func122, Try.ntmps122
  go_wp2_with fail
  refine HS.out.mono ?_
  rintro e w1 ⟨rfl, hD, hG⟩
  have k0 := hD.c0
  have k2 := hD.c2
  have HD := Lib.hid hD
  have HG := Lib.hid hG
  have htt := ht.out
  have hzi : (z : Int) ≤ s.size := by omega
  clear hD hG HS h2
  go_wp2_with fail
  go_region
  go_wp2_with fail
  go_ret
  refine ⟨w1.heap.size, rfl, HG.out.size, ?_, ?_, ?_⟩
  · exact heap_alloc_new w1 _
  · rw [HZ.out]
    exact (HD.out.held ((Below.refl _ _).alloc (Nat.le_refl _) _)).drew
  · have := HG.out
    exact ⟨this.os, this.tape, this.output, by have := this.size; simp; omega, fun i hi hne => (Below.heap_alloc w1 _ i (Nat.lt_of_lt_of_le hi this.size)).trans (this.block i hi hne)⟩

theorem data_no (s : ByteArray) (r p n : Nat) (w : World) (h : RdrAt w r s s p 2) (hp : p ≤ s.size) (hn : s.size < p + n) (hs : s.size ≤ 1000000) :
    Calls Try.prog 122 #[.pointer (some ⟨r, 0, none⟩), .int .i64 n] w fun e w' => e = gave 2 ∧ w.grownBy w' (some r) := by
  have h2 := h.c2
  have HS := Lib.hid (skip_no s s r p n 2 w h hp hn hs)
  clear h
  go_enter Try.func122, Try.ntmps122
  go_wp2_with fail
  refine HS.out.mono ?_
  rintro e w1 ⟨rfl, m, rfl⟩
  go_wp2_with fail
  exact ⟨rfl, rfl, grown_drewN (grown_refl _ _) m⟩
end Go.Proofs.Ytpmmjmnleoicjaa

/- The contracts of a message's reader: numbers and texts of a record's data. For texts of at most 10^6 bytes. -/
namespace Go.Proofs.Ytpmmjmnleoicjaa
open Go.RowKit NumMath NmMath Bytes Strs Nums MsgMath DatMath

/-- A number came back, or the reading gave up. -/
def NumEnd (w : World) (r : Nat) (a s : ByteArray) : Except Nat (Nat × Nat) → Ending → World → Prop
  | .error x, e, w' => e = gave x ∧ w.grownBy w' (some r)
  | .ok (n, q), e, w' => e = .returned (.int .u32 n) ∧ RdrAt w' r a s (q : Int) 50 ∧ w.grownBy w' (some r)
theorem nu_ahead {a s : ByteArray} {p n : Nat} (hsa : s.data.toList = a.data.toList.take s.size) (h : p + n ≤ s.size) : be ((s.data.toList.drop p).take n) = nu a.data.toList p n := by
  unfold nu
  rw [hsa]
  exact congrArg be (cut_take h)

theorem narrow_any (a s : ByteArray) (r p : Nat) (R : Except Nat (Nat × Nat)) (w : World) (h : RdrAt w r a s p 50) (hsa : Hid (s.data.toList = a.data.toList.take s.size)) (hs : s.size ≤ 1000000) (hp : p ≤ 1000000) (hR : Hid (numE a.data.toList s.size 2 p = R)) :
    Calls Try.prog 142 #[.pointer (some ⟨r, 0, none⟩)] w (NumEnd w r a s R) := by
  by_cases hin : p + 2 ≤ s.size
  · obtain ⟨x, hx⟩ : ∃ x, nu a.data.toList p 2 = x := ⟨_, rfl⟩
    have hRe : Hid (R = .ok (x, p + 2)) := by show _ = _; rw [← hR.out, numE_ok hin, hx]
    have HN := Lib.hid (number_yes a s r p 2 50 x w h (by decide) (by decide) hin hs (by (show _ = _; rw [nu_ahead hsa.out hin]; exact hx)))
    clear h hR hx
    go_enter Try.func142, Try.ntmps142
    go_wp2_with fail
    refine HN.out.mono ?_
    rintro e w1 ⟨rfl, hD, hG⟩
    have HD := Lib.hid hD
    have HG := Lib.hid hG
    clear hD hG HN
    go_wp2_with fail
    go_ret
    rw [hRe.out]
    exact ⟨rfl, HD.out, HG.out⟩
  · have hRe : Hid (R = .error 50) := by show _ = _; rw [← hR.out, numE_no (by omega)]
    have HN := Lib.hid (number_no a s r 50 p 2 w h hs (by decide) (by omega) (by omega) (holds_no (n := s.size) (p := p) (m := 2) (by omega)))
    clear h hR
    go_enter Try.func142, Try.ntmps142
    go_wp2_with fail
    refine HN.out.mono ?_
    rintro e w1 ⟨rfl, m, rfl⟩
    go_wp2_with fail
    rw [hRe.out]
    exact ⟨rfl, rfl, grown_drewN (grown_refl _ _) m⟩

theorem wide_any (a s : ByteArray) (r p : Nat) (R : Except Nat (Nat × Nat)) (w : World) (h : RdrAt w r a s p 50) (hsa : Hid (s.data.toList = a.data.toList.take s.size)) (hs : s.size ≤ 1000000) (hp : p ≤ 1000000) (hR : Hid (numE a.data.toList s.size 4 p = R)) :
    Calls Try.prog 141 #[.pointer (some ⟨r, 0, none⟩)] w (NumEnd w r a s R) := by
  by_cases hin : p + 4 ≤ s.size
  · obtain ⟨x, hx⟩ : ∃ x, nu a.data.toList p 4 = x := ⟨_, rfl⟩
    have hRe : Hid (R = .ok (x, p + 4)) := by show _ = _; rw [← hR.out, numE_ok hin, hx]
    have HN := Lib.hid (number_yes a s r p 4 50 x w h (by decide) (by decide) hin hs (by (show _ = _; rw [nu_ahead hsa.out hin]; exact hx)))
    clear h hR hx
    go_enter Try.func141, Try.ntmps141
    go_wp2_with fail
    refine HN.out.mono ?_
    rintro e w1 ⟨rfl, hD, hG⟩
    have HD := Lib.hid hD
    have HG := Lib.hid hG
    clear hD hG HN
    go_wp2_with fail
    go_ret
    rw [hRe.out]
    exact ⟨rfl, HD.out, HG.out⟩
  · have hRe : Hid (R = .error 50) := by show _ = _; rw [← hR.out, numE_no (by omega)]
    have HN := Lib.hid (number_no a s r 50 p 4 w h hs (by decide) (by omega) (by omega) (holds_no (n := s.size) (p := p) (m := 4) (by omega)))
    clear h hR
    go_enter Try.func141, Try.ntmps141
    go_wp2_with fail
    refine HN.out.mono ?_
    rintro e w1 ⟨rfl, m, rfl⟩
    go_wp2_with fail
    rw [hRe.out]
    exact ⟨rfl, rfl, grown_drewN (grown_refl _ _) m⟩

theorem measured_any (a s : ByteArray) (r p : Nat) (R : Except Nat (List UInt8 × Nat)) (w : World) (h : RdrAt w r a s p 50) (hsa : Hid (s.data.toList = a.data.toList.take s.size)) (hs : s.size ≤ 1000000) (hp : p ≤ 1000000) (hR : Hid (measE a.data.toList s.size p = R)) :
    Calls Try.prog 149 #[.pointer (some ⟨r, 0, none⟩)] w (NmEnd w r a s 50 R) := by
  by_cases hlt : p < s.size
  · obtain ⟨x, hx⟩ : ∃ x, bt a.data.toList p = x := ⟨_, rfl⟩
    have hxl : x < 256 := by rw [← hx]; exact bt_lt _ _
    have hbt : bt s.data.toList p = x := by rw [hsa.out, bt_take hlt]; exact hx
    have hbe : Hid (be ((s.data.toList.drop p).take 1) = x) := by (show _ = _; rw [be_bt (by rw [← Lib.size_eq]; exact hlt)]; exact hbt)
    have HN := Lib.hid (number_yes a s r p 1 50 x w h (by decide) (by decide) (by omega) hs hbe)
    clear hbe hbt
    by_cases hin : p + 1 + x ≤ s.size
    · obtain ⟨t, ht⟩ : ∃ t, cut a.data.toList (p + 1) x = t := ⟨_, rfl⟩
      have hRe : Hid (R = .ok (t, p + 1 + x)) := by show _ = _; rw [← hR.out, measE_ok hlt (by rw [hx]; exact hin), hx, ht]
      have hex : Hid (s.extract (p + 1) (p + 1 + x) = mk t) := by
        show _ = _
        refine list_inj ?_
        rw [cut_extract, hsa.out, cut_take hin, ht, mk_list]
      have HT := Lib.hid (fun w' (hd : RdrAt w' r a s ((p + 1 : Nat) : Int) 50) => text_yes a s (mk t) r (p + 1) x 50 w' hd hin hs hex)
      clear h hR hx ht hex
      go_enter Try.func149, Try.ntmps149
      go_wp2_with fail
      refine HN.out.mono ?_
      rintro e w1 ⟨rfl, hD, hG⟩
      have HD := Lib.hid hD
      have HG := Lib.hid hG
      clear hD hG HN
      go_wp2_with fail
      refine (HT.out _ HD.out).mono ?_
      rintro e w2 ⟨rfl, hD2, hG2⟩
      have HD2 := Lib.hid hD2
      have HG2 := Lib.hid (grown_trans HG.out hG2)
      clear hD2 hG2 HT
      go_wp2_with fail
      go_ret
      rw [hRe.out]
      exact ⟨rfl, HD2.out, HG2.out⟩
    · have hRe : Hid (R = .error 50) := by show _ = _; rw [← hR.out, measE_no (by rw [hx]; omega)]
      have HT := Lib.hid (fun w' (hd : RdrAt w' r a s ((p + 1 : Nat) : Int) 50) => text_no a s r 50 ((p + 1 : Nat) : Int) x w' hd hs (by omega) (by omega) (by omega) (holds_no (n := s.size) (p := p + 1) (m := x) (by omega)))
      clear h hR hx
      go_enter Try.func149, Try.ntmps149
      go_wp2_with fail
      refine HN.out.mono ?_
      rintro e w1 ⟨rfl, hD, hG⟩
      have HD := Lib.hid hD
      have HG := Lib.hid hG
      clear hD hG HN
      go_wp2_with fail
      refine (HT.out _ HD.out).mono ?_
      rintro e w2 ⟨rfl, m, rfl⟩
      clear HT
      go_wp2_with fail
      rw [hRe.out]
      exact ⟨rfl, rfl, grown_drewN HG.out m⟩
  · have hRe : Hid (R = .error 50) := by show _ = _; rw [← hR.out, measE_no (by omega)]
    have HN := Lib.hid (number_no a s r 50 p 1 w h hs (by decide) (by omega) (by omega) (holds_no (n := s.size) (p := p) (m := 1) (by omega)))
    clear h hR
    go_enter Try.func149, Try.ntmps149
    go_wp2_with fail
    refine HN.out.mono ?_
    rintro e w1 ⟨rfl, m, rfl⟩
    go_wp2_with fail
    rw [hRe.out]
    exact ⟨rfl, rfl, grown_drewN (grown_refl _ _) m⟩

theorem numE_next {l : List UInt8} {E size p q x : Nat} (h : numE l E size p = .ok (x, q)) : q ≤ E := by
  unfold numE at h
  split at h
  · injection h with h; injection h with _ h; omega
  · cases h
/-- Several numbers came back, or the reading gave up. -/
def NumsEnd (w : World) (r : Nat) (a s : ByteArray) : Except Nat (List Nat × Nat) → Ending → World → Prop
  | .error x, e, w' => e = gave x ∧ w.grownBy w' (some r)
  | .ok (L, q), e, w' => ∃ v, e = .returned v ∧ w'.ownsRow w.heap.size 50 1 v L.length (numCs L) ∧ RdrAt w' r a s (q : Int) 50 ∧ w.grownBy w' (some r)

set_option maxHeartbeats 2000000 in
set_option maxRecDepth 100000 in
theorem narrows_any (a s : ByteArray) (r n p0 : Nat) (R : Except Nat (List Nat × Nat)) (w : World) (h : RdrAt w r a s p0 50) (hsa : Hid (s.data.toList = a.data.toList.take s.size)) (hs : s.size ≤ 1000000) (hp0 : p0 ≤ 1000000) (hn : n ≤ 100) (hR : Hid (many (numE a.data.toList s.size 2) n p0 = R)) :
    Calls Try.prog 140 #[.int .i64 n, .func (.func 142) #[.pointer (some ⟨r, 0, none⟩)] #[]] w (NumsEnd w r a s R) := by
  have hrl := h.lt
  have H := Lib.hid h; clear h
  obtain ⟨g, hg⟩ : ∃ g, w.heap.size = g := ⟨_, rfl⟩
  have G := Lib.hid hg
  rw [hg] at hrl
  obtain ⟨i0, hi, hz0, hz1, hz2⟩ := info_parts info23
  have HI := Lib.hid hi; clear hi
  have HZ0 := Lib.hid hz0; clear hz0
  have HZ1 := Lib.hid hz1; clear hz1
  have HZ2 := Lib.hid hz2; clear hz2
  have HR0 : Hid (more (numE a.data.toList s.size 2) [] n p0 = R) := by show _ = _; rw [more_none]; exact hR.out
  clear hg hR
  go_enter Try.func140, Try.ntmps140
  go_wp2_with fail
  go_loopw [5, 7] (fun v i wr => ∃ (j p : Nat) (L : List Nat), i = .int .i64 j ∧ j ≤ n ∧ p ≤ 1000000 ∧ Hid (wr.ownsRow g 50 1 v j (numCs L)) ∧ Hid (L.length = j) ∧ Hid (RdrAt wr r a s p 50) ∧ Hid (more (numE a.data.toList s.size 2) L (n - j) p = R) ∧ Hid (Kept g r w wr)) (fun _ i _ => n - (intOf i).toNat)
  case atStart => exact ⟨0, p0, [], rfl, Nat.zero_le _, hp0, World.ownsRow_nil _ _ _ _, rfl, H, HR0, Kept.refl _ _ _⟩
  case round =>
    obtain ⟨j, p, L, rfl, hj, hp, hO, hL, hD, hR, hK⟩ := hrel
    have hgw : Hid (g ≤ wr.heap.size) := by have := hK.out.size; rw [G.out] at this; exact this
    by_cases hlt : j < n
    · obtain ⟨Q1, hQ1⟩ : ∃ Q1, numE a.data.toList s.size 2 p = Q1 := ⟨_, rfl⟩
      have HQ := Lib.hid (narrow_any a s r p Q1 wr hD.out hsa hs hp hQ1)
      obtain ⟨m, hm⟩ : ∃ m, n - j = m + 1 := ⟨n - j - 1, by omega⟩
      cases Q1 with
      | error x =>
        have hRe : Hid (R = .error x) := by show _ = _; rw [← hR.out, hm]; exact more_err hQ1
        clear hm hQ1
        go_wp2_with fail
        refine HQ.out.mono ?_
        rintro e w1 ⟨rfl, hG1⟩
        have HE : Hid (w.grownBy w1 (some r)) := kept_grown (hK.out.grown hG1 hgw.out) G.out
        clear hG1
        go_wp2_with fail
        rw [hRe.out]
        exact ⟨rfl, rfl, HE.out⟩
      | ok Qq =>
        obtain ⟨x, q⟩ := Qq
        have hql : q ≤ 1000000 := by have := numE_next hQ1; omega
        have hRm : Hid (more (numE a.data.toList s.size 2) (L ++ [x]) (n - (j + 1)) q = R) := by show _ = _; rw [← hR.out, hm, more_one hQ1]; congr 1; omega
        clear hm hQ1
        go_wp2_with fail
        refine HQ.out.mono ?_
        rintro e w1 ⟨rfl, hD1, hG1⟩
        have hO1 := Lib.hid (row_rdr hD.out hO.out hG1 (by decide))
        have hK1 := Lib.hid (hK.out.grown hG1 hgw.out)
        have hg1 : Hid (g ≤ w1.heap.size) := Nat.le_trans hgw.out hG1.size
        have HD1 := Lib.hid hD1
        clear hD1 hG1 hO hD hK HQ
        go_wp2_with (at_builtin; refine wpList_append_own _ rfl _ _ 58 rfl g 50 i0 (.int .u32 0) 1 4 Try.underlying58 HI.out HZ0.out HZ1.out HZ2.out rfl (by decide) _ _ _ rfl (hO1.out.alloc _) ⟨w1.heap.size, 0, none⟩ 1 1 [.int .u32 x] rfl rfl ?c1 ?c2 ?c3 ?c4 ?c5 ?_)
        case c1 =>
          intro j u hj
          match j, hj with
          | 0, hj => simp at hj; subst hj; simp [Addr.add]
        case c2 => first | rfl | (intro u hu; simp at hu; subst hu; rfl)
        case c3 => unfold maxLen; omega
        case c4 => omega
        case c5 => have := hg1.out; simp; omega
        intro v' w2 hown hgrow _
        have E1 : Hid (w2.ownsRow g 50 1 v' (j + 1) (numCs (L ++ [x]))) := by
          show World.ownsRow _ _ _ _ _ _ _
          rw [numCs_snoc]
          exact hown
        have E2 := Lib.hid (rdr_row HD1.out hO1.out ((Below.refl _ _).alloc (Nat.le_refl _) _) hgrow (by decide))
        have E3 := Lib.hid ((hK1.out.alloc hg1.out _).own hgrow (by have := hg1.out; simp; omega) (fun k hk => (hO1.out.lt k hk).1))
        clear hown hgrow hO1 HD1 hK1
        go_wp2_with fail
        go_roundw
        case rel => exact ⟨j + 1, q, L ++ [x], by go_num, by omega, by omega, E1, by (show _ = _; rw [List.length_append, hL.out]; rfl), E2, hRm, E3⟩
        case measure => simp [intOf]; omega
    · have hjn : j = n := by omega
      have hRe : Hid (R = .ok (L, p)) := by show _ = _; rw [← hR.out, show n - j = 0 by omega]; exact more_end _ _ _
      have HE : Hid (w.grownBy wr (some r)) := kept_grown hK.out G.out
      clear hjn
      go_wp2_with fail
      go_ret
      rw [hRe.out]
      refine ⟨_, rfl, ?_, hD.out, HE.out⟩
      rw [hL.out, G.out]
      exact hO.out

set_option maxHeartbeats 2000000 in
set_option maxRecDepth 100000 in
theorem wides_any (a s : ByteArray) (r n p0 : Nat) (R : Except Nat (List Nat × Nat)) (w : World) (h : RdrAt w r a s p0 50) (hsa : Hid (s.data.toList = a.data.toList.take s.size)) (hs : s.size ≤ 1000000) (hp0 : p0 ≤ 1000000) (hn : n ≤ 100) (hR : Hid (many (numE a.data.toList s.size 4) n p0 = R)) :
    Calls Try.prog 140 #[.int .i64 n, .func (.func 141) #[.pointer (some ⟨r, 0, none⟩)] #[]] w (NumsEnd w r a s R) := by
  have hrl := h.lt
  have H := Lib.hid h; clear h
  obtain ⟨g, hg⟩ : ∃ g, w.heap.size = g := ⟨_, rfl⟩
  have G := Lib.hid hg
  rw [hg] at hrl
  obtain ⟨i0, hi, hz0, hz1, hz2⟩ := info_parts info23
  have HI := Lib.hid hi; clear hi
  have HZ0 := Lib.hid hz0; clear hz0
  have HZ1 := Lib.hid hz1; clear hz1
  have HZ2 := Lib.hid hz2; clear hz2
  have HR0 : Hid (more (numE a.data.toList s.size 4) [] n p0 = R) := by show _ = _; rw [more_none]; exact hR.out
  clear hg hR
  go_enter Try.func140, Try.ntmps140
  go_wp2_with fail
  go_loopw [5, 7] (fun v i wr => ∃ (j p : Nat) (L : List Nat), i = .int .i64 j ∧ j ≤ n ∧ p ≤ 1000000 ∧ Hid (wr.ownsRow g 50 1 v j (numCs L)) ∧ Hid (L.length = j) ∧ Hid (RdrAt wr r a s p 50) ∧ Hid (more (numE a.data.toList s.size 4) L (n - j) p = R) ∧ Hid (Kept g r w wr)) (fun _ i _ => n - (intOf i).toNat)
  case atStart => exact ⟨0, p0, [], rfl, Nat.zero_le _, hp0, World.ownsRow_nil _ _ _ _, rfl, H, HR0, Kept.refl _ _ _⟩
  case round =>
    obtain ⟨j, p, L, rfl, hj, hp, hO, hL, hD, hR, hK⟩ := hrel
    have hgw : Hid (g ≤ wr.heap.size) := by have := hK.out.size; rw [G.out] at this; exact this
    by_cases hlt : j < n
    · obtain ⟨Q1, hQ1⟩ : ∃ Q1, numE a.data.toList s.size 4 p = Q1 := ⟨_, rfl⟩
      have HQ := Lib.hid (wide_any a s r p Q1 wr hD.out hsa hs hp hQ1)
      obtain ⟨m, hm⟩ : ∃ m, n - j = m + 1 := ⟨n - j - 1, by omega⟩
      cases Q1 with
      | error x =>
        have hRe : Hid (R = .error x) := by show _ = _; rw [← hR.out, hm]; exact more_err hQ1
        clear hm hQ1
        go_wp2_with fail
        refine HQ.out.mono ?_
        rintro e w1 ⟨rfl, hG1⟩
        have HE : Hid (w.grownBy w1 (some r)) := kept_grown (hK.out.grown hG1 hgw.out) G.out
        clear hG1
        go_wp2_with fail
        rw [hRe.out]
        exact ⟨rfl, rfl, HE.out⟩
      | ok Qq =>
        obtain ⟨x, q⟩ := Qq
        have hql : q ≤ 1000000 := by have := numE_next hQ1; omega
        have hRm : Hid (more (numE a.data.toList s.size 4) (L ++ [x]) (n - (j + 1)) q = R) := by show _ = _; rw [← hR.out, hm, more_one hQ1]; congr 1; omega
        clear hm hQ1
        go_wp2_with fail
        refine HQ.out.mono ?_
        rintro e w1 ⟨rfl, hD1, hG1⟩
        have hO1 := Lib.hid (row_rdr hD.out hO.out hG1 (by decide))
        have hK1 := Lib.hid (hK.out.grown hG1 hgw.out)
        have hg1 : Hid (g ≤ w1.heap.size) := Nat.le_trans hgw.out hG1.size
        have HD1 := Lib.hid hD1
        clear hD1 hG1 hO hD hK HQ
        go_wp2_with (at_builtin; refine wpList_append_own _ rfl _ _ 58 rfl g 50 i0 (.int .u32 0) 1 4 Try.underlying58 HI.out HZ0.out HZ1.out HZ2.out rfl (by decide) _ _ _ rfl (hO1.out.alloc _) ⟨w1.heap.size, 0, none⟩ 1 1 [.int .u32 x] rfl rfl ?c1 ?c2 ?c3 ?c4 ?c5 ?_)
        case c1 =>
          intro j u hj
          match j, hj with
          | 0, hj => simp at hj; subst hj; simp [Addr.add]
        case c2 => first | rfl | (intro u hu; simp at hu; subst hu; rfl)
        case c3 => unfold maxLen; omega
        case c4 => omega
        case c5 => have := hg1.out; simp; omega
        intro v' w2 hown hgrow _
        have E1 : Hid (w2.ownsRow g 50 1 v' (j + 1) (numCs (L ++ [x]))) := by
          show World.ownsRow _ _ _ _ _ _ _
          rw [numCs_snoc]
          exact hown
        have E2 := Lib.hid (rdr_row HD1.out hO1.out ((Below.refl _ _).alloc (Nat.le_refl _) _) hgrow (by decide))
        have E3 := Lib.hid ((hK1.out.alloc hg1.out _).own hgrow (by have := hg1.out; simp; omega) (fun k hk => (hO1.out.lt k hk).1))
        clear hown hgrow hO1 HD1 hK1
        go_wp2_with fail
        go_roundw
        case rel => exact ⟨j + 1, q, L ++ [x], by go_num, by omega, by omega, E1, by (show _ = _; rw [List.length_append, hL.out]; rfl), E2, hRm, E3⟩
        case measure => simp [intOf]; omega
    · have hjn : j = n := by omega
      have hRe : Hid (R = .ok (L, p)) := by show _ = _; rw [← hR.out, show n - j = 0 by omega]; exact more_end _ _ _
      have HE : Hid (w.grownBy wr (some r)) := kept_grown hK.out G.out
      clear hjn
      go_wp2_with fail
      go_ret
      rw [hRe.out]
      refine ⟨_, rfl, ?_, hD.out, HE.out⟩
      rw [hL.out, G.out]
      exact hO.out
end Go.Proofs.Ytpmmjmnleoicjaa

/- The contracts of a message's reader: names of a record's data. For texts of at most 10^6 bytes. -/
namespace Go.Proofs.Ytpmmjmnleoicjaa
open Go.RowKit NumMath NmMath Bytes Strs MsgMath StMath DatMath

set_option maxHeartbeats 1000000 in
theorem plain_any (a s : ByteArray) (r k p0 : Nat) (R : Except Nat (List UInt8 × Nat)) (w : World) (h : RdrAt w r a s p0 k) (hsa : Hid (s.data.toList = a.data.toList.take s.size)) (hs : s.size ≤ 1000000) (hp0 : p0 ≤ 1000000) (hR : Hid (bare a.data.toList s.size k p0 [] = R)) :
    Calls Try.prog 136 #[.pointer (some ⟨r, 0, none⟩)] w (NmEnd w r a s k R) := by
  obtain ⟨R1, hR1⟩ : ∃ R1, run s.data.toList s.size k p0 [] = R1 := ⟨_, rfl⟩
  have hR1' : run a.data.toList s.size k p0 [] = R1 := by rw [← hR1, hsa.out, run_take]
  have HP := Lib.hid (part_any a s r w.heap.size k p0 (.slice none 0 0) [] R1 w h (World.ownsRow_nil _ _ _ _) (Nat.le_refl _) hs (by omega) (Nat.zero_le _) (Lib.hid hR1))
  cases R1 with
  | error x =>
    have hRe : Hid (R = .error x) := by show _ = _; rw [← hR.out]; exact bare_err hR1'
    clear hR1 hR1' hR h
    go_enter Try.func136, Try.ntmps136
    go_wp2_with fail
    refine HP.out.mono ?_
    rintro e w1 ⟨rfl, hK1⟩
    have HK := Lib.hid hK1.to_grown; clear hK1
    go_wp2_with fail
    rw [hRe.out]
    exact ⟨rfl, rfl, HK.out⟩
  | ok oq =>
    obtain ⟨o, q⟩ := oq
    obtain ⟨hq1, hq2, hq3, hq4⟩ := run_ok hR1'
    obtain ⟨c, hc⟩ : ∃ c, bt a.data.toList q = c := ⟨_, rfl⟩
    have hcl : c < 256 := by rw [← hc]; exact bt_lt _ _
    have hbt : bt s.data.toList q = c := by rw [hsa.out, bt_take hq2]; exact hc
    have hRv : R = if c = 0 then .ok (o ++ [0], q + 1) else .error 50 := by rw [← hR.out]; unfold bare; rw [hR1']; simp only [hc]
    rw [hc] at hq3
    by_cases h0 : c = 0
    · have hRe : Hid (R = .ok (o ++ [0], q + 1)) := by show _ = _; rw [hRv, if_pos h0]
      subst h0
      have HBT := Lib.hid hbt
      clear hR1 hR1' hR h hRv hc hbt hq3
      go_enter Try.func136, Try.ntmps136
      go_wp2_with fail
      refine HP.out.mono ?_
      rintro e w1 ⟨v1, rfl, hO1, hD1, hK1⟩
      rw [HBT.out] at hO1 ⊢
      have hcv := convert_own hO1
      have HD := Lib.hid hD1
      have HG := Lib.hid hK1.to_grown
      clear hO1 hD1 hK1
      go_wp2_with fail
      go_ret
      rw [hRe.out]
      exact ⟨rfl, HD.out, HG.out⟩
    · have hRe : Hid (R = .error 50) := by show _ = _; rw [hRv, if_neg h0]
      have hge : (192 : Int) ≤ c := by omega
      have HBT := Lib.hid hbt
      clear hR1 hR1' hR h hRv hc hbt hq3 h0
      go_enter Try.func136, Try.ntmps136
      go_wp2_with fail
      refine HP.out.mono ?_
      rintro e w1 ⟨v1, rfl, hO1, hD1, hK1⟩
      rw [HBT.out]
      have HG := Lib.hid hK1.to_grown
      clear hO1 hD1 hK1
      go_wp2_with fail
      rw [hRe.out]
      exact ⟨rfl, rfl, HG.out⟩

theorem ends_take {l : List UInt8} {E p : Nat} : StMath.ends (l.take E) E p = StMath.ends l E p := by
  fun_induction StMath.ends l E p with
  | case1 p h h1 => rw [ends_ptr h (by rw [bt_take h]; exact h1)]
  | case2 p h h1 h2 => rw [ends_here h (by rw [bt_take h]; omega) (by rw [bt_take h]; exact h2)]
  | case3 p h h1 h2 ih => rw [ends_more h (by rw [bt_take h]; omega) (by rw [bt_take h]; omega), bt_take h, ih]
  | case4 p h => exact ends_not (by omega)

/-- The method that reads a name of this type. -/
def namer (r kind : Nat) : Value := .func (.func (if kind = 33 then 136 else 121)) #[.pointer (some ⟨r, 0, none⟩)] #[]
/-- The two cells that the closure of fill has: the reader, and the method. -/
structure Catch (w : World) (r q kind : Nat) : Prop where
  lt : q + 1 < w.heap.size
  at0 : w.heap[q]? = some (.cells #[.pointer (some ⟨r, 0, none⟩)] 89 (0, 0))
  at1 : w.heap[q + 1]? = some (.cells #[namer r kind] 147 (0, 0))
section
variable {w w' : World} {r q kind g : Nat}
theorem Catch.grown (h : Catch w r q kind) (hg : w.grownBy w' (some r)) (h1 : q ≠ r) (h2 : q + 1 ≠ r) : Catch w' r q kind :=
  ⟨Nat.lt_of_lt_of_le h.lt hg.size, (grown_block hg (by have := h.lt; omega) h1).trans h.at0, (grown_block hg h.lt h2).trans h.at1⟩
theorem Catch.kept (h : Catch w r q kind) (hk : Kept g r w w') (h1 : q ≠ r) (h2 : q + 1 ≠ r) (hg : q + 1 < g) : Catch w' r q kind :=
  ⟨Nat.lt_of_lt_of_le h.lt hk.size, (hk.block q (by omega) h1).trans h.at0, (hk.block (q + 1) hg h2).trans h.at1⟩
theorem Catch.below (h : Catch w r q kind) (hB : Below w.heap.size w w') : Catch w' r q kind :=
  ⟨Nat.lt_of_lt_of_le h.lt hB.size, (hB.block q (by have := h.lt; omega)).trans h.at0, (hB.block (q + 1) h.lt).trans h.at1⟩
end

set_option maxHeartbeats 1000000 in
theorem bounded_any (a s : ByteArray) (r q kind p : Nat) (R : Except Nat (List UInt8 × Nat)) (w : World) (h : RdrAt w r a s p 50) (hc : Catch w r q kind) (hsa : Hid (s.data.toList = a.data.toList.take s.size)) (ha : a.size ≤ 1000000) (hs : s.size ≤ 1000000) (hp : p ≤ 1000000) (hR : Hid (nameE a.data.toList s.size kind p = R)) :
    Calls Try.prog 137 #[.pointer (some ⟨q, 0, none⟩), .pointer (some ⟨q + 1, 0, none⟩)] w (NmEnd w r a s 50 R) := by
  have h0 := cell_of_row w _ 0 _ _ _ hc.at0
  obtain ⟨b, hb⟩ : ∃ b, StMath.ends a.data.toList s.size p = b := ⟨_, rfl⟩
  have HE := Lib.hid (ended_any a s r 50 p b w h hs hp (by (show _ = _; rw [hsa.out, ends_take]; exact hb)))
  have H := Lib.hid h
  have HC := Lib.hid hc
  clear h hc
  cases b with
  | false =>
    have hRe : Hid (R = .error 50) := by show _ = _; rw [← hR.out]; exact nameE_no hb
    clear hb hR
    go_enter Try.func137, Try.ntmps137
    go_wp2_with fail
    refine HE.out.mono ?_
    rintro e w1 ⟨rfl, hB⟩
    have HG := Lib.hid (only_of_below hB (some r))
    clear hB HE
    go_wp2_with fail
    rw [hRe.out]
    exact ⟨rfl, rfl, HG.out⟩
  | true =>
    have HN : Hid (∀ w', RdrAt w' r a s p 50 → Calls Try.prog (if kind = 33 then 136 else 121) #[.pointer (some ⟨r, 0, none⟩)] w' (NmEnd w' r a s 50 R)) := by
      intro w' hd
      by_cases h33 : kind = 33
      · rw [if_pos h33]
        exact plain_any a s r 50 p R w' hd hsa hs hp (by (show _ = _; rw [← hR.out]; exact (nameE_bare hb h33).symm))
      · rw [if_neg h33]
        exact pointed_any a s r 50 p R w' hd hsa ha hs (by omega) (by (show _ = _; rw [← hR.out]; exact (nameE_nm hb h33).symm))
    clear hb hR
    by_cases h33 : kind = 33
    · have HN' := HN.out
      rw [if_pos h33] at HN'
      have HN2 := Lib.hid HN'
      clear HN HN'
      go_enter Try.func137, Try.ntmps137
      go_wp2_with fail
      refine HE.out.mono ?_
      rintro e w1 ⟨rfl, hB⟩
      have hc1 := HC.out.below hB
      have h1 := cell_of_row w1 _ 0 _ _ _ hc1.at1
      unfold namer at h1
      rw [if_pos h33] at h1
      have HD1 := Lib.hid (H.out.held hB)
      have HG := Lib.hid (only_of_below hB (some r))
      clear hB hc1 HE h33
      cases R with
      | error x =>
        go_wp2_with fail
        refine (HN2.out _ HD1.out).mono ?_
        rintro e w2 ⟨rfl, hG2⟩
        have HG2 := Lib.hid (grown_trans HG.out hG2)
        clear hG2
        go_wp2_with fail
        exact ⟨rfl, rfl, HG2.out⟩
      | ok oq =>
        obtain ⟨o, q0⟩ := oq
        go_wp2_with fail
        refine (HN2.out _ HD1.out).mono ?_
        rintro e w2 ⟨rfl, hD2, hG2⟩
        have HG2 := Lib.hid (grown_trans HG.out hG2)
        have HD2 := Lib.hid hD2
        clear hG2 hD2
        go_wp2_with fail
        go_ret
        exact ⟨rfl, HD2.out, HG2.out⟩
    · have HN' := HN.out
      rw [if_neg h33] at HN'
      have HN2 := Lib.hid HN'
      clear HN HN'
      go_enter Try.func137, Try.ntmps137
      go_wp2_with fail
      refine HE.out.mono ?_
      rintro e w1 ⟨rfl, hB⟩
      have hc1 := HC.out.below hB
      have h1 := cell_of_row w1 _ 0 _ _ _ hc1.at1
      unfold namer at h1
      rw [if_neg h33] at h1
      have HD1 := Lib.hid (H.out.held hB)
      have HG := Lib.hid (only_of_below hB (some r))
      clear hB hc1 HE h33
      cases R with
      | error x =>
        go_wp2_with fail
        refine (HN2.out _ HD1.out).mono ?_
        rintro e w2 ⟨rfl, hG2⟩
        have HG2 := Lib.hid (grown_trans HG.out hG2)
        clear hG2
        go_wp2_with fail
        exact ⟨rfl, rfl, HG2.out⟩
      | ok oq =>
        obtain ⟨o, q0⟩ := oq
        go_wp2_with fail
        refine (HN2.out _ HD1.out).mono ?_
        rintro e w2 ⟨rfl, hD2, hG2⟩
        have HG2 := Lib.hid (grown_trans HG.out hG2)
        have HD2 := Lib.hid hD2
        clear hG2 hD2
        go_wp2_with fail
        go_ret
        exact ⟨rfl, HD2.out, HG2.out⟩

theorem nameE_next {l : List UInt8} {E kind p q : Nat} {o : List UInt8} (hE : E ≤ l.length) (h : nameE l E kind p = .ok (o, q)) : q ≤ l.length := by
  unfold nameE at h
  split at h
  · cases h
  · split at h
    · unfold bare at h
      split at h
      · cases h
      · next o1 q1 hr =>
        have := (run_ok hr).2.1
        split at h
        · injection h with h; injection h with _ h2; omega
        · cases h
    · exact nm_next hE (fun x e => by cases e) h
/-- Several names came back, or the reading gave up. -/
def NmsEnd (w : World) (r : Nat) (a s : ByteArray) : Except Nat (List (List UInt8) × Nat) → Ending → World → Prop
  | .error x, e, w' => e = gave x ∧ w.grownBy w' (some r)
  | .ok (L, q), e, w' => ∃ v, e = .returned v ∧ w'.ownsRow w.heap.size 9 1 v L.length (strCs L) ∧ RdrAt w' r a s (q : Int) 50 ∧ w.grownBy w' (some r)

set_option maxHeartbeats 2000000 in
set_option maxRecDepth 100000 in
theorem boundeds_any (a s : ByteArray) (r qq kind n p0 : Nat) (R : Except Nat (List (List UInt8) × Nat)) (w : World) (h : RdrAt w r a s p0 50) (hc : Catch w r qq kind) (hq1 : qq ≠ r) (hq2 : qq + 1 ≠ r) (hsa : Hid (s.data.toList = a.data.toList.take s.size)) (ha : a.size ≤ 1000000) (hsz : s.size ≤ a.size) (hp0 : p0 ≤ 1000000) (hn : n ≤ 100) (hR : Hid (many (nameE a.data.toList s.size kind) n p0 = R)) :
    Calls Try.prog 139 #[.int .i64 n, .func (.func 137) #[] #[.pointer (some ⟨qq, 0, none⟩), .pointer (some ⟨qq + 1, 0, none⟩)]] w (NmsEnd w r a s R) := by
  have AZ := Lib.hid (Lib.size_eq a)
  have hrl := h.lt
  have hcl := hc.lt
  have H := Lib.hid h; clear h
  have HC := Lib.hid hc; clear hc
  obtain ⟨g, hg⟩ : ∃ g, w.heap.size = g := ⟨_, rfl⟩
  have G := Lib.hid hg
  rw [hg] at hrl hcl
  obtain ⟨i0, hi, hz0, hz1, hz2⟩ := info_parts info9
  have HI := Lib.hid hi; clear hi
  have HZ0 := Lib.hid hz0; clear hz0
  have HZ1 := Lib.hid hz1; clear hz1
  have HZ2 := Lib.hid hz2; clear hz2
  have HR0 : Hid (more (nameE a.data.toList s.size kind) [] n p0 = R) := by show _ = _; rw [more_none]; exact hR.out
  clear hg hR
  go_enter Try.func139, Try.ntmps139
  go_wp2_with fail
  go_loopw [5, 7] (fun v i wr => ∃ (j p : Nat) (L : List (List UInt8)), i = .int .i64 j ∧ j ≤ n ∧ p ≤ 1000000 ∧ Hid (wr.ownsRow g 9 1 v j (strCs L)) ∧ Hid (L.length = j) ∧ Hid (RdrAt wr r a s p 50) ∧ Hid (more (nameE a.data.toList s.size kind) L (n - j) p = R) ∧ Hid (Kept g r w wr)) (fun _ i _ => n - (intOf i).toNat)
  case atStart => exact ⟨0, p0, [], rfl, Nat.zero_le _, hp0, World.ownsRow_nil _ _ _ _, rfl, H, HR0, Kept.refl _ _ _⟩
  case round =>
    obtain ⟨j, p, L, rfl, hj, hp, hO, hL, hD, hR, hK⟩ := hrel
    have hgw : Hid (g ≤ wr.heap.size) := by have := hK.out.size; rw [G.out] at this; exact this
    by_cases hlt : j < n
    · obtain ⟨Q1, hQ1⟩ : ∃ Q1, nameE a.data.toList s.size kind p = Q1 := ⟨_, rfl⟩
      have HQ := Lib.hid (bounded_any a s r qq kind p Q1 wr hD.out (HC.out.kept hK.out hq1 hq2 hcl) hsa ha (by omega) hp hQ1)
      obtain ⟨m, hm⟩ : ∃ m, n - j = m + 1 := ⟨n - j - 1, by omega⟩
      cases Q1 with
      | error x =>
        have hRe : Hid (R = .error x) := by show _ = _; rw [← hR.out, hm]; exact more_err hQ1
        clear hm hQ1
        go_wp2_with fail
        refine HQ.out.mono ?_
        rintro e w1 ⟨rfl, hG1⟩
        have HE : Hid (w.grownBy w1 (some r)) := kept_grown (hK.out.grown hG1 hgw.out) G.out
        clear hG1
        go_wp2_with fail
        rw [hRe.out]
        exact ⟨rfl, rfl, HE.out⟩
      | ok Qq =>
        obtain ⟨x, q⟩ := Qq
        have hql : q ≤ 1000000 := by have := nameE_next (by rw [← AZ.out]; exact hsz) hQ1; rw [← AZ.out] at this; omega
        have hRm : Hid (more (nameE a.data.toList s.size kind) (L ++ [x]) (n - (j + 1)) q = R) := by show _ = _; rw [← hR.out, hm, more_one hQ1]; congr 1; omega
        clear hm hQ1
        go_wp2_with fail
        refine HQ.out.mono ?_
        rintro e w1 ⟨rfl, hD1, hG1⟩
        have hO1 := Lib.hid (row_rdr hD.out hO.out hG1 (by decide))
        have hK1 := Lib.hid (hK.out.grown hG1 hgw.out)
        have hg1 : Hid (g ≤ w1.heap.size) := Nat.le_trans hgw.out hG1.size
        have HD1 := Lib.hid hD1
        clear hD1 hG1 hO hD hK HQ
        go_wp2_with (at_builtin; refine wpList_append_own _ rfl _ _ 57 rfl g 9 i0 (.string ⟨#[]⟩) 1 16 Try.underlying57 HI.out HZ0.out HZ1.out HZ2.out rfl (by decide) _ _ _ rfl (hO1.out.alloc _) ⟨w1.heap.size, 0, none⟩ 1 1 [.string (mk x)] rfl rfl ?c1 ?c2 ?c3 ?c4 ?c5 ?_)
        case c1 =>
          intro j u hj
          match j, hj with
          | 0, hj => simp at hj; subst hj; simp [Addr.add]
        case c2 => first | rfl | (intro u hu; simp at hu; subst hu; rfl)
        case c3 => unfold maxLen; omega
        case c4 => omega
        case c5 => have := hg1.out; simp; omega
        intro v' w2 hown hgrow _
        have E1 : Hid (w2.ownsRow g 9 1 v' (j + 1) (strCs (L ++ [x]))) := by
          show World.ownsRow _ _ _ _ _ _ _
          rw [strCs_snoc]
          exact hown
        have E2 := Lib.hid (rdr_row HD1.out hO1.out ((Below.refl _ _).alloc (Nat.le_refl _) _) hgrow (by decide))
        have E3 := Lib.hid ((hK1.out.alloc hg1.out _).own hgrow (by have := hg1.out; simp; omega) (fun k hk => (hO1.out.lt k hk).1))
        clear hown hgrow hO1 HD1 hK1
        go_wp2_with fail
        go_roundw
        case rel => exact ⟨j + 1, q, L ++ [x], by go_num, by omega, by omega, E1, by (show _ = _; rw [List.length_append, hL.out]; rfl), E2, hRm, E3⟩
        case measure => simp [intOf]; omega
    · have hjn : j = n := by omega
      have hRe : Hid (R = .ok (L, p)) := by show _ = _; rw [← hR.out, show n - j = 0 by omega]; exact more_end _ _ _
      have HE : Hid (w.grownBy wr (some r)) := kept_grown hK.out G.out
      clear hjn
      go_wp2_with fail
      go_ret
      rw [hRe.out]
      refine ⟨_, rfl, ?_, hD.out, HE.out⟩
      rw [hL.out, G.out]
      exact hO.out
end Go.Proofs.Ytpmmjmnleoicjaa

/- The contract of a message's reader: the texts of a record's data. For texts of at most 10^6 bytes. -/
namespace Go.Proofs.Ytpmmjmnleoicjaa
open Go.RowKit NumMath NmMath Bytes Strs MsgMath StMath DatMath

theorem grown_alloc {w w' : World} {row : Option Nat} (h : w.grownBy w' row) (o : Obj) : w.grownBy (w'.alloc o) row :=
  ⟨h.os, h.tape, h.output, by have := h.size; simp; omega, fun i hi hne => (Below.heap_alloc w' o i (Nat.lt_of_lt_of_le hi h.size)).trans (h.block i hi hne)⟩
theorem own_lit1 (w : World) (base : Nat) (o : List UInt8) (hb : base ≤ w.heap.size) :
    (w.alloc (.cells #[.string (mk o)] 9)).ownsRow base 9 1 (.slice (some ⟨w.heap.size, 0, none⟩) 1 1) 1 (strCs [o]) :=
  ⟨rfl, Or.inr ⟨w.heap.size, 1, #[.string (mk o)], rfl, hb, heap_alloc_new w _, Nat.le_refl _, by unfold maxLen; decide, rfl, rfl⟩⟩
theorem extract_ahead {a s : ByteArray} {p n : Nat} (hsa : s.data.toList = a.data.toList.take s.size) (h : p + n ≤ s.size) : s.extract p (p + n) = mk (cut a.data.toList p n) := by
  refine list_inj ?_
  rw [cut_extract, hsa, cut_take h, mk_list]

theorem texts_size4 (a s : ByteArray) (r p : Nat) (R : Except Nat (List (List UInt8) × Nat)) (w : World) (h : RdrAt w r a s p 50) (hsa : Hid (s.data.toList = a.data.toList.take s.size)) (hs : s.size ≤ 1000000) (hp : p ≤ s.size) (hR : Hid (partE a.data.toList s.size 4 p = R)) :
    Calls Try.prog 143 #[.pointer (some ⟨r, 0, none⟩), .int .u16 1] w (NmsEnd w r a s R) := by
  by_cases hin : p + 4 ≤ s.size
  · obtain ⟨o, ho⟩ : ∃ o, cut a.data.toList p 4 = o := ⟨_, rfl⟩
    have hRe : Hid (R = .ok ([o], p + 4)) := by show _ = _; rw [← hR.out, partE_ok hin, ho]
    have HT := Lib.hid (text_yes a s (mk o) r p 4 50 w h hin hs (by (show _ = _; rw [extract_ahead hsa.out hin, ho])))
    clear h hR ho
    go_enter Try.func143, Try.ntmps143
    go_wp2_with fail
    refine HT.out.mono ?_
    rintro e w1 ⟨rfl, hD, hG⟩
    have HD := Lib.hid (hD.held ((Below.refl _ _).alloc (Nat.le_refl _) (.cells #[.string (mk o)] 9)))
    have HG := Lib.hid (grown_alloc hG (.cells #[.string (mk o)] 9))
    have HL := Lib.hid (own_lit1 w1 w.heap.size o hG.size)
    clear hD hG HT
    go_wp2_with fail
    go_ret
    rw [hRe.out]
    exact ⟨_, rfl, HL.out, HD.out, HG.out⟩
  · have hRe : Hid (R = .error 50) := by show _ = _; rw [← hR.out, partE_no (by omega)]
    have HT := Lib.hid (text_no a s r 50 p 4 w h hs (by omega) (by omega) (by omega) (holds_no (n := s.size) (p := p) (m := 4) (by omega)))
    clear h hR
    go_enter Try.func143, Try.ntmps143
    go_wp2_with fail
    refine HT.out.mono ?_
    rintro e w1 ⟨rfl, m, rfl⟩
    go_wp2_with fail
    rw [hRe.out]
    exact ⟨rfl, rfl, grown_drewN (grown_refl _ _) m⟩

theorem texts_size16 (a s : ByteArray) (r p : Nat) (R : Except Nat (List (List UInt8) × Nat)) (w : World) (h : RdrAt w r a s p 50) (hsa : Hid (s.data.toList = a.data.toList.take s.size)) (hs : s.size ≤ 1000000) (hp : p ≤ s.size) (hR : Hid (partE a.data.toList s.size 16 p = R)) :
    Calls Try.prog 143 #[.pointer (some ⟨r, 0, none⟩), .int .u16 28] w (NmsEnd w r a s R) := by
  by_cases hin : p + 16 ≤ s.size
  · obtain ⟨o, ho⟩ : ∃ o, cut a.data.toList p 16 = o := ⟨_, rfl⟩
    have hRe : Hid (R = .ok ([o], p + 16)) := by show _ = _; rw [← hR.out, partE_ok hin, ho]
    have HT := Lib.hid (text_yes a s (mk o) r p 16 50 w h hin hs (by (show _ = _; rw [extract_ahead hsa.out hin, ho])))
    clear h hR ho
    go_enter Try.func143, Try.ntmps143
    go_wp2_with fail
    refine HT.out.mono ?_
    rintro e w1 ⟨rfl, hD, hG⟩
    have HD := Lib.hid (hD.held ((Below.refl _ _).alloc (Nat.le_refl _) (.cells #[.string (mk o)] 9)))
    have HG := Lib.hid (grown_alloc hG (.cells #[.string (mk o)] 9))
    have HL := Lib.hid (own_lit1 w1 w.heap.size o hG.size)
    clear hD hG HT
    go_wp2_with fail
    go_ret
    rw [hRe.out]
    exact ⟨_, rfl, HL.out, HD.out, HG.out⟩
  · have hRe : Hid (R = .error 50) := by show _ = _; rw [← hR.out, partE_no (by omega)]
    have HT := Lib.hid (text_no a s r 50 p 16 w h hs (by omega) (by omega) (by omega) (holds_no (n := s.size) (p := p) (m := 16) (by omega)))
    clear h hR
    go_enter Try.func143, Try.ntmps143
    go_wp2_with fail
    refine HT.out.mono ?_
    rintro e w1 ⟨rfl, m, rfl⟩
    go_wp2_with fail
    rw [hRe.out]
    exact ⟨rfl, rfl, grown_drewN (grown_refl _ _) m⟩

theorem texts_rest (a s : ByteArray) (r p kind : Nat) (w : World) (h : RdrAt w r a s p 50) (hsa : Hid (s.data.toList = a.data.toList.take s.size)) (hs : s.size ≤ 1000000) (hp : p ≤ s.size) (h1 : ((kind : Int) == 1) = false) (h28 : ((kind : Int) == 28) = false) (h16 : ((kind : Int) == 16) = false) :
    Calls Try.prog 143 #[.pointer (some ⟨r, 0, none⟩), .int .u16 kind] w (NmsEnd w r a s (.ok ([cut a.data.toList p (s.size - p)], s.size))) := by
  obtain ⟨o, ho⟩ : ∃ o, cut a.data.toList p (s.size - p) = o := ⟨_, rfl⟩
  have hz : ((s.size : Int) - p) = ((s.size - p : Nat) : Int) := by omega
  have HL := Lib.hid (left_any a s r p 50 w h hp hs)
  have HT := Lib.hid (fun m => text_yes a s (mk o) r p (s.size - p) 50 (w.drewN m) (h.drewN m) (by omega) hs (by (show _ = _; rw [extract_ahead hsa.out (by omega), ho])))
  rw [hz] at HL
  rw [ho]
  have HE : Hid (p + (s.size - p) = s.size) := by show _ = _; omega
  obtain ⟨z, hzz⟩ : ∃ z, s.size - p = z := ⟨_, rfl⟩
  rw [hzz] at HL HT HE
  clear h ho hz hzz
  go_enter Try.func143, Try.ntmps143
  go_wp2_with fail
  refine HL.out.mono ?_
  rintro e w0 ⟨rfl, m, rfl⟩
  go_wp2_with fail
  refine (HT.out m).mono ?_
  rintro e w1 ⟨rfl, hD, hG⟩
  have hD' : RdrAt w1 r a s (s.size : Int) 50 := by have := hD; rw [← Int.natCast_add, HE.out] at this; exact this
  have HD := Lib.hid (hD'.held ((Below.refl _ _).alloc (Nat.le_refl _) (.cells #[.string (mk o)] 9)))
  have hG' : w.grownBy w1 (some r) := ⟨hG.os, hG.tape, hG.output, hG.size, hG.block⟩
  have HG := Lib.hid (grown_alloc hG' (.cells #[.string (mk o)] 9))
  have HLL := Lib.hid (own_lit1 w1 w.heap.size o hG'.size)
  clear hD hG hD' hG' HT HL
  go_wp2_with fail
  go_ret
  exact ⟨_, rfl, HLL.out, HD.out, HG.out⟩

set_option maxHeartbeats 2000000 in
set_option maxRecDepth 100000 in
theorem texts_txt (a s : ByteArray) (r p : Nat) (R : Except Nat (List (List UInt8) × Nat)) (w : World) (h : RdrAt w r a s p 50) (hsa : Hid (s.data.toList = a.data.toList.take s.size)) (hs : s.size ≤ 1000000) (hp : p ≤ s.size) (hR : Hid ((if p < s.size then txtE a.data.toList s.size [] p else .error 50) = R)) :
    Calls Try.prog 143 #[.pointer (some ⟨r, 0, none⟩), .int .u16 16] w (NmsEnd w r a s R) := by
  obtain ⟨Q0, hQ0⟩ : ∃ Q0, measE a.data.toList s.size p = Q0 := ⟨_, rfl⟩
  have HM := Lib.hid (measured_any a s r p Q0 w h hsa hs (by omega) hQ0)
  obtain ⟨g, hg⟩ : ∃ g, w.heap.size = g := ⟨_, rfl⟩
  have G := Lib.hid hg
  cases Q0 with
  | error x =>
    have hRe : Hid (R = .error x) := by
      show _ = _
      rw [← hR.out]
      split
      · next hlt => exact txtE_err hlt hQ0
      · next hlt =>
        rw [measE_no (by omega)] at hQ0
        injection hQ0 with hQ0
        rw [hQ0]
    clear h hR hQ0 hg
    go_enter Try.func143, Try.ntmps143
    go_wp2_with fail
    refine HM.out.mono ?_
    rintro e w1 ⟨rfl, hG⟩
    have HG := Lib.hid hG
    clear hG HM
    go_wp2_with fail
    rw [hRe.out]
    exact ⟨rfl, rfl, HG.out⟩
  | ok oq =>
    obtain ⟨o, q⟩ := oq
    obtain ⟨hq1, hq2, hq3⟩ := measE_at hQ0
    have HR0 : Hid (txtE a.data.toList s.size [o] q = R) := by
      show _ = _
      rw [← hR.out, if_pos (by omega), txtE_more (by omega) hQ0]
      rfl
    obtain ⟨i0, hi, hz0, hz1, hz2⟩ := info_parts info9
    have HI := Lib.hid hi; clear hi
    have HZ0 := Lib.hid hz0; clear hz0
    have HZ1 := Lib.hid hz1; clear hz1
    have HZ2 := Lib.hid hz2; clear hz2
    clear h hR hQ0 hg
    go_enter Try.func143, Try.ntmps143
    go_wp2_with fail
    refine HM.out.mono ?_
    rintro e w1 ⟨rfl, hD, hG⟩
    have HD : Hid (RdrAt (w1.alloc (.cells #[.string (mk o)] 9)) r a s (q : Int) 50) := hD.held ((Below.refl _ _).alloc (Nat.le_refl _) _)
    have HK : Hid (Kept g r w (w1.alloc (.cells #[.string (mk o)] 9))) := (Kept.of_grown hG (by rw [G.out]; exact Nat.le_refl _)).alloc (by have := hG.size; rw [G.out] at this; exact this) _
    have HO : Hid ((w1.alloc (.cells #[.string (mk o)] 9)).ownsRow g 9 1 (.slice (some ⟨w1.heap.size, 0, none⟩) 1 1) 1 (strCs [o])) := own_lit1 w1 g o (by have := hG.size; rw [G.out] at this; exact this)
    clear hD hG HM
    go_wp2_with fail
    generalize w1.alloc (.cells #[.string (mk o)] 9) = w2 at HD HK HO ⊢
    go_loopw [5] (fun v wr => ∃ (L : List (List UInt8)) (p : Nat), p ≤ s.size ∧ L.length ≤ p ∧ Hid (wr.ownsRow g 9 1 v L.length (strCs L)) ∧ Hid (RdrAt wr r a s p 50) ∧ Hid (txtE a.data.toList s.size L p = R) ∧ Hid (Kept g r w wr)) (fun _ wr => s.size - placeOf wr r)
    case atStart => exact ⟨[o], q, hq2, by show 1 ≤ q; omega, HO, HD, HR0, HK⟩
    case round =>
      obtain ⟨L, p, hp, hLp, hO, hD, hR, hK⟩ := hrel
      have hgw : Hid (g ≤ wr.heap.size) := by have := hK.out.size; rw [G.out] at this; exact this
      have hpl := placeOf_at hD.out
      have HP := Lib.hid hpl
      clear hpl
      have HL := Lib.hid (left_any a s r p 50 wr hD.out hp hs)
      obtain ⟨Ln, hLn⟩ : ∃ n, L.length = n := ⟨_, rfl⟩
      have HLN := Lib.hid hLn
      rw [hLn] at hO
      rw [hLn] at hLp
      clear hLn
      by_cases hlt : p < s.size
      · have hpos : (0 : Int) < (s.size : Int) - p := by omega
        obtain ⟨Q1, hQ1⟩ : ∃ Q1, measE a.data.toList s.size p = Q1 := ⟨_, rfl⟩
        have HQ := Lib.hid (fun m => measured_any a s r p Q1 (wr.drewN m) (hD.out.drewN m) hsa hs (by omega) hQ1)
        cases Q1 with
        | error x =>
          have hRe : Hid (R = .error x) := by show _ = _; rw [← hR.out]; exact txtE_err hlt hQ1
          clear hQ1
          go_wp2_with fail
          refine HL.out.mono ?_
          rintro e w3 ⟨rfl, m, rfl⟩
          go_wp2_with fail
          refine (HQ.out m).mono ?_
          rintro e w4 ⟨rfl, hG4⟩
          have HE : Hid (w.grownBy w4 (some r)) := kept_grown ((hK.out.drewN m).grown hG4 hgw.out) G.out
          clear hG4
          go_wp2_with fail
          rw [hRe.out]
          exact ⟨rfl, rfl, HE.out⟩
        | ok Qq =>
          obtain ⟨x, q⟩ := Qq
          obtain ⟨hx1, hx2, hx3⟩ := measE_at hQ1
          have hRm : Hid (txtE a.data.toList s.size (L ++ [x]) q = R) := by show _ = _; rw [← hR.out, txtE_more hlt hQ1]
          clear hQ1
          go_wp2_with fail
          refine HL.out.mono ?_
          rintro e w3 ⟨rfl, m, rfl⟩
          go_wp2_with fail
          refine (HQ.out m).mono ?_
          rintro e w4 ⟨rfl, hD1, hG1⟩
          have hO1 := Lib.hid (row_rdr (hD.out.drewN m) (show (wr.drewN m).ownsRow g 9 1 u5 Ln (strCs L) from hO.out) hG1 (by decide))
          have hK1 := Lib.hid ((hK.out.drewN m).grown hG1 hgw.out)
          have hg1 : Hid (g ≤ w4.heap.size) := Nat.le_trans hgw.out hG1.size
          have HD1 := Lib.hid hD1
          clear hD1 hG1 hO hD hK HQ HL
          go_wp2_with (at_builtin; refine wpList_append_own _ rfl _ _ 57 rfl g 9 i0 (.string ⟨#[]⟩) 1 16 Try.underlying57 HI.out HZ0.out HZ1.out HZ2.out rfl (by decide) _ _ _ rfl (hO1.out.alloc _) ⟨w4.heap.size, 0, none⟩ 1 1 [.string (mk x)] rfl rfl ?c1 ?c2 ?c3 ?c4 ?c5 ?_)
          case c1 =>
            intro j u hj
            match j, hj with
            | 0, hj => simp at hj; subst hj; simp [Addr.add]
          case c2 => first | rfl | (intro u hu; simp at hu; subst hu; rfl)
          case c3 => unfold maxLen; omega
          case c4 => omega
          case c5 => have := hg1.out; simp; omega
          intro v' w5 hown hgrow _
          have E1 : Hid (w5.ownsRow g 9 1 v' (L ++ [x]).length (strCs (L ++ [x]))) := by
            show World.ownsRow _ _ _ _ _ _ _
            rw [strCs_snoc, List.length_append, HLN.out]
            exact hown
          have E2 := Lib.hid (rdr_row HD1.out hO1.out ((Below.refl _ _).alloc (Nat.le_refl _) _) hgrow (by decide))
          have E3 := Lib.hid ((hK1.out.alloc hg1.out _).own hgrow (by have := hg1.out; simp; omega) (fun k hk => (hO1.out.lt k hk).1))
          have HP5 := Lib.hid (placeOf_at E2.out)
          clear hown hgrow hO1 HD1 hK1
          go_wp2_with fail
          go_roundw
          case rel => exact ⟨L ++ [x], q, hx2, by (rw [List.length_append, HLN.out]; show Ln + 1 ≤ q; omega), E1, E2, hRm, E3⟩
          case measure => rw [HP.out, HP5.out]; omega
      · have hpos : ¬ ((0 : Int) < (s.size : Int) - p) := by omega
        have hRe : Hid (R = .ok (L, p)) := by show _ = _; rw [← hR.out]; exact txtE_end (by omega)
        have HE : Hid (w.grownBy wr (some r)) := kept_grown hK.out G.out
        go_wp2_with fail
        refine HL.out.mono ?_
        rintro e w3 ⟨rfl, m, rfl⟩
        go_wp2_with fail
        go_ret
        rw [hRe.out]
        refine ⟨_, rfl, ?_, hD.out, ⟨HE.out.os, HE.out.tape, HE.out.output, HE.out.size, HE.out.block⟩⟩
        rw [HLN.out, G.out]
        exact hO.out

theorem texts_any (a s : ByteArray) (r p kind : Nat) (R : Except Nat (List (List UInt8) × Nat)) (w : World) (h : RdrAt w r a s p 50) (hsa : Hid (s.data.toList = a.data.toList.take s.size)) (hs : s.size ≤ 1000000) (hp : p ≤ s.size) (hR : Hid (textsE a.data.toList s.size kind p = R)) :
    Calls Try.prog 143 #[.pointer (some ⟨r, 0, none⟩), .int .u16 kind] w (NmsEnd w r a s R) := by
  have hR' := hR.out
  unfold textsE at hR'
  by_cases h1 : kind = 1
  · subst h1
    rw [if_pos rfl] at hR'
    exact texts_size4 a s r p R w h hsa hs hp hR'
  · rw [if_neg h1] at hR'
    by_cases h28 : kind = 28
    · subst h28
      rw [if_pos rfl] at hR'
      exact texts_size16 a s r p R w h hsa hs hp hR'
    · rw [if_neg h28] at hR'
      by_cases h16 : kind = 16
      · subst h16
        rw [if_pos rfl] at hR'
        exact texts_txt a s r p R w h hsa hs hp hR'
      · rw [if_neg h16] at hR'
        subst hR'
        exact texts_rest a s r p kind w h hsa hs hp (beq_eq_false_iff_ne.2 (by omega)) (beq_eq_false_iff_ne.2 (by omega)) (beq_eq_false_iff_ne.2 (by omega))
end Go.Proofs.Ytpmmjmnleoicjaa

/- The document's Same of two empty messages; errors of a reading. No condition. -/
namespace Go.Proofs.Ytpmmjmnleoicjaa
open Go.RowKit Bytes NmMath RecMath MsgMath StMath DatMath

theorem records_none (w : World) : Calls Try.prog 53 #[.slice none 0 0, .slice none 0 0] w fun e w' => e = .returned (.bool true) ∧ w = w' := by
  go_enter Try.func53, Try.ntmps53
  go_wp2_with fail
  go_loop [5] (fun i => i = .int .i64 0) (fun _ => 0)
  case atStart => rfl
  case round =>
    obtain rfl := hrel
    go_wp2_with fail
    go_ret
    exact ⟨rfl, rfl⟩
theorem same_none (w : World) : Calls Try.prog 19 #[.agg #[.int .u16 0, .int .u16 0, .slice none 0 0, .slice none 0 0, .slice none 0 0, .slice none 0 0], .agg #[.int .u16 0, .int .u16 0, .slice none 0 0, .slice none 0 0, .slice none 0 0, .slice none 0 0]] w fun e w' => e = .returned (.bool true) ∧ Below w.heap.size w w' := by
  have HRN := Lib.hid records_none
  have HB : Hid (Below w.heap.size w ((w.alloc (.cells #[.int .u16 0, .int .u16 0, .slice none 0 0, .slice none 0 0, .slice none 0 0, .slice none 0 0] 26)).alloc (.cells #[.int .u16 0, .int .u16 0, .slice none 0 0, .slice none 0 0, .slice none 0 0, .slice none 0 0] 26))) := ((Below.refl _ _).alloc (Nat.le_refl _) _).alloc (by simp) _
  go_enter Try.func19, Try.ntmps19
  go_wp2_with ((go_at_call 53; refine (HRN.out _).mono ?_; rintro e w' ⟨rfl, rfl⟩))
  go_loop [5] (fun i => i = .int .i64 0) (fun _ => 0)
  case atStart => rfl
  case round =>
    obtain rfl := hrel
    go_wp2_with fail
    go_ret
    exact ⟨rfl, HB.out⟩
theorem bare_ne {l : List UInt8} {E K p x : Nat} (hK : K ≠ 0) (h : bare l E K p [] = .error x) : x ≠ 0 := by
  unfold bare at h
  split at h
  · next hr => injection h with h; have := run_err hr; omega
  · split at h
    · cases h
    · injection h with h; omega
theorem nm_ne {l : List UInt8} {E K p b : Nat} {next : Option Nat} {o : List UInt8} : K ≠ 0 → ∀ {x : Nat}, nm l E K p b next o = .error x → x ≠ 0 := by
  fun_induction nm l E K p b next o with
  | case1 E K p b next o k hr =>
    intro hK x e
    injection e with e
    have := run_err hr
    omega
  | case2 => intro hK x e; cases e
  | case3 E K p b next o o1 q hr h0 h1 h2 ih => intro hK x e; exact ih (by decide) e
  | case4 => intro hK x e; injection e with e; omega
  | case5 => intro hK x e; injection e with e; omega
theorem many_ne {α : Type} {f : Nat → Except Nat (α × Nat)} (hf : ∀ p x, f p = .error x → x ≠ 0) : ∀ {n p x : Nat}, many f n p = .error x → x ≠ 0 := by
  intro n
  induction n with
  | zero => intro p x h; cases h
  | succ n ih =>
    intro p x h
    rw [many] at h
    split at h
    · next hx => injection h with h; subst h; exact hf _ _ hx
    · split at h
      · next hx => injection h with h; subst h; exact ih hx
      · cases h
theorem nameE_ne {l : List UInt8} {E kind p x : Nat} (h : nameE l E kind p = .error x) : x ≠ 0 := by
  unfold nameE at h
  split at h
  · injection h with h; omega
  · split at h
    · exact bare_ne (by decide) h
    · exact nm_ne (by decide) h
theorem numE_ne {l : List UInt8} {E size p x : Nat} (h : numE l E size p = .error x) : x ≠ 0 := by
  unfold numE at h
  split at h
  · cases h
  · injection h with h; omega
theorem txtE_50 {l : List UInt8} {E p x : Nat} {out : List (List UInt8)} : txtE l E out p = .error x → x = 50 := by
  fun_induction txtE l E out p with
  | case1 out p h h2 ih => exact ih
  | case2 => intro h; injection h with h; omega
  | case3 => intro h; cases h
theorem textsE_50 {l : List UInt8} {E kind p x : Nat} (h : textsE l E kind p = .error x) : x = 50 := by
  have part : ∀ n, partE l E n p = .error x → x = 50 := fun n h => by
    unfold partE at h
    split at h
    · cases h
    · injection h with h; omega
  unfold textsE at h
  split at h
  · exact part _ h
  · split at h
    · exact part _ h
    · split at h
      · split at h
        · exact txtE_50 h
        · injection h with h; omega
      · cases h
theorem endE_50 {l : List UInt8} {E kind p x : Nat} {nms : List (List UInt8)} {ns : List Nat} (h : endE l E kind nms ns p = .error x) : x = 50 := by
  unfold endE at h
  split at h
  · split at h
    · next hx => injection h with h; subst h; exact textsE_50 hx
    · split at h
      · injection h with h; omega
      · cases h
  · split at h
    · injection h with h; omega
    · cases h
theorem bodyE_ne {l : List UInt8} {E kind p x : Nat} (h : bodyE l E kind p = .error x) : x ≠ 0 := by
  unfold bodyE at h
  split at h
  · split at h
    · next hx => injection h with h; subst h; exact many_ne (fun _ _ h => nameE_ne h) hx
    · split at h
      · next hx => injection h with h; subst h; exact many_ne (fun _ _ h => numE_ne h) hx
      · have := endE_50 h; omega
  · split at h
    · next hx => injection h with h; subst h; exact many_ne (fun _ _ h => numE_ne h) hx
    · split at h
      · next hx => injection h with h; subst h; exact many_ne (fun _ _ h => nameE_ne h) hx
      · have := endE_50 h; omega
theorem recE_ne {l : List UInt8} {p x : Nat} (h : recE l p = .error x) : x ≠ 0 := by
  unfold recE at h
  split at h
  · next hx => injection h with h; subst h; exact nm_ne (by decide) hx
  · unfold headE at h
    split at h
    · split at h
      · unfold lateE at h
        split at h
        · next hx => injection h with h; subst h; exact bodyE_ne hx
        · split at h
          · injection h with h; omega
          · cases h
      · injection h with h; omega
    · injection h with h; omega
theorem qn_ne {l : List UInt8} {p x : Nat} (h : qn l p = .error x) : x ≠ 0 := by
  unfold qn at h
  split at h
  · next hx => injection h with h; subst h; exact nm_ne (by decide) hx
  · split at h
    · cases h
    · injection h with h; omega
theorem msg_ne {l : List UInt8} {x : Nat} (h : msg (recE l) l = .error x) : x ≠ 0 := by
  have hr : ∀ {n p x : Nat}, many (recE l) n p = .error x → x ≠ 0 := many_ne fun _ _ h => recE_ne h
  unfold msg at h
  split at h
  · injection h with h; omega
  · split at h
    · injection h with h; omega
    · unfold msg1 at h
      split at h
      · next hx => injection h with h; subst h; exact many_ne (fun _ _ h => qn_ne h) hx
      · unfold msg2 at h
        split at h
        · next hx => injection h with h; subst h; exact hr hx
        · unfold msg3 at h
          split at h
          · next hx => injection h with h; subst h; exact hr hx
          · unfold msg4 at h
            split at h
            · next hx => injection h with h; subst h; exact hr hx
            · split at h
              · injection h with h; omega
              · cases h
theorem rd_ne {l : List UInt8} {x : Nat} (h : rd (recE l) l = .error x) : x ≠ 0 := by
  unfold rd at h
  split at h
  · injection h with h; omega
  · exact msg_ne h
end Go.Proofs.Ytpmmjmnleoicjaa
