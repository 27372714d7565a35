/- The contracts of a message's reader: what is gone by, and whether a name ends. For texts of at most 10^6 bytes. -/
import Derived.Test.YtngbifdenbfepaaProg
import Derived.Test.YtngbifdenbfepaaBytes
import Derived.Test.YtngbifdenbfepaaNmMath
import Derived.Test.YtngbifdenbfepaaNmAt
import Derived.Test.YtngbifdenbfepaaStMath
import Derived.Test.YtngbifdenbfepaaKept
import Derived.Test.YtngbifdenbfepaaRdr
import Derived.Test.YtngbifdenbfepaaRdrText
import Derived.WalkKit
import Derived.Lib.Hide
import Derived.Laws.Rows
import Derived.Outline
import Derived.IntWalk
import Derived.WalkSpells
import Derived.WalkLawsBesides
namespace Go.Proofs.Ytngbifdenbfepaa
open Go.RowKit NumMath NmMath Bytes StMath

theorem skip_yes (a s : ByteArray) (r p n k : Nat) (w : World) (h : RdrAt w r a s p k) (hp : p + n ≤ s.size) (hs : s.size ≤ 1000000) :
    Calls Try.prog 51 #[.pointer (some ⟨r, 0, none⟩), .int .i64 n] w fun e w' => e = .returned (.tuple #[]) ∧ RdrAt w' r a s ((p + n : Nat) : Int) k ∧ w.grownBy w' (some r) := by
  have h2 := h.c2
  have hf := h.f2 2
  have HL := Lib.hid (left_any a s r p k w h (by omega) hs)
  have H := Lib.hid h
  clear h
  have hlt : ¬ ((s.size : Int) - p < (n : Int)) := by omega
  go_enter Try.func51, Try.ntmps51
  go_wp2_with fail
  refine HL.out.mono ?_
  rintro e w1 ⟨rfl, m, rfl⟩
  have HD := Lib.hid ((H.out.drewN m).set ((p + n : Nat) : Int))
  have HG := Lib.hid (only_setCell (g := r) (grown_drewN (grown_refl w (some r)) m) (p := ⟨r, 2, none⟩) (.inl rfl) (.int .i64 ((p + n : Nat) : Int)))
  go_wp2_with fail
  go_end0
  exact ⟨rfl, HD.out, HG.out⟩

theorem skip_no (a s : ByteArray) (r p n k : Nat) (w : World) (h : RdrAt w r a s p k) (hp : p ≤ s.size) (hn : s.size < p + n) (hs : s.size ≤ 1000000) :
    Calls Try.prog 51 #[.pointer (some ⟨r, 0, none⟩), .int .i64 n] w fun e w' => e = gave k ∧ ∃ m, w' = w.drewN m := by
  have h3 := h.c3
  have HL := Lib.hid (left_any a s r p k w h hp hs)
  clear h
  have hlt : (s.size : Int) - p < (n : Int) := by omega
  go_enter Try.func51, Try.ntmps51
  go_wp2_with fail
  refine HL.out.mono ?_
  rintro e w1 ⟨rfl, m, rfl⟩
  go_wp2_with fail
  exact ⟨rfl, rfl, _, rfl⟩

theorem below_drewN {B : Nat} {w w' : World} (h : Below B w w') (n : Nat) : Below B w (w'.drewN n) := ⟨h.os, h.tape, h.output, h.size, h.block⟩
/-- A name ends, or the reading gave up; nothing that stood has changed. -/
def EndsEnd (w : World) (k : Nat) : Bool → Ending → World → Prop
  | true, e, w' => e = .returned (.tuple #[]) ∧ Below w.heap.size w w'
  | false, e, w' => e = gave k ∧ Below w.heap.size w w'
/-- The place of a reader. -/
def placeOf (w : World) (B : Nat) : Nat :=
  match w.cell? ⟨B, 2, none⟩ with
  | some (.int _ n) => n.toNat
  | _ => 0
theorem placeOf_at {w : World} {B k : Nat} {a s : ByteArray} {p : Int} (h : RdrAt w B a s p k) : placeOf w B = p.toNat := by
  unfold placeOf
  rw [h.c2]

set_option maxHeartbeats 2000000 in
set_option maxRecDepth 100000 in
theorem ended_any (a s : ByteArray) (r k p0 : Nat) (b : Bool) (w : World) (h : RdrAt w r a s p0 k) (hs : s.size ≤ 1000000) (hp0 : p0 ≤ 1000000) (hb : Hid (StMath.ends s.data.toList s.size p0 = b)) :
    Calls Try.prog 55 #[.pointer (some ⟨r, 0, none⟩)] w (EndsEnd w k b) := by
  have SZ := Lib.hid (Lib.size_eq s)
  have h0 := h.c0
  have h1 := h.c1
  have h2 := h.c2
  have h3 := h.c3
  clear h
  obtain ⟨B, hB⟩ : ∃ B, w.heap.size = B := ⟨_, rfl⟩
  have HA : Hid (RdrAt (w.alloc (.cells #[.string a, .string s, .int .i64 p0, .int .i64 k] 54)) B a s p0 k) := by
    rw [← hB]; exact heap_alloc_new w _
  have HB0 : Hid (Below B w (w.alloc (.cells #[.string a, .string s, .int .i64 p0, .int .i64 k] 54))) := (Below.refl _ _).alloc (by omega) _
  have HG := Lib.hid hB
  go_enter Try.func55, Try.ntmps55
  go_wp2_with fail
  clear h0 h1 h2 h3
  generalize w.alloc (.cells #[.string a, .string s, .int .i64 p0, .int .i64 k] 54) = w2 at HA HB0 ⊢
  clear hB
  go_loopw [3] (fun _ wr => ∃ q : Nat, q ≤ 1000000 ∧ Hid (RdrAt wr B a s q k) ∧ Hid (StMath.ends s.data.toList s.size q = b) ∧ Hid (Below B w wr)) (fun _ wr => s.size - placeOf wr B)
  case atStart => exact ⟨p0, hp0, HA, hb, HB0⟩
  case round =>
    obtain ⟨q, hq, hD, hE, hK⟩ := hrel
    have hpl := placeOf_at hD.out
    have HP := Lib.hid hpl
    clear hpl
    by_cases hlt : q < s.size
    · have hpl : q < s.data.toList.length := by rw [← SZ.out]; exact hlt
      obtain ⟨x, hx⟩ : ∃ x, bt s.data.toList q = x := ⟨_, rfl⟩
      have hxl : x < 256 := by rw [← hx]; exact bt_lt _ _
      have hbe : Hid (be ((s.data.toList.drop q).take 1) = x) := by rw [be_bt hpl]; exact hx
      have HN := Lib.hid (number_yes a s B q 1 k x wr hD.out (by decide) (by decide) (by omega) hs hbe)
      clear hbe
      by_cases h192 : 192 ≤ x
      · have hbv : Hid (b = decide (q + 2 ≤ s.size)) := by (show _ = _; rw [← hE.out]; exact ends_ptr hlt (by rw [hx]; exact h192))
        have hge : (192 : Int) ≤ x := by omega
        by_cases hin : q + 2 ≤ s.size
        · have hbt : b = true := by rw [hbv.out]; exact decide_eq_true hin
          subst hbt
          clear hx hpl h192 hbv
          go_wp2_with fail
          refine HN.out.mono ?_
          rintro e w3 ⟨rfl, hD3, hG3⟩
          have HS := Lib.hid (skip_yes a s B (q + 1) 1 k w3 (by exact hD3) (by omega) hs)
          have HK3 := Lib.hid (below_of_grown hK.out hG3 (Nat.le_refl _) (by have := hD.out.lt; omega))
          have HZ3 : Hid (B ≤ w3.heap.size) := by have := hD3.lt; show _ ≤ _; omega
          clear hD3 hG3 HN
          go_wp2_with fail
          refine HS.out.mono ?_
          rintro e w4 ⟨rfl, hD4, hG4⟩
          have HK4 := Lib.hid (below_of_grown HK3.out hG4 (Nat.le_refl _) HZ3.out)
          clear hD4 hG4 HS
          go_wp2_with fail
          go_end0
          refine ⟨rfl, ?_⟩
          rw [HG.out]
          exact HK4.out
        · have hbt : b = false := by rw [hbv.out]; exact decide_eq_false hin
          subst hbt
          clear hx hpl h192 hbv
          go_wp2_with fail
          refine HN.out.mono ?_
          rintro e w3 ⟨rfl, hD3, hG3⟩
          have HS := Lib.hid (skip_no a s B (q + 1) 1 k w3 (by exact hD3) (by omega) (by omega) hs)
          have HK3 := Lib.hid (below_of_grown hK.out hG3 (Nat.le_refl _) (by have := hD.out.lt; omega))
          clear hD3 hG3 HN
          go_wp2_with fail
          refine HS.out.mono ?_
          rintro e w4 ⟨rfl, m, rfl⟩
          clear HS
          go_wp2_with fail
          refine ⟨rfl, rfl, ?_⟩
          rw [HG.out]
          exact below_drewN HK3.out m
      · have hl192 : (x : Int) < 192 := by omega
        by_cases hz : x = 0 ∨ 64 ≤ x
        · have hbt : b = true := by rw [← hE.out]; exact ends_here hlt (by rw [hx]; omega) (by rw [hx]; exact hz)
          subst hbt
          have HK3 : ∀ w3, wr.grownBy w3 (some B) → Below B w w3 := fun w3 hG3 => below_of_grown hK.out hG3 (Nat.le_refl _) (by have := hD.out.lt; omega)
          have HK := Lib.hid HK3
          clear HK3 hx hpl h192
          by_cases h0 : x = 0
          · subst h0
            have h00 : (((0 : Nat) : Int) == 0) = true := rfl
            go_wp2_with fail
            refine HN.out.mono ?_
            rintro e w3 ⟨rfl, hD3, hG3⟩
            have HK3 := Lib.hid (HK.out w3 hG3)
            clear hD3 hG3 HN HK
            go_wp2_with fail
            go_end0
            refine ⟨rfl, ?_⟩
            rw [HG.out]
            exact HK3.out
          · have h00 : ((x : Int) == 0) = false := beq_eq_false_iff_ne.2 (by omega)
            have h64 : (63 : Int) < x := by omega
            go_wp2_with fail
            refine HN.out.mono ?_
            rintro e w3 ⟨rfl, hD3, hG3⟩
            have HK3 := Lib.hid (HK.out w3 hG3)
            clear hD3 hG3 HN HK
            go_wp2_with fail
            go_end0
            refine ⟨rfl, ?_⟩
            rw [HG.out]
            exact HK3.out
        · have h00 : ((x : Int) == 0) = false := beq_eq_false_iff_ne.2 (by omega)
          have h63 : (x : Int) ≤ 63 := by omega
          have hEm : Hid (StMath.ends s.data.toList s.size (q + 1 + x) = b) := by
            show _ = _
            rw [← hE.out, ends_more hlt (by rw [hx]; omega) (by rw [hx]; omega), hx]
            congr 1
            omega
          clear hx hpl h192
          by_cases hin : q + 1 + x ≤ s.size
          · go_wp2_with fail
            refine HN.out.mono ?_
            rintro e w3 ⟨rfl, hD3, hG3⟩
            have HS := Lib.hid (skip_yes a s B (q + 1) x k w3 (by exact hD3) hin hs)
            have HK3 := Lib.hid (below_of_grown hK.out hG3 (Nat.le_refl _) (by have := hD.out.lt; omega))
            have HZ3 : Hid (B ≤ w3.heap.size) := by have := hD3.lt; show _ ≤ _; omega
            clear hD3 hG3 HN
            go_wp2_with fail
            refine HS.out.mono ?_
            rintro e w4 ⟨rfl, hD4, hG4⟩
            have HK4 := Lib.hid (below_of_grown HK3.out hG4 (Nat.le_refl _) HZ3.out)
            have HD4 := Lib.hid hD4
            have HP4 := Lib.hid (placeOf_at hD4)
            clear hD4 hG4 HS
            go_wp2_with fail
            go_roundw
            case rel => exact ⟨q + 1 + x, by omega, HD4, hEm, HK4⟩
            case measure => rw [HP.out, HP4.out]; omega
          · have hbt : b = false := by rw [← hEm.out]; exact ends_not (by omega)
            subst hbt
            go_wp2_with fail
            refine HN.out.mono ?_
            rintro e w3 ⟨rfl, hD3, hG3⟩
            have HS := Lib.hid (skip_no a s B (q + 1) x k w3 (by exact hD3) (by omega) (by omega) hs)
            have HK3 := Lib.hid (below_of_grown hK.out hG3 (Nat.le_refl _) (by have := hD.out.lt; omega))
            clear hD3 hG3 HN
            go_wp2_with fail
            refine HS.out.mono ?_
            rintro e w4 ⟨rfl, m, rfl⟩
            clear HS
            go_wp2_with fail
            refine ⟨rfl, rfl, ?_⟩
            rw [HG.out]
            exact below_drewN HK3.out m
    · have hbt : b = false := by rw [← hE.out]; exact ends_not (by omega)
      subst hbt
      have hno : Hid (holdsB s.size (q : Int) ((1 : Nat) : Int) = false) := holds_no (by omega)
      have HN := Lib.hid (number_no a s B k q 1 wr hD.out hs (by decide) (by omega) (by omega) hno)
      go_wp2_with fail
      refine HN.out.mono ?_
      rintro e w1 ⟨rfl, m, rfl⟩
      go_wp2_with fail
      refine ⟨rfl, rfl, ?_⟩
      rw [HG.out]
      exact below_drewN hK.out m
end Go.Proofs.Ytngbifdenbfepaa
