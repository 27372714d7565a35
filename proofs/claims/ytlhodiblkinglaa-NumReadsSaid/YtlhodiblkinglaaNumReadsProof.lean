/- Proves NumReads: a reader goes through any text just as the document says: numbers and parts at its place, up to where it gives up. No condition. -/
import Derived.Test.YtlhodiblkinglaaRows
import Derived.Test.YtlhodiblkinglaaNumAwake
import Derived.Test.YtlhodiblkinglaaNumCall
import Derived.Test.YtlhodiblkinglaaNumRef
import Derived.Test.YtlhodiblkinglaaOpenActs
import Derived.WalkKit
import Derived.ProofKit
import Derived.OpenShut
import Derived.ShutString
import Derived.ChangeOld
import Derived.Below
import Derived.Deep.QuietTactic
import Derived.BigQuiet
namespace Go.Proofs.Ytlhodiblkinglaa.numReads
open Go.ChangeShapes Go.WideShapes Go.ChangeAt Go.RowKit
open Go.ChangeMaps (open_string shut_string)
set_option linter.unusedVariables false

theorem own : ownKnob Try.prog.godebug = none := by kernel_rfl
theorem laidOut : laidOutB Try.prog = true := by kernel_rfl

theorem below_drewN {B : Nat} {a w : World} (h : Below B a w) (n : Nat) : Below B a (w.drewN n) := ⟨h.os, h.tape, h.output, h.size, h.block⟩
theorem part_eq (s : ByteArray) (i n : Nat) (P : ByteArray) (w : World) (hs : s.size ≤ maxLen) (hi : i + n ≤ s.size) (h : Hid (s.extract i (i + n) = P)) :
    Calls Try.prog 19 #[.string s, .int .i64 i, .int .i64 n] w fun e w' => e = .returned (.tuple #[.string P, .bool true]) ∧ w = w' := refpart_eq s P i n w hs hi h

/-- The loop's relation: the reader stands at the document's place. -/
def Rel (s : ByteArray) (r len : Nat) (w : World) (i at_ : Value) (wr : World) : Prop :=
  ∃ k q : Nat, k ≤ len ∧ q ≤ s.size ∧ i = .int .i64 k ∧ at_ = .int .i64 q ∧ RdrAt wr r s q ∧ Below w.heap.size w wr

theorem left_eq (s : ByteArray) (r p : Nat) (m : Int) (w : World) (h : RdrAt w r s p) (hp : p ≤ s.size) (hm : (s.size : Int) - p = m) (hs : s.size ≤ 140737488351232) :
    Calls Try.prog 22 #[.pointer (some ⟨r, 0, none⟩)] w fun e w' => e = .returned (.int .i64 m) ∧ ∃ n, w' = w.drewN n := by
  have := left_any s r p w h hp hs
  rwa [hm] at this
/-- What is known behind the call of a round. -/
theorem round_facts {w wr w3 : World} {r q : Nat} {s : ByteArray} {bb : Bool} {n : Int} (hR : RdrAt wr r s q) (hW : Below w.heap.size w wr) (hle : w.heap.size ≤ r)
    (hG : (wr.alloc (.cells #[.bool bb, .int .i64 n] 38)).grownBy w3 (some r)) :
    w3.cell? ⟨wr.heap.size, 0, none⟩ = some (.bool bb) ∧ w3.cell? ⟨wr.heap.size, 1, none⟩ = some (.int .i64 n) ∧ Hid (Below w.heap.size w w3) := by
  have hlt := hR.lt
  have hblk : w3.heap[wr.heap.size]? = some (.cells #[.bool bb, .int .i64 n] 38 (0, 0)) := by
    rw [grown_block hG (by simp) (by omega)]
    exact heap_alloc_new wr _
  refine ⟨cell_of_row w3 _ 0 _ _ _ hblk, cell_of_row w3 _ 1 _ _ _ hblk, ?_⟩
  have h1 := hW.alloc hW.size (.cells #[.bool bb, .int .i64 n] 38)
  exact h1.grown hG h1.size (fun g hg => by injection hg with hg; omega)

set_option maxRecDepth 100000 in
set_option maxHeartbeats 1000000 in
theorem walk (a0 : ByteArray) (a1 : Option Addr) (len1 cap1 : Nat) (w : World) (w0 : a0.size ≤ maxLen) (w1 : RdA w w.heap.size a1 len1) :
    Calls Try.prog 6 #[.string a0, .slice a1 len1 cap1] w fun e w' => e = .returned (.bool true) ∧ Below w.heap.size w w' := by
  have hI := Lib.hid w1
  clear w1
  have H0 := Lib.hid w0
  by_cases h1 : (20000 : Int) < a0.size
  · go_enter Try.func6, Try.ntmps6
    go_wp2_with fail
    refine (awake_any _).mono ?_
    rintro e w1 ⟨rfl, hB⟩
    go_wp2_with fail
    go_ret
    exact ⟨rfl, hB⟩
  by_cases h2 : (200 : Int) < len1
  · go_enter Try.func6, Try.ntmps6
    go_wp2_with fail
    refine (awake_any _).mono ?_
    rintro e w1 ⟨rfl, hB⟩
    go_wp2_with fail
    go_ret
    exact ⟨rfl, hB⟩
  clear w0
  go_enter Try.func6, Try.ntmps6
  go_wp2_with fail
  refine (awake_any _).mono ?_
  rintro e w1 ⟨rfl, hB⟩
  go_wp2_with fail
  refine (new_any a0 _).mono ?_
  rintro e w2 ⟨rfl, hB2, hR2⟩
  have hB02 : Below w.heap.size w w2 := hB.trans (hB2.mono hB.size)
  have hle := hB.size
  generalize w1.heap.size = r at *
  have HR := Lib.hid hR2
  clear hB hB2 hR2
  go_wp2_with fail
  go_loopw [7, 6] (fun i t wr => ∃ k q : Nat, k ≤ len1 ∧ q ≤ a0.size ∧ i = .int .i64 k ∧ t = .int .i64 q ∧ Hid (RdrAt wr r a0 q) ∧ Below w.heap.size w wr) (fun i _ _ => len1 - (intOf i).toNat)
  case atStart => exact ⟨0, 0, Nat.zero_le _, Nat.zero_le _, rfl, rfl, HR, hB02⟩
  case round =>
    rename_i wr _
    obtain ⟨k, q, hk, hq, rfl, rfl, hR, hW⟩ := hrel
    by_cases hlt : k < len1
    · obtain ⟨b, off, bb, n, rfl, hb, hc0, hc1, hn1, hn2⟩ := hI.out k hlt
      have hd0 : wr.cell? ⟨b, off + k * 2, none⟩ = some (.bool bb) := (hW.cell (p := ⟨b, off + k * 2, none⟩) hb).trans hc0
      have hd1 : wr.cell? ⟨b, off + (k * 2 + 1), none⟩ = some (.int .i64 n) := (hW.cell (p := ⟨b, off + (k * 2 + 1), none⟩) hb).trans hc1
      have hd2 : wr.cell? ⟨b, off + k * 2 + 1, none⟩ = some (.int .i64 n) := hd1
      clear hc0 hc1
      go_wp2_with fail
      have HR1 : Hid (RdrAt (wr.alloc (.cells #[.bool bb, .int .i64 n] 38)) r a0 q) := hR.out.below ((Below.refl _ wr).alloc (Nat.le_refl _) _) hR.out.lt
      cases bb with
      | true =>
        by_cases hok : 1 ≤ n ∧ n ≤ 8 ∧ (q : Int) + n ≤ a0.size
        · obtain ⟨m, rfl⟩ := Int.eq_ofNat_of_zero_le (show 0 ≤ n by omega)
          obtain ⟨ho1, ho2, ho3⟩ := hok
          refine (call_num_yes a0 r q m _ HR1.out (by omega) (by omega) (by omega) (by omega)).mono ?_
          rintro e w3 ⟨rfl, hR3, hG3⟩
          obtain ⟨hq0, hq1, hB3⟩ := round_facts hR.out hW hle hG3
          have HR3 := Lib.hid hR3
          clear hR3 hG3
          generalize wr.heap.size = B0 at *
          go_wp2_with fail
          refine (refpart_yes a0 q m _ H0.out (by omega)).mono ?_
          rintro e w' ⟨rfl, rfl⟩
          go_wp2_with fail
          refine (refget_yes a0 q m _ H0.out (by omega) (by omega) (by omega)).mono ?_
          rintro e w' ⟨rfl, rfl⟩
          go_wp2_with fail
          refine (at_any a0 r (q + m) _ HR3.out).mono ?_
          rintro e w' ⟨rfl, rfl⟩
          go_wp2_with fail
          refine (left_any a0 r (q + m) _ HR3.out (by omega) (by omega)).mono ?_
          rintro e w' ⟨rfl, nq, rfl⟩
          have HR4 := Lib.hid (HR3.out.drewN nq)
          go_wp2_with fail
          go_roundw
          case rel => exact ⟨k + 1, q + m, by omega, by omega, by go_num, by go_num, HR4, below_drewN hB3.out nq⟩
          case measure => simp [intOf]; omega
        · have hno : Hid (n < 1 ∨ 8 < n ∨ holdsB a0.size q n = false) := by
            by_cases g1 : n < 1
            · exact .inl g1
            · by_cases g2 : 8 < n
              · exact .inr (.inl g2)
              · exact .inr (.inr (by simp [holdsB]; omega))
          clear hok
          by_cases hh : holdsB a0.size q n = true
          · have hh2 : 0 ≤ n ∧ (q : Int) + n ≤ a0.size := by simp [holdsB] at hh; omega
            obtain ⟨hh3, hh4⟩ := hh2
            clear hh
            obtain ⟨m, rfl⟩ := Int.eq_ofNat_of_zero_le hh3
            refine (call_num_no a0 r q m _ HR1.out (by omega) hq hn1 hn2 hno.out).mono ?_
            rintro e w3 ⟨rfl, hR3, hG3⟩
            obtain ⟨hq0, hq1, hB3⟩ := round_facts hR.out hW hle hG3
            have HR3 := Lib.hid hR3
            clear hR3 hG3
            generalize wr.heap.size = B0 at *
            go_wp2_with fail
            refine (refpart_yes a0 q m _ H0.out (by omega)).mono ?_
            rintro e w' ⟨rfl, rfl⟩
            go_wp2_with fail
            refine (refget_no a0 q m _ H0.out hno.out).mono ?_
            rintro e w' ⟨rfl, rfl⟩
            go_wp2_with fail
            refine (at_any a0 r (q) _ HR3.out).mono ?_
            rintro e w' ⟨rfl, rfl⟩
            go_wp2_with fail
            refine (left_any a0 r (q) _ HR3.out (by omega) (by omega)).mono ?_
            rintro e w' ⟨rfl, nq, rfl⟩
            have HR4 := Lib.hid (HR3.out.drewN nq)
            go_wp2_with fail
            go_roundw
            case rel => exact ⟨k + 1, q, by omega, by omega, by go_num, rfl, HR4, below_drewN hB3.out nq⟩
            case measure => simp [intOf]; omega
          · have hh2 : Hid (holdsB a0.size q n = false) := Lib.hid (by simpa using hh)
            clear hh
            refine (call_num_no a0 r q n _ HR1.out (by omega) hq hn1 hn2 hno.out).mono ?_
            rintro e w3 ⟨rfl, hR3, hG3⟩
            obtain ⟨hq0, hq1, hB3⟩ := round_facts hR.out hW hle hG3
            have HR3 := Lib.hid hR3
            clear hR3 hG3
            generalize wr.heap.size = B0 at *
            go_wp2_with fail
            refine (refpart_no a0 q n _ H0.out hh2.out).mono ?_
            rintro e w' ⟨rfl, rfl⟩
            go_wp2_with fail
            refine (refget_no a0 q n _ H0.out hno.out).mono ?_
            rintro e w' ⟨rfl, rfl⟩
            go_wp2_with fail
            refine (at_any a0 r (q) _ HR3.out).mono ?_
            rintro e w' ⟨rfl, rfl⟩
            go_wp2_with fail
            refine (left_any a0 r (q) _ HR3.out (by omega) (by omega)).mono ?_
            rintro e w' ⟨rfl, nq, rfl⟩
            have HR4 := Lib.hid (HR3.out.drewN nq)
            go_wp2_with fail
            go_roundw
            case rel => exact ⟨k + 1, q, by omega, by omega, by go_num, rfl, HR4, below_drewN hB3.out nq⟩
            case measure => simp [intOf]; omega
      | false =>
        by_cases hh : holdsB a0.size q n = true
        · have hh2 : 0 ≤ n ∧ (q : Int) + n ≤ a0.size := by simp [holdsB] at hh; omega
          obtain ⟨hh3, hh4⟩ := hh2
          clear hh
          obtain ⟨m, rfl⟩ := Int.eq_ofNat_of_zero_le hh3
          refine (call_text_yes a0 r q m _ HR1.out (by omega) (by omega)).mono ?_
          rintro e w3 ⟨rfl, hR3, hG3⟩
          obtain ⟨hq0, hq1, hB3⟩ := round_facts hR.out hW hle hG3
          have HR3 := Lib.hid hR3
          clear hR3 hG3
          generalize wr.heap.size = B0 at *
          go_wp2_with fail
          refine (refpart_yes a0 q m _ H0.out (by omega)).mono ?_
          rintro e w' ⟨rfl, rfl⟩
          go_wp2_with fail
          refine (at_any a0 r (q + m) _ HR3.out).mono ?_
          rintro e w' ⟨rfl, rfl⟩
          go_wp2_with fail
          refine (left_any a0 r (q + m) _ HR3.out (by omega) (by omega)).mono ?_
          rintro e w' ⟨rfl, nq, rfl⟩
          have HR4 := Lib.hid (HR3.out.drewN nq)
          go_wp2_with fail
          go_roundw
          case rel => exact ⟨k + 1, q + m, by omega, by omega, by go_num, by go_num, HR4, below_drewN hB3.out nq⟩
          case measure => simp [intOf]; omega
        · have hh2 : Hid (holdsB a0.size q n = false) := Lib.hid (by simpa using hh)
          clear hh
          refine (call_text_no a0 r q n _ HR1.out (by omega) hq hn1 hn2 hh2.out).mono ?_
          rintro e w3 ⟨rfl, hR3, hG3⟩
          obtain ⟨hq0, hq1, hB3⟩ := round_facts hR.out hW hle hG3
          have HR3 := Lib.hid hR3
          clear hR3 hG3
          generalize wr.heap.size = B0 at *
          go_wp2_with fail
          refine (refpart_no a0 q n _ H0.out hh2.out).mono ?_
          rintro e w' ⟨rfl, rfl⟩
          go_wp2_with fail
          refine (at_any a0 r (q) _ HR3.out).mono ?_
          rintro e w' ⟨rfl, rfl⟩
          go_wp2_with fail
          refine (left_any a0 r (q) _ HR3.out (by omega) (by omega)).mono ?_
          rintro e w' ⟨rfl, nq, rfl⟩
          have HR4 := Lib.hid (HR3.out.drewN nq)
          go_wp2_with fail
          go_roundw
          case rel => exact ⟨k + 1, q, by omega, by omega, by go_num, rfl, HR4, below_drewN hB3.out nq⟩
          case measure => simp [intOf]; omega
    · go_wp2_with fail
      go_ret
      exact ⟨rfl, hW⟩


set_option maxRecDepth 100000 in
theorem lifted (os : Os) (started : os.Started) (H : Type) (enc : TypeId × Value → H) :
    ReturnsInHanded {} Try.checked os 6 .any (Rows.numReadsSpec.pre6 enc Try.prog Try.f6 Rows.numReadsRow.domain false) (Rows.numReadsSpec.post enc Try.prog Try.f6 false true false false) := by
  refine returnsInHanded_of_change (C := Try.checked) own started (by kernel_rfl) Try.func6
    (ChangeSpec.witness6 (enc := enc) (C := Try.checked) false ⟨#[], #[.string ByteArray.empty, .slice none 0 0], []⟩ 8 (by kernel_rfl) (by kernel_rfl) (by kernel_rfl) (by kernel_rfl)) ?_
  intro W base args ds gs before hval0 hW hcnd _
  have hval : ∀ (j : Nat) t v, Try.f6.params[j]? = some t → args[j]? = some v → Value.okWide Try.prog W .any base t v := hval0
  have hW' := hW
  obtain ⟨p, q, hA0, hV, rfl, hfz, hnd⟩ := hW
  have hA : DataW.TrodAll enc Try.prog W 0 (fun _ => true) true Try.f6.params.toList args.toList ds p := hA0
  rw [Try.params6] at hA hval
  obtain ⟨v0, vs0, d0, ds0, p0, q0, hargs, rfl, rfl, h0, r0⟩ := trodAll_cons hA
  obtain ⟨v1, vs1, d1, ds1, p1, q1, rfl, rfl, rfl, h1, r1⟩ := trodAll_cons r0
  obtain ⟨rfl, rfl, rfl⟩ := trodAll_nil r1
  obtain rfl : args = #[v0, v1] := by cases args; simp_all
  obtain ⟨rfl, rfl⟩ := trodVars_none hV
  obtain ⟨a0, rfl, rfl, rfl, w0⟩ := open_string Try.underlying9 (hval 0 9 v0 rfl rfl) h0
  obtain ⟨a1, len1, cap1, rfl⟩ := okWide_slice Try.underlying34 (hval 1 34 v1 rfl rfl)
  have k1 := h1
  have lt1 : ∀ x ∈ p1, x.block < W.heap.size := by obtain ⟨m, hm⟩ := k1; exact DataW.trod_lt m _ _ _ hm
  have w1 : RdA W W.heap.size a1 len1 := by
    obtain ⟨fuel, hf⟩ := h1
    exact rda_of_trod hf
  clear hA0 hval0
  refine (walk a0 a1 len1 cap1 W w0 w1).mono fun e W' ⟨he, bel⟩ => ?_
  subst he
  exact ⟨_, rfl, _, _, _, [], _, [], hW', trodAll_mk1 (shut_bool Try.underlying4 _), (trodAll_cons_mk (shut_string Try.underlying9 w0) (trodAll_cons_mk (Below.trod laidOut (by kernel_rfl) (of_decide_eq_true (by kernel_rfl)) k1 bel lt1) trodAll_mk0)), rfl, bel.frame _, fun h => by cases h⟩

theorem over : Rows.numReadsRow.holds Try.pinned (OpenSpec.ofChange Rows.numReadsSpec) :=
  OpenClaim.holds_of_wide 6 Try.f6 rfl rfl rfl rfl rfl rfl rfl ⟨rfl, rfl, rfl, rfl, rfl⟩ rfl rfl rfl rfl rfl (by kernel_rfl) Try.func6 (by kernel_rfl)
    (of_decide_eq_true (by kernel_rfl)) (by unfold Func.isWrapper; first | (rw [if_pos (by decide +kernel)]; kernel_rfl) | (rw [if_neg (by decide +kernel)]; exact ⟨rfl, rfl⟩))
    (fun os started H enc _ => lifted os started H enc)

theorem proved : Rows.NumReadsSaid := over
#print axioms proved
end Go.Proofs.Ytlhodiblkinglaa.numReads
