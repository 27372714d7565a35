/- Proves NumParts: the parts of a text, one behind the other, are the text, and a reader that goes through them is at the end then. No condition. -/
import Derived.Test.YtlhodiblkinglaaRows
import Derived.WalkKit
import Derived.ProofKit
import Derived.OpenShut
import Derived.ShutString
import Derived.ChangeOld
import Derived.Below
import Derived.Test.YtlhodiblkinglaaNumAwake
import Derived.Test.YtlhodiblkinglaaNumRead
import Derived.Deep.QuietTactic
import Derived.BigQuiet
namespace Go.Proofs.Ytlhodiblkinglaa.numParts
open Go.ChangeShapes Go.WideShapes Go.ChangeAt Go.RowKit
open Go.ChangeMaps (open_string shut_string)
set_option linter.unusedVariables false

theorem own : ownKnob Try.prog.godebug = none := by kernel_rfl
theorem laidOut : laidOutB Try.prog = true := by kernel_rfl

def IsRow (k : IntKind) (w : World) (a : Option Addr) (len cap : Nat) (zs : List Int) : Prop :=
  (a = none ∧ len = 0 ∧ cap = 0 ∧ zs = []) ∨
  ∃ x, a = some x ∧ len ≤ cap ∧ cap ≤ maxLen ∧ zs.length = cap ∧ (∀ i, i < zs.length → w.cell? (x.add i) = some (.int k (zs.getD i 0))) ∧ ∀ n ∈ zs, (Lit.int k n).wf = true

/-- A slice of 64-bit numbers that came in. -/
def RdI (w : World) (B : Nat) (a : Option Addr) (len : Nat) (z : List Int) : Prop :=
  ∀ j, j < len → ∃ b off, a = some ⟨b, off, none⟩ ∧ b < B ∧ w.cell? ⟨b, off + j, none⟩ = some (.int .i64 (z.getD j 0)) ∧ -9223372036854775808 ≤ z.getD j 0 ∧ z.getD j 0 ≤ 9223372036854775807
theorem rdi_of_row {w : World} {a : Option Addr} {len cap : Nat} {z : List Int} (h : IsRow .i64 w a len cap z) : RdI w w.heap.size a len z := fun j hj => by
  rcases h with ⟨rfl, rfl, rfl, rfl⟩ | ⟨x, rfl, hl, _, hz, hc, hwf⟩
  · omega
  · obtain ⟨b, off, rfl, hc2⟩ := ints_at hc (by omega)
    have hm : z.getD j 0 ∈ z := by
      rw [List.getD_eq_getElem?_getD, List.getElem?_eq_getElem (show j < z.length by omega)]
      exact List.getElem_mem _
    have hb := bounds_i64 (hwf _ hm)
    exact ⟨b, off, rfl, World.block_lt_of_cell? _ _ (hc2 j (by omega)), hc2 j (by omega), hb.1, hb.2⟩
theorem ext_zero (s : ByteArray) : s.extract 0 0 = ⟨#[]⟩ := by
  apply ByteArray.ext
  apply Array.toList_inj.1
  rw [Lib.extract_data]
  simp
theorem part_eq (s : ByteArray) (i n : Nat) (P : ByteArray) (w : World) (hs : s.size ≤ 140737488351232) (hi : i + n ≤ s.size) (h : Hid (s.extract i (i + n) = P)) :
    Calls Try.prog 23 #[.string s, .int .i64 i, .int .i64 n] w fun e w' => e = .returned (.tuple #[.string P, .bool true]) ∧ Below w.heap.size w w' := by
  have := part_yes s i n w hs hi
  rwa [h.out] at this
theorem text_eq (s : ByteArray) (r p n : Nat) (P : ByteArray) (w : World) (h : RdrAt w r s p) (hp : p + n ≤ s.size) (hs : s.size ≤ 140737488351232) (hP : Hid (s.extract p (p + n) = P)) :
    Calls Try.prog 24 #[.pointer (some ⟨r, 0, none⟩), .int .i64 n] w fun e w' => e = .returned (.string P) ∧ RdrAt w' r s (p + n) ∧ w.grownBy w' (some r) := by
  have := text_yes s r p n w h hp hs
  rwa [hP.out] at this
theorem ext_cat (s : ByteArray) (q n : Nat) (h : q + n ≤ s.size) : s.extract 0 q ++ s.extract q (q + n) = s.extract 0 (q + n) := by
  apply ByteArray.ext
  apply Array.toList_inj.1
  rw [ByteArray.data_append, Array.toList_append, Lib.extract_data, Lib.extract_data, Lib.extract_data]
  simp only [List.drop_zero, Nat.sub_zero, Nat.add_sub_cancel_left]
  rw [List.take_add]
theorem ext_sub (s : ByteArray) (q n : Nat) : (s.extract 0 (q + n)).extract q (q + n) = s.extract q (q + n) := by
  apply ByteArray.ext
  apply Array.toList_inj.1
  rw [Lib.extract_data, Lib.extract_data, Lib.extract_data]
  simp only [List.drop_zero, Nat.sub_zero, Nat.add_sub_cancel_left]
  rw [List.drop_take, List.take_take]
  congr 1
  omega
theorem facts (s T : ByteArray) (q n : Nat) (h : q + n ≤ s.size) (hT : Hid (s.extract 0 q = T)) : ∃ P T2 : ByteArray,
    Hid (s.extract q (q + n) = P) ∧ Hid (s.extract 0 (q + n) = T2) ∧ T.size = q ∧ P.size = n ∧ T ++ P = T2 ∧ T2.size = q + n ∧ T2.extract q (q + n) = P := by
  refine ⟨_, _, rfl, rfl, ?_, ?_, ?_, ?_, ext_sub s q n⟩
  · rw [← hT.out, ByteArray.size_extract]; omega
  · rw [ByteArray.size_extract]; omega
  · rw [← hT.out, ext_cat s q n h]
  · rw [ByteArray.size_extract]; omega
theorem left_eq (s : ByteArray) (r p m : Nat) (w : World) (h : RdrAt w r s p) (hp : Hid (p + m = s.size)) (hs : s.size ≤ 140737488351232) :
    Calls Try.prog 22 #[.pointer (some ⟨r, 0, none⟩)] w fun e w' => e = .returned (.int .i64 m) ∧ ∃ n, w' = w.drewN n := by
  have := left_any s r p w h (by have := hp.out; omega) hs
  rwa [show (s.size : Int) - p = m from by have := hp.out; omega] at this
theorem below_drewN {B : Nat} {a w : World} (h : Below B a w) (n : Nat) : Below B a (w.drewN n) := ⟨h.os, h.tape, h.output, h.size, h.block⟩

theorem walk (a0 : ByteArray) (a1 : Option Addr) (len1 cap1 : Nat) (z1 : List Int) (w : World) (w0 : a0.size ≤ maxLen) (w1 : IsRow .i64 w a1 len1 cap1 z1) :
    Calls Try.prog 7 #[.string a0, .slice a1 len1 cap1] w fun e w' => e = .returned (.bool true) ∧ Below w.heap.size w w' := by
  have hI := Lib.hid (rdi_of_row w1)
  clear w1
  have H0 := Lib.hid w0
  by_cases h1 : (20000 : Int) < a0.size
  · go_enter Try.func7, Try.ntmps7
    go_wp2_with fail
    refine (awake_any _).mono ?_
    rintro e w1 ⟨rfl, hB⟩
    go_wp2_with fail
    go_ret
    exact ⟨rfl, hB⟩
  by_cases h2 : (200 : Int) < len1
  · go_enter Try.func7, Try.ntmps7
    go_wp2_with fail
    refine (awake_any _).mono ?_
    rintro e w1 ⟨rfl, hB⟩
    go_wp2_with fail
    go_ret
    exact ⟨rfl, hB⟩
  clear w0
  go_enter Try.func7, Try.ntmps7
  go_wp2_with fail
  refine (awake_any _).mono ?_
  rintro e w1 ⟨rfl, hB⟩
  go_wp2_with fail
  refine (new_any a0 _).mono ?_
  rintro e w2 ⟨rfl, hB2, hR2⟩
  have hB02 : Below w.heap.size w w2 := hB.trans (hB2.mono hB.size)
  have hle := hB.size
  generalize w1.heap.size = r at *
  have HR := Lib.hid hR2
  clear hB hB2 hR2
  go_wp2_with fail
  go_loopw [7, 6] (fun i t wr => ∃ (k q : Nat) (T : ByteArray), k ≤ len1 ∧ q ≤ a0.size ∧ i = .int .i64 k ∧ Hid (a0.extract 0 q = T) ∧ t = .string T ∧ Hid (RdrAt wr r a0 q) ∧ Below w.heap.size w wr) (fun i _ _ => len1 - (intOf i).toNat)
  case atStart => exact ⟨0, 0, ⟨#[]⟩, Nat.zero_le _, Nat.zero_le _, rfl, Lib.hid (ext_zero _), rfl, HR, hB02⟩
  case round =>
    rename_i wr _
    obtain ⟨k, q, T, hk, hq, rfl, hT, rfl, hR, hW⟩ := hrel
    by_cases hlt : k < len1
    · obtain ⟨b, off, rfl, hb, hc0, hz1, hz2⟩ := hI.out k hlt
      have hc : wr.cell? ⟨b, off + k, none⟩ = some (.int .i64 (z1.getD k 0)) := (hW.cell (p := ⟨b, off + k, none⟩) hb).trans hc0
      clear hc0
      generalize z1.getD k 0 = z at *
      obtain ⟨n, hn⟩ := Int.eq_ofNat_of_zero_le (show (0 : Int) ≤ max 0 (min z ((a0.size : Int) - q)) by omega)
      have hnq : (q : Int) + n ≤ a0.size := by omega
      go_wp2_with fail
      go_quiet ((go_at_call 22; exact Calls.quiet_of (left_any a0 r q _ hR.out hq (by omega))))
      obtain ⟨P, T2, hP, hT2, hTs, hPs, hcat, hT2s, hsub⟩ := facts a0 T q n (by omega) hT
      go_wp2_with fail
      refine (part_eq a0 q n P _ (by omega) (by omega) hP).mono ?_
      rintro e w3 ⟨rfl, hB3⟩
      have hR3 := Lib.hid ((hR.out.drewN nq).below hB3 (hR.out.drewN nq).lt)
      go_wp2_with fail
      refine (at_any a0 r q _ hR3.out).mono ?_
      rintro e w' ⟨rfl, rfl⟩
      go_wp2_with fail
      refine (text_eq a0 r q n P _ hR3.out (by omega) (by omega) hP).mono ?_
      rintro e w4 ⟨rfl, hR4, hG4⟩
      have HR4 := Lib.hid hR4
      have HG4 := Lib.hid hG4
      clear hR4 hG4
      go_wp2_with fail
      go_roundw
      case rel => exact ⟨k + 1, q + n, T2, by omega, by omega, by go_num, hT2, rfl, HR4, ((below_drewN hW nq).trans (hB3.mono hW.size)).grown HG4.out (by have := hB3.size; have := hW.size; simp at *; omega) (fun g hg => by injection hg with hg; omega)⟩
      case measure => simp [intOf]; omega
    · obtain ⟨m, hm⟩ : ∃ m, q + m = a0.size := ⟨a0.size - q, by omega⟩
      obtain ⟨P, T2, hP, hT2, hTs, hPs, hcat, hT2s, hsub⟩ := facts a0 T q m (by omega) hT
      have hTa : T2 = a0 := by
        rw [← hT2.out, hm]
        exact ByteArray.extract_zero_size
      subst hTa
      clear hsub hT2s
      have hle20 : q + m ≤ 20000 := by omega
      have hm2 := Lib.hid hm
      clear hm
      go_wp2_with fail
      refine (left_eq T2 r q m _ hR.out hm2 (by omega)).mono ?_
      rintro e w5 ⟨rfl, nq, rfl⟩
      have hRd := Lib.hid (hR.out.drewN nq)
      go_wp2_with fail
      refine (text_eq T2 r q m P _ hRd.out (by have := hm2.out; omega) (by omega) hP).mono ?_
      rintro e w6 ⟨rfl, hR6, hG6⟩
      have HR6 := Lib.hid hR6
      have HG6 := Lib.hid hG6
      clear hR6 hG6
      go_wp2_with fail
      refine (left_eq T2 r (q + m) 0 _ HR6.out (by have := hm2.out; exact Lib.hid (by omega)) (by omega)).mono ?_
      rintro e w5 ⟨rfl, nq2, rfl⟩
      have hRd2 := Lib.hid (HR6.out.drewN nq2)
      go_wp2_with fail
      refine (at_any T2 r (q + m) _ hRd2.out).mono ?_
      rintro e w' ⟨rfl, rfl⟩
      have hqm := hm2.out
      go_wp2_with fail
      go_ret
      exact ⟨rfl, below_drewN ((below_drewN hW nq).grown HG6.out (by have := hW.size; simpa using this) (fun g hg => by injection hg with hg; omega)) nq2⟩

set_option maxRecDepth 100000 in
theorem lifted (os : Os) (started : os.Started) (H : Type) (enc : TypeId × Value → H) :
    ReturnsInHanded {} Try.checked os 7 .any (Rows.numPartsSpec.pre6 enc Try.prog Try.f7 Rows.numPartsRow.domain false) (Rows.numPartsSpec.post enc Try.prog Try.f7 false true false false) := by
  refine returnsInHanded_of_change (C := Try.checked) own started (by kernel_rfl) Try.func7
    (ChangeSpec.witness6 (enc := enc) (C := Try.checked) false ⟨#[], #[.string ByteArray.empty, .slice none 0 0], []⟩ 8 (by kernel_rfl) (by kernel_rfl) (by kernel_rfl) (by kernel_rfl)) ?_
  intro W base args ds gs before hval0 hW hcnd _
  have hval : ∀ (j : Nat) t v, Try.f7.params[j]? = some t → args[j]? = some v → Value.okWide Try.prog W .any base t v := hval0
  have hW' := hW
  obtain ⟨p, q, hA0, hV, rfl, hfz, hnd⟩ := hW
  have hA : DataW.TrodAll enc Try.prog W 0 (fun _ => true) true Try.f7.params.toList args.toList ds p := hA0
  rw [Try.params7] at hA hval
  obtain ⟨v0, vs0, d0, ds0, p0, q0, hargs, rfl, rfl, h0, r0⟩ := trodAll_cons hA
  obtain ⟨v1, vs1, d1, ds1, p1, q1, rfl, rfl, rfl, h1, r1⟩ := trodAll_cons r0
  obtain ⟨rfl, rfl, rfl⟩ := trodAll_nil r1
  obtain rfl : args = #[v0, v1] := by cases args; simp_all
  obtain ⟨rfl, rfl⟩ := trodVars_none hV
  obtain ⟨a0, rfl, rfl, rfl, w0⟩ := open_string Try.underlying9 (hval 0 9 v0 rfl rfl) h0
  obtain ⟨a1, len1, cap1, rfl⟩ := okWide_slice Try.underlying45 (hval 1 45 v1 rfl rfl)
  have k1 := h1
  have lt1 : ∀ x ∈ p1, x.block < W.heap.size := by obtain ⟨m, hm⟩ := k1; exact DataW.trod_lt m _ _ _ hm
  obtain ⟨z1, w1⟩ : ∃ zs, IsRow .i64 W a1 len1 cap1 zs := by
    obtain ⟨fuel, hf⟩ := h1
    rcases open_ints Try.underlying45 Try.underlying3 (by kernel_rfl) hf with ⟨hcs, _⟩ | ⟨x, l, c, zs, hcs, _, hl, hm, hz, _, hcell, hwz⟩
    · simp [Value.cells] at hcs
      obtain ⟨rfl, rfl, rfl⟩ := hcs
      exact ⟨[], .inl ⟨rfl, rfl, rfl, rfl⟩⟩
    · simp [Value.cells] at hcs
      obtain ⟨rfl, rfl, rfl⟩ := hcs
      exact ⟨zs, .inr ⟨_, rfl, hl, hm, by simpa using hz, hcell, hwz⟩⟩
  clear hA0 hval0
  refine (walk a0 a1 len1 cap1 z1 W w0 w1).mono fun e W' ⟨he, bel⟩ => ?_
  subst he
  exact ⟨_, rfl, _, _, _, [], _, [], hW', trodAll_mk1 (shut_bool Try.underlying4 _), (trodAll_cons_mk (shut_string Try.underlying9 w0) (trodAll_cons_mk (Below.trod laidOut (by kernel_rfl) (of_decide_eq_true (by kernel_rfl)) k1 bel lt1) trodAll_mk0)), rfl, bel.frame _, fun h => by cases h⟩

theorem over : Rows.numPartsRow.holds Try.pinned (OpenSpec.ofChange Rows.numPartsSpec) :=
  OpenClaim.holds_of_wide 7 Try.f7 rfl rfl rfl rfl rfl rfl rfl ⟨rfl, rfl, rfl, rfl, rfl⟩ rfl rfl rfl rfl rfl (by kernel_rfl) Try.func7 (by kernel_rfl)
    (of_decide_eq_true (by kernel_rfl)) (by unfold Func.isWrapper; first | (rw [if_pos (by decide +kernel)]; kernel_rfl) | (rw [if_neg (by decide +kernel)]; exact ⟨rfl, rfl⟩))
    (fun os started H enc _ => lifted os started H enc)

theorem proved : Rows.NumPartsSaid := over
#print axioms proved
end Go.Proofs.Ytlhodiblkinglaa.numParts
