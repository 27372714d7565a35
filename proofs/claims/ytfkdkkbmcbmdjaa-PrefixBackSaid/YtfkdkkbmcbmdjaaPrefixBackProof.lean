/- Proves PrefixBack: what was put is got, whatever stands ahead of it and behind it; a greater number than may be is refused; cut off, it is too short. No condition. -/
import Derived.Test.YtfkdkkbmcbmdjaaRows
import Derived.WalkKit
import Derived.ProofKit
import Derived.OpenShut
import Derived.ShutString
import Derived.ChangeOld
import Derived.Below
import Derived.Test.YtfkdkkbmcbmdjaaPfAwake
namespace Go.Proofs.Ytfkdkkbmcbmdjaa.prefixBack
open Go.ChangeShapes Go.WideShapes Go.ChangeAt Go.RowKit
open Go.ChangeMaps (open_string shut_string)
set_option linter.unusedVariables false

theorem own : ownKnob Try.prog.godebug = none := by kernel_rfl
theorem laidOut : laidOutB Try.prog = true := by kernel_rfl

def IsRow (k : IntKind) (w : World) (a : Option Addr) (len cap : Nat) (zs : List Int) : Prop :=
  (a = none ∧ len = 0 ∧ cap = 0 ∧ zs = []) ∨
  ∃ x, a = some x ∧ len ≤ cap ∧ cap ≤ maxLen ∧ zs.length = cap ∧ (∀ i, i < zs.length → w.cell? (x.add i) = some (.int k (zs.getD i 0))) ∧ ∀ n ∈ zs, (Lit.int k n).wf = true

open Bytes Pf
theorem rdc_of_row {w : World} {a : Option Addr} {len cap : Nat} {z : List Int} (h : IsRow .u8 w a len cap z) :
    ∃ l : List UInt8, l.length = len ∧ RdC w w.heap.size a cap l := by
  rcases h with ⟨rfl, rfl, rfl, rfl⟩ | ⟨x, rfl, hl, hcm, hz, hc, hwf⟩
  · exact ⟨[], rfl, RdC.nil _ _⟩
  · refine ⟨(z.take len).map fun i => UInt8.ofNat i.toNat, by rw [List.length_map, List.length_take]; omega, by rw [List.length_map, List.length_take]; omega, by unfold maxLen at hcm; omega, (fun h => by cases h), fun y hy i v hv => ?_⟩
    injection hy with hy
    subst hy
    simp only [byteCells, List.map_map] at hv
    rw [List.getElem?_map] at hv
    obtain ⟨y, hy, rfl⟩ := Option.map_eq_some_iff.1 hv
    have hi : i < (z.take len).length := by
      rcases Nat.lt_or_ge i (z.take len).length with h | h
      · exact h
      · rw [List.getElem?_eq_none h] at hy; cases hy
    rw [List.length_take] at hi
    have hlt : x.block < w.heap.size := by
      have := World.block_lt_of_cell? _ _ (hc 0 (by omega))
      rwa [add_block] at this
    refine ⟨hlt, ?_⟩
    rw [List.getElem?_take_of_lt (by omega)] at hy
    have hb := bounds_u8 (hwf y (List.mem_of_getElem? hy))
    rw [hc i (by omega), List.getD_eq_getElem?_getD, hy]
    simp
    omega

theorem walk (a0 : Option Addr) (len0 cap0 : Nat) (z0 : List Int) (a1 : Int) (a2 : Int) (a3 : Int) (a4 : ByteArray) (w : World) (w0 : IsRow .u8 w a0 len0 cap0 z0) (w1 : (Lit.int .u8 a1).wf = true) (w2 : (Lit.int .i64 a2).wf = true) (w3 : (Lit.int .u64 a3).wf = true) (w4 : a4.size ≤ maxLen) :
    Calls Try.prog 5 #[.slice a0 len0 cap0, .int .u8 a1, .int .i64 a2, .int .u64 a3, .string a4] w fun e w' => e = .returned (.bool true) ∧ Below w.heap.size w w' := by
  have b1 := bounds_u8 w1
  have b2 := bounds_i64 w2
  have b3 := bounds_u64 w3
  obtain ⟨l, hlen, hr⟩ := rdc_of_row w0
  clear w0
  have HL := Lib.hid hlen
  clear hlen
  by_cases h1 : (20000 : Int) < len0
  · go_enter Try.func5, Try.ntmps5
    go_wp2_with fail
    refine (awake_any _).mono ?_
    rintro e w1 ⟨rfl, hB⟩
    go_wp2_with fail
    go_ret
    exact ⟨rfl, hB⟩
  by_cases h2 : (20000 : Int) < a4.size
  · go_enter Try.func5, Try.ntmps5
    go_wp2_with fail
    refine (awake_any _).mono ?_
    rintro e w1 ⟨rfl, hB⟩
    go_wp2_with fail
    go_ret
    exact ⟨rfl, hB⟩
  obtain ⟨c, rfl⟩ := Int.eq_ofNat_of_zero_le b1.1
  obtain ⟨n, rfl⟩ := Int.eq_ofNat_of_zero_le b3.1
  have hcb : c < 256 := by omega
  have hnb : n < 18446744073709551616 := by omega
  have hF := fullN_is a2
  obtain ⟨r, hrr⟩ : ∃ r, putL (fullN a2) c n = r := ⟨_, rfl⟩
  obtain ⟨k, hk⟩ : ∃ k, r.length = k := ⟨_, rfl⟩
  have hk1 : 1 ≤ k := by rw [← hk, ← hrr]; exact putL_pos _ _ _
  have hk2 : k ≤ 11 := by rw [← hk, ← hrr]; exact putL_few _ _ _ hnb
  have HR := Lib.hid hr
  have HRR := Lib.hid hrr
  have HK := Lib.hid hk
  clear hr
  have hzl : ∀ t : List UInt8, getZ t (len0 : Int) a2 = getM t l.length (fullN a2) := fun t => by rw [getZ_nat, HL.out]
  obtain ⟨B, hBd⟩ : ∃ B, mk (l ++ r) = B := ⟨_, rfl⟩
  have hBs : B.size = len0 + k := by rw [← hBd, mk_size, List.length_append, HL.out, hk]
  obtain ⟨D, hDd⟩ : ∃ D, mk (l ++ r.dropLast) = D := ⟨_, rfl⟩
  have hDs : D.size ≤ 30000 := by rw [← hDd, mk_size, List.length_append, List.length_dropLast, HL.out, hk]; omega
  have hcut : mk ((l ++ r).take (len0 + k - 1)) = D := by
    rw [← hDd, ← HL.out, List.dropLast_eq_take, hk, show l.length + k - 1 = l.length + (k - 1) by omega, List.take_length_add_append]
  have hBl : (B ++ a4).data.toList = l ++ r ++ a4.data.toList := by rw [cat_list, ← hBd, mk_list]
  have HBS := Lib.hid hBs
  have HBD := Lib.hid hBd
  have HCUT := Lib.hid hcut
  have hB2 : B.size ≤ 30000 := by omega
  by_cases hn32 : 4294967295 < n
  · have hz : getZ (B ++ a4).data.toList (len0 : Int) a2 = (0, 0, 90) := by
      rw [hzl, hBl, ← hrr]
      exact get_over l a4.data.toList hF hcb hn32
    have HZ := Lib.hid hz
    clear hz hzl hBl hcut hBs hBd hDd hk hrr
    have hni : (4294967295 : Int) < n := by omega
    go_enter Try.func5, Try.ntmps5
    go_wp2_with fail
    refine (awake_any _).mono ?_
    rintro e w1 ⟨rfl, hB⟩
    have s1 := hB.size
    go_wp2_with fail
    refine (put_own a0 cap0 len0 k l r c n a2 _ HL HK (by omega) (HR.out.on hB s1) hcb hnb b2.1 b2.2 HRR).mono ?_
    rintro e w2 ⟨g, cap, rfl, hcp, hcm, hgb, hO, hB3⟩
    have n2 := hB.trans (hB3.mono s1)
    have hcv := convert_own hO
    rw [HBD.out] at hcv
    clear hB hB3 hO
    go_wp2_with fail
    refine (get_is (B ++ a4) len0 a2 0 0 90 _ (by rw [ByteArray.size_append]; omega) (by omega) (by omega) b2.1 b2.2 HZ).mono ?_
    rintro e w' ⟨rfl, rfl⟩
    go_wp2_with fail
    go_ret
    exact ⟨rfl, n2⟩
  · have hz : getZ (B ++ a4).data.toList (len0 : Int) a2 = (n, len0 + k, 0) := by
      rw [hzl, hBl, ← hrr, get_back l a4.data.toList hF hcb (by omega), List.length_append, HL.out, hrr, hk]
    have HZ := Lib.hid hz
    have hz2 : getZ D.data.toList (len0 : Int) a2 = (0, 0, 2) := by
      rw [hzl, ← hDd, mk_list, ← hrr]
      exact get_cut l hF hcb (by omega)
    have HZ2 := Lib.hid hz2
    clear hz hz2 hzl hBl hcut hBs hBd hDd hk hrr
    have hni : ¬ (4294967295 : Int) < n := by omega
    have e1 : ((n : Int) != (n : Int)) = false := bne_self_eq_false _
    have e2 : (((len0 + k : Nat) : Int) != ((len0 + k : Nat) : Int)) = false := bne_self_eq_false _
    go_enter Try.func5, Try.ntmps5
    go_wp2_with fail
    refine (awake_any _).mono ?_
    rintro e w1 ⟨rfl, hB⟩
    have s1 := hB.size
    go_wp2_with fail
    refine (put_own a0 cap0 len0 k l r c n a2 _ HL HK (by omega) (HR.out.on hB s1) hcb hnb b2.1 b2.2 HRR).mono ?_
    rintro e w2 ⟨g, cap, rfl, hcp, hcm, hgb, hO, hB3⟩
    have n2 := hB.trans (hB3.mono s1)
    have hcv := convert_own hO
    rw [HBD.out] at hcv
    have hcc := fun c2 => convert_cut (c2 := c2) (K := len0 + k - 1) hO (by omega)
    rw [HCUT.out] at hcc
    clear hB hB3 hO
    go_wp2_with fail
    refine (get_is (B ++ a4) len0 a2 n (len0 + k) 0 _ (by rw [ByteArray.size_append]; omega) (by omega) (by omega) b2.1 b2.2 HZ).mono ?_
    rintro e w' ⟨rfl, rfl⟩
    go_wp2_with fail
    refine (get_is D len0 a2 0 0 2 _ (by omega) (by omega) (by omega) b2.1 b2.2 HZ2).mono ?_
    rintro e w' ⟨rfl, rfl⟩
    go_wp2_with fail
    go_ret
    exact ⟨rfl, n2⟩

set_option maxRecDepth 100000 in
theorem lifted (os : Os) (started : os.Started) (H : Type) (enc : TypeId × Value → H) :
    ReturnsInHanded {} Try.checked os 5 .any (Rows.prefixBackSpec.pre6 enc Try.prog Try.f5 Rows.prefixBackRow.domain false) (Rows.prefixBackSpec.post enc Try.prog Try.f5 false true false false) := by
  refine returnsInHanded_of_change (C := Try.checked) own started (by kernel_rfl) Try.func5
    (ChangeSpec.witness6 (enc := enc) (C := Try.checked) false ⟨#[], #[.slice none 0 0, .int .u8 0, .int .i64 0, .int .u64 0, .string ByteArray.empty], []⟩ 8 (by kernel_rfl) (by kernel_rfl) (by kernel_rfl) (by kernel_rfl)) ?_
  intro W base args ds gs before hval0 hW hcnd _
  have hval : ∀ (j : Nat) t v, Try.f5.params[j]? = some t → args[j]? = some v → Value.okWide Try.prog W .any base t v := hval0
  have hW' := hW
  obtain ⟨p, q, hA0, hV, rfl, hfz, hnd⟩ := hW
  have hA : DataW.TrodAll enc Try.prog W 0 (fun _ => true) true Try.f5.params.toList args.toList ds p := hA0
  rw [Try.params5] at hA hval
  obtain ⟨v0, vs0, d0, ds0, p0, q0, hargs, rfl, rfl, h0, r0⟩ := trodAll_cons hA
  obtain ⟨v1, vs1, d1, ds1, p1, q1, rfl, rfl, rfl, h1, r1⟩ := trodAll_cons r0
  obtain ⟨v2, vs2, d2, ds2, p2, q2, rfl, rfl, rfl, h2, r2⟩ := trodAll_cons r1
  obtain ⟨v3, vs3, d3, ds3, p3, q3, rfl, rfl, rfl, h3, r3⟩ := trodAll_cons r2
  obtain ⟨v4, vs4, d4, ds4, p4, q4, rfl, rfl, rfl, h4, r4⟩ := trodAll_cons r3
  obtain ⟨rfl, rfl, rfl⟩ := trodAll_nil r4
  obtain rfl : args = #[v0, v1, v2, v3, v4] := by cases args; simp_all
  obtain ⟨rfl, rfl⟩ := trodVars_none hV
  obtain ⟨a0, len0, cap0, rfl⟩ := okWide_slice Try.underlying22 (hval 0 22 v0 rfl rfl)
  have k0 := h0
  have lt0 : ∀ x ∈ p0, x.block < W.heap.size := by obtain ⟨m, hm⟩ := k0; exact DataW.trod_lt m _ _ _ hm
  obtain ⟨z0, w0⟩ : ∃ zs, IsRow .u8 W a0 len0 cap0 zs := by
    obtain ⟨fuel, hf⟩ := h0
    rcases open_ints Try.underlying22 Try.underlying5 (by kernel_rfl) hf with ⟨hcs, _⟩ | ⟨x, l, c, zs, hcs, _, hl, hm, hz, _, hcell, hwz⟩
    · simp [Value.cells] at hcs
      obtain ⟨rfl, rfl, rfl⟩ := hcs
      exact ⟨[], .inl ⟨rfl, rfl, rfl, rfl⟩⟩
    · simp [Value.cells] at hcs
      obtain ⟨rfl, rfl, rfl⟩ := hcs
      exact ⟨zs, .inr ⟨_, rfl, hl, hm, by simpa using hz, hcell, hwz⟩⟩
  obtain ⟨a1, rfl, rfl, rfl, w1⟩ := open_int Try.underlying5 (hval 1 5 v1 rfl rfl) h1
  obtain ⟨a2, rfl, rfl, rfl, w2⟩ := open_int Try.underlying3 (hval 2 3 v2 rfl rfl) h2
  obtain ⟨a3, rfl, rfl, rfl, w3⟩ := open_int Try.underlying23 (hval 3 23 v3 rfl rfl) h3
  obtain ⟨a4, rfl, rfl, rfl, w4⟩ := open_string Try.underlying9 (hval 4 9 v4 rfl rfl) h4
  clear hA0 hval0
  refine (walk a0 len0 cap0 z0 a1 a2 a3 a4 W w0 w1 w2 w3 w4).mono fun e W' ⟨he, bel⟩ => ?_
  subst he
  exact ⟨_, rfl, _, _, _, [], _, [], hW', trodAll_mk1 (shut_bool Try.underlying4 _), (trodAll_cons_mk (Below.trod laidOut (by kernel_rfl) (of_decide_eq_true (by kernel_rfl)) k0 bel lt0) (trodAll_cons_mk (shut_int Try.underlying5 w1) (trodAll_cons_mk (shut_int Try.underlying3 w2) (trodAll_cons_mk (shut_int Try.underlying23 w3) (trodAll_cons_mk (shut_string Try.underlying9 w4) trodAll_mk0))))), rfl, bel.frame _, fun h => by cases h⟩

theorem over : Rows.prefixBackRow.holds Try.pinned (OpenSpec.ofChange Rows.prefixBackSpec) :=
  OpenClaim.holds_of_wide 5 Try.f5 rfl rfl rfl rfl rfl rfl rfl ⟨rfl, rfl, rfl, rfl, rfl⟩ rfl rfl rfl rfl rfl (by kernel_rfl) Try.func5 (by kernel_rfl)
    (of_decide_eq_true (by kernel_rfl)) (by unfold Func.isWrapper; first | (rw [if_pos (by decide +kernel)]; kernel_rfl) | (rw [if_neg (by decide +kernel)]; exact ⟨rfl, rfl⟩))
    (fun os started H enc _ => lifted os started H enc)

theorem proved : Rows.PrefixBackSaid := over
#print axioms proved
end Go.Proofs.Ytfkdkkbmcbmdjaa.prefixBack
