/- Texts of one proof, one behind the other: RecRefShaped, NumRefPut. -/
import Derived.Test.YtihkmdojakalbaaProg
import Derived.Test.YtihkmdojakalbaaReadMessagesProofG10
import Derived.Test.YtihkmdojakalbaaReadMessagesProofG6
import Derived.Test.YtihkmdojakalbaaReadMessagesProofG1
import Derived.WalkKit
import Derived.Lib.Hide
import Derived.Outline
import Derived.IntWalk
import Derived.WalkSpells
import Derived.WalkLawsBesides

/- The contract of the document's own look at a record's shape. For records of at most 10^5 texts of at most 10^5 bytes. -/
namespace Go.Proofs.Ytihkmdojakalbaa
open Go.RowKit Bytes Strs Nums NameMath RecMath

theorem cntOk_is {R : Rec} {n1 n2 n3 a b c k : Nat} (hk : R.kind = k) (h1 : R.names.length = n1) (h2 : R.nums.length = n2) (h3 : R.texts.length = n3) (ha : shA k = a) (hb : shB k = b) (hc : shC k = c) : cntOk R = decide (n1 = a ∧ n2 = b ∧ ((k = 16 ∧ 0 < n3) ∨ (k ≠ 16 ∧ n3 = c))) := by
  subst hk h1 h2 h3 ha hb hc
  rfl
theorem badNum_6 (n : Nat) : badNum 6 n = false := decide_eq_false (fun h => h.2 rfl)
theorem badNum_not {k : Nat} (hk : k ≠ 6) (n : Nat) : badNum k n = decide (65535 < n) := decide_eq_decide.2 ⟨fun h => h.1, fun h => ⟨h, hk⟩⟩
theorem badText_16 (l : List UInt8) : badText 16 l = decide (255 < l.length) := by simp [badText]
theorem badText_1 (l : List UInt8) : badText 1 l = decide (l.length ≠ 4) := by simp [badText]
theorem badText_28 (l : List UInt8) : badText 28 l = decide (l.length ≠ 16) := by simp [badText]
theorem badText_not {k : Nat} (h16 : k ≠ 16) (h1 : k ≠ 1) (h28 : k ≠ 28) (l : List UInt8) : badText k l = false := by simp [badText, h16, h1, h28]

set_option maxHeartbeats 4000000 in
set_option maxRecDepth 100000 in
theorem refShaped_16 (R : Rec) (x : ByteArray) (k l t : Nat) (A1 : Option Addr) (n1 c1 : Nat) (A2 : Option Addr) (n2 c2 : Nat) (A3 : Option Addr) (n3 c3 : Nat) (q : Bool) (w : World) (hR : Hid (RecAt w w.heap.size R x k l t A1 n1 A2 n2 A3 n3)) (hS : Hid (Small R)) (hk : k = 16) (hq : Hid (shapedB R = q)) :
    Calls Try.prog 67 #[.agg #[.string x, .int .u16 k, .int .u16 l, .int .u32 t, .slice A1 n1 c1, .slice A2 n2 c2, .slice A3 n3 c3]] w fun e w' => e = .returned (.bool q) ∧ Below w.heap.size w w' := by
  subst hk
  obtain ⟨a, ha⟩ : ∃ a, shA 16 = a := ⟨_, rfl⟩
  obtain ⟨b, hb⟩ : ∃ b, shB 16 = b := ⟨_, rfl⟩
  obtain ⟨c, hc⟩ : ∃ c, shC 16 = c := ⟨_, rfl⟩
  have hm1 := hR.out.m1 hS.out
  have hm2 := hR.out.m2 hS.out
  have hm3 := hR.out.m3 hS.out
  have hcn := cntOk_is hR.out.kind hR.out.len1 hR.out.len2 hR.out.len3 ha hb hc
  have hsh : q = (cntOk R && !R.nums.any (badNum 16) && !R.texts.any (badText 16)) := by rw [← hq.out]; unfold shapedB; rw [hR.out.kind]
  rw [hcn] at hsh
  have HSH := Lib.hid hsh
  have HA := Lib.hid ha
  have HB := Lib.hid hb
  have HC := Lib.hid hc
  have HR2 := Lib.hid (hR.out.box (.cells #[.string x, .int .u16 16, .int .u16 l, .int .u32 t, .slice A1 n1 c1, .slice A2 n2 c2, .slice A3 n3 c3] 49))
  have HB0 : Hid (Below w.heap.size w (w.alloc (.cells #[.string x, .int .u16 16, .int .u16 l, .int .u32 t, .slice A1 n1 c1, .slice A2 n2 c2, .slice A3 n3 c3] 49))) := (Below.refl _ _).alloc (Nat.le_refl _) _
  have d1 : (w.alloc (.cells #[.string x, .int .u16 16, .int .u16 l, .int .u32 t, .slice A1 n1 c1, .slice A2 n2 c2, .slice A3 n3 c3] 49)).cell? ⟨w.heap.size, 1, none⟩ = some (.int .u16 16) := by simp
  have d4 : (w.alloc (.cells #[.string x, .int .u16 16, .int .u16 l, .int .u32 t, .slice A1 n1 c1, .slice A2 n2 c2, .slice A3 n3 c3] 49)).cell? ⟨w.heap.size, 4, none⟩ = some (.slice A1 n1 c1) := by simp
  have d5 : (w.alloc (.cells #[.string x, .int .u16 16, .int .u16 l, .int .u32 t, .slice A1 n1 c1, .slice A2 n2 c2, .slice A3 n3 c3] 49)).cell? ⟨w.heap.size, 5, none⟩ = some (.slice A2 n2 c2) := by simp
  have d6 : (w.alloc (.cells #[.string x, .int .u16 16, .int .u16 l, .int .u32 t, .slice A1 n1 c1, .slice A2 n2 c2, .slice A3 n3 c3] 49)).cell? ⟨w.heap.size, 6, none⟩ = some (.slice A3 n3 c3) := by simp
  clear hcn hsh ha hb hc hq hR
  by_cases e1 : n1 = a
  rotate_left
  · have f : ((n1 : Int) != (a : Int)) = true := int_nne e1
    obtain rfl : q = false := by rw [HSH.out, decide_eq_false (by rintro ⟨r1, r2, r3⟩; exact e1 r1), Bool.false_and, Bool.false_and]
    clear e1 HSH
    go_enter Try.func67, Try.ntmps67
    go_wp2_with fail
    refine (refShape_is 16 a b c _ HA HB HC).mono ?_
    rintro e w' ⟨rfl, rfl⟩
    generalize w.alloc (.cells #[.string x, .int .u16 16, .int .u16 l, .int .u32 t, .slice A1 n1 c1, .slice A2 n2 c2, .slice A3 n3 c3] 49) = wb at *
    go_wp2_with fail
    go_ret
    exact ⟨rfl, HB0.out⟩
  have f1 : ((n1 : Int) != (a : Int)) = false := int_neq e1
  by_cases e2 : n2 = b
  rotate_left
  · have f : ((n2 : Int) != (b : Int)) = true := int_nne e2
    obtain rfl : q = false := by rw [HSH.out, decide_eq_false (by rintro ⟨r1, r2, r3⟩; exact e2 r2), Bool.false_and, Bool.false_and]
    clear e1 e2 HSH
    go_enter Try.func67, Try.ntmps67
    go_wp2_with fail
    refine (refShape_is 16 a b c _ HA HB HC).mono ?_
    rintro e w' ⟨rfl, rfl⟩
    generalize w.alloc (.cells #[.string x, .int .u16 16, .int .u16 l, .int .u32 t, .slice A1 n1 c1, .slice A2 n2 c2, .slice A3 n3 c3] 49) = wb at *
    go_wp2_with fail
    go_ret
    exact ⟨rfl, HB0.out⟩
  have f2 : ((n2 : Int) != (b : Int)) = false := int_neq e2
  by_cases e3 : 0 < n3
  rotate_left
  · have f : ((n3 : Int) == 0) = true := int_eq (show n3 = 0 by omega)
    obtain rfl : q = false := by rw [HSH.out, decide_eq_false (by rintro ⟨r1, r2, r3⟩; omega), Bool.false_and, Bool.false_and]
    clear e3 HSH e1 e2
    go_enter Try.func67, Try.ntmps67
    go_wp2_with fail
    refine (refShape_is 16 a b c _ HA HB HC).mono ?_
    rintro e w' ⟨rfl, rfl⟩
    generalize w.alloc (.cells #[.string x, .int .u16 16, .int .u16 l, .int .u32 t, .slice A1 n1 c1, .slice A2 n2 c2, .slice A3 n3 c3] 49) = wb at *
    go_wp2_with fail
    go_ret
    exact ⟨rfl, HB0.out⟩
  have f3 : ((n3 : Int) == 0) = false := int_ne (show n3 ≠ 0 by omega)
  have hcnt : decide (n1 = a ∧ n2 = b ∧ ((16 = 16 ∧ 0 < n3) ∨ (16 ≠ 16 ∧ n3 = c))) = true := decide_eq_true ⟨e1, e2, Or.inl ⟨rfl, e3⟩⟩
  obtain ⟨z1, hz1⟩ : ∃ z, R.nums.any (badNum 16) = z := ⟨_, rfl⟩
  obtain ⟨z2, hz2⟩ : ∃ z, R.texts.any (badText 16) = z := ⟨_, rfl⟩
  have hsh := HSH.out
  rw [hcnt, hz1, hz2, Bool.true_and] at hsh
  have HQ := Lib.hid hsh
  have HZ1 := Lib.hid hz1
  have HZ2 := Lib.hid hz2
  have HL2 := Lib.hid HR2.out.len2
  have HL3 := Lib.hid HR2.out.len3
  have HRD2 := Lib.hid HR2.out.rd2
  have HRD3 := Lib.hid HR2.out.rd3
  clear hsh hz1 hz2 hcnt HSH e1 e2 e3 HR2
  go_enter Try.func67, Try.ntmps67
  go_wp2_with fail
  refine (refShape_is 16 a b c _ HA HB HC).mono ?_
  rintro e w' ⟨rfl, rfl⟩
  generalize w.alloc (.cells #[.string x, .int .u16 16, .int .u16 l, .int .u32 t, .slice A1 n1 c1, .slice A2 n2 c2, .slice A3 n3 c3] 49) = wb at *
  go_wp2_with fail
  go_loop [6] (fun i => ∃ j : Nat, j ≤ n2 ∧ i = .int .i64 j ∧ Hid ((R.nums.drop j).any (badNum 16) = z1)) (fun i => n2 - (intOf i).toNat)
  case atStart => exact ⟨0, Nat.zero_le _, rfl, HZ1⟩
  case round =>
    obtain ⟨j, hj, rfl, hH⟩ := hrel
    by_cases hlt : j < n2
    · have hkl : j < R.nums.length := by rw [HL2.out]; exact hlt
      obtain ⟨ad, rfl, hab, hcell⟩ := HRD2.out.get hkl
      have hd := hH.out
      rw [num_drop hkl, List.any_cons, badNum_not (by decide)] at hd
      generalize R.nums.getD j 0 = y at *
      by_cases hy : (65535 : Int) < y
      · rw [decide_eq_true (by omega), Bool.true_or] at hd
        subst hd
        obtain rfl : q = false := HQ.out
        clear hH hkl HQ
        go_wp2_with fail
        go_ret
        exact ⟨rfl, HB0.out⟩
      · rw [decide_eq_false (by omega), Bool.false_or] at hd
        have HD := Lib.hid hd
        clear hd hH hkl
        go_wp2_with fail
        go_round
        case rel => exact ⟨j + 1, by omega, by go_num, HD⟩
        case measure => simp [intOf]; omega
    · have hz := hH.out
      rw [List.drop_of_length_le (by rw [HL2.out]; omega)] at hz
      have hqz : q = !z2 := by rw [HQ.out, ← hz]; rfl
      have HQ2 := Lib.hid hqz
      clear hz hH hqz HQ
      go_wp2_with fail
      go_loop [7] (fun i => ∃ j : Nat, j ≤ n3 ∧ i = .int .i64 j ∧ Hid ((R.texts.drop j).any (badText 16) = z2)) (fun i => n3 - (intOf i).toNat)
      case atStart => exact ⟨0, Nat.zero_le _, rfl, HZ2⟩
      case round =>
        obtain ⟨m, hm, rfl, hH⟩ := hrel
        by_cases hlt2 : m < n3
        · have hkl : m < R.texts.length := by rw [HL3.out]; exact hlt2
          obtain ⟨ad, rfl, hab, hcell⟩ := HRD3.out.get hkl
          have hd := hH.out
          rw [lab_drop hkl, List.any_cons, badText_16] at hd
          have hsz := mk_size (R.texts.getD m [])
          generalize mk (R.texts.getD m []) = y at *
          rw [← hsz] at hd
          by_cases hy : (255 : Int) < y.size
          · rw [decide_eq_true (by omega), Bool.true_or] at hd
            subst hd
            obtain rfl : q = false := HQ2.out
            clear hH hkl HQ2 hsz
            go_wp2_with fail
            go_ret
            exact ⟨rfl, HB0.out⟩
          · rw [decide_eq_false (by omega), Bool.false_or] at hd
            have HD := Lib.hid hd
            clear hd hH hkl hsz
            go_wp2_with fail
            go_round
            case rel => exact ⟨m + 1, by omega, by go_num, HD⟩
            case measure => simp [intOf]; omega
        · have hz := hH.out
          rw [List.drop_of_length_le (by rw [HL3.out]; omega)] at hz
          obtain rfl : q = true := by rw [HQ2.out, ← hz]; rfl
          clear hz hH HQ2
          go_wp2_with fail
          go_ret
          exact ⟨rfl, HB0.out⟩

set_option maxHeartbeats 4000000 in
set_option maxRecDepth 100000 in
theorem refShaped_1 (R : Rec) (x : ByteArray) (k l t : Nat) (A1 : Option Addr) (n1 c1 : Nat) (A2 : Option Addr) (n2 c2 : Nat) (A3 : Option Addr) (n3 c3 : Nat) (q : Bool) (w : World) (hR : Hid (RecAt w w.heap.size R x k l t A1 n1 A2 n2 A3 n3)) (hS : Hid (Small R)) (hk : k = 1) (hq : Hid (shapedB R = q)) :
    Calls Try.prog 67 #[.agg #[.string x, .int .u16 k, .int .u16 l, .int .u32 t, .slice A1 n1 c1, .slice A2 n2 c2, .slice A3 n3 c3]] w fun e w' => e = .returned (.bool q) ∧ Below w.heap.size w w' := by
  subst hk
  obtain ⟨a, ha⟩ : ∃ a, shA 1 = a := ⟨_, rfl⟩
  obtain ⟨b, hb⟩ : ∃ b, shB 1 = b := ⟨_, rfl⟩
  obtain ⟨c, hc⟩ : ∃ c, shC 1 = c := ⟨_, rfl⟩
  have hm1 := hR.out.m1 hS.out
  have hm2 := hR.out.m2 hS.out
  have hm3 := hR.out.m3 hS.out
  have hcn := cntOk_is hR.out.kind hR.out.len1 hR.out.len2 hR.out.len3 ha hb hc
  have hsh : q = (cntOk R && !R.nums.any (badNum 1) && !R.texts.any (badText 1)) := by rw [← hq.out]; unfold shapedB; rw [hR.out.kind]
  rw [hcn] at hsh
  have HSH := Lib.hid hsh
  have HA := Lib.hid ha
  have HB := Lib.hid hb
  have HC := Lib.hid hc
  have HR2 := Lib.hid (hR.out.box (.cells #[.string x, .int .u16 1, .int .u16 l, .int .u32 t, .slice A1 n1 c1, .slice A2 n2 c2, .slice A3 n3 c3] 49))
  have HB0 : Hid (Below w.heap.size w (w.alloc (.cells #[.string x, .int .u16 1, .int .u16 l, .int .u32 t, .slice A1 n1 c1, .slice A2 n2 c2, .slice A3 n3 c3] 49))) := (Below.refl _ _).alloc (Nat.le_refl _) _
  have d1 : (w.alloc (.cells #[.string x, .int .u16 1, .int .u16 l, .int .u32 t, .slice A1 n1 c1, .slice A2 n2 c2, .slice A3 n3 c3] 49)).cell? ⟨w.heap.size, 1, none⟩ = some (.int .u16 1) := by simp
  have d4 : (w.alloc (.cells #[.string x, .int .u16 1, .int .u16 l, .int .u32 t, .slice A1 n1 c1, .slice A2 n2 c2, .slice A3 n3 c3] 49)).cell? ⟨w.heap.size, 4, none⟩ = some (.slice A1 n1 c1) := by simp
  have d5 : (w.alloc (.cells #[.string x, .int .u16 1, .int .u16 l, .int .u32 t, .slice A1 n1 c1, .slice A2 n2 c2, .slice A3 n3 c3] 49)).cell? ⟨w.heap.size, 5, none⟩ = some (.slice A2 n2 c2) := by simp
  have d6 : (w.alloc (.cells #[.string x, .int .u16 1, .int .u16 l, .int .u32 t, .slice A1 n1 c1, .slice A2 n2 c2, .slice A3 n3 c3] 49)).cell? ⟨w.heap.size, 6, none⟩ = some (.slice A3 n3 c3) := by simp
  clear hcn hsh ha hb hc hq hR
  by_cases e1 : n1 = a
  rotate_left
  · have f : ((n1 : Int) != (a : Int)) = true := int_nne e1
    obtain rfl : q = false := by rw [HSH.out, decide_eq_false (by rintro ⟨r1, r2, r3⟩; exact e1 r1), Bool.false_and, Bool.false_and]
    clear e1 HSH
    go_enter Try.func67, Try.ntmps67
    go_wp2_with fail
    refine (refShape_is 1 a b c _ HA HB HC).mono ?_
    rintro e w' ⟨rfl, rfl⟩
    generalize w.alloc (.cells #[.string x, .int .u16 1, .int .u16 l, .int .u32 t, .slice A1 n1 c1, .slice A2 n2 c2, .slice A3 n3 c3] 49) = wb at *
    go_wp2_with fail
    go_ret
    exact ⟨rfl, HB0.out⟩
  have f1 : ((n1 : Int) != (a : Int)) = false := int_neq e1
  by_cases e2 : n2 = b
  rotate_left
  · have f : ((n2 : Int) != (b : Int)) = true := int_nne e2
    obtain rfl : q = false := by rw [HSH.out, decide_eq_false (by rintro ⟨r1, r2, r3⟩; exact e2 r2), Bool.false_and, Bool.false_and]
    clear e1 e2 HSH
    go_enter Try.func67, Try.ntmps67
    go_wp2_with fail
    refine (refShape_is 1 a b c _ HA HB HC).mono ?_
    rintro e w' ⟨rfl, rfl⟩
    generalize w.alloc (.cells #[.string x, .int .u16 1, .int .u16 l, .int .u32 t, .slice A1 n1 c1, .slice A2 n2 c2, .slice A3 n3 c3] 49) = wb at *
    go_wp2_with fail
    go_ret
    exact ⟨rfl, HB0.out⟩
  have f2 : ((n2 : Int) != (b : Int)) = false := int_neq e2
  by_cases e3 : n3 = c
  rotate_left
  · have f : ((n3 : Int) != (c : Int)) = true := int_nne e3
    obtain rfl : q = false := by rw [HSH.out, decide_eq_false (by rintro ⟨r1, r2, r3⟩; omega), Bool.false_and, Bool.false_and]
    clear e3 HSH e1 e2
    go_enter Try.func67, Try.ntmps67
    go_wp2_with fail
    refine (refShape_is 1 a b c _ HA HB HC).mono ?_
    rintro e w' ⟨rfl, rfl⟩
    generalize w.alloc (.cells #[.string x, .int .u16 1, .int .u16 l, .int .u32 t, .slice A1 n1 c1, .slice A2 n2 c2, .slice A3 n3 c3] 49) = wb at *
    go_wp2_with fail
    go_ret
    exact ⟨rfl, HB0.out⟩
  have f3 : ((n3 : Int) != (c : Int)) = false := int_neq e3
  have hcnt : decide (n1 = a ∧ n2 = b ∧ ((1 = 16 ∧ 0 < n3) ∨ (1 ≠ 16 ∧ n3 = c))) = true := decide_eq_true ⟨e1, e2, Or.inr ⟨by decide, e3⟩⟩
  obtain ⟨z1, hz1⟩ : ∃ z, R.nums.any (badNum 1) = z := ⟨_, rfl⟩
  obtain ⟨z2, hz2⟩ : ∃ z, R.texts.any (badText 1) = z := ⟨_, rfl⟩
  have hsh := HSH.out
  rw [hcnt, hz1, hz2, Bool.true_and] at hsh
  have HQ := Lib.hid hsh
  have HZ1 := Lib.hid hz1
  have HZ2 := Lib.hid hz2
  have HL2 := Lib.hid HR2.out.len2
  have HL3 := Lib.hid HR2.out.len3
  have HRD2 := Lib.hid HR2.out.rd2
  have HRD3 := Lib.hid HR2.out.rd3
  clear hsh hz1 hz2 hcnt HSH e1 e2 e3 HR2
  go_enter Try.func67, Try.ntmps67
  go_wp2_with fail
  refine (refShape_is 1 a b c _ HA HB HC).mono ?_
  rintro e w' ⟨rfl, rfl⟩
  generalize w.alloc (.cells #[.string x, .int .u16 1, .int .u16 l, .int .u32 t, .slice A1 n1 c1, .slice A2 n2 c2, .slice A3 n3 c3] 49) = wb at *
  go_wp2_with fail
  go_loop [6] (fun i => ∃ j : Nat, j ≤ n2 ∧ i = .int .i64 j ∧ Hid ((R.nums.drop j).any (badNum 1) = z1)) (fun i => n2 - (intOf i).toNat)
  case atStart => exact ⟨0, Nat.zero_le _, rfl, HZ1⟩
  case round =>
    obtain ⟨j, hj, rfl, hH⟩ := hrel
    by_cases hlt : j < n2
    · have hkl : j < R.nums.length := by rw [HL2.out]; exact hlt
      obtain ⟨ad, rfl, hab, hcell⟩ := HRD2.out.get hkl
      have hd := hH.out
      rw [num_drop hkl, List.any_cons, badNum_not (by decide)] at hd
      generalize R.nums.getD j 0 = y at *
      by_cases hy : (65535 : Int) < y
      · rw [decide_eq_true (by omega), Bool.true_or] at hd
        subst hd
        obtain rfl : q = false := HQ.out
        clear hH hkl HQ
        go_wp2_with fail
        go_ret
        exact ⟨rfl, HB0.out⟩
      · rw [decide_eq_false (by omega), Bool.false_or] at hd
        have HD := Lib.hid hd
        clear hd hH hkl
        go_wp2_with fail
        go_round
        case rel => exact ⟨j + 1, by omega, by go_num, HD⟩
        case measure => simp [intOf]; omega
    · have hz := hH.out
      rw [List.drop_of_length_le (by rw [HL2.out]; omega)] at hz
      have hqz : q = !z2 := by rw [HQ.out, ← hz]; rfl
      have HQ2 := Lib.hid hqz
      clear hz hH hqz HQ
      go_wp2_with fail
      go_loop [7] (fun i => ∃ j : Nat, j ≤ n3 ∧ i = .int .i64 j ∧ Hid ((R.texts.drop j).any (badText 1) = z2)) (fun i => n3 - (intOf i).toNat)
      case atStart => exact ⟨0, Nat.zero_le _, rfl, HZ2⟩
      case round =>
        obtain ⟨m, hm, rfl, hH⟩ := hrel
        by_cases hlt2 : m < n3
        · have hkl : m < R.texts.length := by rw [HL3.out]; exact hlt2
          obtain ⟨ad, rfl, hab, hcell⟩ := HRD3.out.get hkl
          have hd := hH.out
          rw [lab_drop hkl, List.any_cons, badText_1] at hd
          have hsz := mk_size (R.texts.getD m [])
          generalize mk (R.texts.getD m []) = y at *
          rw [← hsz] at hd
          by_cases hy : y.size = 4
          · rw [decide_eq_false (by omega), Bool.false_or] at hd
            have gy : ((y.size : Int) != 4) = false := int_neq hy
            clear hy
            have HD := Lib.hid hd
            clear hd hH hkl hsz
            go_wp2_with fail
            go_round
            case rel => exact ⟨m + 1, by omega, by go_num, HD⟩
            case measure => simp [intOf]; omega
          · rw [decide_eq_true hy, Bool.true_or] at hd
            have gy : ((y.size : Int) != 4) = true := int_nne hy
            clear hy
            subst hd
            obtain rfl : q = false := HQ2.out
            clear hH hkl HQ2 hsz
            go_wp2_with fail
            go_ret
            exact ⟨rfl, HB0.out⟩
        · have hz := hH.out
          rw [List.drop_of_length_le (by rw [HL3.out]; omega)] at hz
          obtain rfl : q = true := by rw [HQ2.out, ← hz]; rfl
          clear hz hH HQ2
          go_wp2_with fail
          go_ret
          exact ⟨rfl, HB0.out⟩

set_option maxHeartbeats 4000000 in
set_option maxRecDepth 100000 in
theorem refShaped_28 (R : Rec) (x : ByteArray) (k l t : Nat) (A1 : Option Addr) (n1 c1 : Nat) (A2 : Option Addr) (n2 c2 : Nat) (A3 : Option Addr) (n3 c3 : Nat) (q : Bool) (w : World) (hR : Hid (RecAt w w.heap.size R x k l t A1 n1 A2 n2 A3 n3)) (hS : Hid (Small R)) (hk : k = 28) (hq : Hid (shapedB R = q)) :
    Calls Try.prog 67 #[.agg #[.string x, .int .u16 k, .int .u16 l, .int .u32 t, .slice A1 n1 c1, .slice A2 n2 c2, .slice A3 n3 c3]] w fun e w' => e = .returned (.bool q) ∧ Below w.heap.size w w' := by
  subst hk
  obtain ⟨a, ha⟩ : ∃ a, shA 28 = a := ⟨_, rfl⟩
  obtain ⟨b, hb⟩ : ∃ b, shB 28 = b := ⟨_, rfl⟩
  obtain ⟨c, hc⟩ : ∃ c, shC 28 = c := ⟨_, rfl⟩
  have hm1 := hR.out.m1 hS.out
  have hm2 := hR.out.m2 hS.out
  have hm3 := hR.out.m3 hS.out
  have hcn := cntOk_is hR.out.kind hR.out.len1 hR.out.len2 hR.out.len3 ha hb hc
  have hsh : q = (cntOk R && !R.nums.any (badNum 28) && !R.texts.any (badText 28)) := by rw [← hq.out]; unfold shapedB; rw [hR.out.kind]
  rw [hcn] at hsh
  have HSH := Lib.hid hsh
  have HA := Lib.hid ha
  have HB := Lib.hid hb
  have HC := Lib.hid hc
  have HR2 := Lib.hid (hR.out.box (.cells #[.string x, .int .u16 28, .int .u16 l, .int .u32 t, .slice A1 n1 c1, .slice A2 n2 c2, .slice A3 n3 c3] 49))
  have HB0 : Hid (Below w.heap.size w (w.alloc (.cells #[.string x, .int .u16 28, .int .u16 l, .int .u32 t, .slice A1 n1 c1, .slice A2 n2 c2, .slice A3 n3 c3] 49))) := (Below.refl _ _).alloc (Nat.le_refl _) _
  have d1 : (w.alloc (.cells #[.string x, .int .u16 28, .int .u16 l, .int .u32 t, .slice A1 n1 c1, .slice A2 n2 c2, .slice A3 n3 c3] 49)).cell? ⟨w.heap.size, 1, none⟩ = some (.int .u16 28) := by simp
  have d4 : (w.alloc (.cells #[.string x, .int .u16 28, .int .u16 l, .int .u32 t, .slice A1 n1 c1, .slice A2 n2 c2, .slice A3 n3 c3] 49)).cell? ⟨w.heap.size, 4, none⟩ = some (.slice A1 n1 c1) := by simp
  have d5 : (w.alloc (.cells #[.string x, .int .u16 28, .int .u16 l, .int .u32 t, .slice A1 n1 c1, .slice A2 n2 c2, .slice A3 n3 c3] 49)).cell? ⟨w.heap.size, 5, none⟩ = some (.slice A2 n2 c2) := by simp
  have d6 : (w.alloc (.cells #[.string x, .int .u16 28, .int .u16 l, .int .u32 t, .slice A1 n1 c1, .slice A2 n2 c2, .slice A3 n3 c3] 49)).cell? ⟨w.heap.size, 6, none⟩ = some (.slice A3 n3 c3) := by simp
  clear hcn hsh ha hb hc hq hR
  by_cases e1 : n1 = a
  rotate_left
  · have f : ((n1 : Int) != (a : Int)) = true := int_nne e1
    obtain rfl : q = false := by rw [HSH.out, decide_eq_false (by rintro ⟨r1, r2, r3⟩; exact e1 r1), Bool.false_and, Bool.false_and]
    clear e1 HSH
    go_enter Try.func67, Try.ntmps67
    go_wp2_with fail
    refine (refShape_is 28 a b c _ HA HB HC).mono ?_
    rintro e w' ⟨rfl, rfl⟩
    generalize w.alloc (.cells #[.string x, .int .u16 28, .int .u16 l, .int .u32 t, .slice A1 n1 c1, .slice A2 n2 c2, .slice A3 n3 c3] 49) = wb at *
    go_wp2_with fail
    go_ret
    exact ⟨rfl, HB0.out⟩
  have f1 : ((n1 : Int) != (a : Int)) = false := int_neq e1
  by_cases e2 : n2 = b
  rotate_left
  · have f : ((n2 : Int) != (b : Int)) = true := int_nne e2
    obtain rfl : q = false := by rw [HSH.out, decide_eq_false (by rintro ⟨r1, r2, r3⟩; exact e2 r2), Bool.false_and, Bool.false_and]
    clear e1 e2 HSH
    go_enter Try.func67, Try.ntmps67
    go_wp2_with fail
    refine (refShape_is 28 a b c _ HA HB HC).mono ?_
    rintro e w' ⟨rfl, rfl⟩
    generalize w.alloc (.cells #[.string x, .int .u16 28, .int .u16 l, .int .u32 t, .slice A1 n1 c1, .slice A2 n2 c2, .slice A3 n3 c3] 49) = wb at *
    go_wp2_with fail
    go_ret
    exact ⟨rfl, HB0.out⟩
  have f2 : ((n2 : Int) != (b : Int)) = false := int_neq e2
  by_cases e3 : n3 = c
  rotate_left
  · have f : ((n3 : Int) != (c : Int)) = true := int_nne e3
    obtain rfl : q = false := by rw [HSH.out, decide_eq_false (by rintro ⟨r1, r2, r3⟩; omega), Bool.false_and, Bool.false_and]
    clear e3 HSH e1 e2
    go_enter Try.func67, Try.ntmps67
    go_wp2_with fail
    refine (refShape_is 28 a b c _ HA HB HC).mono ?_
    rintro e w' ⟨rfl, rfl⟩
    generalize w.alloc (.cells #[.string x, .int .u16 28, .int .u16 l, .int .u32 t, .slice A1 n1 c1, .slice A2 n2 c2, .slice A3 n3 c3] 49) = wb at *
    go_wp2_with fail
    go_ret
    exact ⟨rfl, HB0.out⟩
  have f3 : ((n3 : Int) != (c : Int)) = false := int_neq e3
  have hcnt : decide (n1 = a ∧ n2 = b ∧ ((28 = 16 ∧ 0 < n3) ∨ (28 ≠ 16 ∧ n3 = c))) = true := decide_eq_true ⟨e1, e2, Or.inr ⟨by decide, e3⟩⟩
  obtain ⟨z1, hz1⟩ : ∃ z, R.nums.any (badNum 28) = z := ⟨_, rfl⟩
  obtain ⟨z2, hz2⟩ : ∃ z, R.texts.any (badText 28) = z := ⟨_, rfl⟩
  have hsh := HSH.out
  rw [hcnt, hz1, hz2, Bool.true_and] at hsh
  have HQ := Lib.hid hsh
  have HZ1 := Lib.hid hz1
  have HZ2 := Lib.hid hz2
  have HL2 := Lib.hid HR2.out.len2
  have HL3 := Lib.hid HR2.out.len3
  have HRD2 := Lib.hid HR2.out.rd2
  have HRD3 := Lib.hid HR2.out.rd3
  clear hsh hz1 hz2 hcnt HSH e1 e2 e3 HR2
  go_enter Try.func67, Try.ntmps67
  go_wp2_with fail
  refine (refShape_is 28 a b c _ HA HB HC).mono ?_
  rintro e w' ⟨rfl, rfl⟩
  generalize w.alloc (.cells #[.string x, .int .u16 28, .int .u16 l, .int .u32 t, .slice A1 n1 c1, .slice A2 n2 c2, .slice A3 n3 c3] 49) = wb at *
  go_wp2_with fail
  go_loop [6] (fun i => ∃ j : Nat, j ≤ n2 ∧ i = .int .i64 j ∧ Hid ((R.nums.drop j).any (badNum 28) = z1)) (fun i => n2 - (intOf i).toNat)
  case atStart => exact ⟨0, Nat.zero_le _, rfl, HZ1⟩
  case round =>
    obtain ⟨j, hj, rfl, hH⟩ := hrel
    by_cases hlt : j < n2
    · have hkl : j < R.nums.length := by rw [HL2.out]; exact hlt
      obtain ⟨ad, rfl, hab, hcell⟩ := HRD2.out.get hkl
      have hd := hH.out
      rw [num_drop hkl, List.any_cons, badNum_not (by decide)] at hd
      generalize R.nums.getD j 0 = y at *
      by_cases hy : (65535 : Int) < y
      · rw [decide_eq_true (by omega), Bool.true_or] at hd
        subst hd
        obtain rfl : q = false := HQ.out
        clear hH hkl HQ
        go_wp2_with fail
        go_ret
        exact ⟨rfl, HB0.out⟩
      · rw [decide_eq_false (by omega), Bool.false_or] at hd
        have HD := Lib.hid hd
        clear hd hH hkl
        go_wp2_with fail
        go_round
        case rel => exact ⟨j + 1, by omega, by go_num, HD⟩
        case measure => simp [intOf]; omega
    · have hz := hH.out
      rw [List.drop_of_length_le (by rw [HL2.out]; omega)] at hz
      have hqz : q = !z2 := by rw [HQ.out, ← hz]; rfl
      have HQ2 := Lib.hid hqz
      clear hz hH hqz HQ
      go_wp2_with fail
      go_loop [7] (fun i => ∃ j : Nat, j ≤ n3 ∧ i = .int .i64 j ∧ Hid ((R.texts.drop j).any (badText 28) = z2)) (fun i => n3 - (intOf i).toNat)
      case atStart => exact ⟨0, Nat.zero_le _, rfl, HZ2⟩
      case round =>
        obtain ⟨m, hm, rfl, hH⟩ := hrel
        by_cases hlt2 : m < n3
        · have hkl : m < R.texts.length := by rw [HL3.out]; exact hlt2
          obtain ⟨ad, rfl, hab, hcell⟩ := HRD3.out.get hkl
          have hd := hH.out
          rw [lab_drop hkl, List.any_cons, badText_28] at hd
          have hsz := mk_size (R.texts.getD m [])
          generalize mk (R.texts.getD m []) = y at *
          rw [← hsz] at hd
          by_cases hy : y.size = 16
          · rw [decide_eq_false (by omega), Bool.false_or] at hd
            have gy : ((y.size : Int) != 16) = false := int_neq hy
            clear hy
            have HD := Lib.hid hd
            clear hd hH hkl hsz
            go_wp2_with fail
            go_round
            case rel => exact ⟨m + 1, by omega, by go_num, HD⟩
            case measure => simp [intOf]; omega
          · rw [decide_eq_true hy, Bool.true_or] at hd
            have gy : ((y.size : Int) != 16) = true := int_nne hy
            clear hy
            subst hd
            obtain rfl : q = false := HQ2.out
            clear hH hkl HQ2 hsz
            go_wp2_with fail
            go_ret
            exact ⟨rfl, HB0.out⟩
        · have hz := hH.out
          rw [List.drop_of_length_le (by rw [HL3.out]; omega)] at hz
          obtain rfl : q = true := by rw [HQ2.out, ← hz]; rfl
          clear hz hH HQ2
          go_wp2_with fail
          go_ret
          exact ⟨rfl, HB0.out⟩

set_option maxHeartbeats 4000000 in
set_option maxRecDepth 100000 in
theorem refShaped_6 (R : Rec) (x : ByteArray) (k l t : Nat) (A1 : Option Addr) (n1 c1 : Nat) (A2 : Option Addr) (n2 c2 : Nat) (A3 : Option Addr) (n3 c3 : Nat) (q : Bool) (w : World) (hR : Hid (RecAt w w.heap.size R x k l t A1 n1 A2 n2 A3 n3)) (hS : Hid (Small R)) (hk : k = 6) (hq : Hid (shapedB R = q)) :
    Calls Try.prog 67 #[.agg #[.string x, .int .u16 k, .int .u16 l, .int .u32 t, .slice A1 n1 c1, .slice A2 n2 c2, .slice A3 n3 c3]] w fun e w' => e = .returned (.bool q) ∧ Below w.heap.size w w' := by
  subst hk
  obtain ⟨a, ha⟩ : ∃ a, shA 6 = a := ⟨_, rfl⟩
  obtain ⟨b, hb⟩ : ∃ b, shB 6 = b := ⟨_, rfl⟩
  obtain ⟨c, hc⟩ : ∃ c, shC 6 = c := ⟨_, rfl⟩
  have hm1 := hR.out.m1 hS.out
  have hm2 := hR.out.m2 hS.out
  have hm3 := hR.out.m3 hS.out
  have hcn := cntOk_is hR.out.kind hR.out.len1 hR.out.len2 hR.out.len3 ha hb hc
  have hsh : q = (cntOk R && !R.nums.any (badNum 6) && !R.texts.any (badText 6)) := by rw [← hq.out]; unfold shapedB; rw [hR.out.kind]
  rw [hcn] at hsh
  have HSH := Lib.hid hsh
  have HA := Lib.hid ha
  have HB := Lib.hid hb
  have HC := Lib.hid hc
  have HR2 := Lib.hid (hR.out.box (.cells #[.string x, .int .u16 6, .int .u16 l, .int .u32 t, .slice A1 n1 c1, .slice A2 n2 c2, .slice A3 n3 c3] 49))
  have HB0 : Hid (Below w.heap.size w (w.alloc (.cells #[.string x, .int .u16 6, .int .u16 l, .int .u32 t, .slice A1 n1 c1, .slice A2 n2 c2, .slice A3 n3 c3] 49))) := (Below.refl _ _).alloc (Nat.le_refl _) _
  have d1 : (w.alloc (.cells #[.string x, .int .u16 6, .int .u16 l, .int .u32 t, .slice A1 n1 c1, .slice A2 n2 c2, .slice A3 n3 c3] 49)).cell? ⟨w.heap.size, 1, none⟩ = some (.int .u16 6) := by simp
  have d4 : (w.alloc (.cells #[.string x, .int .u16 6, .int .u16 l, .int .u32 t, .slice A1 n1 c1, .slice A2 n2 c2, .slice A3 n3 c3] 49)).cell? ⟨w.heap.size, 4, none⟩ = some (.slice A1 n1 c1) := by simp
  have d5 : (w.alloc (.cells #[.string x, .int .u16 6, .int .u16 l, .int .u32 t, .slice A1 n1 c1, .slice A2 n2 c2, .slice A3 n3 c3] 49)).cell? ⟨w.heap.size, 5, none⟩ = some (.slice A2 n2 c2) := by simp
  have d6 : (w.alloc (.cells #[.string x, .int .u16 6, .int .u16 l, .int .u32 t, .slice A1 n1 c1, .slice A2 n2 c2, .slice A3 n3 c3] 49)).cell? ⟨w.heap.size, 6, none⟩ = some (.slice A3 n3 c3) := by simp
  clear hcn hsh ha hb hc hq hR
  by_cases e1 : n1 = a
  rotate_left
  · have f : ((n1 : Int) != (a : Int)) = true := int_nne e1
    obtain rfl : q = false := by rw [HSH.out, decide_eq_false (by rintro ⟨r1, r2, r3⟩; exact e1 r1), Bool.false_and, Bool.false_and]
    clear e1 HSH
    go_enter Try.func67, Try.ntmps67
    go_wp2_with fail
    refine (refShape_is 6 a b c _ HA HB HC).mono ?_
    rintro e w' ⟨rfl, rfl⟩
    generalize w.alloc (.cells #[.string x, .int .u16 6, .int .u16 l, .int .u32 t, .slice A1 n1 c1, .slice A2 n2 c2, .slice A3 n3 c3] 49) = wb at *
    go_wp2_with fail
    go_ret
    exact ⟨rfl, HB0.out⟩
  have f1 : ((n1 : Int) != (a : Int)) = false := int_neq e1
  by_cases e2 : n2 = b
  rotate_left
  · have f : ((n2 : Int) != (b : Int)) = true := int_nne e2
    obtain rfl : q = false := by rw [HSH.out, decide_eq_false (by rintro ⟨r1, r2, r3⟩; exact e2 r2), Bool.false_and, Bool.false_and]
    clear e1 e2 HSH
    go_enter Try.func67, Try.ntmps67
    go_wp2_with fail
    refine (refShape_is 6 a b c _ HA HB HC).mono ?_
    rintro e w' ⟨rfl, rfl⟩
    generalize w.alloc (.cells #[.string x, .int .u16 6, .int .u16 l, .int .u32 t, .slice A1 n1 c1, .slice A2 n2 c2, .slice A3 n3 c3] 49) = wb at *
    go_wp2_with fail
    go_ret
    exact ⟨rfl, HB0.out⟩
  have f2 : ((n2 : Int) != (b : Int)) = false := int_neq e2
  by_cases e3 : n3 = c
  rotate_left
  · have f : ((n3 : Int) != (c : Int)) = true := int_nne e3
    obtain rfl : q = false := by rw [HSH.out, decide_eq_false (by rintro ⟨r1, r2, r3⟩; omega), Bool.false_and, Bool.false_and]
    clear e3 HSH e1 e2
    go_enter Try.func67, Try.ntmps67
    go_wp2_with fail
    refine (refShape_is 6 a b c _ HA HB HC).mono ?_
    rintro e w' ⟨rfl, rfl⟩
    generalize w.alloc (.cells #[.string x, .int .u16 6, .int .u16 l, .int .u32 t, .slice A1 n1 c1, .slice A2 n2 c2, .slice A3 n3 c3] 49) = wb at *
    go_wp2_with fail
    go_ret
    exact ⟨rfl, HB0.out⟩
  have f3 : ((n3 : Int) != (c : Int)) = false := int_neq e3
  have hcnt : decide (n1 = a ∧ n2 = b ∧ ((6 = 16 ∧ 0 < n3) ∨ (6 ≠ 16 ∧ n3 = c))) = true := decide_eq_true ⟨e1, e2, Or.inr ⟨by decide, e3⟩⟩
  obtain ⟨z1, hz1⟩ : ∃ z, R.nums.any (badNum 6) = z := ⟨_, rfl⟩
  obtain ⟨z2, hz2⟩ : ∃ z, R.texts.any (badText 6) = z := ⟨_, rfl⟩
  have hsh := HSH.out
  rw [hcnt, hz1, hz2, Bool.true_and] at hsh
  have HQ := Lib.hid hsh
  have HZ1 := Lib.hid hz1
  have HZ2 := Lib.hid hz2
  have HL2 := Lib.hid HR2.out.len2
  have HL3 := Lib.hid HR2.out.len3
  have HRD2 := Lib.hid HR2.out.rd2
  have HRD3 := Lib.hid HR2.out.rd3
  clear hsh hz1 hz2 hcnt HSH e1 e2 e3 HR2
  go_enter Try.func67, Try.ntmps67
  go_wp2_with fail
  refine (refShape_is 6 a b c _ HA HB HC).mono ?_
  rintro e w' ⟨rfl, rfl⟩
  generalize w.alloc (.cells #[.string x, .int .u16 6, .int .u16 l, .int .u32 t, .slice A1 n1 c1, .slice A2 n2 c2, .slice A3 n3 c3] 49) = wb at *
  go_wp2_with fail
  go_loop [6] (fun i => ∃ j : Nat, j ≤ n2 ∧ i = .int .i64 j ∧ Hid ((R.nums.drop j).any (badNum 6) = z1)) (fun i => n2 - (intOf i).toNat)
  case atStart => exact ⟨0, Nat.zero_le _, rfl, HZ1⟩
  case round =>
    obtain ⟨j, hj, rfl, hH⟩ := hrel
    by_cases hlt : j < n2
    · have hkl : j < R.nums.length := by rw [HL2.out]; exact hlt
      obtain ⟨ad, rfl, hab, hcell⟩ := HRD2.out.get hkl
      have hd := hH.out
      rw [num_drop hkl, List.any_cons, badNum_6, Bool.false_or] at hd
      generalize R.nums.getD j 0 = y at *
      have HD := Lib.hid hd
      clear hd hH hkl
      go_wp2_with fail
      go_round
      case rel => exact ⟨j + 1, by omega, by go_num, HD⟩
      case measure => simp [intOf]; omega
    · have hz := hH.out
      rw [List.drop_of_length_le (by rw [HL2.out]; omega)] at hz
      have hqz : q = !z2 := by rw [HQ.out, ← hz]; rfl
      have HQ2 := Lib.hid hqz
      clear hz hH hqz HQ
      go_wp2_with fail
      go_loop [7] (fun i => ∃ j : Nat, j ≤ n3 ∧ i = .int .i64 j ∧ Hid ((R.texts.drop j).any (badText 6) = z2)) (fun i => n3 - (intOf i).toNat)
      case atStart => exact ⟨0, Nat.zero_le _, rfl, HZ2⟩
      case round =>
        obtain ⟨m, hm, rfl, hH⟩ := hrel
        by_cases hlt2 : m < n3
        · have hkl : m < R.texts.length := by rw [HL3.out]; exact hlt2
          obtain ⟨ad, rfl, hab, hcell⟩ := HRD3.out.get hkl
          have hd := hH.out
          rw [lab_drop hkl, List.any_cons, badText_not (by decide) (by decide) (by decide), Bool.false_or] at hd
          have hsz := mk_size (R.texts.getD m [])
          generalize mk (R.texts.getD m []) = y at *
          have HD := Lib.hid hd
          clear hd hH hkl hsz
          go_wp2_with fail
          go_round
          case rel => exact ⟨m + 1, by omega, by go_num, HD⟩
          case measure => simp [intOf]; omega
        · have hz := hH.out
          rw [List.drop_of_length_le (by rw [HL3.out]; omega)] at hz
          obtain rfl : q = true := by rw [HQ2.out, ← hz]; rfl
          clear hz hH HQ2
          go_wp2_with fail
          go_ret
          exact ⟨rfl, HB0.out⟩

set_option maxHeartbeats 4000000 in
set_option maxRecDepth 100000 in
theorem refShaped_other (R : Rec) (x : ByteArray) (k l t : Nat) (A1 : Option Addr) (n1 c1 : Nat) (A2 : Option Addr) (n2 c2 : Nat) (A3 : Option Addr) (n3 c3 : Nat) (q : Bool) (w : World) (hR : Hid (RecAt w w.heap.size R x k l t A1 n1 A2 n2 A3 n3)) (hS : Hid (Small R)) (h16 : k ≠ 16) (h1 : k ≠ 1) (h28 : k ≠ 28) (h6 : k ≠ 6) (hq : Hid (shapedB R = q)) :
    Calls Try.prog 67 #[.agg #[.string x, .int .u16 k, .int .u16 l, .int .u32 t, .slice A1 n1 c1, .slice A2 n2 c2, .slice A3 n3 c3]] w fun e w' => e = .returned (.bool q) ∧ Below w.heap.size w w' := by
  have g16 : ((k : Int) == 16) = false := int_ne h16
  have g16n : ((k : Int) != 16) = true := int_nne h16
  have g1 : ((k : Int) == 1) = false := int_ne h1
  have g28 : ((k : Int) == 28) = false := int_ne h28
  have g6 : ((k : Int) != 6) = true := int_nne h6
  obtain ⟨a, ha⟩ : ∃ a, shA k = a := ⟨_, rfl⟩
  obtain ⟨b, hb⟩ : ∃ b, shB k = b := ⟨_, rfl⟩
  obtain ⟨c, hc⟩ : ∃ c, shC k = c := ⟨_, rfl⟩
  have hm1 := hR.out.m1 hS.out
  have hm2 := hR.out.m2 hS.out
  have hm3 := hR.out.m3 hS.out
  have hcn := cntOk_is hR.out.kind hR.out.len1 hR.out.len2 hR.out.len3 ha hb hc
  have hsh : q = (cntOk R && !R.nums.any (badNum k) && !R.texts.any (badText k)) := by rw [← hq.out]; unfold shapedB; rw [hR.out.kind]
  rw [hcn] at hsh
  have HSH := Lib.hid hsh
  have HA := Lib.hid ha
  have HB := Lib.hid hb
  have HC := Lib.hid hc
  have HR2 := Lib.hid (hR.out.box (.cells #[.string x, .int .u16 k, .int .u16 l, .int .u32 t, .slice A1 n1 c1, .slice A2 n2 c2, .slice A3 n3 c3] 49))
  have HB0 : Hid (Below w.heap.size w (w.alloc (.cells #[.string x, .int .u16 k, .int .u16 l, .int .u32 t, .slice A1 n1 c1, .slice A2 n2 c2, .slice A3 n3 c3] 49))) := (Below.refl _ _).alloc (Nat.le_refl _) _
  have d1 : (w.alloc (.cells #[.string x, .int .u16 k, .int .u16 l, .int .u32 t, .slice A1 n1 c1, .slice A2 n2 c2, .slice A3 n3 c3] 49)).cell? ⟨w.heap.size, 1, none⟩ = some (.int .u16 k) := by simp
  have d4 : (w.alloc (.cells #[.string x, .int .u16 k, .int .u16 l, .int .u32 t, .slice A1 n1 c1, .slice A2 n2 c2, .slice A3 n3 c3] 49)).cell? ⟨w.heap.size, 4, none⟩ = some (.slice A1 n1 c1) := by simp
  have d5 : (w.alloc (.cells #[.string x, .int .u16 k, .int .u16 l, .int .u32 t, .slice A1 n1 c1, .slice A2 n2 c2, .slice A3 n3 c3] 49)).cell? ⟨w.heap.size, 5, none⟩ = some (.slice A2 n2 c2) := by simp
  have d6 : (w.alloc (.cells #[.string x, .int .u16 k, .int .u16 l, .int .u32 t, .slice A1 n1 c1, .slice A2 n2 c2, .slice A3 n3 c3] 49)).cell? ⟨w.heap.size, 6, none⟩ = some (.slice A3 n3 c3) := by simp
  clear hcn hsh ha hb hc hq hR
  by_cases e1 : n1 = a
  rotate_left
  · have f : ((n1 : Int) != (a : Int)) = true := int_nne e1
    obtain rfl : q = false := by rw [HSH.out, decide_eq_false (by rintro ⟨r1, r2, r3⟩; exact e1 r1), Bool.false_and, Bool.false_and]
    clear e1 HSH
    go_enter Try.func67, Try.ntmps67
    go_wp2_with fail
    refine (refShape_is k a b c _ HA HB HC).mono ?_
    rintro e w' ⟨rfl, rfl⟩
    generalize w.alloc (.cells #[.string x, .int .u16 k, .int .u16 l, .int .u32 t, .slice A1 n1 c1, .slice A2 n2 c2, .slice A3 n3 c3] 49) = wb at *
    go_wp2_with fail
    go_ret
    exact ⟨rfl, HB0.out⟩
  have f1 : ((n1 : Int) != (a : Int)) = false := int_neq e1
  by_cases e2 : n2 = b
  rotate_left
  · have f : ((n2 : Int) != (b : Int)) = true := int_nne e2
    obtain rfl : q = false := by rw [HSH.out, decide_eq_false (by rintro ⟨r1, r2, r3⟩; exact e2 r2), Bool.false_and, Bool.false_and]
    clear e1 e2 HSH
    go_enter Try.func67, Try.ntmps67
    go_wp2_with fail
    refine (refShape_is k a b c _ HA HB HC).mono ?_
    rintro e w' ⟨rfl, rfl⟩
    generalize w.alloc (.cells #[.string x, .int .u16 k, .int .u16 l, .int .u32 t, .slice A1 n1 c1, .slice A2 n2 c2, .slice A3 n3 c3] 49) = wb at *
    go_wp2_with fail
    go_ret
    exact ⟨rfl, HB0.out⟩
  have f2 : ((n2 : Int) != (b : Int)) = false := int_neq e2
  by_cases e3 : n3 = c
  rotate_left
  · have f : ((n3 : Int) != (c : Int)) = true := int_nne e3
    obtain rfl : q = false := by rw [HSH.out, decide_eq_false (by rintro ⟨r1, r2, r3⟩; omega), Bool.false_and, Bool.false_and]
    clear e3 HSH e1 e2
    go_enter Try.func67, Try.ntmps67
    go_wp2_with fail
    refine (refShape_is k a b c _ HA HB HC).mono ?_
    rintro e w' ⟨rfl, rfl⟩
    generalize w.alloc (.cells #[.string x, .int .u16 k, .int .u16 l, .int .u32 t, .slice A1 n1 c1, .slice A2 n2 c2, .slice A3 n3 c3] 49) = wb at *
    go_wp2_with fail
    go_ret
    exact ⟨rfl, HB0.out⟩
  have f3 : ((n3 : Int) != (c : Int)) = false := int_neq e3
  have hcnt : decide (n1 = a ∧ n2 = b ∧ ((k = 16 ∧ 0 < n3) ∨ (k ≠ 16 ∧ n3 = c))) = true := decide_eq_true ⟨e1, e2, Or.inr ⟨h16, e3⟩⟩
  obtain ⟨z1, hz1⟩ : ∃ z, R.nums.any (badNum k) = z := ⟨_, rfl⟩
  obtain ⟨z2, hz2⟩ : ∃ z, R.texts.any (badText k) = z := ⟨_, rfl⟩
  have hsh := HSH.out
  rw [hcnt, hz1, hz2, Bool.true_and] at hsh
  have HQ := Lib.hid hsh
  have HZ1 := Lib.hid hz1
  have HZ2 := Lib.hid hz2
  have HL2 := Lib.hid HR2.out.len2
  have HL3 := Lib.hid HR2.out.len3
  have HRD2 := Lib.hid HR2.out.rd2
  have HRD3 := Lib.hid HR2.out.rd3
  clear hsh hz1 hz2 hcnt HSH e1 e2 e3 HR2
  go_enter Try.func67, Try.ntmps67
  go_wp2_with fail
  refine (refShape_is k a b c _ HA HB HC).mono ?_
  rintro e w' ⟨rfl, rfl⟩
  generalize w.alloc (.cells #[.string x, .int .u16 k, .int .u16 l, .int .u32 t, .slice A1 n1 c1, .slice A2 n2 c2, .slice A3 n3 c3] 49) = wb at *
  go_wp2_with fail
  go_loop [6] (fun i => ∃ j : Nat, j ≤ n2 ∧ i = .int .i64 j ∧ Hid ((R.nums.drop j).any (badNum k) = z1)) (fun i => n2 - (intOf i).toNat)
  case atStart => exact ⟨0, Nat.zero_le _, rfl, HZ1⟩
  case round =>
    obtain ⟨j, hj, rfl, hH⟩ := hrel
    by_cases hlt : j < n2
    · have hkl : j < R.nums.length := by rw [HL2.out]; exact hlt
      obtain ⟨ad, rfl, hab, hcell⟩ := HRD2.out.get hkl
      have hd := hH.out
      rw [num_drop hkl, List.any_cons, badNum_not h6] at hd
      generalize R.nums.getD j 0 = y at *
      by_cases hy : (65535 : Int) < y
      · rw [decide_eq_true (by omega), Bool.true_or] at hd
        subst hd
        obtain rfl : q = false := HQ.out
        clear hH hkl HQ
        go_wp2_with fail
        go_ret
        exact ⟨rfl, HB0.out⟩
      · rw [decide_eq_false (by omega), Bool.false_or] at hd
        have HD := Lib.hid hd
        clear hd hH hkl
        go_wp2_with fail
        go_round
        case rel => exact ⟨j + 1, by omega, by go_num, HD⟩
        case measure => simp [intOf]; omega
    · have hz := hH.out
      rw [List.drop_of_length_le (by rw [HL2.out]; omega)] at hz
      have hqz : q = !z2 := by rw [HQ.out, ← hz]; rfl
      have HQ2 := Lib.hid hqz
      clear hz hH hqz HQ
      go_wp2_with fail
      go_loop [7] (fun i => ∃ j : Nat, j ≤ n3 ∧ i = .int .i64 j ∧ Hid ((R.texts.drop j).any (badText k) = z2)) (fun i => n3 - (intOf i).toNat)
      case atStart => exact ⟨0, Nat.zero_le _, rfl, HZ2⟩
      case round =>
        obtain ⟨m, hm, rfl, hH⟩ := hrel
        by_cases hlt2 : m < n3
        · have hkl : m < R.texts.length := by rw [HL3.out]; exact hlt2
          obtain ⟨ad, rfl, hab, hcell⟩ := HRD3.out.get hkl
          have hd := hH.out
          rw [lab_drop hkl, List.any_cons, badText_not h16 h1 h28, Bool.false_or] at hd
          have hsz := mk_size (R.texts.getD m [])
          generalize mk (R.texts.getD m []) = y at *
          have HD := Lib.hid hd
          clear hd hH hkl hsz
          go_wp2_with fail
          go_round
          case rel => exact ⟨m + 1, by omega, by go_num, HD⟩
          case measure => simp [intOf]; omega
        · have hz := hH.out
          rw [List.drop_of_length_le (by rw [HL3.out]; omega)] at hz
          obtain rfl : q = true := by rw [HQ2.out, ← hz]; rfl
          clear hz hH HQ2
          go_wp2_with fail
          go_ret
          exact ⟨rfl, HB0.out⟩

theorem refShaped_is (R : Rec) (x : ByteArray) (k l t : Nat) (A1 : Option Addr) (n1 c1 : Nat) (A2 : Option Addr) (n2 c2 : Nat) (A3 : Option Addr) (n3 c3 : Nat) (q : Bool) (w : World) (hR : Hid (RecAt w w.heap.size R x k l t A1 n1 A2 n2 A3 n3)) (hS : Hid (Small R)) (hq : Hid (shapedB R = q)) :
    Calls Try.prog 67 #[.agg #[.string x, .int .u16 k, .int .u16 l, .int .u32 t, .slice A1 n1 c1, .slice A2 n2 c2, .slice A3 n3 c3]] w fun e w' => e = .returned (.bool q) ∧ Below w.heap.size w w' := by
  by_cases h16 : k = 16
  · exact refShaped_16 R x k l t A1 n1 c1 A2 n2 c2 A3 n3 c3 q w hR hS h16 hq
  by_cases h1 : k = 1
  · exact refShaped_1 R x k l t A1 n1 c1 A2 n2 c2 A3 n3 c3 q w hR hS h1 hq
  by_cases h28 : k = 28
  · exact refShaped_28 R x k l t A1 n1 c1 A2 n2 c2 A3 n3 c3 q w hR hS h28 hq
  by_cases h6 : k = 6
  · exact refShaped_6 R x k l t A1 n1 c1 A2 n2 c2 A3 n3 c3 q w hR hS h6 hq
  · exact refShaped_other R x k l t A1 n1 c1 A2 n2 c2 A3 n3 c3 q w hR hS h16 h1 h28 h6 hq
end Go.Proofs.Ytihkmdojakalbaa

/- The contract of the document's Put: a text with a number's lowest bytes behind it, big-endian. For texts of at most 10^6 bytes, sizes up to 8. -/
namespace Go.Proofs.Ytihkmdojakalbaa
open Go.RowKit Bytes

theorem ofNat_mod (x : Nat) : ((UInt8.ofNat x).toNat : Int) = (x : Int) % 256 := by
  rw [UInt8.toNat_ofNat']
  have e : (2 : Nat) ^ 8 = 256 := rfl
  omega
set_option maxHeartbeats 2000000 in
theorem refPut_is (s r : ByteArray) (n k : Nat) (w : World) (hs : s.size ≤ 1000000) (hk : k ≤ 8) (hn : n ≤ 18446744073709551615) (hr : Hid (s.data.toList ++ beTail n k = r.data.toList)) :
    Calls Try.prog 35 #[.string s, .int .u64 n, .int .i64 k] w fun e w' => e = .returned (.string r) ∧ Below w.heap.size w w' := by
  generalize hg : w.heap.size = g at *
  have G := Lib.hid hg; clear hg
  go_enter Try.func35, Try.ntmps35
  go_wp2_with fail
  go_loopw [7, 8, 1] (fun v i u wr => ∃ (j x : Nat) (t : ByteArray), j ≤ k ∧ i = .int .i64 j ∧ u = .int .u64 x ∧ v = .string t ∧ t.size ≤ 8 ∧ x ≤ n ∧ Hid (t = mk (beTail n j)) ∧ Hid (x = n / 256 ^ j) ∧ Below g w wr) (fun _ i _ _ => k - (intOf i).toNat)
  case atStart => exact ⟨0, n, _, Nat.zero_le _, rfl, rfl, rfl, by decide, Nat.le_refl _, Lib.hid rfl, Lib.hid (by simp), Below.refl _ _⟩
  case round =>
    obtain ⟨j, x, t, hj, rfl, rfl, rfl, ht, hxn, hT, hX, hB⟩ := hrel
    by_cases hlt : j < k
    · have h8 : (j : Int) < 8 := by omega
      have hc2 : (convert 71 9 (.slice (some ⟨wr.heap.size, 0, none⟩) 1 1)).run Try.prog (wr.alloc (.cells #[.int .u8 ((x : Int) % 256)] 5)) = .ok (.string (mk [UInt8.ofNat x])) (wr.alloc (.cells #[.int .u8 ((x : Int) % 256)] 5)) := conv_new wr [UInt8.ofNat x] _ 1 (by rw [← ofNat_mod]; rfl) rfl
      have hq := mk_size [UInt8.ofNat x]
      have hcat : mk [UInt8.ofNat x] ++ t = mk (beTail n (j + 1)) := by rw [hT.out, mk_cat, hX.out]; rfl
      have hX2 : Hid (x / 256 = n / 256 ^ (j + 1)) := by show _ = _; rw [Nat.pow_succ, ← Nat.div_div_eq_div_mul, ← hX.out]
      have hz : (mk [UInt8.ofNat x] ++ t).size ≤ 8 := by rw [hcat, mk_size, beTail_length]; omega
      generalize mk [UInt8.ofNat x] = q at *
      have hq1 : q.size ≤ 1 := Nat.le_of_eq hq
      have HC := Lib.hid hcat
      clear hq hcat hT hX
      go_wp2_with fail
      go_roundw
      case rel => exact ⟨j + 1, x / 256, _, by omega, by go_num, by go_num, rfl, hz, by omega, HC, hX2, hB.alloc (by have := hB.size; have := G.out; omega) _⟩
      case measure => simp [intOf]; omega
    · obtain rfl : j = k := by omega
      have hr2 : r = s ++ t := list_inj (by rw [← hr.out, cat_list, hT.out, mk_list])
      have HR := Lib.hid hr2
      clear hr2 hT hX hr
      go_wp2_with fail
      go_ret
      exact ⟨by rw [HR.out]; rfl, hB⟩
end Go.Proofs.Ytihkmdojakalbaa
