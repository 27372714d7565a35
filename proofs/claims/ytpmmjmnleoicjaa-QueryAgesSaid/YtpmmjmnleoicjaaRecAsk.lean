/- The contracts of the functions that rdata asks names, numbers and texts by, and of slices.IndexFunc and slices.ContainsFunc over them. -/
import Derived.Test.YtpmmjmnleoicjaaProg
import Derived.Test.YtpmmjmnleoicjaaRecMath
import Derived.Test.YtpmmjmnleoicjaaNameIs
import Derived.Test.YtpmmjmnleoicjaaNums
import Derived.Test.YtpmmjmnleoicjaaRecShape
import Derived.WalkKit
import Derived.Lib.Hide
import Derived.Outline
import Derived.IntWalk
import Derived.WalkSpells
namespace Go.Proofs.Ytpmmjmnleoicjaa
open Go.RowKit Bytes Strs Nums NameMath RecMath

theorem check1_is (s : ByteArray) (q : Bool) (w : World) (hs : s.size ≤ 1000000) (hq : Hid (badName s.data.toList = q)) :
    Calls Try.prog 89 #[.string s] w fun e w' => e = .returned (.bool q) ∧ w = w' := by
  obtain ⟨b, hb⟩ : ∃ b, isN s.data.toList = b := ⟨_, rfl⟩
  have hq' := hq.out
  unfold badName at hq'
  rw [hb] at hq'
  subst hq'
  have HB := Lib.hid hb
  clear hb hq
  go_enter Try.func89, Try.ntmps89
  go_wp2_with fail
  refine (is_is s b _ hs HB).mono ?_
  rintro e w' ⟨rfl, rfl⟩
  go_wp2_with fail
  go_ret
  exact ⟨rfl, rfl⟩

/-- Where the first one is; below 0: nowhere. -/
def Idx (q : Bool) (w : World) (e : Ending) (w' : World) : Prop := ∃ i : Int, e = .returned (.int .i64 i) ∧ decide (0 ≤ i) = q ∧ w = w'

set_option maxHeartbeats 2000000 in
theorem idxNames_is (A : Option Addr) (c n : Nat) (L : List (List UInt8)) (q : Bool) (w : World) (hr : RdS w w.heap.size A L) (hn0 : Hid (L.length = n)) (hn : n ≤ 1000000) (hs : Hid (∀ k, k < n → (L.getD k []).length ≤ 1000000)) (hq : Hid (L.any badName = q)) :
    Calls Try.prog 114 #[.slice A n c, .func (.func 89) #[] #[]] w (Idx q w) := by
  have HR := Lib.hid hr; clear hr
  go_enter Try.func114, Try.ntmps114
  go_wp2_with fail
  go_loop [8, 5] (fun v u => ∃ k : Nat, k ≤ n ∧ v = .int .i64 k ∧ Hid (L.any badName = (L.drop k).any badName)) (fun v _ => n - (intOf v).toNat)
  case atStart => exact ⟨0, Nat.zero_le _, rfl, Lib.hid rfl⟩
  case round =>
    obtain ⟨k, hk, rfl, hH⟩ := hrel
    by_cases hlt : k < n
    · have hkl : k < L.length := by rw [hn0.out]; exact hlt
      obtain ⟨a, rfl, hab, hcell⟩ := HR.out.get hkl
      have hx : (mk (L.getD k [])).size ≤ 1000000 := by rw [mk_size]; exact hs.out k hlt
      obtain ⟨b, hb⟩ : ∃ b, badName (mk (L.getD k [])).data.toList = b := ⟨_, rfl⟩
      have hb2 := hb
      rw [mk_list] at hb2
      have HB := Lib.hid hb
      have hd : (L.drop k).any badName = (b || (L.drop (k + 1)).any badName) := by rw [lab_drop hkl, List.any_cons, hb2]
      have HD := Lib.hid (hH.out.trans hd)
      clear hd hb hb2 hH hkl
      generalize mk (L.getD k []) = x at *
      go_wp2_with fail
      refine (check1_is x b _ hx HB).mono ?_
      rintro e w' ⟨rfl, rfl⟩
      cases b with
      | true =>
        have hqt := hq.out.symm.trans HD.out
        rw [Bool.true_or] at hqt
        have HQ := Lib.hid hqt
        clear hqt
        go_wp2_with fail
        go_ret
        exact ⟨(k : Int), rfl, by rw [HQ.out]; exact decide_eq_true (by omega), rfl⟩
      | false =>
        rw [Bool.false_or] at HD
        go_wp2_with fail
        go_round
        case rel => exact ⟨k + 1, by omega, by go_num, HD⟩
        case measure => simp [intOf]; omega
    · have hqt := hq.out.symm.trans hH.out
      rw [List.drop_of_length_le (by rw [hn0.out]; omega)] at hqt
      have HQ := Lib.hid hqt
      clear hqt hH
      go_wp2_with fail
      go_ret
      exact ⟨-1, rfl, by rw [HQ.out]; rfl, rfl⟩

theorem hasNames_is (A : Option Addr) (c n : Nat) (L : List (List UInt8)) (q : Bool) (w : World) (hr : RdS w w.heap.size A L) (hn0 : Hid (L.length = n)) (hn : n ≤ 1000000) (hs : Hid (∀ k, k < n → (L.getD k []).length ≤ 1000000)) (hq : Hid (L.any badName = q)) :
    Calls Try.prog 90 #[.slice A n c, .func (.func 89) #[] #[]] w fun e w' => e = .returned (.bool q) ∧ w = w' := by
  have HR := Lib.hid hr; clear hr
  go_enter Try.func90, Try.ntmps90
  go_wp2_with fail
  refine (idxNames_is A c n L q _ HR.out hn0 hn hs hq).mono ?_
  rintro e w' ⟨i, rfl, hi, rfl⟩
  go_wp2_with fail
  go_ret
  exact ⟨by rw [← hi]; rfl, rfl⟩

/-! Numbers. -/
def MadeNum (k : Nat) (w : World) (e : Ending) (w' : World) : Prop :=
  ∃ b, e = .returned (.func (.func 131) #[] #[.pointer (some ⟨b, 0, none⟩)]) ∧ w'.cell? ⟨b, 0, none⟩ = some (.int .u16 k) ∧ w.heap.size ≤ b ∧ Below w.heap.size w w'
theorem wrongNum_any (k : Nat) (w : World) : Calls Try.prog 116 #[.int .u16 k] w (MadeNum k w) := by
  have hmf : ∀ (fn : Fn) (first cap : Array Value) (w : World), (Instr.makeFunc fn first cap).run Try.prog w = .ok (.func fn first cap) w := fun _ _ _ _ => rfl
  go_enter Try.func116, Try.ntmps116
  go_wp2_with fail
  go_ret
  exact ⟨_, rfl, by simp, Nat.le_refl _, (Below.refl _ _).alloc (Nat.le_refl _) _⟩
theorem wrongNum1_is (k n b : Nat) (q : Bool) (w : World) (hc : w.cell? ⟨b, 0, none⟩ = some (.int .u16 k)) (hq : Hid (badNum k n = q)) :
    Calls Try.prog 131 #[.int .u32 n, .pointer (some ⟨b, 0, none⟩)] w fun e w' => e = .returned (.bool q) ∧ w = w' := by
  have hq' := hq.out
  unfold badNum at hq'
  clear hq
  by_cases h1 : (65535 : Int) < n
  · by_cases h2 : k = 6
    · obtain rfl : false = q := by rw [← hq']; exact (decide_eq_false (fun h => h.2 h2)).symm
      have g : ((k : Int) != 6) = false := int_neq h2
      clear h2 hq'
      go_enter Try.func131, Try.ntmps131
      go_wp2_with fail
      go_ret
      exact ⟨rfl, rfl⟩
    · obtain rfl : true = q := by rw [← hq']; exact (decide_eq_true ⟨by omega, h2⟩).symm
      have g : ((k : Int) != 6) = true := int_nne h2
      clear h2 hq'
      go_enter Try.func131, Try.ntmps131
      go_wp2_with fail
      go_ret
      exact ⟨rfl, rfl⟩
  · obtain rfl : false = q := by rw [← hq']; exact (decide_eq_false (fun h => by omega)).symm
    clear hq'
    go_enter Try.func131, Try.ntmps131
    go_wp2_with fail
    go_ret
    exact ⟨rfl, rfl⟩

set_option maxHeartbeats 2000000 in
theorem idxNums_is (A : Option Addr) (c n k b : Nat) (L : List Nat) (q : Bool) (w : World) (hr : RdN w w.heap.size A L) (hn0 : Hid (L.length = n)) (hn : n ≤ 1000000) (hc : w.cell? ⟨b, 0, none⟩ = some (.int .u16 k)) (hq : Hid (L.any (badNum k) = q)) :
    Calls Try.prog 130 #[.slice A n c, .func (.func 131) #[] #[.pointer (some ⟨b, 0, none⟩)]] w (Idx q w) := by
  have HR := Lib.hid hr; clear hr
  have HC := Lib.hid hc; clear hc
  go_enter Try.func130, Try.ntmps130
  go_wp2_with fail
  go_loop [8, 5] (fun v u => ∃ j : Nat, j ≤ n ∧ v = .int .i64 j ∧ Hid (L.any (badNum k) = (L.drop j).any (badNum k))) (fun v _ => n - (intOf v).toNat)
  case atStart => exact ⟨0, Nat.zero_le _, rfl, Lib.hid rfl⟩
  case round =>
    obtain ⟨j, hj, rfl, hH⟩ := hrel
    by_cases hlt : j < n
    · have hkl : j < L.length := by rw [hn0.out]; exact hlt
      obtain ⟨a, rfl, hab, hcell⟩ := HR.out.get hkl
      obtain ⟨z, hz⟩ : ∃ z, badNum k (L.getD j 0) = z := ⟨_, rfl⟩
      have HB := Lib.hid hz
      have hd : (L.drop j).any (badNum k) = (z || (L.drop (j + 1)).any (badNum k)) := by rw [num_drop hkl, List.any_cons, hz]
      have HD := Lib.hid (hH.out.trans hd)
      clear hd hz hH hkl
      generalize L.getD j 0 = x at *
      go_wp2_with fail
      refine (wrongNum1_is k x b z _ HC.out HB).mono ?_
      rintro e w' ⟨rfl, rfl⟩
      cases z with
      | true =>
        have hqt := hq.out.symm.trans HD.out
        rw [Bool.true_or] at hqt
        have HQ := Lib.hid hqt
        clear hqt
        go_wp2_with fail
        go_ret
        exact ⟨(j : Int), rfl, by rw [HQ.out]; exact decide_eq_true (by omega), rfl⟩
      | false =>
        rw [Bool.false_or] at HD
        go_wp2_with fail
        go_round
        case rel => exact ⟨j + 1, by omega, by go_num, HD⟩
        case measure => simp [intOf]; omega
    · have hqt := hq.out.symm.trans hH.out
      rw [List.drop_of_length_le (by rw [hn0.out]; omega)] at hqt
      have HQ := Lib.hid hqt
      clear hqt hH
      go_wp2_with fail
      go_ret
      exact ⟨-1, rfl, by rw [HQ.out]; rfl, rfl⟩
theorem hasNums_is (A : Option Addr) (c n k b : Nat) (L : List Nat) (q : Bool) (w : World) (hr : RdN w w.heap.size A L) (hn0 : Hid (L.length = n)) (hn : n ≤ 1000000) (hc : w.cell? ⟨b, 0, none⟩ = some (.int .u16 k)) (hq : Hid (L.any (badNum k) = q)) :
    Calls Try.prog 115 #[.slice A n c, .func (.func 131) #[] #[.pointer (some ⟨b, 0, none⟩)]] w fun e w' => e = .returned (.bool q) ∧ w = w' := by
  have HR := Lib.hid hr; clear hr
  have HC := Lib.hid hc; clear hc
  go_enter Try.func115, Try.ntmps115
  go_wp2_with fail
  refine (idxNums_is A c n k b L q _ HR.out hn0 hn HC.out hq).mono ?_
  rintro e w' ⟨i, rfl, hi, rfl⟩
  go_wp2_with fail
  go_ret
  exact ⟨by rw [← hi]; rfl, rfl⟩

end Go.Proofs.Ytpmmjmnleoicjaa
