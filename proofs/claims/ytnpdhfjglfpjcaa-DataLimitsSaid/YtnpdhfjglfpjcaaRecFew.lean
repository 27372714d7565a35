/- The contracts of the laws' own looks at lists of texts and at records: is one small enough to go through it? -/
import Derived.Test.YtnpdhfjglfpjcaaProg
import Derived.Test.YtnpdhfjglfpjcaaRecAt
import Derived.WalkKit
import Derived.Lib.Hide
import Derived.Outline
import Derived.IntWalk
import Derived.WalkSpells
import Derived.WalkLawsBesides
import Derived.Lib.MinMax
import Derived.Deep.QuietTactic
import Derived.BigQuiet
import Derived.Deep.Draws
namespace Go.Proofs.Ytnpdhfjglfpjcaa
open Go.RowKit Bytes Strs Nums NameMath RecMath

def FewTexts (L : List (List UInt8)) (w : World) (e : Ending) (w' : World) : Prop := ∃ b : Bool, e = .returned (.bool b) ∧ (b = true → L.length < 5000 ∧ ∀ j, j < L.length → (L.getD j []).length < 5000) ∧ w = w'
set_option maxHeartbeats 2000000 in
set_option maxRecDepth 100000 in
theorem fewTexts_any (A : Option Addr) (c n : Nat) (L : List (List UInt8)) (w : World) (hr : RdS w w.heap.size A L) (hn0 : Hid (L.length = n)) (hn : n ≤ maxLen) :
    Calls Try.prog 20 #[.slice A n c] w (FewTexts L w) := by
  have HR := Lib.hid hr; clear hr
  unfold maxLen at hn
  have hmin : ∃ m : Nat, min (n : Int) 5000 = (m : Int) ∧ m ≤ 5000 ∧ (n < 5000 ∨ 5000 ≤ m) := ⟨min n 5000, by omega, by omega, by omega⟩
  obtain ⟨m0, hm0, hm1, hm2⟩ := hmin
  have HM2 := Lib.hid hm2; clear hm2
  go_enter Try.func20, Try.ntmps20
  go_wp2_with fail
  clear hm0
  go_loop [3, 4] (fun v i => ∃ k m : Nat, k ≤ n ∧ i = .int .i64 k ∧ v = .int .i64 m ∧ m ≤ 10000 ∧ Hid ((n < 5000 ∨ 5000 ≤ m) ∧ ∀ j, j < k → (L.getD j []).length < 5000 ∨ 5000 ≤ m)) (fun _ i => n - (intOf i).toNat)
  case atStart => exact ⟨0, m0, Nat.zero_le _, rfl, rfl, by omega, Lib.hid ⟨HM2.out, fun j hj => absurd hj (Nat.not_lt_zero _)⟩⟩
  case round =>
    obtain ⟨k, m, hk, rfl, rfl, hm, hH⟩ := hrel
    by_cases hlt : k < n
    · by_cases hml : (m : Int) < 5000
      · have hkl : k < L.length := by rw [hn0.out]; exact hlt
        obtain ⟨a, rfl, hab, hcell⟩ := HR.out.get hkl
        have hsz := mk_size (L.getD k [])
        have hmin : ∃ y : Nat, min ((mk (L.getD k [])).size : Int) 5000 = (y : Int) ∧ y ≤ 5000 ∧ ((L.getD k []).length < 5000 ∨ 5000 ≤ y) := ⟨min (mk (L.getD k [])).size 5000, by omega, by omega, by omega⟩
        obtain ⟨y, hy, hy1, hy2⟩ := hmin
        have hH2 : Hid ((n < 5000 ∨ 5000 ≤ m + y) ∧ ∀ j, j < k + 1 → (L.getD j []).length < 5000 ∨ 5000 ≤ m + y) := by
          refine ⟨by have := hH.out.1; omega, fun j hj => ?_⟩
          rcases Nat.lt_or_ge j k with h | h
          · have := hH.out.2 j h; omega
          · obtain rfl : j = k := by omega
            omega
        generalize mk (L.getD k []) = x at *
        clear hkl hsz hy2 hH
        go_wp2_with fail
        go_round
        case rel => exact ⟨k + 1, m + y, by omega, by go_num, by go_num, by omega, hH2⟩
        case measure => simp [intOf]; omega
      · go_wp2_with fail
        go_ret
        exact ⟨false, rfl, fun h => (by cases h), rfl⟩
    · by_cases hml : (m : Int) < 5000
      · have hok : L.length < 5000 ∧ ∀ j, j < L.length → (L.getD j []).length < 5000 := by
          rw [hn0.out]
          refine ⟨by have := hH.out.1; omega, fun j hj => ?_⟩
          have := hH.out.2 j (by omega)
          omega
        have HOK := Lib.hid hok
        have hd : decide ((m : Int) < 5000) = true := decide_eq_true hml
        clear hok hH
        go_wp2_with fail
        go_ret
        exact ⟨true, rfl, fun _ => HOK.out, rfl⟩
      · have hd : decide ((m : Int) < 5000) = false := decide_eq_false hml
        go_wp2_with fail
        go_ret
        exact ⟨false, rfl, fun h => (by cases h), rfl⟩

/-- A record that came in: no list longer than a machine has room for. -/
def FewRec (R : Rec) (w : World) (e : Ending) (w' : World) : Prop := ∃ b : Bool, e = .returned (.bool b) ∧ (b = true → Small R ∧ R.name.length ≤ 5000) ∧ Below w.heap.size w w'
set_option maxHeartbeats 2000000 in
set_option maxRecDepth 100000 in
theorem few_any (R : Rec) (x : ByteArray) (k l t : Nat) (A1 : Option Addr) (n1 c1 : Nat) (A2 : Option Addr) (n2 c2 : Nat) (A3 : Option Addr) (n3 c3 : Nat) (w : World) (hR : Hid (RecAt w w.heap.size R x k l t A1 n1 A2 n2 A3 n3)) (hu : Hid (∀ k, k < R.nums.length → R.nums.getD k 0 ≤ 4294967295)) (hm1 : n1 ≤ maxLen) (hm2 : n2 ≤ maxLen) (hm3 : n3 ≤ maxLen) :
    Calls Try.prog 8 #[.agg #[.string x, .int .u16 k, .int .u16 l, .int .u32 t, .slice A1 n1 c1, .slice A2 n2 c2, .slice A3 n3 c3]] w (FewRec R w) := by
  have HR2 := Lib.hid (hR.out.box (.cells #[.string x, .int .u16 k, .int .u16 l, .int .u32 t, .slice A1 n1 c1, .slice A2 n2 c2, .slice A3 n3 c3] 27))
  have HB0 : Hid (Below w.heap.size w (w.alloc (.cells #[.string x, .int .u16 k, .int .u16 l, .int .u32 t, .slice A1 n1 c1, .slice A2 n2 c2, .slice A3 n3 c3] 27))) := (Below.refl _ _).alloc (Nat.le_refl _) _
  have hxl := Lib.hid (show x.size = R.name.length by rw [Lib.size_eq, hR.out.name])
  have HM1 := Lib.hid hm1
  have HM3 := Lib.hid hm3
  unfold maxLen at hm1 hm2 hm3
  go_enter Try.func8, Try.ntmps8
  go_wp2_with fail
  refine (fewTexts_any A1 c1 n1 R.names _ HR2.out.rd1 (Lib.hid HR2.out.len1) HM1.out).mono ?_
  rintro e w' ⟨b1, rfl, hb1, rfl⟩
  have HB1 := Lib.hid hb1
  clear hb1
  cases b1 with
  | false =>
    go_wp2_with fail
    go_ret
    exact ⟨false, rfl, fun h => (by cases h), HB0.out⟩
  | true =>
    go_wp2_with fail
    refine (fewTexts_any A3 c3 n3 R.texts _ HR2.out.rd3 (Lib.hid HR2.out.len3) HM3.out).mono ?_
    rintro e w' ⟨b3, rfl, hb3, rfl⟩
    have HB3 := Lib.hid hb3
    clear hb3
    cases b3 with
    | false =>
      go_wp2_with fail
      go_ret
      exact ⟨false, rfl, fun h => (by cases h), HB0.out⟩
    | true =>
      by_cases h2 : (n2 : Int) ≤ 5000
      · by_cases hx : (x.size : Int) ≤ 5000
        · have hok : Small R ∧ R.name.length ≤ 5000 := by
            have h1 := HB1.out (by trivial)
            have h3 := HB3.out (by trivial)
            have hl := hxl.out
            have hn2 := HR2.out.len2
            exact ⟨⟨by omega, by omega, fun k hk => by have := h1.2 k hk; omega, by omega, hu.out, by omega, fun k hk => by have := h3.2 k hk; omega⟩, by omega⟩
          have HOK := Lib.hid hok
          have hd : decide ((x.size : Int) ≤ 5000) = true := decide_eq_true hx
          clear hok
          go_wp2_with fail
          go_ret
          exact ⟨true, rfl, fun _ => HOK.out, HB0.out⟩
        · have hd : decide ((x.size : Int) ≤ 5000) = false := decide_eq_false hx
          go_wp2_with fail
          go_ret
          exact ⟨false, rfl, fun h => (by cases h), HB0.out⟩
      · have hd : decide ((n2 : Int) ≤ 5000) = false := decide_eq_false h2
        go_wp2_with fail
        go_ret
        exact ⟨false, rfl, fun h => (by cases h), HB0.out⟩
end Go.Proofs.Ytnpdhfjglfpjcaa
