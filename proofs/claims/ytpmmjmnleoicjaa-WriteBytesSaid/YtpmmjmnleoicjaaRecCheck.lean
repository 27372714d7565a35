/- The contract of rdata's Check. For records of at most 10^5 texts of at most 10^5 bytes. -/
import Derived.Test.YtpmmjmnleoicjaaProg
import Derived.Test.YtpmmjmnleoicjaaRecAt
import Derived.Test.YtpmmjmnleoicjaaRecAsk
import Derived.Test.YtpmmjmnleoicjaaRecShaped
import Derived.WalkKit
import Derived.Lib.Hide
import Derived.Outline
import Derived.IntWalk
import Derived.WalkSpells
import Derived.WalkLawsBesides
namespace Go.Proofs.Ytpmmjmnleoicjaa
open Go.RowKit Bytes Strs Nums NameMath RecMath

set_option maxHeartbeats 4000000 in
set_option maxRecDepth 100000 in
theorem check_is (R : Rec) (x : ByteArray) (k l t : Nat) (A1 : Option Addr) (n1 c1 : Nat) (A2 : Option Addr) (n2 c2 : Nat) (A3 : Option Addr) (n3 c3 : Nat) (E : Nat) (w : World) (hR : Hid (RecAt w w.heap.size R x k l t A1 n1 A2 n2 A3 n3)) (hS : Hid (Small R)) (hE : Hid (checkE R = E)) :
    Calls Try.prog 51 #[.agg #[.string x, .int .u16 k, .int .u16 l, .int .u32 t, .slice A1 n1 c1, .slice A2 n2 c2, .slice A3 n3 c3]] w fun e w' => e = .returned (.int .i64 E) ∧ Below w.heap.size w w' := by
  have hm1 := hR.out.m1 hS.out
  have hx := hR.out.size hS.out
  have hx6 : x.size ≤ 1000000 := by omega
  have hm6 : n1 ≤ 1000000 := by omega
  have HR2 := Lib.hid (hR.out.box (.cells #[.string x, .int .u16 k, .int .u16 l, .int .u32 t, .slice A1 n1 c1, .slice A2 n2 c2, .slice A3 n3 c3] 60))
  have HRD1 := Lib.hid HR2.out.rd1
  have HL1 := Lib.hid HR2.out.len1
  have HS1 := Lib.hid (HR2.out.s1 hS.out).out
  have HB0 : Hid (Below w.heap.size w (w.alloc (.cells #[.string x, .int .u16 k, .int .u16 l, .int .u32 t, .slice A1 n1 c1, .slice A2 n2 c2, .slice A3 n3 c3] 60))) := (Below.refl _ _).alloc (Nat.le_refl _) _
  obtain ⟨z1, hz1⟩ : ∃ z, badName x.data.toList = z := ⟨_, rfl⟩
  obtain ⟨z2, hz2⟩ : ∃ z, R.names.any badName = z := ⟨_, rfl⟩
  have hn : namesB R = (!z1 && !z2) := by unfold namesB; rw [← hR.out.name, hz1, hz2]
  have HN := Lib.hid hn
  have HZ1 := Lib.hid hz1
  have HZ2 := Lib.hid hz2
  clear hn hz1 hz2
  cases z1 with
  | true =>
    obtain rfl : 40 = E := by rw [← hE.out, checkE_40 (by rw [HN.out]; rfl)]
    clear hE HN
    go_enter Try.func51, Try.ntmps51
    go_wp2_with fail
    refine (check1_is x true _ hx6 HZ1).mono ?_
    rintro e w' ⟨rfl, rfl⟩
    go_wp2_with fail
    go_ret
    exact ⟨rfl, HB0.out⟩
  | false =>
    cases z2 with
    | true =>
      obtain rfl : 40 = E := by rw [← hE.out, checkE_40 (by rw [HN.out]; rfl)]
      clear hE HN
      go_enter Try.func51, Try.ntmps51
      go_wp2_with fail
      refine (check1_is x false _ hx6 HZ1).mono ?_
      rintro e w' ⟨rfl, rfl⟩
      go_wp2_with fail
      refine (hasNames_is A1 c1 n1 R.names true _ HRD1.out HL1 hm6 HS1 HZ2).mono ?_
      rintro e w' ⟨rfl, rfl⟩
      go_wp2_with fail
      go_ret
      exact ⟨rfl, HB0.out⟩
    | false =>
      have hn : namesB R = true := HN.out
      have hlate : lateB R = decide (2147483647 < t ∧ k ≠ 41) := by unfold lateB; rw [hR.out.ttl, hR.out.kind]
      have HLT := Lib.hid hlate
      obtain ⟨q, hq⟩ : ∃ q, okB R = q := ⟨_, rfl⟩
      have HQ := Lib.hid hq
      have he : E = if q = false then 50 else if decide (2147483647 < t ∧ k ≠ 41) = true then 1 else 0 := by
        rw [← hE.out, ← hlate, ← hq]
        unfold checkE
        rw [if_neg (by rw [hn]; decide)]
      have HE := Lib.hid he
      clear hE HN hn hlate hq he
      go_enter Try.func51, Try.ntmps51
      go_wp2_with fail
      refine (check1_is x false _ hx6 HZ1).mono ?_
      rintro e w' ⟨rfl, rfl⟩
      go_wp2_with fail
      refine (hasNames_is A1 c1 n1 R.names false _ HRD1.out HL1 hm6 HS1 HZ2).mono ?_
      rintro e w' ⟨rfl, rfl⟩
      go_wp2_with fail
      have hgl : w.heap.size < (w.alloc (.cells #[.string x, .int .u16 k, .int .u16 l, .int .u32 t, .slice A1 n1 c1, .slice A2 n2 c2, .slice A3 n3 c3] 60)).heap.size := by simp
      have d1 : (w.alloc (.cells #[.string x, .int .u16 k, .int .u16 l, .int .u32 t, .slice A1 n1 c1, .slice A2 n2 c2, .slice A3 n3 c3] 60)).cell? ⟨w.heap.size, 1, none⟩ = some (.int .u16 k) := by simp
      have d3 : (w.alloc (.cells #[.string x, .int .u16 k, .int .u16 l, .int .u32 t, .slice A1 n1 c1, .slice A2 n2 c2, .slice A3 n3 c3] 60)).cell? ⟨w.heap.size, 3, none⟩ = some (.int .u32 t) := by simp
      refine (shaped_is R x k l t A1 n1 c1 A2 n2 c2 A3 n3 c3 q _ HR2 hS HQ).mono ?_
      rintro e w2 ⟨rfl, hB⟩
      have e1 : w2.cell? ⟨w.heap.size, 1, none⟩ = some (.int .u16 k) := (hB.cell (p := ⟨w.heap.size, 1, none⟩) hgl).trans d1
      have e3 : w2.cell? ⟨w.heap.size, 3, none⟩ = some (.int .u32 t) := (hB.cell (p := ⟨w.heap.size, 3, none⟩) hgl).trans d3
      have HB2 : Hid (Below w.heap.size w w2) := HB0.out.trans (hB.mono HB0.out.size)
      clear hB d1 d3 hgl
      cases q with
      | false =>
        obtain rfl : E = 50 := HE.out
        go_wp2_with fail
        go_ret
        exact ⟨rfl, HB2.out⟩
      | true =>
        by_cases h1 : (2147483647 : Int) < t
        · by_cases h41 : k = 41
          · obtain rfl : E = 0 := by rw [HE.out, if_neg (by decide), if_neg (by rw [decide_eq_false (fun h => h.2 h41)]; decide)]
            have g41 : ((k : Int) != 41) = false := int_neq h41
            clear h41 HE
            go_wp2_with fail
            go_ret
            exact ⟨rfl, HB2.out⟩
          · obtain rfl : E = 1 := by rw [HE.out, if_neg (by decide), if_pos (decide_eq_true ⟨by omega, h41⟩)]
            have g41 : ((k : Int) != 41) = true := int_nne h41
            clear h41 HE
            go_wp2_with fail
            go_ret
            exact ⟨rfl, HB2.out⟩
        · obtain rfl : E = 0 := by rw [HE.out, if_neg (by decide), if_neg (by rw [decide_eq_false (fun h => h1 (by omega))]; decide)]
          clear HE
          go_wp2_with fail
          go_ret
          exact ⟨rfl, HB2.out⟩
end Go.Proofs.Ytpmmjmnleoicjaa
