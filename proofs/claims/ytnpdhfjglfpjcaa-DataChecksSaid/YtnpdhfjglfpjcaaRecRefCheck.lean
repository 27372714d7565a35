/- The contracts of the document's Check and Plain. For records of at most 10^5 texts of at most 10^5 bytes. -/
import Derived.Test.YtnpdhfjglfpjcaaProg
import Derived.Test.YtnpdhfjglfpjcaaRecAt
import Derived.Test.YtnpdhfjglfpjcaaRecRefShaped
import Derived.Test.YtnpdhfjglfpjcaaRecRefPlain
import Derived.Test.YtnpdhfjglfpjcaaNameRefLabels
import Derived.WalkKit
import Derived.Lib.Hide
import Derived.Outline
import Derived.IntWalk
import Derived.WalkSpells
import Derived.WalkLawsBesides
namespace Go.Proofs.Ytnpdhfjglfpjcaa
open Go.RowKit Bytes Strs Nums NameMath RecMath

theorem not_badName {s : ByteArray} {q : Bool} (h : badName s.data.toList = q) : isN s.data.toList = !q := by
  rw [← h]
  unfold badName
  cases isN s.data.toList <;> rfl
theorem badName_mk {l : List UInt8} {q : Bool} (h : badName l = q) : isN (mk l).data.toList = !q := not_badName (by rw [mk_list]; exact h)

set_option maxHeartbeats 8000000 in
set_option maxRecDepth 100000 in
theorem refCheck_is (R : Rec) (x : ByteArray) (k l t : Nat) (A1 : Option Addr) (n1 c1 : Nat) (A2 : Option Addr) (n2 c2 : Nat) (A3 : Option Addr) (n3 c3 : Nat) (E : Nat) (w : World) (hR : Hid (RecAt w w.heap.size R x k l t A1 n1 A2 n2 A3 n3)) (hS : Hid (Small R)) (hE : Hid (checkE R = E)) :
    Calls Try.prog 12 #[.agg #[.string x, .int .u16 k, .int .u16 l, .int .u32 t, .slice A1 n1 c1, .slice A2 n2 c2, .slice A3 n3 c3]] w fun e w' => e = .returned (.int .i64 E) ∧ Below w.heap.size w w' := by
  have hm1 := hR.out.m1 hS.out
  have hx := hR.out.size hS.out
  have hx6 : x.size ≤ 1000000 := by omega
  have hm6 : n1 ≤ 1000000 := by omega
  have HR2 := Lib.hid (hR.out.box (.cells #[.string x, .int .u16 k, .int .u16 l, .int .u32 t, .slice A1 n1 c1, .slice A2 n2 c2, .slice A3 n3 c3] 27))
  have HB0 : Hid (Below w.heap.size w (w.alloc (.cells #[.string x, .int .u16 k, .int .u16 l, .int .u32 t, .slice A1 n1 c1, .slice A2 n2 c2, .slice A3 n3 c3] 27))) := (Below.refl _ _).alloc (Nat.le_refl _) _
  have hgl : w.heap.size < (w.alloc (.cells #[.string x, .int .u16 k, .int .u16 l, .int .u32 t, .slice A1 n1 c1, .slice A2 n2 c2, .slice A3 n3 c3] 27)).heap.size := by simp
  have d0 : (w.alloc (.cells #[.string x, .int .u16 k, .int .u16 l, .int .u32 t, .slice A1 n1 c1, .slice A2 n2 c2, .slice A3 n3 c3] 27)).cell? ⟨w.heap.size, 0, none⟩ = some (.string x) := by simp
  have d1 : (w.alloc (.cells #[.string x, .int .u16 k, .int .u16 l, .int .u32 t, .slice A1 n1 c1, .slice A2 n2 c2, .slice A3 n3 c3] 27)).cell? ⟨w.heap.size, 1, none⟩ = some (.int .u16 k) := by simp
  have d2 : (w.alloc (.cells #[.string x, .int .u16 k, .int .u16 l, .int .u32 t, .slice A1 n1 c1, .slice A2 n2 c2, .slice A3 n3 c3] 27)).cell? ⟨w.heap.size, 2, none⟩ = some (.int .u16 l) := by simp
  have d3 : (w.alloc (.cells #[.string x, .int .u16 k, .int .u16 l, .int .u32 t, .slice A1 n1 c1, .slice A2 n2 c2, .slice A3 n3 c3] 27)).cell? ⟨w.heap.size, 3, none⟩ = some (.int .u32 t) := by simp
  have d4 : (w.alloc (.cells #[.string x, .int .u16 k, .int .u16 l, .int .u32 t, .slice A1 n1 c1, .slice A2 n2 c2, .slice A3 n3 c3] 27)).cell? ⟨w.heap.size, 4, none⟩ = some (.slice A1 n1 c1) := by simp
  have d5 : (w.alloc (.cells #[.string x, .int .u16 k, .int .u16 l, .int .u32 t, .slice A1 n1 c1, .slice A2 n2 c2, .slice A3 n3 c3] 27)).cell? ⟨w.heap.size, 5, none⟩ = some (.slice A2 n2 c2) := by simp
  have d6 : (w.alloc (.cells #[.string x, .int .u16 k, .int .u16 l, .int .u32 t, .slice A1 n1 c1, .slice A2 n2 c2, .slice A3 n3 c3] 27)).cell? ⟨w.heap.size, 6, none⟩ = some (.slice A3 n3 c3) := by simp
  obtain ⟨z1, hz1⟩ : ∃ z, badName x.data.toList = z := ⟨_, rfl⟩
  obtain ⟨z2, hz2⟩ : ∃ z, R.names.any badName = z := ⟨_, rfl⟩
  have hn : namesB R = (!z1 && !z2) := by unfold namesB; rw [← hR.out.name, hz1, hz2]
  have HN := Lib.hid hn
  have HI := Lib.hid (not_badName hz1)
  have HZ2 := Lib.hid hz2
  have HL1 := Lib.hid HR2.out.len1
  have hlate : lateB R = decide (2147483647 < t ∧ k ≠ 41) := by unfold lateB; rw [hR.out.ttl, hR.out.kind]
  have HLT := Lib.hid hlate
  clear hn hz1 hz2 hlate hR
  go_enter Try.func12, Try.ntmps12
  go_wp2_with fail
  generalize w.alloc (.cells #[.string x, .int .u16 k, .int .u16 l, .int .u32 t, .slice A1 n1 c1, .slice A2 n2 c2, .slice A3 n3 c3] 27) = wb at *
  generalize hgw : w.heap.size = g at *
  have HGW := Lib.hid hgw
  clear hgw
  refine (refIs_is x (!z1) _ hx6 HI).mono ?_
  rintro e w1 ⟨rfl, hB1⟩
  cases z1 with
  | true =>
    obtain rfl : 40 = E := by rw [← hE.out, checkE_40 (by rw [HN.out]; rfl)]
    clear hE HN
    go_wp2_with fail
    go_ret
    exact ⟨rfl, by have h := HB0.out; rw [← HGW.out] at h; exact h.trans (hB1.mono h.size)⟩
  | false =>
    go_wp2_with fail
    go_loopw [3] (fun i wr => ∃ j : Nat, j ≤ n1 ∧ i = .int .i64 j ∧ Hid ((R.names.drop j).any badName = z2) ∧ Below wb.heap.size wb wr) (fun i _ => n1 - (intOf i).toNat)
    case atStart => exact ⟨0, Nat.zero_le _, rfl, HZ2, hB1⟩
    case round =>
      obtain ⟨j, hj, rfl, hH, hB⟩ := hrel
      have q0 : wr.cell? ⟨g, 0, none⟩ = some (.string x) := (hB.cell (p := ⟨g, 0, none⟩) hgl).trans d0
      have q1 : wr.cell? ⟨g, 1, none⟩ = some (.int .u16 k) := (hB.cell (p := ⟨g, 1, none⟩) hgl).trans d1
      have q2 : wr.cell? ⟨g, 2, none⟩ = some (.int .u16 l) := (hB.cell (p := ⟨g, 2, none⟩) hgl).trans d2
      have q3 : wr.cell? ⟨g, 3, none⟩ = some (.int .u32 t) := (hB.cell (p := ⟨g, 3, none⟩) hgl).trans d3
      have q4 : wr.cell? ⟨g, 4, none⟩ = some (.slice A1 n1 c1) := (hB.cell (p := ⟨g, 4, none⟩) hgl).trans d4
      have q5 : wr.cell? ⟨g, 5, none⟩ = some (.slice A2 n2 c2) := (hB.cell (p := ⟨g, 5, none⟩) hgl).trans d5
      have q6 : wr.cell? ⟨g, 6, none⟩ = some (.slice A3 n3 c3) := (hB.cell (p := ⟨g, 6, none⟩) hgl).trans d6
      by_cases hlt : j < n1
      · have hkl : j < R.names.length := by rw [HL1.out]; exact hlt
        obtain ⟨ad, rfl, hab, hcell⟩ := (HR2.out.rd1.on hB hB.size).get hkl
        have hd := hH.out
        rw [lab_drop hkl, List.any_cons] at hd
        obtain ⟨z, hz⟩ : ∃ z, badName (R.names.getD j []) = z := ⟨_, rfl⟩
        have HZ := Lib.hid (badName_mk hz)
        have hs1 := hS.out.s1 j hkl
        rw [← mk_size] at hs1
        rw [hz] at hd
        have HD := Lib.hid hd
        have hy6 : (mk (R.names.getD j [])).size ≤ 1000000 := by omega
        clear hd hz hH hkl hs1
        generalize mk (R.names.getD j []) = y at *
        go_wp2_with fail
        refine (refIs_is y (!z) _ hy6 HZ).mono ?_
        rintro e w3 ⟨rfl, hB3⟩
        have hBB := hB.trans (hB3.mono hB.size)
        clear hB hB3 q0 q1 q2 q3 q4 q5 q6 hcell
        cases z with
        | true =>
          have hzz := HD.out
          rw [Bool.true_or] at hzz
          subst hzz
          obtain rfl : 40 = E := by rw [← hE.out, checkE_40 (by rw [HN.out]; rfl)]
          clear hE HN HD HZ2
          go_wp2_with fail
          go_ret
          exact ⟨rfl, by have h := HB0.out; rw [← HGW.out] at h; exact h.trans (hBB.mono h.size)⟩
        | false =>
          rw [Bool.false_or] at HD
          go_wp2_with fail
          go_roundw
          case rel => exact ⟨j + 1, by omega, by go_num, HD, hBB⟩
          case measure => simp [intOf]; omega
      · have hd := hH.out
        rw [List.drop_of_length_le (by rw [HL1.out]; omega)] at hd
        obtain rfl : z2 = false := by rw [← hd]; rfl
        have hn : namesB R = true := HN.out
        obtain ⟨q, hq⟩ : ∃ q, shapedB R = q := ⟨_, rfl⟩
        obtain ⟨f, hf⟩ : ∃ f, fitsB R = f := ⟨_, rfl⟩
        have he : E = if (q && f) = false then 50 else if decide (2147483647 < t ∧ k ≠ 41) = true then 1 else 0 := by
          rw [← hE.out, ← HLT.out, ← hq, ← hf]
          unfold checkE
          rw [if_neg (by rw [hn]; decide)]
          rfl
        have HE := Lib.hid he
        have HQ := Lib.hid hq
        have HF := Lib.hid hf
        have HRw := Lib.hid (HR2.out.on hB hB.size)
        clear hd hH hn hq hf he hE HN HZ2
        go_wp2_with fail
        refine (refShaped_is R x k l t A1 n1 c1 A2 n2 c2 A3 n3 c3 q _ HRw hS HQ).mono ?_
        rintro e w4 ⟨rfl, hB4⟩
        have hBB := hB.trans (hB4.mono hB.size)
        clear hB hB4 q0 q1 q2 q3 q4 q5 q6 HRw
        cases q with
        | false =>
          obtain rfl : E = 50 := HE.out
          clear HE
          go_wp2_with fail
          go_ret
          exact ⟨rfl, by have h := HB0.out; rw [← HGW.out] at h; exact h.trans (hBB.mono h.size)⟩
        | true =>
          have q0 : w4.cell? ⟨g, 0, none⟩ = some (.string x) := (hBB.cell (p := ⟨g, 0, none⟩) hgl).trans d0
          have q1 : w4.cell? ⟨g, 1, none⟩ = some (.int .u16 k) := (hBB.cell (p := ⟨g, 1, none⟩) hgl).trans d1
          have q2 : w4.cell? ⟨g, 2, none⟩ = some (.int .u16 l) := (hBB.cell (p := ⟨g, 2, none⟩) hgl).trans d2
          have q3 : w4.cell? ⟨g, 3, none⟩ = some (.int .u32 t) := (hBB.cell (p := ⟨g, 3, none⟩) hgl).trans d3
          have q4 : w4.cell? ⟨g, 4, none⟩ = some (.slice A1 n1 c1) := (hBB.cell (p := ⟨g, 4, none⟩) hgl).trans d4
          have q5 : w4.cell? ⟨g, 5, none⟩ = some (.slice A2 n2 c2) := (hBB.cell (p := ⟨g, 5, none⟩) hgl).trans d5
          have q6 : w4.cell? ⟨g, 6, none⟩ = some (.slice A3 n3 c3) := (hBB.cell (p := ⟨g, 6, none⟩) hgl).trans d6
          have HRw := Lib.hid (HR2.out.on hBB hBB.size)
          have HP : Hid ((mk (if f = true then plainL R else [])).data.toList = if f = true then plainL R else []) := mk_list _
          generalize mk (if f = true then plainL R else []) = p at *
          go_wp2_with fail
          refine (refPlain_is R x k l t A1 n1 c1 A2 n2 c2 A3 n3 c3 f p _ HRw hS HQ HF HP).mono ?_
          rintro e w5 ⟨rfl, hB5⟩
          have hB6 := hBB.trans (hB5.mono hBB.size)
          clear hBB hB5 q0 q1 q2 q3 q4 q5 q6 HRw HP
          cases f with
          | false =>
            obtain rfl : E = 50 := HE.out
            clear HE
            go_wp2_with fail
            go_ret
            exact ⟨rfl, by have h := HB0.out; rw [← HGW.out] at h; exact h.trans (hB6.mono h.size)⟩
          | true =>
            have q1 : w5.cell? ⟨g, 1, none⟩ = some (.int .u16 k) := (hB6.cell (p := ⟨g, 1, none⟩) hgl).trans d1
            have q3 : w5.cell? ⟨g, 3, none⟩ = some (.int .u32 t) := (hB6.cell (p := ⟨g, 3, none⟩) hgl).trans d3
            by_cases h1 : (2147483647 : Int) < t
            · by_cases h41 : k = 41
              · obtain rfl : E = 0 := by rw [HE.out, if_neg (by decide), if_neg (by rw [decide_eq_false (fun h => h.2 h41)]; decide)]
                have g41 : ((k : Int) != 41) = false := int_neq h41
                clear h41 HE
                go_wp2_with fail
                go_ret
                exact ⟨rfl, by have h := HB0.out; rw [← HGW.out] at h; exact h.trans (hB6.mono h.size)⟩
              · obtain rfl : E = 1 := by rw [HE.out, if_neg (by decide), if_pos (decide_eq_true ⟨by omega, h41⟩)]
                have g41 : ((k : Int) != 41) = true := int_nne h41
                clear h41 HE
                go_wp2_with fail
                go_ret
                exact ⟨rfl, by have h := HB0.out; rw [← HGW.out] at h; exact h.trans (hB6.mono h.size)⟩
            · obtain rfl : E = 0 := by rw [HE.out, if_neg (by decide), if_neg (by rw [decide_eq_false (fun h => h1 (by omega))]; decide)]
              clear HE
              go_wp2_with fail
              go_ret
              exact ⟨rfl, by have h := HB0.out; rw [← HGW.out] at h; exact h.trans (hB6.mono h.size)⟩

set_option maxHeartbeats 2000000 in
theorem refPlainO_is (R : Rec) (x : ByteArray) (k l t : Nat) (A1 : Option Addr) (n1 c1 : Nat) (A2 : Option Addr) (n2 c2 : Nat) (A3 : Option Addr) (n3 c3 : Nat) (p : ByteArray) (w : World) (hR : Hid (RecAt w w.heap.size R x k l t A1 n1 A2 n2 A3 n3)) (hS : Hid (Small R)) (hp : Hid (mk (plainO R) = p)) :
    Calls Try.prog 14 #[.agg #[.string x, .int .u16 k, .int .u16 l, .int .u32 t, .slice A1 n1 c1, .slice A2 n2 c2, .slice A3 n3 c3]] w fun e w' => e = .returned (.string p) ∧ Below w.heap.size w w' := by
  have HR2 := Lib.hid (hR.out.box (.cells #[.string x, .int .u16 k, .int .u16 l, .int .u32 t, .slice A1 n1 c1, .slice A2 n2 c2, .slice A3 n3 c3] 27))
  have HB0 : Hid (Below w.heap.size w (w.alloc (.cells #[.string x, .int .u16 k, .int .u16 l, .int .u32 t, .slice A1 n1 c1, .slice A2 n2 c2, .slice A3 n3 c3] 27))) := (Below.refl _ _).alloc (Nat.le_refl _) _
  have hgl : w.heap.size < (w.alloc (.cells #[.string x, .int .u16 k, .int .u16 l, .int .u32 t, .slice A1 n1 c1, .slice A2 n2 c2, .slice A3 n3 c3] 27)).heap.size := by simp
  have d0 : (w.alloc (.cells #[.string x, .int .u16 k, .int .u16 l, .int .u32 t, .slice A1 n1 c1, .slice A2 n2 c2, .slice A3 n3 c3] 27)).cell? ⟨w.heap.size, 0, none⟩ = some (.string x) := by simp
  have d1 : (w.alloc (.cells #[.string x, .int .u16 k, .int .u16 l, .int .u32 t, .slice A1 n1 c1, .slice A2 n2 c2, .slice A3 n3 c3] 27)).cell? ⟨w.heap.size, 1, none⟩ = some (.int .u16 k) := by simp
  have d2 : (w.alloc (.cells #[.string x, .int .u16 k, .int .u16 l, .int .u32 t, .slice A1 n1 c1, .slice A2 n2 c2, .slice A3 n3 c3] 27)).cell? ⟨w.heap.size, 2, none⟩ = some (.int .u16 l) := by simp
  have d3 : (w.alloc (.cells #[.string x, .int .u16 k, .int .u16 l, .int .u32 t, .slice A1 n1 c1, .slice A2 n2 c2, .slice A3 n3 c3] 27)).cell? ⟨w.heap.size, 3, none⟩ = some (.int .u32 t) := by simp
  have d4 : (w.alloc (.cells #[.string x, .int .u16 k, .int .u16 l, .int .u32 t, .slice A1 n1 c1, .slice A2 n2 c2, .slice A3 n3 c3] 27)).cell? ⟨w.heap.size, 4, none⟩ = some (.slice A1 n1 c1) := by simp
  have d5 : (w.alloc (.cells #[.string x, .int .u16 k, .int .u16 l, .int .u32 t, .slice A1 n1 c1, .slice A2 n2 c2, .slice A3 n3 c3] 27)).cell? ⟨w.heap.size, 5, none⟩ = some (.slice A2 n2 c2) := by simp
  have d6 : (w.alloc (.cells #[.string x, .int .u16 k, .int .u16 l, .int .u32 t, .slice A1 n1 c1, .slice A2 n2 c2, .slice A3 n3 c3] 27)).cell? ⟨w.heap.size, 6, none⟩ = some (.slice A3 n3 c3) := by simp
  obtain ⟨E, hE⟩ : ∃ E, checkE R = E := ⟨_, rfl⟩
  have HE := Lib.hid hE
  clear hE
  go_enter Try.func14, Try.ntmps14
  go_wp2_with fail
  generalize w.alloc (.cells #[.string x, .int .u16 k, .int .u16 l, .int .u32 t, .slice A1 n1 c1, .slice A2 n2 c2, .slice A3 n3 c3] 27) = wb at *
  generalize hgw : w.heap.size = g at *
  have HGW := Lib.hid hgw
  clear hgw
  refine (refCheck_is R x k l t A1 n1 c1 A2 n2 c2 A3 n3 c3 E _ HR2 hS HE).mono ?_
  rintro e w1 ⟨rfl, hB⟩
  by_cases h0 : E = 0
  · subst h0
    have hok := check_ok HE.out
    have hc := okB_cnt hok.2.1
    have hsh : shapedB R = true := by have := hok.2.1; unfold okB at this; rw [Bool.and_eq_true] at this; exact this.1
    have hft : fitsB R = true := by have := hok.2.1; unfold okB at this; rw [Bool.and_eq_true] at this; exact this.2
    have HP : Hid (p.data.toList = if true = true then plainL R else []) := by show _ = _; rw [if_pos rfl, ← hp.out, mk_list, plainO_ok HE.out]
    have q0 : w1.cell? ⟨g, 0, none⟩ = some (.string x) := (hB.cell (p := ⟨g, 0, none⟩) hgl).trans d0
    have q1 : w1.cell? ⟨g, 1, none⟩ = some (.int .u16 k) := (hB.cell (p := ⟨g, 1, none⟩) hgl).trans d1
    have q2 : w1.cell? ⟨g, 2, none⟩ = some (.int .u16 l) := (hB.cell (p := ⟨g, 2, none⟩) hgl).trans d2
    have q3 : w1.cell? ⟨g, 3, none⟩ = some (.int .u32 t) := (hB.cell (p := ⟨g, 3, none⟩) hgl).trans d3
    have q4 : w1.cell? ⟨g, 4, none⟩ = some (.slice A1 n1 c1) := (hB.cell (p := ⟨g, 4, none⟩) hgl).trans d4
    have q5 : w1.cell? ⟨g, 5, none⟩ = some (.slice A2 n2 c2) := (hB.cell (p := ⟨g, 5, none⟩) hgl).trans d5
    have q6 : w1.cell? ⟨g, 6, none⟩ = some (.slice A3 n3 c3) := (hB.cell (p := ⟨g, 6, none⟩) hgl).trans d6
    have HRw := Lib.hid (HR2.out.on hB hB.size)
    have HSH := Lib.hid hsh
    have HFT := Lib.hid hft
    clear hok hc hsh hft hp
    go_wp2_with fail
    refine (refPlain_is R x k l t A1 n1 c1 A2 n2 c2 A3 n3 c3 true p _ HRw hS HSH HFT HP).mono ?_
    rintro e w2 ⟨rfl, hB2⟩
    have hB3 := hB.trans (hB2.mono hB.size)
    clear hB hB2
    go_wp2_with fail
    go_ret
    exact ⟨rfl, by have h := HB0.out; rw [← HGW.out] at h; exact h.trans (hB3.mono h.size)⟩
  · have g0 : ((E : Int) != 0) = true := int_nne h0
    obtain rfl : p = ⟨#[]⟩ := by rw [← hp.out, plainO_no (by rw [HE.out]; exact h0)]; rfl
    clear h0
    go_wp2_with fail
    go_ret
    exact ⟨rfl, by have h := HB0.out; rw [← HGW.out] at h; exact h.trans (hB.mono h.size)⟩
end Go.Proofs.Ytnpdhfjglfpjcaa
