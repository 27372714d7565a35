/- Texts of one proof, one behind the other: RecRefPlain, RecRefCheck. -/
import Derived.Test.YtngbifdenbfepaaProg
import Derived.Test.YtngbifdenbfepaaReadRightProofG11
import Derived.Test.YtngbifdenbfepaaReadRightProofG6
import Derived.Test.YtngbifdenbfepaaReadRightProofG12
import Derived.WalkKit
import Derived.Lib.Hide
import Derived.Outline
import Derived.IntWalk
import Derived.WalkSpells
import Derived.WalkLawsBesides

/- The contract of the document's own plain bytes of a record that has its shape. For records of at most 10^5 texts of at most 10^5 bytes. -/
namespace Go.Proofs.Ytngbifdenbfepaa
open Go.RowKit Bytes Strs Nums NameMath RecMath

theorem nil_text {p : ByteArray} (h : p.data.toList = []) : p = ⟨#[]⟩ := list_inj h
theorem cat_le {s p : ByteArray} {r : List UInt8} (h : s.data.toList ++ r = p.data.toList) : s.size ≤ p.size := by
  rw [Lib.size_eq, Lib.size_eq, ← h, List.length_append]
  omega

set_option maxHeartbeats 8000000 in
set_option maxRecDepth 100000 in
theorem refPlain_6 (R : Rec) (x : ByteArray) (k l t : Nat) (A1 : Option Addr) (n1 c1 : Nat) (A2 : Option Addr) (n2 c2 : Nat) (A3 : Option Addr) (n3 c3 : Nat) (f : Bool) (p : ByteArray) (w : World) (hR : Hid (RecAt w w.heap.size R x k l t A1 n1 A2 n2 A3 n3)) (hS : Hid (Small R)) (hk : k = 6) (hc : Hid (shapedB R = true)) (hf : Hid (fitsB R = f)) (hp : Hid (p.data.toList = if f = true then plainL R else [])) :
    Calls Try.prog 29 #[.agg #[.string x, .int .u16 k, .int .u16 l, .int .u32 t, .slice A1 n1 c1, .slice A2 n2 c2, .slice A3 n3 c3]] w fun e w' => e = .returned (.tuple #[.string p, .bool f]) ∧ Below w.heap.size w w' := by
  subst hk
  have hm1 := hR.out.m1 hS.out
  have hm2 := hR.out.m2 hS.out
  have hm3 := hR.out.m3 hS.out
  have hkd := hR.out.kind
  have HR2 := Lib.hid (hR.out.box (.cells #[.string x, .int .u16 6, .int .u16 l, .int .u32 t, .slice A1 n1 c1, .slice A2 n2 c2, .slice A3 n3 c3] 47))
  have HB0 : Hid (Below w.heap.size w (w.alloc (.cells #[.string x, .int .u16 6, .int .u16 l, .int .u32 t, .slice A1 n1 c1, .slice A2 n2 c2, .slice A3 n3 c3] 47))) := (Below.refl _ _).alloc (Nat.le_refl _) _
  have d1 : (w.alloc (.cells #[.string x, .int .u16 6, .int .u16 l, .int .u32 t, .slice A1 n1 c1, .slice A2 n2 c2, .slice A3 n3 c3] 47)).cell? ⟨w.heap.size, 1, none⟩ = some (.int .u16 6) := by simp
  have d4 : (w.alloc (.cells #[.string x, .int .u16 6, .int .u16 l, .int .u32 t, .slice A1 n1 c1, .slice A2 n2 c2, .slice A3 n3 c3] 47)).cell? ⟨w.heap.size, 4, none⟩ = some (.slice A1 n1 c1) := by simp
  have d5 : (w.alloc (.cells #[.string x, .int .u16 6, .int .u16 l, .int .u32 t, .slice A1 n1 c1, .slice A2 n2 c2, .slice A3 n3 c3] 47)).cell? ⟨w.heap.size, 5, none⟩ = some (.slice A2 n2 c2) := by simp
  have d6 : (w.alloc (.cells #[.string x, .int .u16 6, .int .u16 l, .int .u32 t, .slice A1 n1 c1, .slice A2 n2 c2, .slice A3 n3 c3] 47)).cell? ⟨w.heap.size, 6, none⟩ = some (.slice A3 n3 c3) := by simp
  have hgl : w.heap.size < (w.alloc (.cells #[.string x, .int .u16 6, .int .u16 l, .int .u32 t, .slice A1 n1 c1, .slice A2 n2 c2, .slice A3 n3 c3] 47)).heap.size := by simp
  have HL1 := Lib.hid HR2.out.len1
  have HL2 := Lib.hid HR2.out.len2
  have HL3 := Lib.hid HR2.out.len3
  have HRD1 := Lib.hid HR2.out.rd1
  have HRD2 := Lib.hid HR2.out.rd2
  have HRD3 := Lib.hid HR2.out.rd3
  have h02 : (0 : Int) < n2 := by
    have h := hc.out
    unfold shapedB at h
    rw [Bool.and_eq_true, Bool.and_eq_true] at h
    have h2 := (cnt_of h.1.1).2.1
    rw [HL2.out, hkd, show shB 6 = 5 from rfl] at h2
    omega
  have hsp := hc.out
  unfold shapedB at hsp
  rw [hkd, Bool.and_eq_true, Bool.and_eq_true] at hsp
  have hcnt := hsp.1.1
  have htx : R.texts.any (badText 6) = false := by simpa using hsp.2
  have HTX := Lib.hid htx
  have hfd : f = decide (bulk 6 R.texts ≤ 65535) := by rw [← hf.out]; unfold fitsB; rw [hkd]
  have HF := Lib.hid hfd
  have hlen : bulk 6 R.texts ≤ 65535 → (plainL R).length ≤ 300000 := fun h => plain_len hcnt (by rw [hkd]; exact h) hS.out.s1
  have HLEN := Lib.hid hlen
  have hpl : plainL R = R.names.flatten ++ (numsL 4 R.nums ++ R.texts.flatMap (textL 6)) := by rw [plainL_6 hkd, hkd]
  have HPL := Lib.hid hpl
  clear hsp hcnt htx hfd hlen hpl hc hf hR HR2 hkd
  go_enter Try.func29, Try.ntmps29
  go_wp2_with fail
  generalize w.alloc (.cells #[.string x, .int .u16 6, .int .u16 l, .int .u32 t, .slice A1 n1 c1, .slice A2 n2 c2, .slice A3 n3 c3] 47) = wb at *
  generalize hgw : w.heap.size = g at *
  have HGW := Lib.hid hgw
  clear hgw
  go_loop [4, 5] (fun u i => ∃ (j n : Nat), j ≤ n3 ∧ i = .int .i64 j ∧ u = .int .i64 n ∧ n ≤ 65535 ∧ Hid (bulk 6 R.texts = n + bulk 6 (R.texts.drop j))) (fun _ i => n3 - (intOf i).toNat)
  case atStart => exact ⟨0, 0, Nat.zero_le _, rfl, rfl, Nat.zero_le _, Lib.hid (by simp)⟩
  case round =>
    obtain ⟨j, n, hj, rfl, rfl, hn, hH⟩ := hrel
    by_cases hlt : j < n3
    · have hkl : j < R.texts.length := by rw [HL3.out]; exact hlt
      obtain ⟨ad, rfl, hab, hcell⟩ := HRD3.out.get hkl
      have hd := hH.out
      rw [bulk_drop 6 hkl, if_neg (by decide)] at hd
      have hsz := mk_size (R.texts.getD j [])
      have hs3 := hS.out.s3 j hkl
      rw [← hsz] at hd hs3
      generalize mk (R.texts.getD j []) = y at *
      by_cases hbig : (65535 : Int) < (n : Int) + (y.size : Int)
      · obtain rfl : f = false := by rw [HF.out, decide_eq_false (by omega)]
        obtain rfl : p = ⟨#[]⟩ := nil_text hp.out
        clear hd hH hkl hsz
        go_wp2_with fail
        go_ret2
        exact ⟨rfl, by have h := HB0.out; rw [← HGW.out] at h; exact h⟩
      · have HD : Hid (bulk 6 R.texts = (n + y.size) + bulk 6 (R.texts.drop (j + 1))) := by show _ = _; omega
        clear hd hH hkl hsz
        go_wp2_with fail
        go_round
        case rel => exact ⟨j + 1, n + y.size, by omega, by go_num, by go_num, by omega, HD⟩
        case measure => simp [intOf]; omega
    · have hd := hH.out
      rw [List.drop_of_length_le (by rw [HL3.out]; omega), bulk_nil, Nat.add_zero] at hd
      obtain rfl : f = true := by rw [HF.out, decide_eq_true (by omega)]
      have hp' : p.data.toList = plainL R := hp.out
      have hpz : p.size ≤ 300000 := by rw [Lib.size_eq, hp']; exact HLEN.out (by omega)
      rw [HPL.out] at hp'
      have HP := Lib.hid hp'
      clear hd hH hp' HF hp
      go_wp2_with fail
      go_loopw [6, 7] (fun u i wr => ∃ s : ByteArray, i = .int .i64 0 ∧ u = .string s ∧ Hid (s.data.toList ++ (R.names.flatten ++ (numsL 4 R.nums ++ R.texts.flatMap (textL 6))) = p.data.toList) ∧ Below wb.heap.size wb wr) (fun _ _ _ => 0)
      case atStart => exact ⟨_, rfl, rfl, Lib.hid HP.out.symm, Below.refl _ _⟩
      case round =>
        obtain ⟨s, rfl, rfl, hH, hB⟩ := hrel
        have q1 : wr.cell? ⟨g, 1, none⟩ = some (.int .u16 6) := (hB.cell (p := ⟨g, 1, none⟩) hgl).trans d1
        have q4 : wr.cell? ⟨g, 4, none⟩ = some (.slice A1 n1 c1) := (hB.cell (p := ⟨g, 4, none⟩) hgl).trans d4
        have q5 : wr.cell? ⟨g, 5, none⟩ = some (.slice A2 n2 c2) := (hB.cell (p := ⟨g, 5, none⟩) hgl).trans d5
        have q6 : wr.cell? ⟨g, 6, none⟩ = some (.slice A3 n3 c3) := (hB.cell (p := ⟨g, 6, none⟩) hgl).trans d6
        have HD := hH
        clear hH
        go_wp2_with fail
        go_loopw [6, 8] (fun u i wr => ∃ (j : Nat) (s : ByteArray), j ≤ n1 ∧ i = .int .i64 j ∧ u = .string s ∧ Hid (s.data.toList ++ ((R.names.drop j).flatten ++ (numsL 4 R.nums ++ R.texts.flatMap (textL 6))) = p.data.toList) ∧ Below wb.heap.size wb wr) (fun _ i _ => n1 - (intOf i).toNat)
        case atStart => exact ⟨0, _, Nat.zero_le _, rfl, rfl, HD, hB⟩
        case round =>
          obtain ⟨j, s, hj, rfl, rfl, hH, hB⟩ := hrel
          have q1 : wr.cell? ⟨g, 1, none⟩ = some (.int .u16 6) := (hB.cell (p := ⟨g, 1, none⟩) hgl).trans d1
          have q4 : wr.cell? ⟨g, 4, none⟩ = some (.slice A1 n1 c1) := (hB.cell (p := ⟨g, 4, none⟩) hgl).trans d4
          have q5 : wr.cell? ⟨g, 5, none⟩ = some (.slice A2 n2 c2) := (hB.cell (p := ⟨g, 5, none⟩) hgl).trans d5
          have q6 : wr.cell? ⟨g, 6, none⟩ = some (.slice A3 n3 c3) := (hB.cell (p := ⟨g, 6, none⟩) hgl).trans d6
          by_cases hlt : j < n1
          · have hkl : j < R.names.length := by rw [HL1.out]; exact hlt
            obtain ⟨ad, rfl, hab, hcell⟩ := (HRD1.out.on hB hB.size).get hkl
            have hd := hH.out
            rw [flat_drop hkl, List.append_assoc, ← List.append_assoc] at hd
            have hs1 := hS.out.s1 j hkl
            have hsz := cat_le hH.out
            have hml := mk_list (R.names.getD j [])
            rw [← mk_size] at hs1
            rw [← hml] at hd
            generalize mk (R.names.getD j []) = y at *
            rw [← cat_list] at hd
            have HD := Lib.hid hd
            have hs6 : s.size ≤ 1000000 := by omega
            clear hd hH hkl hml
            go_wp2_with fail
            go_roundw
            case rel => exact ⟨j + 1, _, by omega, by go_num, rfl, HD, hB⟩
            case measure => simp [intOf]; omega
          · have hd := hH.out
            rw [List.drop_of_length_le (by rw [HL1.out]; omega)] at hd
            have HD : Hid (s.data.toList ++ (numsL 4 R.nums ++ R.texts.flatMap (textL 6)) = p.data.toList) := hd
            clear hd hH
            go_wp2_with fail
            go_loopw [6, 9] (fun u i wr => ∃ (j : Nat) (s : ByteArray), j ≤ n2 ∧ i = .int .i64 j ∧ u = .string s ∧ Hid (s.data.toList ++ (numsL 4 (R.nums.drop j) ++ (R.texts.flatMap (textL 6))) = p.data.toList) ∧ Below wb.heap.size wb wr) (fun _ i _ => n2 - (intOf i).toNat)
            case atStart => exact ⟨0, _, Nat.zero_le _, rfl, rfl, HD, hB⟩
            case round =>
              obtain ⟨j, s, hj, rfl, rfl, hH, hB⟩ := hrel
              have q1 : wr.cell? ⟨g, 1, none⟩ = some (.int .u16 6) := (hB.cell (p := ⟨g, 1, none⟩) hgl).trans d1
              have q4 : wr.cell? ⟨g, 4, none⟩ = some (.slice A1 n1 c1) := (hB.cell (p := ⟨g, 4, none⟩) hgl).trans d4
              have q5 : wr.cell? ⟨g, 5, none⟩ = some (.slice A2 n2 c2) := (hB.cell (p := ⟨g, 5, none⟩) hgl).trans d5
              have q6 : wr.cell? ⟨g, 6, none⟩ = some (.slice A3 n3 c3) := (hB.cell (p := ⟨g, 6, none⟩) hgl).trans d6
              by_cases hlt : j < n2
              · have hkl : j < R.nums.length := by rw [HL2.out]; exact hlt
                obtain ⟨ad, rfl, hab, hcell⟩ := (HRD2.out.on hB hB.size).get hkl
                have hd := hH.out
                rw [numsL_drop 4 hkl, List.append_assoc, ← List.append_assoc] at hd
                have hu := hS.out.u2 j hkl
                have hsz := cat_le hH.out
                generalize R.nums.getD j 0 = y at *
                have hr : s.data.toList ++ beTail y 4 = (mk (s.data.toList ++ beTail y 4)).data.toList := (mk_list _).symm
                rw [hr] at hd
                have HD := Lib.hid hd
                have HRR := Lib.hid hr
                have hs6 : s.size ≤ 1000000 := by omega
                have hy8 : y ≤ 18446744073709551615 := by omega
                clear hd hH hkl hr
                generalize mk (s.data.toList ++ beTail y 4) = r at *
                go_wp2_with fail
                refine (refPut_is s r y 4 _ hs6 (by decide) hy8 HRR).mono ?_
                rintro e w3 ⟨rfl, hB3⟩
                have hBB := hB.trans (hB3.mono hB.size)
                clear hB hB3 q1 q4 q5 q6 hcell
                go_wp2_with fail
                go_roundw
                case rel => exact ⟨j + 1, r, by omega, by go_num, rfl, HD, hBB⟩
                case measure => simp [intOf]; omega
              · have hd := hH.out
                rw [List.drop_of_length_le (by rw [HL2.out]; omega)] at hd
                have HD : Hid (s.data.toList ++ (R.texts.flatMap (textL 6)) = p.data.toList) := hd
                clear hd hH
                go_wp2_with fail
                go_loopw [6, 10] (fun u i wr => ∃ (j : Nat) (s : ByteArray), j ≤ n3 ∧ i = .int .i64 j ∧ u = .string s ∧ Hid (s.data.toList ++ ((R.texts.drop j).flatMap (textL 6)) = p.data.toList) ∧ Below wb.heap.size wb wr) (fun _ i _ => n3 - (intOf i).toNat)
                case atStart => exact ⟨0, _, Nat.zero_le _, rfl, rfl, HD, hB⟩
                case round =>
                  obtain ⟨j, s, hj, rfl, rfl, hH, hB⟩ := hrel
                  have q1 : wr.cell? ⟨g, 1, none⟩ = some (.int .u16 6) := (hB.cell (p := ⟨g, 1, none⟩) hgl).trans d1
                  have q4 : wr.cell? ⟨g, 4, none⟩ = some (.slice A1 n1 c1) := (hB.cell (p := ⟨g, 4, none⟩) hgl).trans d4
                  have q5 : wr.cell? ⟨g, 5, none⟩ = some (.slice A2 n2 c2) := (hB.cell (p := ⟨g, 5, none⟩) hgl).trans d5
                  have q6 : wr.cell? ⟨g, 6, none⟩ = some (.slice A3 n3 c3) := (hB.cell (p := ⟨g, 6, none⟩) hgl).trans d6
                  by_cases hlt : j < n3
                  · have hkl : j < R.texts.length := by rw [HL3.out]; exact hlt
                    obtain ⟨ad, rfl, hab, hcell⟩ := (HRD3.out.on hB hB.size).get hkl
                    have hd := hH.out
                    rw [textL_drop 6 hkl, textL_not (by decide), ← List.append_assoc] at hd
                    have hs1 := hS.out.s3 j hkl
                    have hsz := cat_le hH.out
                    have hml := mk_list (R.texts.getD j [])
                    rw [← mk_size] at hs1
                    rw [← hml] at hd
                    generalize mk (R.texts.getD j []) = y at *
                    rw [← cat_list] at hd
                    have HD := Lib.hid hd
                    have hs6 : s.size ≤ 1000000 := by omega
                    clear hd hH hkl hml
                    go_wp2_with fail
                    go_roundw
                    case rel => exact ⟨j + 1, _, by omega, by go_num, rfl, HD, hB⟩
                    case measure => simp [intOf]; omega
                  · have hd := hH.out
                    rw [List.drop_of_length_le (by rw [HL3.out]; omega), List.flatMap_nil, List.append_nil] at hd
                    have HE := Lib.hid (list_inj hd)
                    clear hd hH
                    go_wp2_with fail
                    go_ret2
                    exact ⟨by rw [HE.out]; rfl, by have h := HB0.out; rw [← HGW.out] at h; exact h.trans (hB.mono h.size)⟩

set_option maxHeartbeats 8000000 in
set_option maxRecDepth 100000 in
theorem refPlain_16 (R : Rec) (x : ByteArray) (k l t : Nat) (A1 : Option Addr) (n1 c1 : Nat) (A2 : Option Addr) (n2 c2 : Nat) (A3 : Option Addr) (n3 c3 : Nat) (f : Bool) (p : ByteArray) (w : World) (hR : Hid (RecAt w w.heap.size R x k l t A1 n1 A2 n2 A3 n3)) (hS : Hid (Small R)) (hk : k = 16) (hc : Hid (shapedB R = true)) (hf : Hid (fitsB R = f)) (hp : Hid (p.data.toList = if f = true then plainL R else [])) :
    Calls Try.prog 29 #[.agg #[.string x, .int .u16 k, .int .u16 l, .int .u32 t, .slice A1 n1 c1, .slice A2 n2 c2, .slice A3 n3 c3]] w fun e w' => e = .returned (.tuple #[.string p, .bool f]) ∧ Below w.heap.size w w' := by
  subst hk
  have hm1 := hR.out.m1 hS.out
  have hm2 := hR.out.m2 hS.out
  have hm3 := hR.out.m3 hS.out
  have hkd := hR.out.kind
  have HR2 := Lib.hid (hR.out.box (.cells #[.string x, .int .u16 16, .int .u16 l, .int .u32 t, .slice A1 n1 c1, .slice A2 n2 c2, .slice A3 n3 c3] 47))
  have HB0 : Hid (Below w.heap.size w (w.alloc (.cells #[.string x, .int .u16 16, .int .u16 l, .int .u32 t, .slice A1 n1 c1, .slice A2 n2 c2, .slice A3 n3 c3] 47))) := (Below.refl _ _).alloc (Nat.le_refl _) _
  have d1 : (w.alloc (.cells #[.string x, .int .u16 16, .int .u16 l, .int .u32 t, .slice A1 n1 c1, .slice A2 n2 c2, .slice A3 n3 c3] 47)).cell? ⟨w.heap.size, 1, none⟩ = some (.int .u16 16) := by simp
  have d4 : (w.alloc (.cells #[.string x, .int .u16 16, .int .u16 l, .int .u32 t, .slice A1 n1 c1, .slice A2 n2 c2, .slice A3 n3 c3] 47)).cell? ⟨w.heap.size, 4, none⟩ = some (.slice A1 n1 c1) := by simp
  have d5 : (w.alloc (.cells #[.string x, .int .u16 16, .int .u16 l, .int .u32 t, .slice A1 n1 c1, .slice A2 n2 c2, .slice A3 n3 c3] 47)).cell? ⟨w.heap.size, 5, none⟩ = some (.slice A2 n2 c2) := by simp
  have d6 : (w.alloc (.cells #[.string x, .int .u16 16, .int .u16 l, .int .u32 t, .slice A1 n1 c1, .slice A2 n2 c2, .slice A3 n3 c3] 47)).cell? ⟨w.heap.size, 6, none⟩ = some (.slice A3 n3 c3) := by simp
  have hgl : w.heap.size < (w.alloc (.cells #[.string x, .int .u16 16, .int .u16 l, .int .u32 t, .slice A1 n1 c1, .slice A2 n2 c2, .slice A3 n3 c3] 47)).heap.size := by simp
  have HL1 := Lib.hid HR2.out.len1
  have HL2 := Lib.hid HR2.out.len2
  have HL3 := Lib.hid HR2.out.len3
  have HRD1 := Lib.hid HR2.out.rd1
  have HRD2 := Lib.hid HR2.out.rd2
  have HRD3 := Lib.hid HR2.out.rd3
  have hsp := hc.out
  unfold shapedB at hsp
  rw [hkd, Bool.and_eq_true, Bool.and_eq_true] at hsp
  have hcnt := hsp.1.1
  have htx : R.texts.any (badText 16) = false := by simpa using hsp.2
  have HTX := Lib.hid htx
  have hfd : f = decide (bulk 16 R.texts ≤ 65535) := by rw [← hf.out]; unfold fitsB; rw [hkd]
  have HF := Lib.hid hfd
  have hlen : bulk 16 R.texts ≤ 65535 → (plainL R).length ≤ 300000 := fun h => plain_len hcnt (by rw [hkd]; exact h) hS.out.s1
  have HLEN := Lib.hid hlen
  have hpl : plainL R = numsL 2 R.nums ++ (R.names.flatten ++ R.texts.flatMap (textL 16)) := by rw [plainL_not (by rw [hkd]; decide), hkd]
  have HPL := Lib.hid hpl
  clear hsp hcnt htx hfd hlen hpl hc hf hR HR2 hkd
  go_enter Try.func29, Try.ntmps29
  go_wp2_with fail
  generalize w.alloc (.cells #[.string x, .int .u16 16, .int .u16 l, .int .u32 t, .slice A1 n1 c1, .slice A2 n2 c2, .slice A3 n3 c3] 47) = wb at *
  generalize hgw : w.heap.size = g at *
  have HGW := Lib.hid hgw
  clear hgw
  go_loop [4, 5] (fun u i => ∃ (j n : Nat), j ≤ n3 ∧ i = .int .i64 j ∧ u = .int .i64 n ∧ n ≤ 65535 ∧ Hid (bulk 16 R.texts = n + bulk 16 (R.texts.drop j))) (fun _ i => n3 - (intOf i).toNat)
  case atStart => exact ⟨0, 0, Nat.zero_le _, rfl, rfl, Nat.zero_le _, Lib.hid (by simp)⟩
  case round =>
    obtain ⟨j, n, hj, rfl, rfl, hn, hH⟩ := hrel
    by_cases hlt : j < n3
    · have hkl : j < R.texts.length := by rw [HL3.out]; exact hlt
      obtain ⟨ad, rfl, hab, hcell⟩ := HRD3.out.get hkl
      have hd := hH.out
      rw [bulk_drop 16 hkl, if_pos rfl] at hd
      have hsz := mk_size (R.texts.getD j [])
      have hs3 := hS.out.s3 j hkl
      rw [← hsz] at hd hs3
      generalize mk (R.texts.getD j []) = y at *
      by_cases hbig : (65535 : Int) < (n : Int) + (y.size : Int) + 1
      · obtain rfl : f = false := by rw [HF.out, decide_eq_false (by omega)]
        obtain rfl : p = ⟨#[]⟩ := nil_text hp.out
        clear hd hH hkl hsz
        go_wp2_with fail
        go_ret2
        exact ⟨rfl, by have h := HB0.out; rw [← HGW.out] at h; exact h⟩
      · have HD : Hid (bulk 16 R.texts = (n + y.size + 1) + bulk 16 (R.texts.drop (j + 1))) := by show _ = _; omega
        clear hd hH hkl hsz
        go_wp2_with fail
        go_round
        case rel => exact ⟨j + 1, n + y.size + 1, by omega, by go_num, by go_num, by omega, HD⟩
        case measure => simp [intOf]; omega
    · have hd := hH.out
      rw [List.drop_of_length_le (by rw [HL3.out]; omega), bulk_nil, Nat.add_zero] at hd
      obtain rfl : f = true := by rw [HF.out, decide_eq_true (by omega)]
      have hp' : p.data.toList = plainL R := hp.out
      have hpz : p.size ≤ 300000 := by rw [Lib.size_eq, hp']; exact HLEN.out (by omega)
      rw [HPL.out] at hp'
      have HP := Lib.hid hp'
      clear hd hH hp' HF hp
      go_wp2_with fail
      go_loopw [6, 7] (fun u i wr => ∃ (j : Nat) (s : ByteArray), j ≤ n2 ∧ i = .int .i64 j ∧ u = .string s ∧ Hid (s.data.toList ++ (numsL 2 (R.nums.drop j) ++ (R.names.flatten ++ R.texts.flatMap (textL 16))) = p.data.toList) ∧ Below wb.heap.size wb wr) (fun _ i _ => n2 - (intOf i).toNat)
      case atStart => exact ⟨0, _, Nat.zero_le _, rfl, rfl, Lib.hid HP.out.symm, Below.refl _ _⟩
      case round =>
        obtain ⟨j, s, hj, rfl, rfl, hH, hB⟩ := hrel
        have q1 : wr.cell? ⟨g, 1, none⟩ = some (.int .u16 16) := (hB.cell (p := ⟨g, 1, none⟩) hgl).trans d1
        have q4 : wr.cell? ⟨g, 4, none⟩ = some (.slice A1 n1 c1) := (hB.cell (p := ⟨g, 4, none⟩) hgl).trans d4
        have q5 : wr.cell? ⟨g, 5, none⟩ = some (.slice A2 n2 c2) := (hB.cell (p := ⟨g, 5, none⟩) hgl).trans d5
        have q6 : wr.cell? ⟨g, 6, none⟩ = some (.slice A3 n3 c3) := (hB.cell (p := ⟨g, 6, none⟩) hgl).trans d6
        by_cases hlt : j < n2
        · have hkl : j < R.nums.length := by rw [HL2.out]; exact hlt
          obtain ⟨ad, rfl, hab, hcell⟩ := (HRD2.out.on hB hB.size).get hkl
          have hd := hH.out
          rw [numsL_drop 2 hkl, List.append_assoc, ← List.append_assoc] at hd
          have hu := hS.out.u2 j hkl
          have hsz := cat_le hH.out
          generalize R.nums.getD j 0 = y at *
          have hr : s.data.toList ++ beTail y 2 = (mk (s.data.toList ++ beTail y 2)).data.toList := (mk_list _).symm
          rw [hr] at hd
          have HD := Lib.hid hd
          have HRR := Lib.hid hr
          have hs6 : s.size ≤ 1000000 := by omega
          have hy8 : y ≤ 18446744073709551615 := by omega
          clear hd hH hkl hr
          generalize mk (s.data.toList ++ beTail y 2) = r at *
          go_wp2_with fail
          refine (refPut_is s r y 2 _ hs6 (by decide) hy8 HRR).mono ?_
          rintro e w3 ⟨rfl, hB3⟩
          have hBB := hB.trans (hB3.mono hB.size)
          clear hB hB3 q1 q4 q5 q6 hcell
          go_wp2_with fail
          go_roundw
          case rel => exact ⟨j + 1, r, by omega, by go_num, rfl, HD, hBB⟩
          case measure => simp [intOf]; omega
        · have hd := hH.out
          rw [List.drop_of_length_le (by rw [HL2.out]; omega)] at hd
          have HD : Hid (s.data.toList ++ (R.names.flatten ++ R.texts.flatMap (textL 16)) = p.data.toList) := hd
          clear hd hH
          go_wp2_with fail
          go_loopw [6, 8] (fun u i wr => ∃ (j : Nat) (s : ByteArray), j ≤ n1 ∧ i = .int .i64 j ∧ u = .string s ∧ Hid (s.data.toList ++ ((R.names.drop j).flatten ++ (R.texts.flatMap (textL 16))) = p.data.toList) ∧ Below wb.heap.size wb wr) (fun _ i _ => n1 - (intOf i).toNat)
          case atStart => exact ⟨0, _, Nat.zero_le _, rfl, rfl, HD, hB⟩
          case round =>
            obtain ⟨j, s, hj, rfl, rfl, hH, hB⟩ := hrel
            have q1 : wr.cell? ⟨g, 1, none⟩ = some (.int .u16 16) := (hB.cell (p := ⟨g, 1, none⟩) hgl).trans d1
            have q4 : wr.cell? ⟨g, 4, none⟩ = some (.slice A1 n1 c1) := (hB.cell (p := ⟨g, 4, none⟩) hgl).trans d4
            have q5 : wr.cell? ⟨g, 5, none⟩ = some (.slice A2 n2 c2) := (hB.cell (p := ⟨g, 5, none⟩) hgl).trans d5
            have q6 : wr.cell? ⟨g, 6, none⟩ = some (.slice A3 n3 c3) := (hB.cell (p := ⟨g, 6, none⟩) hgl).trans d6
            by_cases hlt : j < n1
            · have hkl : j < R.names.length := by rw [HL1.out]; exact hlt
              obtain ⟨ad, rfl, hab, hcell⟩ := (HRD1.out.on hB hB.size).get hkl
              have hd := hH.out
              rw [flat_drop hkl, List.append_assoc, ← List.append_assoc] at hd
              have hs1 := hS.out.s1 j hkl
              have hsz := cat_le hH.out
              have hml := mk_list (R.names.getD j [])
              rw [← mk_size] at hs1
              rw [← hml] at hd
              generalize mk (R.names.getD j []) = y at *
              rw [← cat_list] at hd
              have HD := Lib.hid hd
              have hs6 : s.size ≤ 1000000 := by omega
              clear hd hH hkl hml
              go_wp2_with fail
              go_roundw
              case rel => exact ⟨j + 1, _, by omega, by go_num, rfl, HD, hB⟩
              case measure => simp [intOf]; omega
            · have hd := hH.out
              rw [List.drop_of_length_le (by rw [HL1.out]; omega)] at hd
              have HD : Hid (s.data.toList ++ (R.texts.flatMap (textL 16)) = p.data.toList) := hd
              clear hd hH
              go_wp2_with fail
              go_loopw [6, 9] (fun u i wr => ∃ s : ByteArray, i = .int .i64 0 ∧ u = .string s ∧ Hid (s.data.toList ++ (R.texts.flatMap (textL 16)) = p.data.toList) ∧ Below wb.heap.size wb wr) (fun _ _ _ => 0)
              case atStart => exact ⟨_, rfl, rfl, HD, hB⟩
              case round =>
                obtain ⟨s, rfl, rfl, hH, hB⟩ := hrel
                have q1 : wr.cell? ⟨g, 1, none⟩ = some (.int .u16 16) := (hB.cell (p := ⟨g, 1, none⟩) hgl).trans d1
                have q4 : wr.cell? ⟨g, 4, none⟩ = some (.slice A1 n1 c1) := (hB.cell (p := ⟨g, 4, none⟩) hgl).trans d4
                have q5 : wr.cell? ⟨g, 5, none⟩ = some (.slice A2 n2 c2) := (hB.cell (p := ⟨g, 5, none⟩) hgl).trans d5
                have q6 : wr.cell? ⟨g, 6, none⟩ = some (.slice A3 n3 c3) := (hB.cell (p := ⟨g, 6, none⟩) hgl).trans d6
                have HD := hH
                clear hH
                have hz : (0 : Int) < n2 ∨ (n2 : Int) ≤ 0 := by omega
                rcases hz with hz | hz
                all_goals
                  go_wp2_with fail
                  go_loopw [6, 10] (fun u i wr => ∃ (j : Nat) (s : ByteArray), j ≤ n3 ∧ i = .int .i64 j ∧ u = .string s ∧ Hid (s.data.toList ++ ((R.texts.drop j).flatMap (textL 16)) = p.data.toList) ∧ Below wb.heap.size wb wr) (fun _ i _ => n3 - (intOf i).toNat)
                  case atStart => exact ⟨0, _, Nat.zero_le _, rfl, rfl, HD, hB⟩
                  case round =>
                    obtain ⟨j, s, hj, rfl, rfl, hH, hB⟩ := hrel
                    have q1 : wr.cell? ⟨g, 1, none⟩ = some (.int .u16 16) := (hB.cell (p := ⟨g, 1, none⟩) hgl).trans d1
                    have q4 : wr.cell? ⟨g, 4, none⟩ = some (.slice A1 n1 c1) := (hB.cell (p := ⟨g, 4, none⟩) hgl).trans d4
                    have q5 : wr.cell? ⟨g, 5, none⟩ = some (.slice A2 n2 c2) := (hB.cell (p := ⟨g, 5, none⟩) hgl).trans d5
                    have q6 : wr.cell? ⟨g, 6, none⟩ = some (.slice A3 n3 c3) := (hB.cell (p := ⟨g, 6, none⟩) hgl).trans d6
                    by_cases hlt : j < n3
                    · have hkl : j < R.texts.length := by rw [HL3.out]; exact hlt
                      obtain ⟨ad, rfl, hab, hcell0⟩ := (HRD3.out.on hB hB.size).get hkl
                      have hd := hH.out
                      rw [textL_drop 16 hkl, textL_16] at hd
                      have hs1 := any_short HTX.out j hkl
                      have hsz := cat_le hH.out
                      have hml := mk_list (R.texts.getD j [])
                      have hlq := mk_size (R.texts.getD j [])
                      have hof := ofNat_mod (R.texts.getD j []).length
                      have hd2 : (s ++ mk [UInt8.ofNat (R.texts.getD j []).length] ++ mk (R.texts.getD j [])).data.toList ++ (R.texts.drop (j + 1)).flatMap (textL 16) = p.data.toList := by
                        rw [cat_list, cat_list, mk_list, mk_list, ← hd]
                        simp
                      have hc2 : (convert 48 9 (.slice (some ⟨wr.heap.size, 0, none⟩) 1 1)).run Try.prog (wr.alloc (.cells #[.int .u8 ((mk (R.texts.getD j [])).size : Int)] 5)) = .ok (.string (mk [UInt8.ofNat (R.texts.getD j []).length])) (wr.alloc (.cells #[.int .u8 ((mk (R.texts.getD j [])).size : Int)] 5)) := conv_new wr [UInt8.ofNat (R.texts.getD j []).length] _ 1 (by
                        rw [hlq, byteCells_one, hof]
                        refine congrArg (fun z => [Value.int .u8 z]) ?_
                        omega) rfl
                      have hq1 : (mk [UInt8.ofNat (R.texts.getD j []).length]).size ≤ 1 := Nat.le_of_eq (mk_size _)
                      have hlt2 : ad.block < wr.heap.size := hab
                      have hcell2 : (wr.alloc (.cells #[.int .u8 ((mk (R.texts.getD j [])).size : Int)] 5)).cell? (ad.add j) = some (.string (mk (R.texts.getD j []))) := (World.cell?_alloc_lt _ _ _ (by rw [add_block]; exact hlt2)).trans hcell0
                      have hgr : g < wr.heap.size := Nat.lt_of_lt_of_le hgl hB.size
                      have q6a : (wr.alloc (.cells #[.int .u8 ((mk (R.texts.getD j [])).size : Int)] 5)).cell? ⟨g, 6, none⟩ = some (.slice (some ad) n3 c3) := (World.cell?_alloc_lt _ _ _ hgr).trans q6
                      have hcell := hcell0
                      have hy255 : (mk (R.texts.getD j [])).size ≤ 255 := by rw [hlq]; exact hs1
                      have hwl := hB.size
                      generalize UInt8.ofNat (R.texts.getD j []).length = c at *
                      generalize mk [c] = q at *
                      generalize mk (R.texts.getD j []) = y at *
                      have HD := Lib.hid hd2
                      have hs6 : s.size ≤ 1000000 := by omega
                      have hs7 : (s ++ q).size ≤ 1000001 := by rw [ByteArray.size_append]; omega
                      have hBB := Lib.hid (hB.alloc hwl (.cells #[.int .u8 (y.size : Int)] 5))
                      clear hd hd2 hH hkl hml hlq hof hcell0 hs1
                      go_wp2_with fail
                      go_roundw
                      case rel => exact ⟨j + 1, _, by omega, by go_num, rfl, HD, hBB.out⟩
                      case measure => simp [intOf]; omega
                    · have hd := hH.out
                      rw [List.drop_of_length_le (by rw [HL3.out]; omega), List.flatMap_nil, List.append_nil] at hd
                      have HE := Lib.hid (list_inj hd)
                      clear hd hH
                      go_wp2_with fail
                      go_ret2
                      exact ⟨by rw [HE.out]; rfl, by have h := HB0.out; rw [← HGW.out] at h; exact h.trans (hB.mono h.size)⟩

set_option maxHeartbeats 8000000 in
set_option maxRecDepth 100000 in
theorem refPlain_other (R : Rec) (x : ByteArray) (k l t : Nat) (A1 : Option Addr) (n1 c1 : Nat) (A2 : Option Addr) (n2 c2 : Nat) (A3 : Option Addr) (n3 c3 : Nat) (f : Bool) (p : ByteArray) (w : World) (hR : Hid (RecAt w w.heap.size R x k l t A1 n1 A2 n2 A3 n3)) (hS : Hid (Small R)) (h16 : k ≠ 16) (h6 : k ≠ 6) (hc : Hid (shapedB R = true)) (hf : Hid (fitsB R = f)) (hp : Hid (p.data.toList = if f = true then plainL R else [])) :
    Calls Try.prog 29 #[.agg #[.string x, .int .u16 k, .int .u16 l, .int .u32 t, .slice A1 n1 c1, .slice A2 n2 c2, .slice A3 n3 c3]] w fun e w' => e = .returned (.tuple #[.string p, .bool f]) ∧ Below w.heap.size w w' := by
  have g16 : ((k : Int) == 16) = false := int_ne h16
  have g6 : ((k : Int) != 6) = true := int_nne h6
  have g6e : ((k : Int) == 6) = false := int_ne h6
  have hm1 := hR.out.m1 hS.out
  have hm2 := hR.out.m2 hS.out
  have hm3 := hR.out.m3 hS.out
  have hkd := hR.out.kind
  have HR2 := Lib.hid (hR.out.box (.cells #[.string x, .int .u16 k, .int .u16 l, .int .u32 t, .slice A1 n1 c1, .slice A2 n2 c2, .slice A3 n3 c3] 47))
  have HB0 : Hid (Below w.heap.size w (w.alloc (.cells #[.string x, .int .u16 k, .int .u16 l, .int .u32 t, .slice A1 n1 c1, .slice A2 n2 c2, .slice A3 n3 c3] 47))) := (Below.refl _ _).alloc (Nat.le_refl _) _
  have d1 : (w.alloc (.cells #[.string x, .int .u16 k, .int .u16 l, .int .u32 t, .slice A1 n1 c1, .slice A2 n2 c2, .slice A3 n3 c3] 47)).cell? ⟨w.heap.size, 1, none⟩ = some (.int .u16 k) := by simp
  have d4 : (w.alloc (.cells #[.string x, .int .u16 k, .int .u16 l, .int .u32 t, .slice A1 n1 c1, .slice A2 n2 c2, .slice A3 n3 c3] 47)).cell? ⟨w.heap.size, 4, none⟩ = some (.slice A1 n1 c1) := by simp
  have d5 : (w.alloc (.cells #[.string x, .int .u16 k, .int .u16 l, .int .u32 t, .slice A1 n1 c1, .slice A2 n2 c2, .slice A3 n3 c3] 47)).cell? ⟨w.heap.size, 5, none⟩ = some (.slice A2 n2 c2) := by simp
  have d6 : (w.alloc (.cells #[.string x, .int .u16 k, .int .u16 l, .int .u32 t, .slice A1 n1 c1, .slice A2 n2 c2, .slice A3 n3 c3] 47)).cell? ⟨w.heap.size, 6, none⟩ = some (.slice A3 n3 c3) := by simp
  have hgl : w.heap.size < (w.alloc (.cells #[.string x, .int .u16 k, .int .u16 l, .int .u32 t, .slice A1 n1 c1, .slice A2 n2 c2, .slice A3 n3 c3] 47)).heap.size := by simp
  have HL1 := Lib.hid HR2.out.len1
  have HL2 := Lib.hid HR2.out.len2
  have HL3 := Lib.hid HR2.out.len3
  have HRD1 := Lib.hid HR2.out.rd1
  have HRD2 := Lib.hid HR2.out.rd2
  have HRD3 := Lib.hid HR2.out.rd3
  have hsp := hc.out
  unfold shapedB at hsp
  rw [hkd, Bool.and_eq_true, Bool.and_eq_true] at hsp
  have hcnt := hsp.1.1
  have htx : R.texts.any (badText k) = false := by simpa using hsp.2
  have HTX := Lib.hid htx
  have hfd : f = decide (bulk k R.texts ≤ 65535) := by rw [← hf.out]; unfold fitsB; rw [hkd]
  have HF := Lib.hid hfd
  have hlen : bulk k R.texts ≤ 65535 → (plainL R).length ≤ 300000 := fun h => plain_len hcnt (by rw [hkd]; exact h) hS.out.s1
  have HLEN := Lib.hid hlen
  have hpl : plainL R = numsL 2 R.nums ++ (R.names.flatten ++ R.texts.flatMap (textL k)) := by rw [plainL_not (by rw [hkd]; exact h6), hkd]
  have HPL := Lib.hid hpl
  clear hsp hcnt htx hfd hlen hpl hc hf hR HR2 hkd
  go_enter Try.func29, Try.ntmps29
  go_wp2_with fail
  generalize w.alloc (.cells #[.string x, .int .u16 k, .int .u16 l, .int .u32 t, .slice A1 n1 c1, .slice A2 n2 c2, .slice A3 n3 c3] 47) = wb at *
  generalize hgw : w.heap.size = g at *
  have HGW := Lib.hid hgw
  clear hgw
  go_loop [4, 5] (fun u i => ∃ (j n : Nat), j ≤ n3 ∧ i = .int .i64 j ∧ u = .int .i64 n ∧ n ≤ 65535 ∧ Hid (bulk k R.texts = n + bulk k (R.texts.drop j))) (fun _ i => n3 - (intOf i).toNat)
  case atStart => exact ⟨0, 0, Nat.zero_le _, rfl, rfl, Nat.zero_le _, Lib.hid (by simp)⟩
  case round =>
    obtain ⟨j, n, hj, rfl, rfl, hn, hH⟩ := hrel
    by_cases hlt : j < n3
    · have hkl : j < R.texts.length := by rw [HL3.out]; exact hlt
      obtain ⟨ad, rfl, hab, hcell⟩ := HRD3.out.get hkl
      have hd := hH.out
      rw [bulk_drop k hkl, if_neg h16] at hd
      have hsz := mk_size (R.texts.getD j [])
      have hs3 := hS.out.s3 j hkl
      rw [← hsz] at hd hs3
      generalize mk (R.texts.getD j []) = y at *
      by_cases hbig : (65535 : Int) < (n : Int) + (y.size : Int)
      · obtain rfl : f = false := by rw [HF.out, decide_eq_false (by omega)]
        obtain rfl : p = ⟨#[]⟩ := nil_text hp.out
        clear hd hH hkl hsz
        go_wp2_with fail
        go_ret2
        exact ⟨rfl, by have h := HB0.out; rw [← HGW.out] at h; exact h⟩
      · have HD : Hid (bulk k R.texts = (n + y.size) + bulk k (R.texts.drop (j + 1))) := by show _ = _; omega
        clear hd hH hkl hsz
        go_wp2_with fail
        go_round
        case rel => exact ⟨j + 1, n + y.size, by omega, by go_num, by go_num, by omega, HD⟩
        case measure => simp [intOf]; omega
    · have hd := hH.out
      rw [List.drop_of_length_le (by rw [HL3.out]; omega), bulk_nil, Nat.add_zero] at hd
      obtain rfl : f = true := by rw [HF.out, decide_eq_true (by omega)]
      have hp' : p.data.toList = plainL R := hp.out
      have hpz : p.size ≤ 300000 := by rw [Lib.size_eq, hp']; exact HLEN.out (by omega)
      rw [HPL.out] at hp'
      have HP := Lib.hid hp'
      clear hd hH hp' HF hp
      go_wp2_with fail
      go_loopw [6, 7] (fun u i wr => ∃ (j : Nat) (s : ByteArray), j ≤ n2 ∧ i = .int .i64 j ∧ u = .string s ∧ Hid (s.data.toList ++ (numsL 2 (R.nums.drop j) ++ (R.names.flatten ++ R.texts.flatMap (textL k))) = p.data.toList) ∧ Below wb.heap.size wb wr) (fun _ i _ => n2 - (intOf i).toNat)
      case atStart => exact ⟨0, _, Nat.zero_le _, rfl, rfl, Lib.hid HP.out.symm, Below.refl _ _⟩
      case round =>
        obtain ⟨j, s, hj, rfl, rfl, hH, hB⟩ := hrel
        have q1 : wr.cell? ⟨g, 1, none⟩ = some (.int .u16 k) := (hB.cell (p := ⟨g, 1, none⟩) hgl).trans d1
        have q4 : wr.cell? ⟨g, 4, none⟩ = some (.slice A1 n1 c1) := (hB.cell (p := ⟨g, 4, none⟩) hgl).trans d4
        have q5 : wr.cell? ⟨g, 5, none⟩ = some (.slice A2 n2 c2) := (hB.cell (p := ⟨g, 5, none⟩) hgl).trans d5
        have q6 : wr.cell? ⟨g, 6, none⟩ = some (.slice A3 n3 c3) := (hB.cell (p := ⟨g, 6, none⟩) hgl).trans d6
        by_cases hlt : j < n2
        · have hkl : j < R.nums.length := by rw [HL2.out]; exact hlt
          obtain ⟨ad, rfl, hab, hcell⟩ := (HRD2.out.on hB hB.size).get hkl
          have hd := hH.out
          rw [numsL_drop 2 hkl, List.append_assoc, ← List.append_assoc] at hd
          have hu := hS.out.u2 j hkl
          have hsz := cat_le hH.out
          generalize R.nums.getD j 0 = y at *
          have hr : s.data.toList ++ beTail y 2 = (mk (s.data.toList ++ beTail y 2)).data.toList := (mk_list _).symm
          rw [hr] at hd
          have HD := Lib.hid hd
          have HRR := Lib.hid hr
          have hs6 : s.size ≤ 1000000 := by omega
          have hy8 : y ≤ 18446744073709551615 := by omega
          clear hd hH hkl hr
          generalize mk (s.data.toList ++ beTail y 2) = r at *
          go_wp2_with fail
          refine (refPut_is s r y 2 _ hs6 (by decide) hy8 HRR).mono ?_
          rintro e w3 ⟨rfl, hB3⟩
          have hBB := hB.trans (hB3.mono hB.size)
          clear hB hB3 q1 q4 q5 q6 hcell
          go_wp2_with fail
          go_roundw
          case rel => exact ⟨j + 1, r, by omega, by go_num, rfl, HD, hBB⟩
          case measure => simp [intOf]; omega
        · have hd := hH.out
          rw [List.drop_of_length_le (by rw [HL2.out]; omega)] at hd
          have HD : Hid (s.data.toList ++ (R.names.flatten ++ R.texts.flatMap (textL k)) = p.data.toList) := hd
          clear hd hH
          go_wp2_with fail
          go_loopw [6, 8] (fun u i wr => ∃ (j : Nat) (s : ByteArray), j ≤ n1 ∧ i = .int .i64 j ∧ u = .string s ∧ Hid (s.data.toList ++ ((R.names.drop j).flatten ++ (R.texts.flatMap (textL k))) = p.data.toList) ∧ Below wb.heap.size wb wr) (fun _ i _ => n1 - (intOf i).toNat)
          case atStart => exact ⟨0, _, Nat.zero_le _, rfl, rfl, HD, hB⟩
          case round =>
            obtain ⟨j, s, hj, rfl, rfl, hH, hB⟩ := hrel
            have q1 : wr.cell? ⟨g, 1, none⟩ = some (.int .u16 k) := (hB.cell (p := ⟨g, 1, none⟩) hgl).trans d1
            have q4 : wr.cell? ⟨g, 4, none⟩ = some (.slice A1 n1 c1) := (hB.cell (p := ⟨g, 4, none⟩) hgl).trans d4
            have q5 : wr.cell? ⟨g, 5, none⟩ = some (.slice A2 n2 c2) := (hB.cell (p := ⟨g, 5, none⟩) hgl).trans d5
            have q6 : wr.cell? ⟨g, 6, none⟩ = some (.slice A3 n3 c3) := (hB.cell (p := ⟨g, 6, none⟩) hgl).trans d6
            by_cases hlt : j < n1
            · have hkl : j < R.names.length := by rw [HL1.out]; exact hlt
              obtain ⟨ad, rfl, hab, hcell⟩ := (HRD1.out.on hB hB.size).get hkl
              have hd := hH.out
              rw [flat_drop hkl, List.append_assoc, ← List.append_assoc] at hd
              have hs1 := hS.out.s1 j hkl
              have hsz := cat_le hH.out
              have hml := mk_list (R.names.getD j [])
              rw [← mk_size] at hs1
              rw [← hml] at hd
              generalize mk (R.names.getD j []) = y at *
              rw [← cat_list] at hd
              have HD := Lib.hid hd
              have hs6 : s.size ≤ 1000000 := by omega
              clear hd hH hkl hml
              go_wp2_with fail
              go_roundw
              case rel => exact ⟨j + 1, _, by omega, by go_num, rfl, HD, hB⟩
              case measure => simp [intOf]; omega
            · have hd := hH.out
              rw [List.drop_of_length_le (by rw [HL1.out]; omega)] at hd
              have HD : Hid (s.data.toList ++ (R.texts.flatMap (textL k)) = p.data.toList) := hd
              clear hd hH
              go_wp2_with fail
              go_loopw [6, 9] (fun u i wr => ∃ s : ByteArray, i = .int .i64 0 ∧ u = .string s ∧ Hid (s.data.toList ++ (R.texts.flatMap (textL k)) = p.data.toList) ∧ Below wb.heap.size wb wr) (fun _ _ _ => 0)
              case atStart => exact ⟨_, rfl, rfl, HD, hB⟩
              case round =>
                obtain ⟨s, rfl, rfl, hH, hB⟩ := hrel
                have q1 : wr.cell? ⟨g, 1, none⟩ = some (.int .u16 k) := (hB.cell (p := ⟨g, 1, none⟩) hgl).trans d1
                have q4 : wr.cell? ⟨g, 4, none⟩ = some (.slice A1 n1 c1) := (hB.cell (p := ⟨g, 4, none⟩) hgl).trans d4
                have q5 : wr.cell? ⟨g, 5, none⟩ = some (.slice A2 n2 c2) := (hB.cell (p := ⟨g, 5, none⟩) hgl).trans d5
                have q6 : wr.cell? ⟨g, 6, none⟩ = some (.slice A3 n3 c3) := (hB.cell (p := ⟨g, 6, none⟩) hgl).trans d6
                have HD := hH
                clear hH
                have hz : (0 : Int) < n2 ∨ (n2 : Int) ≤ 0 := by omega
                rcases hz with hz | hz
                all_goals
                  go_wp2_with fail
                  go_loopw [6, 10] (fun u i wr => ∃ (j : Nat) (s : ByteArray), j ≤ n3 ∧ i = .int .i64 j ∧ u = .string s ∧ Hid (s.data.toList ++ ((R.texts.drop j).flatMap (textL k)) = p.data.toList) ∧ Below wb.heap.size wb wr) (fun _ i _ => n3 - (intOf i).toNat)
                  case atStart => exact ⟨0, _, Nat.zero_le _, rfl, rfl, HD, hB⟩
                  case round =>
                    obtain ⟨j, s, hj, rfl, rfl, hH, hB⟩ := hrel
                    have q1 : wr.cell? ⟨g, 1, none⟩ = some (.int .u16 k) := (hB.cell (p := ⟨g, 1, none⟩) hgl).trans d1
                    have q4 : wr.cell? ⟨g, 4, none⟩ = some (.slice A1 n1 c1) := (hB.cell (p := ⟨g, 4, none⟩) hgl).trans d4
                    have q5 : wr.cell? ⟨g, 5, none⟩ = some (.slice A2 n2 c2) := (hB.cell (p := ⟨g, 5, none⟩) hgl).trans d5
                    have q6 : wr.cell? ⟨g, 6, none⟩ = some (.slice A3 n3 c3) := (hB.cell (p := ⟨g, 6, none⟩) hgl).trans d6
                    by_cases hlt : j < n3
                    · have hkl : j < R.texts.length := by rw [HL3.out]; exact hlt
                      obtain ⟨ad, rfl, hab, hcell⟩ := (HRD3.out.on hB hB.size).get hkl
                      have hd := hH.out
                      rw [textL_drop k hkl, textL_not h16, ← List.append_assoc] at hd
                      have hs1 := hS.out.s3 j hkl
                      have hsz := cat_le hH.out
                      have hml := mk_list (R.texts.getD j [])
                      rw [← mk_size] at hs1
                      rw [← hml] at hd
                      generalize mk (R.texts.getD j []) = y at *
                      rw [← cat_list] at hd
                      have HD := Lib.hid hd
                      have hs6 : s.size ≤ 1000000 := by omega
                      clear hd hH hkl hml
                      go_wp2_with fail
                      go_roundw
                      case rel => exact ⟨j + 1, _, by omega, by go_num, rfl, HD, hB⟩
                      case measure => simp [intOf]; omega
                    · have hd := hH.out
                      rw [List.drop_of_length_le (by rw [HL3.out]; omega), List.flatMap_nil, List.append_nil] at hd
                      have HE := Lib.hid (list_inj hd)
                      clear hd hH
                      go_wp2_with fail
                      go_ret2
                      exact ⟨by rw [HE.out]; rfl, by have h := HB0.out; rw [← HGW.out] at h; exact h.trans (hB.mono h.size)⟩

theorem refPlain_is (R : Rec) (x : ByteArray) (k l t : Nat) (A1 : Option Addr) (n1 c1 : Nat) (A2 : Option Addr) (n2 c2 : Nat) (A3 : Option Addr) (n3 c3 : Nat) (f : Bool) (p : ByteArray) (w : World) (hR : Hid (RecAt w w.heap.size R x k l t A1 n1 A2 n2 A3 n3)) (hS : Hid (Small R)) (hc : Hid (shapedB R = true)) (hf : Hid (fitsB R = f)) (hp : Hid (p.data.toList = if f = true then plainL R else [])) :
    Calls Try.prog 29 #[.agg #[.string x, .int .u16 k, .int .u16 l, .int .u32 t, .slice A1 n1 c1, .slice A2 n2 c2, .slice A3 n3 c3]] w fun e w' => e = .returned (.tuple #[.string p, .bool f]) ∧ Below w.heap.size w w' := by
  by_cases h16 : k = 16
  · exact refPlain_16 R x k l t A1 n1 c1 A2 n2 c2 A3 n3 c3 f p w hR hS h16 hc hf hp
  by_cases h6 : k = 6
  · exact refPlain_6 R x k l t A1 n1 c1 A2 n2 c2 A3 n3 c3 f p w hR hS h6 hc hf hp
  · exact refPlain_other R x k l t A1 n1 c1 A2 n2 c2 A3 n3 c3 f p w hR hS h16 h6 hc hf hp
end Go.Proofs.Ytngbifdenbfepaa

/- The contracts of the document's Check and Plain. For records of at most 10^5 texts of at most 10^5 bytes. -/
namespace Go.Proofs.Ytngbifdenbfepaa
open Go.RowKit Bytes Strs Nums NameMath RecMath

theorem not_badName {s : ByteArray} {q : Bool} (h : badName s.data.toList = q) : isN s.data.toList = !q := by
  rw [← h]
  unfold badName
  cases isN s.data.toList <;> rfl
theorem badName_mk {l : List UInt8} {q : Bool} (h : badName l = q) : isN (mk l).data.toList = !q := not_badName (by rw [mk_list]; exact h)

set_option maxHeartbeats 8000000 in
set_option maxRecDepth 100000 in
theorem refCheck_is (R : Rec) (x : ByteArray) (k l t : Nat) (A1 : Option Addr) (n1 c1 : Nat) (A2 : Option Addr) (n2 c2 : Nat) (A3 : Option Addr) (n3 c3 : Nat) (E : Nat) (w : World) (hR : Hid (RecAt w w.heap.size R x k l t A1 n1 A2 n2 A3 n3)) (hS : Hid (Small R)) (hE : Hid (checkE R = E)) :
    Calls Try.prog 15 #[.agg #[.string x, .int .u16 k, .int .u16 l, .int .u32 t, .slice A1 n1 c1, .slice A2 n2 c2, .slice A3 n3 c3]] w fun e w' => e = .returned (.int .i64 E) ∧ Below w.heap.size w w' := by
  have hm1 := hR.out.m1 hS.out
  have hx := hR.out.size hS.out
  have hx6 : x.size ≤ 1000000 := by omega
  have hm6 : n1 ≤ 1000000 := by omega
  have HR2 := Lib.hid (hR.out.box (.cells #[.string x, .int .u16 k, .int .u16 l, .int .u32 t, .slice A1 n1 c1, .slice A2 n2 c2, .slice A3 n3 c3] 47))
  have HB0 : Hid (Below w.heap.size w (w.alloc (.cells #[.string x, .int .u16 k, .int .u16 l, .int .u32 t, .slice A1 n1 c1, .slice A2 n2 c2, .slice A3 n3 c3] 47))) := (Below.refl _ _).alloc (Nat.le_refl _) _
  have hgl : w.heap.size < (w.alloc (.cells #[.string x, .int .u16 k, .int .u16 l, .int .u32 t, .slice A1 n1 c1, .slice A2 n2 c2, .slice A3 n3 c3] 47)).heap.size := by simp
  have d0 : (w.alloc (.cells #[.string x, .int .u16 k, .int .u16 l, .int .u32 t, .slice A1 n1 c1, .slice A2 n2 c2, .slice A3 n3 c3] 47)).cell? ⟨w.heap.size, 0, none⟩ = some (.string x) := by simp
  have d1 : (w.alloc (.cells #[.string x, .int .u16 k, .int .u16 l, .int .u32 t, .slice A1 n1 c1, .slice A2 n2 c2, .slice A3 n3 c3] 47)).cell? ⟨w.heap.size, 1, none⟩ = some (.int .u16 k) := by simp
  have d2 : (w.alloc (.cells #[.string x, .int .u16 k, .int .u16 l, .int .u32 t, .slice A1 n1 c1, .slice A2 n2 c2, .slice A3 n3 c3] 47)).cell? ⟨w.heap.size, 2, none⟩ = some (.int .u16 l) := by simp
  have d3 : (w.alloc (.cells #[.string x, .int .u16 k, .int .u16 l, .int .u32 t, .slice A1 n1 c1, .slice A2 n2 c2, .slice A3 n3 c3] 47)).cell? ⟨w.heap.size, 3, none⟩ = some (.int .u32 t) := by simp
  have d4 : (w.alloc (.cells #[.string x, .int .u16 k, .int .u16 l, .int .u32 t, .slice A1 n1 c1, .slice A2 n2 c2, .slice A3 n3 c3] 47)).cell? ⟨w.heap.size, 4, none⟩ = some (.slice A1 n1 c1) := by simp
  have d5 : (w.alloc (.cells #[.string x, .int .u16 k, .int .u16 l, .int .u32 t, .slice A1 n1 c1, .slice A2 n2 c2, .slice A3 n3 c3] 47)).cell? ⟨w.heap.size, 5, none⟩ = some (.slice A2 n2 c2) := by simp
  have d6 : (w.alloc (.cells #[.string x, .int .u16 k, .int .u16 l, .int .u32 t, .slice A1 n1 c1, .slice A2 n2 c2, .slice A3 n3 c3] 47)).cell? ⟨w.heap.size, 6, none⟩ = some (.slice A3 n3 c3) := by simp
  obtain ⟨z1, hz1⟩ : ∃ z, badName x.data.toList = z := ⟨_, rfl⟩
  obtain ⟨z2, hz2⟩ : ∃ z, R.names.any badName = z := ⟨_, rfl⟩
  have hn : namesB R = (!z1 && !z2) := by unfold namesB; rw [← hR.out.name, hz1, hz2]
  have HN := Lib.hid hn
  have HI := Lib.hid (not_badName hz1)
  have HZ2 := Lib.hid hz2
  have HL1 := Lib.hid HR2.out.len1
  have hlate : lateB R = decide (2147483647 < t ∧ k ≠ 41) := by unfold lateB; rw [hR.out.ttl, hR.out.kind]
  have HLT := Lib.hid hlate
  clear hn hz1 hz2 hlate hR
  go_enter Try.func15, Try.ntmps15
  go_wp2_with fail
  generalize w.alloc (.cells #[.string x, .int .u16 k, .int .u16 l, .int .u32 t, .slice A1 n1 c1, .slice A2 n2 c2, .slice A3 n3 c3] 47) = wb at *
  generalize hgw : w.heap.size = g at *
  have HGW := Lib.hid hgw
  clear hgw
  refine (refIs_is x (!z1) _ hx6 HI).mono ?_
  rintro e w1 ⟨rfl, hB1⟩
  cases z1 with
  | true =>
    obtain rfl : 40 = E := by rw [← hE.out, checkE_40 (by rw [HN.out]; rfl)]
    clear hE HN
    go_wp2_with fail
    go_ret
    exact ⟨rfl, by have h := HB0.out; rw [← HGW.out] at h; exact h.trans (hB1.mono h.size)⟩
  | false =>
    go_wp2_with fail
    go_loopw [3] (fun i wr => ∃ j : Nat, j ≤ n1 ∧ i = .int .i64 j ∧ Hid ((R.names.drop j).any badName = z2) ∧ Below wb.heap.size wb wr) (fun i _ => n1 - (intOf i).toNat)
    case atStart => exact ⟨0, Nat.zero_le _, rfl, HZ2, hB1⟩
    case round =>
      obtain ⟨j, hj, rfl, hH, hB⟩ := hrel
      have q0 : wr.cell? ⟨g, 0, none⟩ = some (.string x) := (hB.cell (p := ⟨g, 0, none⟩) hgl).trans d0
      have q1 : wr.cell? ⟨g, 1, none⟩ = some (.int .u16 k) := (hB.cell (p := ⟨g, 1, none⟩) hgl).trans d1
      have q2 : wr.cell? ⟨g, 2, none⟩ = some (.int .u16 l) := (hB.cell (p := ⟨g, 2, none⟩) hgl).trans d2
      have q3 : wr.cell? ⟨g, 3, none⟩ = some (.int .u32 t) := (hB.cell (p := ⟨g, 3, none⟩) hgl).trans d3
      have q4 : wr.cell? ⟨g, 4, none⟩ = some (.slice A1 n1 c1) := (hB.cell (p := ⟨g, 4, none⟩) hgl).trans d4
      have q5 : wr.cell? ⟨g, 5, none⟩ = some (.slice A2 n2 c2) := (hB.cell (p := ⟨g, 5, none⟩) hgl).trans d5
      have q6 : wr.cell? ⟨g, 6, none⟩ = some (.slice A3 n3 c3) := (hB.cell (p := ⟨g, 6, none⟩) hgl).trans d6
      by_cases hlt : j < n1
      · have hkl : j < R.names.length := by rw [HL1.out]; exact hlt
        obtain ⟨ad, rfl, hab, hcell⟩ := (HR2.out.rd1.on hB hB.size).get hkl
        have hd := hH.out
        rw [lab_drop hkl, List.any_cons] at hd
        obtain ⟨z, hz⟩ : ∃ z, badName (R.names.getD j []) = z := ⟨_, rfl⟩
        have HZ := Lib.hid (badName_mk hz)
        have hs1 := hS.out.s1 j hkl
        rw [← mk_size] at hs1
        rw [hz] at hd
        have HD := Lib.hid hd
        have hy6 : (mk (R.names.getD j [])).size ≤ 1000000 := by omega
        clear hd hz hH hkl hs1
        generalize mk (R.names.getD j []) = y at *
        go_wp2_with fail
        refine (refIs_is y (!z) _ hy6 HZ).mono ?_
        rintro e w3 ⟨rfl, hB3⟩
        have hBB := hB.trans (hB3.mono hB.size)
        clear hB hB3 q0 q1 q2 q3 q4 q5 q6 hcell
        cases z with
        | true =>
          have hzz := HD.out
          rw [Bool.true_or] at hzz
          subst hzz
          obtain rfl : 40 = E := by rw [← hE.out, checkE_40 (by rw [HN.out]; rfl)]
          clear hE HN HD HZ2
          go_wp2_with fail
          go_ret
          exact ⟨rfl, by have h := HB0.out; rw [← HGW.out] at h; exact h.trans (hBB.mono h.size)⟩
        | false =>
          rw [Bool.false_or] at HD
          go_wp2_with fail
          go_roundw
          case rel => exact ⟨j + 1, by omega, by go_num, HD, hBB⟩
          case measure => simp [intOf]; omega
      · have hd := hH.out
        rw [List.drop_of_length_le (by rw [HL1.out]; omega)] at hd
        obtain rfl : z2 = false := by rw [← hd]; rfl
        have hn : namesB R = true := HN.out
        obtain ⟨q, hq⟩ : ∃ q, shapedB R = q := ⟨_, rfl⟩
        obtain ⟨f, hf⟩ : ∃ f, fitsB R = f := ⟨_, rfl⟩
        have he : E = if (q && f) = false then 50 else if decide (2147483647 < t ∧ k ≠ 41) = true then 1 else 0 := by
          rw [← hE.out, ← HLT.out, ← hq, ← hf]
          unfold checkE
          rw [if_neg (by rw [hn]; decide)]
          rfl
        have HE := Lib.hid he
        have HQ := Lib.hid hq
        have HF := Lib.hid hf
        have HRw := Lib.hid (HR2.out.on hB hB.size)
        clear hd hH hn hq hf he hE HN HZ2
        go_wp2_with fail
        refine (refShaped_is R x k l t A1 n1 c1 A2 n2 c2 A3 n3 c3 q _ HRw hS HQ).mono ?_
        rintro e w4 ⟨rfl, hB4⟩
        have hBB := hB.trans (hB4.mono hB.size)
        clear hB hB4 q0 q1 q2 q3 q4 q5 q6 HRw
        cases q with
        | false =>
          obtain rfl : E = 50 := HE.out
          clear HE
          go_wp2_with fail
          go_ret
          exact ⟨rfl, by have h := HB0.out; rw [← HGW.out] at h; exact h.trans (hBB.mono h.size)⟩
        | true =>
          have q0 : w4.cell? ⟨g, 0, none⟩ = some (.string x) := (hBB.cell (p := ⟨g, 0, none⟩) hgl).trans d0
          have q1 : w4.cell? ⟨g, 1, none⟩ = some (.int .u16 k) := (hBB.cell (p := ⟨g, 1, none⟩) hgl).trans d1
          have q2 : w4.cell? ⟨g, 2, none⟩ = some (.int .u16 l) := (hBB.cell (p := ⟨g, 2, none⟩) hgl).trans d2
          have q3 : w4.cell? ⟨g, 3, none⟩ = some (.int .u32 t) := (hBB.cell (p := ⟨g, 3, none⟩) hgl).trans d3
          have q4 : w4.cell? ⟨g, 4, none⟩ = some (.slice A1 n1 c1) := (hBB.cell (p := ⟨g, 4, none⟩) hgl).trans d4
          have q5 : w4.cell? ⟨g, 5, none⟩ = some (.slice A2 n2 c2) := (hBB.cell (p := ⟨g, 5, none⟩) hgl).trans d5
          have q6 : w4.cell? ⟨g, 6, none⟩ = some (.slice A3 n3 c3) := (hBB.cell (p := ⟨g, 6, none⟩) hgl).trans d6
          have HRw := Lib.hid (HR2.out.on hBB hBB.size)
          have HP : Hid ((mk (if f = true then plainL R else [])).data.toList = if f = true then plainL R else []) := mk_list _
          generalize mk (if f = true then plainL R else []) = p at *
          go_wp2_with fail
          refine (refPlain_is R x k l t A1 n1 c1 A2 n2 c2 A3 n3 c3 f p _ HRw hS HQ HF HP).mono ?_
          rintro e w5 ⟨rfl, hB5⟩
          have hB6 := hBB.trans (hB5.mono hBB.size)
          clear hBB hB5 q0 q1 q2 q3 q4 q5 q6 HRw HP
          cases f with
          | false =>
            obtain rfl : E = 50 := HE.out
            clear HE
            go_wp2_with fail
            go_ret
            exact ⟨rfl, by have h := HB0.out; rw [← HGW.out] at h; exact h.trans (hB6.mono h.size)⟩
          | true =>
            have q1 : w5.cell? ⟨g, 1, none⟩ = some (.int .u16 k) := (hB6.cell (p := ⟨g, 1, none⟩) hgl).trans d1
            have q3 : w5.cell? ⟨g, 3, none⟩ = some (.int .u32 t) := (hB6.cell (p := ⟨g, 3, none⟩) hgl).trans d3
            by_cases h1 : (2147483647 : Int) < t
            · by_cases h41 : k = 41
              · obtain rfl : E = 0 := by rw [HE.out, if_neg (by decide), if_neg (by rw [decide_eq_false (fun h => h.2 h41)]; decide)]
                have g41 : ((k : Int) != 41) = false := int_neq h41
                clear h41 HE
                go_wp2_with fail
                go_ret
                exact ⟨rfl, by have h := HB0.out; rw [← HGW.out] at h; exact h.trans (hB6.mono h.size)⟩
              · obtain rfl : E = 1 := by rw [HE.out, if_neg (by decide), if_pos (decide_eq_true ⟨by omega, h41⟩)]
                have g41 : ((k : Int) != 41) = true := int_nne h41
                clear h41 HE
                go_wp2_with fail
                go_ret
                exact ⟨rfl, by have h := HB0.out; rw [← HGW.out] at h; exact h.trans (hB6.mono h.size)⟩
            · obtain rfl : E = 0 := by rw [HE.out, if_neg (by decide), if_neg (by rw [decide_eq_false (fun h => h1 (by omega))]; decide)]
              clear HE
              go_wp2_with fail
              go_ret
              exact ⟨rfl, by have h := HB0.out; rw [← HGW.out] at h; exact h.trans (hB6.mono h.size)⟩
end Go.Proofs.Ytngbifdenbfepaa
