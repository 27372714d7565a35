/- Texts of one proof, one behind the other: RecRefPlain, NameLbs. -/
import Derived.Test.YtihkmdojakalbaaProg
import Derived.Test.YtihkmdojakalbaaReadMessagesProofG10
import Derived.Test.YtihkmdojakalbaaReadMessagesProofG6
import Derived.Test.YtihkmdojakalbaaReadMessagesProofG14
import Derived.Test.YtihkmdojakalbaaReadMessagesProofG1
import Derived.Test.YtihkmdojakalbaaReadMessagesProofG2
import Derived.WalkKit
import Derived.Lib.Hide
import Derived.Outline
import Derived.IntWalk
import Derived.WalkSpells
import Derived.WalkLawsBesides

/- The contract of the document's own plain bytes of a record that has its shape. For records of at most 10^5 texts of at most 10^5 bytes. -/
namespace Go.Proofs.Ytihkmdojakalbaa
open Go.RowKit Bytes Strs Nums NameMath RecMath

theorem nil_text {p : ByteArray} (h : p.data.toList = []) : p = ⟨#[]⟩ := list_inj h
theorem cat_le {s p : ByteArray} {r : List UInt8} (h : s.data.toList ++ r = p.data.toList) : s.size ≤ p.size := by
  rw [Lib.size_eq, Lib.size_eq, ← h, List.length_append]
  omega

set_option maxHeartbeats 8000000 in
set_option maxRecDepth 100000 in
theorem refPlain_6 (R : Rec) (x : ByteArray) (k l t : Nat) (A1 : Option Addr) (n1 c1 : Nat) (A2 : Option Addr) (n2 c2 : Nat) (A3 : Option Addr) (n3 c3 : Nat) (f : Bool) (p : ByteArray) (w : World) (hR : Hid (RecAt w w.heap.size R x k l t A1 n1 A2 n2 A3 n3)) (hS : Hid (Small R)) (hk : k = 6) (hc : Hid (shapedB R = true)) (hf : Hid (fitsB R = f)) (hp : Hid (p.data.toList = if f = true then plainL R else [])) :
    Calls Try.prog 68 #[.agg #[.string x, .int .u16 k, .int .u16 l, .int .u32 t, .slice A1 n1 c1, .slice A2 n2 c2, .slice A3 n3 c3]] w fun e w' => e = .returned (.tuple #[.string p, .bool f]) ∧ Below w.heap.size w w' := by
  subst hk
  have hm1 := hR.out.m1 hS.out
  have hm2 := hR.out.m2 hS.out
  have hm3 := hR.out.m3 hS.out
  have hkd := hR.out.kind
  have HR2 := Lib.hid (hR.out.box (.cells #[.string x, .int .u16 6, .int .u16 l, .int .u32 t, .slice A1 n1 c1, .slice A2 n2 c2, .slice A3 n3 c3] 49))
  have HB0 : Hid (Below w.heap.size w (w.alloc (.cells #[.string x, .int .u16 6, .int .u16 l, .int .u32 t, .slice A1 n1 c1, .slice A2 n2 c2, .slice A3 n3 c3] 49))) := (Below.refl _ _).alloc (Nat.le_refl _) _
  have d1 : (w.alloc (.cells #[.string x, .int .u16 6, .int .u16 l, .int .u32 t, .slice A1 n1 c1, .slice A2 n2 c2, .slice A3 n3 c3] 49)).cell? ⟨w.heap.size, 1, none⟩ = some (.int .u16 6) := by simp
  have d4 : (w.alloc (.cells #[.string x, .int .u16 6, .int .u16 l, .int .u32 t, .slice A1 n1 c1, .slice A2 n2 c2, .slice A3 n3 c3] 49)).cell? ⟨w.heap.size, 4, none⟩ = some (.slice A1 n1 c1) := by simp
  have d5 : (w.alloc (.cells #[.string x, .int .u16 6, .int .u16 l, .int .u32 t, .slice A1 n1 c1, .slice A2 n2 c2, .slice A3 n3 c3] 49)).cell? ⟨w.heap.size, 5, none⟩ = some (.slice A2 n2 c2) := by simp
  have d6 : (w.alloc (.cells #[.string x, .int .u16 6, .int .u16 l, .int .u32 t, .slice A1 n1 c1, .slice A2 n2 c2, .slice A3 n3 c3] 49)).cell? ⟨w.heap.size, 6, none⟩ = some (.slice A3 n3 c3) := by simp
  have hgl : w.heap.size < (w.alloc (.cells #[.string x, .int .u16 6, .int .u16 l, .int .u32 t, .slice A1 n1 c1, .slice A2 n2 c2, .slice A3 n3 c3] 49)).heap.size := by simp
  have HL1 := Lib.hid HR2.out.len1
  have HL2 := Lib.hid HR2.out.len2
  have HL3 := Lib.hid HR2.out.len3
  have HRD1 := Lib.hid HR2.out.rd1
  have HRD2 := Lib.hid HR2.out.rd2
  have HRD3 := Lib.hid HR2.out.rd3
  have h02 : (0 : Int) < n2 := by
    have h := hc.out
    unfold shapedB at h
    rw [Bool.and_eq_true, Bool.and_eq_true] at h
    have h2 := (cnt_of h.1.1).2.1
    rw [HL2.out, hkd, show shB 6 = 5 from rfl] at h2
    omega
  have hsp := hc.out
  unfold shapedB at hsp
  rw [hkd, Bool.and_eq_true, Bool.and_eq_true] at hsp
  have hcnt := hsp.1.1
  have htx : R.texts.any (badText 6) = false := by simpa using hsp.2
  have HTX := Lib.hid htx
  have hfd : f = decide (bulk 6 R.texts ≤ 65535) := by rw [← hf.out]; unfold fitsB; rw [hkd]
  have HF := Lib.hid hfd
  have hlen : bulk 6 R.texts ≤ 65535 → (plainL R).length ≤ 300000 := fun h => plain_len hcnt (by rw [hkd]; exact h) hS.out.s1
  have HLEN := Lib.hid hlen
  have hpl : plainL R = R.names.flatten ++ (numsL 4 R.nums ++ R.texts.flatMap (textL 6)) := by rw [plainL_6 hkd, hkd]
  have HPL := Lib.hid hpl
  clear hsp hcnt htx hfd hlen hpl hc hf hR HR2 hkd
  go_enter Try.func68, Try.ntmps68
  go_wp2_with fail
  generalize w.alloc (.cells #[.string x, .int .u16 6, .int .u16 l, .int .u32 t, .slice A1 n1 c1, .slice A2 n2 c2, .slice A3 n3 c3] 49) = wb at *
  generalize hgw : w.heap.size = g at *
  have HGW := Lib.hid hgw
  clear hgw
  go_loop [4, 5] (fun u i => ∃ (j n : Nat), j ≤ n3 ∧ i = .int .i64 j ∧ u = .int .i64 n ∧ n ≤ 65535 ∧ Hid (bulk 6 R.texts = n + bulk 6 (R.texts.drop j))) (fun _ i => n3 - (intOf i).toNat)
  case atStart => exact ⟨0, 0, Nat.zero_le _, rfl, rfl, Nat.zero_le _, Lib.hid (by simp)⟩
  case round =>
    obtain ⟨j, n, hj, rfl, rfl, hn, hH⟩ := hrel
    by_cases hlt : j < n3
    · have hkl : j < R.texts.length := by rw [HL3.out]; exact hlt
      obtain ⟨ad, rfl, hab, hcell⟩ := HRD3.out.get hkl
      have hd := hH.out
      rw [bulk_drop 6 hkl, if_neg (by decide)] at hd
      have hsz := mk_size (R.texts.getD j [])
      have hs3 := hS.out.s3 j hkl
      rw [← hsz] at hd hs3
      generalize mk (R.texts.getD j []) = y at *
      by_cases hbig : (65535 : Int) < (n : Int) + (y.size : Int)
      · obtain rfl : f = false := by rw [HF.out, decide_eq_false (by omega)]
        obtain rfl : p = ⟨#[]⟩ := nil_text hp.out
        clear hd hH hkl hsz
        go_wp2_with fail
        go_ret2
        exact ⟨rfl, by have h := HB0.out; rw [← HGW.out] at h; exact h⟩
      · have HD : Hid (bulk 6 R.texts = (n + y.size) + bulk 6 (R.texts.drop (j + 1))) := by show _ = _; omega
        clear hd hH hkl hsz
        go_wp2_with fail
        go_round
        case rel => exact ⟨j + 1, n + y.size, by omega, by go_num, by go_num, by omega, HD⟩
        case measure => simp [intOf]; omega
    · have hd := hH.out
      rw [List.drop_of_length_le (by rw [HL3.out]; omega), bulk_nil, Nat.add_zero] at hd
      obtain rfl : f = true := by rw [HF.out, decide_eq_true (by omega)]
      have hp' : p.data.toList = plainL R := hp.out
      have hpz : p.size ≤ 300000 := by rw [Lib.size_eq, hp']; exact HLEN.out (by omega)
      rw [HPL.out] at hp'
      have HP := Lib.hid hp'
      clear hd hH hp' HF hp
      go_wp2_with fail
      go_loopw [6, 7] (fun u i wr => ∃ s : ByteArray, i = .int .i64 0 ∧ u = .string s ∧ Hid (s.data.toList ++ (R.names.flatten ++ (numsL 4 R.nums ++ R.texts.flatMap (textL 6))) = p.data.toList) ∧ Below wb.heap.size wb wr) (fun _ _ _ => 0)
      case atStart => exact ⟨_, rfl, rfl, Lib.hid HP.out.symm, Below.refl _ _⟩
      case round =>
        obtain ⟨s, rfl, rfl, hH, hB⟩ := hrel
        have q1 : wr.cell? ⟨g, 1, none⟩ = some (.int .u16 6) := (hB.cell (p := ⟨g, 1, none⟩) hgl).trans d1
        have q4 : wr.cell? ⟨g, 4, none⟩ = some (.slice A1 n1 c1) := (hB.cell (p := ⟨g, 4, none⟩) hgl).trans d4
        have q5 : wr.cell? ⟨g, 5, none⟩ = some (.slice A2 n2 c2) := (hB.cell (p := ⟨g, 5, none⟩) hgl).trans d5
        have q6 : wr.cell? ⟨g, 6, none⟩ = some (.slice A3 n3 c3) := (hB.cell (p := ⟨g, 6, none⟩) hgl).trans d6
        have HD := hH
        clear hH
        go_wp2_with fail
        go_loopw [6, 8] (fun u i wr => ∃ (j : Nat) (s : ByteArray), j ≤ n1 ∧ i = .int .i64 j ∧ u = .string s ∧ Hid (s.data.toList ++ ((R.names.drop j).flatten ++ (numsL 4 R.nums ++ R.texts.flatMap (textL 6))) = p.data.toList) ∧ Below wb.heap.size wb wr) (fun _ i _ => n1 - (intOf i).toNat)
        case atStart => exact ⟨0, _, Nat.zero_le _, rfl, rfl, HD, hB⟩
        case round =>
          obtain ⟨j, s, hj, rfl, rfl, hH, hB⟩ := hrel
          have q1 : wr.cell? ⟨g, 1, none⟩ = some (.int .u16 6) := (hB.cell (p := ⟨g, 1, none⟩) hgl).trans d1
          have q4 : wr.cell? ⟨g, 4, none⟩ = some (.slice A1 n1 c1) := (hB.cell (p := ⟨g, 4, none⟩) hgl).trans d4
          have q5 : wr.cell? ⟨g, 5, none⟩ = some (.slice A2 n2 c2) := (hB.cell (p := ⟨g, 5, none⟩) hgl).trans d5
          have q6 : wr.cell? ⟨g, 6, none⟩ = some (.slice A3 n3 c3) := (hB.cell (p := ⟨g, 6, none⟩) hgl).trans d6
          by_cases hlt : j < n1
          · have hkl : j < R.names.length := by rw [HL1.out]; exact hlt
            obtain ⟨ad, rfl, hab, hcell⟩ := (HRD1.out.on hB hB.size).get hkl
            have hd := hH.out
            rw [flat_drop hkl, List.append_assoc, ← List.append_assoc] at hd
            have hs1 := hS.out.s1 j hkl
            have hsz := cat_le hH.out
            have hml := mk_list (R.names.getD j [])
            rw [← mk_size] at hs1
            rw [← hml] at hd
            generalize mk (R.names.getD j []) = y at *
            rw [← cat_list] at hd
            have HD := Lib.hid hd
            have hs6 : s.size ≤ 1000000 := by omega
            clear hd hH hkl hml
            go_wp2_with fail
            go_roundw
            case rel => exact ⟨j + 1, _, by omega, by go_num, rfl, HD, hB⟩
            case measure => simp [intOf]; omega
          · have hd := hH.out
            rw [List.drop_of_length_le (by rw [HL1.out]; omega)] at hd
            have HD : Hid (s.data.toList ++ (numsL 4 R.nums ++ R.texts.flatMap (textL 6)) = p.data.toList) := hd
            clear hd hH
            go_wp2_with fail
            go_loopw [6, 9] (fun u i wr => ∃ (j : Nat) (s : ByteArray), j ≤ n2 ∧ i = .int .i64 j ∧ u = .string s ∧ Hid (s.data.toList ++ (numsL 4 (R.nums.drop j) ++ (R.texts.flatMap (textL 6))) = p.data.toList) ∧ Below wb.heap.size wb wr) (fun _ i _ => n2 - (intOf i).toNat)
            case atStart => exact ⟨0, _, Nat.zero_le _, rfl, rfl, HD, hB⟩
            case round =>
              obtain ⟨j, s, hj, rfl, rfl, hH, hB⟩ := hrel
              have q1 : wr.cell? ⟨g, 1, none⟩ = some (.int .u16 6) := (hB.cell (p := ⟨g, 1, none⟩) hgl).trans d1
              have q4 : wr.cell? ⟨g, 4, none⟩ = some (.slice A1 n1 c1) := (hB.cell (p := ⟨g, 4, none⟩) hgl).trans d4
              have q5 : wr.cell? ⟨g, 5, none⟩ = some (.slice A2 n2 c2) := (hB.cell (p := ⟨g, 5, none⟩) hgl).trans d5
              have q6 : wr.cell? ⟨g, 6, none⟩ = some (.slice A3 n3 c3) := (hB.cell (p := ⟨g, 6, none⟩) hgl).trans d6
              by_cases hlt : j < n2
              · have hkl : j < R.nums.length := by rw [HL2.out]; exact hlt
                obtain ⟨ad, rfl, hab, hcell⟩ := (HRD2.out.on hB hB.size).get hkl
                have hd := hH.out
                rw [numsL_drop 4 hkl, List.append_assoc, ← List.append_assoc] at hd
                have hu := hS.out.u2 j hkl
                have hsz := cat_le hH.out
                generalize R.nums.getD j 0 = y at *
                have hr : s.data.toList ++ beTail y 4 = (mk (s.data.toList ++ beTail y 4)).data.toList := (mk_list _).symm
                rw [hr] at hd
                have HD := Lib.hid hd
                have HRR := Lib.hid hr
                have hs6 : s.size ≤ 1000000 := by omega
                have hy8 : y ≤ 18446744073709551615 := by omega
                clear hd hH hkl hr
                generalize mk (s.data.toList ++ beTail y 4) = r at *
                go_wp2_with fail
                refine (refPut_is s r y 4 _ hs6 (by decide) hy8 HRR).mono ?_
                rintro e w3 ⟨rfl, hB3⟩
                have hBB := hB.trans (hB3.mono hB.size)
                clear hB hB3 q1 q4 q5 q6 hcell
                go_wp2_with fail
                go_roundw
                case rel => exact ⟨j + 1, r, by omega, by go_num, rfl, HD, hBB⟩
                case measure => simp [intOf]; omega
              · have hd := hH.out
                rw [List.drop_of_length_le (by rw [HL2.out]; omega)] at hd
                have HD : Hid (s.data.toList ++ (R.texts.flatMap (textL 6)) = p.data.toList) := hd
                clear hd hH
                go_wp2_with fail
                go_loopw [6, 10] (fun u i wr => ∃ (j : Nat) (s : ByteArray), j ≤ n3 ∧ i = .int .i64 j ∧ u = .string s ∧ Hid (s.data.toList ++ ((R.texts.drop j).flatMap (textL 6)) = p.data.toList) ∧ Below wb.heap.size wb wr) (fun _ i _ => n3 - (intOf i).toNat)
                case atStart => exact ⟨0, _, Nat.zero_le _, rfl, rfl, HD, hB⟩
                case round =>
                  obtain ⟨j, s, hj, rfl, rfl, hH, hB⟩ := hrel
                  have q1 : wr.cell? ⟨g, 1, none⟩ = some (.int .u16 6) := (hB.cell (p := ⟨g, 1, none⟩) hgl).trans d1
                  have q4 : wr.cell? ⟨g, 4, none⟩ = some (.slice A1 n1 c1) := (hB.cell (p := ⟨g, 4, none⟩) hgl).trans d4
                  have q5 : wr.cell? ⟨g, 5, none⟩ = some (.slice A2 n2 c2) := (hB.cell (p := ⟨g, 5, none⟩) hgl).trans d5
                  have q6 : wr.cell? ⟨g, 6, none⟩ = some (.slice A3 n3 c3) := (hB.cell (p := ⟨g, 6, none⟩) hgl).trans d6
                  by_cases hlt : j < n3
                  · have hkl : j < R.texts.length := by rw [HL3.out]; exact hlt
                    obtain ⟨ad, rfl, hab, hcell⟩ := (HRD3.out.on hB hB.size).get hkl
                    have hd := hH.out
                    rw [textL_drop 6 hkl, textL_not (by decide), ← List.append_assoc] at hd
                    have hs1 := hS.out.s3 j hkl
                    have hsz := cat_le hH.out
                    have hml := mk_list (R.texts.getD j [])
                    rw [← mk_size] at hs1
                    rw [← hml] at hd
                    generalize mk (R.texts.getD j []) = y at *
                    rw [← cat_list] at hd
                    have HD := Lib.hid hd
                    have hs6 : s.size ≤ 1000000 := by omega
                    clear hd hH hkl hml
                    go_wp2_with fail
                    go_roundw
                    case rel => exact ⟨j + 1, _, by omega, by go_num, rfl, HD, hB⟩
                    case measure => simp [intOf]; omega
                  · have hd := hH.out
                    rw [List.drop_of_length_le (by rw [HL3.out]; omega), List.flatMap_nil, List.append_nil] at hd
                    have HE := Lib.hid (list_inj hd)
                    clear hd hH
                    go_wp2_with fail
                    go_ret2
                    exact ⟨by rw [HE.out]; rfl, by have h := HB0.out; rw [← HGW.out] at h; exact h.trans (hB.mono h.size)⟩

set_option maxHeartbeats 8000000 in
set_option maxRecDepth 100000 in
theorem refPlain_16 (R : Rec) (x : ByteArray) (k l t : Nat) (A1 : Option Addr) (n1 c1 : Nat) (A2 : Option Addr) (n2 c2 : Nat) (A3 : Option Addr) (n3 c3 : Nat) (f : Bool) (p : ByteArray) (w : World) (hR : Hid (RecAt w w.heap.size R x k l t A1 n1 A2 n2 A3 n3)) (hS : Hid (Small R)) (hk : k = 16) (hc : Hid (shapedB R = true)) (hf : Hid (fitsB R = f)) (hp : Hid (p.data.toList = if f = true then plainL R else [])) :
    Calls Try.prog 68 #[.agg #[.string x, .int .u16 k, .int .u16 l, .int .u32 t, .slice A1 n1 c1, .slice A2 n2 c2, .slice A3 n3 c3]] w fun e w' => e = .returned (.tuple #[.string p, .bool f]) ∧ Below w.heap.size w w' := by
  subst hk
  have hm1 := hR.out.m1 hS.out
  have hm2 := hR.out.m2 hS.out
  have hm3 := hR.out.m3 hS.out
  have hkd := hR.out.kind
  have HR2 := Lib.hid (hR.out.box (.cells #[.string x, .int .u16 16, .int .u16 l, .int .u32 t, .slice A1 n1 c1, .slice A2 n2 c2, .slice A3 n3 c3] 49))
  have HB0 : Hid (Below w.heap.size w (w.alloc (.cells #[.string x, .int .u16 16, .int .u16 l, .int .u32 t, .slice A1 n1 c1, .slice A2 n2 c2, .slice A3 n3 c3] 49))) := (Below.refl _ _).alloc (Nat.le_refl _) _
  have d1 : (w.alloc (.cells #[.string x, .int .u16 16, .int .u16 l, .int .u32 t, .slice A1 n1 c1, .slice A2 n2 c2, .slice A3 n3 c3] 49)).cell? ⟨w.heap.size, 1, none⟩ = some (.int .u16 16) := by simp
  have d4 : (w.alloc (.cells #[.string x, .int .u16 16, .int .u16 l, .int .u32 t, .slice A1 n1 c1, .slice A2 n2 c2, .slice A3 n3 c3] 49)).cell? ⟨w.heap.size, 4, none⟩ = some (.slice A1 n1 c1) := by simp
  have d5 : (w.alloc (.cells #[.string x, .int .u16 16, .int .u16 l, .int .u32 t, .slice A1 n1 c1, .slice A2 n2 c2, .slice A3 n3 c3] 49)).cell? ⟨w.heap.size, 5, none⟩ = some (.slice A2 n2 c2) := by simp
  have d6 : (w.alloc (.cells #[.string x, .int .u16 16, .int .u16 l, .int .u32 t, .slice A1 n1 c1, .slice A2 n2 c2, .slice A3 n3 c3] 49)).cell? ⟨w.heap.size, 6, none⟩ = some (.slice A3 n3 c3) := by simp
  have hgl : w.heap.size < (w.alloc (.cells #[.string x, .int .u16 16, .int .u16 l, .int .u32 t, .slice A1 n1 c1, .slice A2 n2 c2, .slice A3 n3 c3] 49)).heap.size := by simp
  have HL1 := Lib.hid HR2.out.len1
  have HL2 := Lib.hid HR2.out.len2
  have HL3 := Lib.hid HR2.out.len3
  have HRD1 := Lib.hid HR2.out.rd1
  have HRD2 := Lib.hid HR2.out.rd2
  have HRD3 := Lib.hid HR2.out.rd3
  have hsp := hc.out
  unfold shapedB at hsp
  rw [hkd, Bool.and_eq_true, Bool.and_eq_true] at hsp
  have hcnt := hsp.1.1
  have htx : R.texts.any (badText 16) = false := by simpa using hsp.2
  have HTX := Lib.hid htx
  have hfd : f = decide (bulk 16 R.texts ≤ 65535) := by rw [← hf.out]; unfold fitsB; rw [hkd]
  have HF := Lib.hid hfd
  have hlen : bulk 16 R.texts ≤ 65535 → (plainL R).length ≤ 300000 := fun h => plain_len hcnt (by rw [hkd]; exact h) hS.out.s1
  have HLEN := Lib.hid hlen
  have hpl : plainL R = numsL 2 R.nums ++ (R.names.flatten ++ R.texts.flatMap (textL 16)) := by rw [plainL_not (by rw [hkd]; decide), hkd]
  have HPL := Lib.hid hpl
  clear hsp hcnt htx hfd hlen hpl hc hf hR HR2 hkd
  go_enter Try.func68, Try.ntmps68
  go_wp2_with fail
  generalize w.alloc (.cells #[.string x, .int .u16 16, .int .u16 l, .int .u32 t, .slice A1 n1 c1, .slice A2 n2 c2, .slice A3 n3 c3] 49) = wb at *
  generalize hgw : w.heap.size = g at *
  have HGW := Lib.hid hgw
  clear hgw
  go_loop [4, 5] (fun u i => ∃ (j n : Nat), j ≤ n3 ∧ i = .int .i64 j ∧ u = .int .i64 n ∧ n ≤ 65535 ∧ Hid (bulk 16 R.texts = n + bulk 16 (R.texts.drop j))) (fun _ i => n3 - (intOf i).toNat)
  case atStart => exact ⟨0, 0, Nat.zero_le _, rfl, rfl, Nat.zero_le _, Lib.hid (by simp)⟩
  case round =>
    obtain ⟨j, n, hj, rfl, rfl, hn, hH⟩ := hrel
    by_cases hlt : j < n3
    · have hkl : j < R.texts.length := by rw [HL3.out]; exact hlt
      obtain ⟨ad, rfl, hab, hcell⟩ := HRD3.out.get hkl
      have hd := hH.out
      rw [bulk_drop 16 hkl, if_pos rfl] at hd
      have hsz := mk_size (R.texts.getD j [])
      have hs3 := hS.out.s3 j hkl
      rw [← hsz] at hd hs3
      generalize mk (R.texts.getD j []) = y at *
      by_cases hbig : (65535 : Int) < (n : Int) + (y.size : Int) + 1
      · obtain rfl : f = false := by rw [HF.out, decide_eq_false (by omega)]
        obtain rfl : p = ⟨#[]⟩ := nil_text hp.out
        clear hd hH hkl hsz
        go_wp2_with fail
        go_ret2
        exact ⟨rfl, by have h := HB0.out; rw [← HGW.out] at h; exact h⟩
      · have HD : Hid (bulk 16 R.texts = (n + y.size + 1) + bulk 16 (R.texts.drop (j + 1))) := by show _ = _; omega
        clear hd hH hkl hsz
        go_wp2_with fail
        go_round
        case rel => exact ⟨j + 1, n + y.size + 1, by omega, by go_num, by go_num, by omega, HD⟩
        case measure => simp [intOf]; omega
    · have hd := hH.out
      rw [List.drop_of_length_le (by rw [HL3.out]; omega), bulk_nil, Nat.add_zero] at hd
      obtain rfl : f = true := by rw [HF.out, decide_eq_true (by omega)]
      have hp' : p.data.toList = plainL R := hp.out
      have hpz : p.size ≤ 300000 := by rw [Lib.size_eq, hp']; exact HLEN.out (by omega)
      rw [HPL.out] at hp'
      have HP := Lib.hid hp'
      clear hd hH hp' HF hp
      go_wp2_with fail
      go_loopw [6, 7] (fun u i wr => ∃ (j : Nat) (s : ByteArray), j ≤ n2 ∧ i = .int .i64 j ∧ u = .string s ∧ Hid (s.data.toList ++ (numsL 2 (R.nums.drop j) ++ (R.names.flatten ++ R.texts.flatMap (textL 16))) = p.data.toList) ∧ Below wb.heap.size wb wr) (fun _ i _ => n2 - (intOf i).toNat)
      case atStart => exact ⟨0, _, Nat.zero_le _, rfl, rfl, Lib.hid HP.out.symm, Below.refl _ _⟩
      case round =>
        obtain ⟨j, s, hj, rfl, rfl, hH, hB⟩ := hrel
        have q1 : wr.cell? ⟨g, 1, none⟩ = some (.int .u16 16) := (hB.cell (p := ⟨g, 1, none⟩) hgl).trans d1
        have q4 : wr.cell? ⟨g, 4, none⟩ = some (.slice A1 n1 c1) := (hB.cell (p := ⟨g, 4, none⟩) hgl).trans d4
        have q5 : wr.cell? ⟨g, 5, none⟩ = some (.slice A2 n2 c2) := (hB.cell (p := ⟨g, 5, none⟩) hgl).trans d5
        have q6 : wr.cell? ⟨g, 6, none⟩ = some (.slice A3 n3 c3) := (hB.cell (p := ⟨g, 6, none⟩) hgl).trans d6
        by_cases hlt : j < n2
        · have hkl : j < R.nums.length := by rw [HL2.out]; exact hlt
          obtain ⟨ad, rfl, hab, hcell⟩ := (HRD2.out.on hB hB.size).get hkl
          have hd := hH.out
          rw [numsL_drop 2 hkl, List.append_assoc, ← List.append_assoc] at hd
          have hu := hS.out.u2 j hkl
          have hsz := cat_le hH.out
          generalize R.nums.getD j 0 = y at *
          have hr : s.data.toList ++ beTail y 2 = (mk (s.data.toList ++ beTail y 2)).data.toList := (mk_list _).symm
          rw [hr] at hd
          have HD := Lib.hid hd
          have HRR := Lib.hid hr
          have hs6 : s.size ≤ 1000000 := by omega
          have hy8 : y ≤ 18446744073709551615 := by omega
          clear hd hH hkl hr
          generalize mk (s.data.toList ++ beTail y 2) = r at *
          go_wp2_with fail
          refine (refPut_is s r y 2 _ hs6 (by decide) hy8 HRR).mono ?_
          rintro e w3 ⟨rfl, hB3⟩
          have hBB := hB.trans (hB3.mono hB.size)
          clear hB hB3 q1 q4 q5 q6 hcell
          go_wp2_with fail
          go_roundw
          case rel => exact ⟨j + 1, r, by omega, by go_num, rfl, HD, hBB⟩
          case measure => simp [intOf]; omega
        · have hd := hH.out
          rw [List.drop_of_length_le (by rw [HL2.out]; omega)] at hd
          have HD : Hid (s.data.toList ++ (R.names.flatten ++ R.texts.flatMap (textL 16)) = p.data.toList) := hd
          clear hd hH
          go_wp2_with fail
          go_loopw [6, 8] (fun u i wr => ∃ (j : Nat) (s : ByteArray), j ≤ n1 ∧ i = .int .i64 j ∧ u = .string s ∧ Hid (s.data.toList ++ ((R.names.drop j).flatten ++ (R.texts.flatMap (textL 16))) = p.data.toList) ∧ Below wb.heap.size wb wr) (fun _ i _ => n1 - (intOf i).toNat)
          case atStart => exact ⟨0, _, Nat.zero_le _, rfl, rfl, HD, hB⟩
          case round =>
            obtain ⟨j, s, hj, rfl, rfl, hH, hB⟩ := hrel
            have q1 : wr.cell? ⟨g, 1, none⟩ = some (.int .u16 16) := (hB.cell (p := ⟨g, 1, none⟩) hgl).trans d1
            have q4 : wr.cell? ⟨g, 4, none⟩ = some (.slice A1 n1 c1) := (hB.cell (p := ⟨g, 4, none⟩) hgl).trans d4
            have q5 : wr.cell? ⟨g, 5, none⟩ = some (.slice A2 n2 c2) := (hB.cell (p := ⟨g, 5, none⟩) hgl).trans d5
            have q6 : wr.cell? ⟨g, 6, none⟩ = some (.slice A3 n3 c3) := (hB.cell (p := ⟨g, 6, none⟩) hgl).trans d6
            by_cases hlt : j < n1
            · have hkl : j < R.names.length := by rw [HL1.out]; exact hlt
              obtain ⟨ad, rfl, hab, hcell⟩ := (HRD1.out.on hB hB.size).get hkl
              have hd := hH.out
              rw [flat_drop hkl, List.append_assoc, ← List.append_assoc] at hd
              have hs1 := hS.out.s1 j hkl
              have hsz := cat_le hH.out
              have hml := mk_list (R.names.getD j [])
              rw [← mk_size] at hs1
              rw [← hml] at hd
              generalize mk (R.names.getD j []) = y at *
              rw [← cat_list] at hd
              have HD := Lib.hid hd
              have hs6 : s.size ≤ 1000000 := by omega
              clear hd hH hkl hml
              go_wp2_with fail
              go_roundw
              case rel => exact ⟨j + 1, _, by omega, by go_num, rfl, HD, hB⟩
              case measure => simp [intOf]; omega
            · have hd := hH.out
              rw [List.drop_of_length_le (by rw [HL1.out]; omega)] at hd
              have HD : Hid (s.data.toList ++ (R.texts.flatMap (textL 16)) = p.data.toList) := hd
              clear hd hH
              go_wp2_with fail
              go_loopw [6, 9] (fun u i wr => ∃ s : ByteArray, i = .int .i64 0 ∧ u = .string s ∧ Hid (s.data.toList ++ (R.texts.flatMap (textL 16)) = p.data.toList) ∧ Below wb.heap.size wb wr) (fun _ _ _ => 0)
              case atStart => exact ⟨_, rfl, rfl, HD, hB⟩
              case round =>
                obtain ⟨s, rfl, rfl, hH, hB⟩ := hrel
                have q1 : wr.cell? ⟨g, 1, none⟩ = some (.int .u16 16) := (hB.cell (p := ⟨g, 1, none⟩) hgl).trans d1
                have q4 : wr.cell? ⟨g, 4, none⟩ = some (.slice A1 n1 c1) := (hB.cell (p := ⟨g, 4, none⟩) hgl).trans d4
                have q5 : wr.cell? ⟨g, 5, none⟩ = some (.slice A2 n2 c2) := (hB.cell (p := ⟨g, 5, none⟩) hgl).trans d5
                have q6 : wr.cell? ⟨g, 6, none⟩ = some (.slice A3 n3 c3) := (hB.cell (p := ⟨g, 6, none⟩) hgl).trans d6
                have HD := hH
                clear hH
                have hz : (0 : Int) < n2 ∨ (n2 : Int) ≤ 0 := by omega
                rcases hz with hz | hz
                all_goals
                  go_wp2_with fail
                  go_loopw [6, 10] (fun u i wr => ∃ (j : Nat) (s : ByteArray), j ≤ n3 ∧ i = .int .i64 j ∧ u = .string s ∧ Hid (s.data.toList ++ ((R.texts.drop j).flatMap (textL 16)) = p.data.toList) ∧ Below wb.heap.size wb wr) (fun _ i _ => n3 - (intOf i).toNat)
                  case atStart => exact ⟨0, _, Nat.zero_le _, rfl, rfl, HD, hB⟩
                  case round =>
                    obtain ⟨j, s, hj, rfl, rfl, hH, hB⟩ := hrel
                    have q1 : wr.cell? ⟨g, 1, none⟩ = some (.int .u16 16) := (hB.cell (p := ⟨g, 1, none⟩) hgl).trans d1
                    have q4 : wr.cell? ⟨g, 4, none⟩ = some (.slice A1 n1 c1) := (hB.cell (p := ⟨g, 4, none⟩) hgl).trans d4
                    have q5 : wr.cell? ⟨g, 5, none⟩ = some (.slice A2 n2 c2) := (hB.cell (p := ⟨g, 5, none⟩) hgl).trans d5
                    have q6 : wr.cell? ⟨g, 6, none⟩ = some (.slice A3 n3 c3) := (hB.cell (p := ⟨g, 6, none⟩) hgl).trans d6
                    by_cases hlt : j < n3
                    · have hkl : j < R.texts.length := by rw [HL3.out]; exact hlt
                      obtain ⟨ad, rfl, hab, hcell0⟩ := (HRD3.out.on hB hB.size).get hkl
                      have hd := hH.out
                      rw [textL_drop 16 hkl, textL_16] at hd
                      have hs1 := any_short HTX.out j hkl
                      have hsz := cat_le hH.out
                      have hml := mk_list (R.texts.getD j [])
                      have hlq := mk_size (R.texts.getD j [])
                      have hof := ofNat_mod (R.texts.getD j []).length
                      have hd2 : (s ++ mk [UInt8.ofNat (R.texts.getD j []).length] ++ mk (R.texts.getD j [])).data.toList ++ (R.texts.drop (j + 1)).flatMap (textL 16) = p.data.toList := by
                        rw [cat_list, cat_list, mk_list, mk_list, ← hd]
                        simp
                      have hc2 : (convert 71 9 (.slice (some ⟨wr.heap.size, 0, none⟩) 1 1)).run Try.prog (wr.alloc (.cells #[.int .u8 ((mk (R.texts.getD j [])).size : Int)] 5)) = .ok (.string (mk [UInt8.ofNat (R.texts.getD j []).length])) (wr.alloc (.cells #[.int .u8 ((mk (R.texts.getD j [])).size : Int)] 5)) := conv_new wr [UInt8.ofNat (R.texts.getD j []).length] _ 1 (by
                        rw [hlq, byteCells_one, hof]
                        refine congrArg (fun z => [Value.int .u8 z]) ?_
                        omega) rfl
                      have hq1 : (mk [UInt8.ofNat (R.texts.getD j []).length]).size ≤ 1 := Nat.le_of_eq (mk_size _)
                      have hlt2 : ad.block < wr.heap.size := hab
                      have hcell2 : (wr.alloc (.cells #[.int .u8 ((mk (R.texts.getD j [])).size : Int)] 5)).cell? (ad.add j) = some (.string (mk (R.texts.getD j []))) := (World.cell?_alloc_lt _ _ _ (by rw [add_block]; exact hlt2)).trans hcell0
                      have hgr : g < wr.heap.size := Nat.lt_of_lt_of_le hgl hB.size
                      have q6a : (wr.alloc (.cells #[.int .u8 ((mk (R.texts.getD j [])).size : Int)] 5)).cell? ⟨g, 6, none⟩ = some (.slice (some ad) n3 c3) := (World.cell?_alloc_lt _ _ _ hgr).trans q6
                      have hcell := hcell0
                      have hy255 : (mk (R.texts.getD j [])).size ≤ 255 := by rw [hlq]; exact hs1
                      have hwl := hB.size
                      generalize UInt8.ofNat (R.texts.getD j []).length = c at *
                      generalize mk [c] = q at *
                      generalize mk (R.texts.getD j []) = y at *
                      have HD := Lib.hid hd2
                      have hs6 : s.size ≤ 1000000 := by omega
                      have hs7 : (s ++ q).size ≤ 1000001 := by rw [ByteArray.size_append]; omega
                      have hBB := Lib.hid (hB.alloc hwl (.cells #[.int .u8 (y.size : Int)] 5))
                      clear hd hd2 hH hkl hml hlq hof hcell0 hs1
                      go_wp2_with fail
                      go_roundw
                      case rel => exact ⟨j + 1, _, by omega, by go_num, rfl, HD, hBB.out⟩
                      case measure => simp [intOf]; omega
                    · have hd := hH.out
                      rw [List.drop_of_length_le (by rw [HL3.out]; omega), List.flatMap_nil, List.append_nil] at hd
                      have HE := Lib.hid (list_inj hd)
                      clear hd hH
                      go_wp2_with fail
                      go_ret2
                      exact ⟨by rw [HE.out]; rfl, by have h := HB0.out; rw [← HGW.out] at h; exact h.trans (hB.mono h.size)⟩

set_option maxHeartbeats 8000000 in
set_option maxRecDepth 100000 in
theorem refPlain_other (R : Rec) (x : ByteArray) (k l t : Nat) (A1 : Option Addr) (n1 c1 : Nat) (A2 : Option Addr) (n2 c2 : Nat) (A3 : Option Addr) (n3 c3 : Nat) (f : Bool) (p : ByteArray) (w : World) (hR : Hid (RecAt w w.heap.size R x k l t A1 n1 A2 n2 A3 n3)) (hS : Hid (Small R)) (h16 : k ≠ 16) (h6 : k ≠ 6) (hc : Hid (shapedB R = true)) (hf : Hid (fitsB R = f)) (hp : Hid (p.data.toList = if f = true then plainL R else [])) :
    Calls Try.prog 68 #[.agg #[.string x, .int .u16 k, .int .u16 l, .int .u32 t, .slice A1 n1 c1, .slice A2 n2 c2, .slice A3 n3 c3]] w fun e w' => e = .returned (.tuple #[.string p, .bool f]) ∧ Below w.heap.size w w' := by
  have g16 : ((k : Int) == 16) = false := int_ne h16
  have g6 : ((k : Int) != 6) = true := int_nne h6
  have g6e : ((k : Int) == 6) = false := int_ne h6
  have hm1 := hR.out.m1 hS.out
  have hm2 := hR.out.m2 hS.out
  have hm3 := hR.out.m3 hS.out
  have hkd := hR.out.kind
  have HR2 := Lib.hid (hR.out.box (.cells #[.string x, .int .u16 k, .int .u16 l, .int .u32 t, .slice A1 n1 c1, .slice A2 n2 c2, .slice A3 n3 c3] 49))
  have HB0 : Hid (Below w.heap.size w (w.alloc (.cells #[.string x, .int .u16 k, .int .u16 l, .int .u32 t, .slice A1 n1 c1, .slice A2 n2 c2, .slice A3 n3 c3] 49))) := (Below.refl _ _).alloc (Nat.le_refl _) _
  have d1 : (w.alloc (.cells #[.string x, .int .u16 k, .int .u16 l, .int .u32 t, .slice A1 n1 c1, .slice A2 n2 c2, .slice A3 n3 c3] 49)).cell? ⟨w.heap.size, 1, none⟩ = some (.int .u16 k) := by simp
  have d4 : (w.alloc (.cells #[.string x, .int .u16 k, .int .u16 l, .int .u32 t, .slice A1 n1 c1, .slice A2 n2 c2, .slice A3 n3 c3] 49)).cell? ⟨w.heap.size, 4, none⟩ = some (.slice A1 n1 c1) := by simp
  have d5 : (w.alloc (.cells #[.string x, .int .u16 k, .int .u16 l, .int .u32 t, .slice A1 n1 c1, .slice A2 n2 c2, .slice A3 n3 c3] 49)).cell? ⟨w.heap.size, 5, none⟩ = some (.slice A2 n2 c2) := by simp
  have d6 : (w.alloc (.cells #[.string x, .int .u16 k, .int .u16 l, .int .u32 t, .slice A1 n1 c1, .slice A2 n2 c2, .slice A3 n3 c3] 49)).cell? ⟨w.heap.size, 6, none⟩ = some (.slice A3 n3 c3) := by simp
  have hgl : w.heap.size < (w.alloc (.cells #[.string x, .int .u16 k, .int .u16 l, .int .u32 t, .slice A1 n1 c1, .slice A2 n2 c2, .slice A3 n3 c3] 49)).heap.size := by simp
  have HL1 := Lib.hid HR2.out.len1
  have HL2 := Lib.hid HR2.out.len2
  have HL3 := Lib.hid HR2.out.len3
  have HRD1 := Lib.hid HR2.out.rd1
  have HRD2 := Lib.hid HR2.out.rd2
  have HRD3 := Lib.hid HR2.out.rd3
  have hsp := hc.out
  unfold shapedB at hsp
  rw [hkd, Bool.and_eq_true, Bool.and_eq_true] at hsp
  have hcnt := hsp.1.1
  have htx : R.texts.any (badText k) = false := by simpa using hsp.2
  have HTX := Lib.hid htx
  have hfd : f = decide (bulk k R.texts ≤ 65535) := by rw [← hf.out]; unfold fitsB; rw [hkd]
  have HF := Lib.hid hfd
  have hlen : bulk k R.texts ≤ 65535 → (plainL R).length ≤ 300000 := fun h => plain_len hcnt (by rw [hkd]; exact h) hS.out.s1
  have HLEN := Lib.hid hlen
  have hpl : plainL R = numsL 2 R.nums ++ (R.names.flatten ++ R.texts.flatMap (textL k)) := by rw [plainL_not (by rw [hkd]; exact h6), hkd]
  have HPL := Lib.hid hpl
  clear hsp hcnt htx hfd hlen hpl hc hf hR HR2 hkd
  go_enter Try.func68, Try.ntmps68
  go_wp2_with fail
  generalize w.alloc (.cells #[.string x, .int .u16 k, .int .u16 l, .int .u32 t, .slice A1 n1 c1, .slice A2 n2 c2, .slice A3 n3 c3] 49) = wb at *
  generalize hgw : w.heap.size = g at *
  have HGW := Lib.hid hgw
  clear hgw
  go_loop [4, 5] (fun u i => ∃ (j n : Nat), j ≤ n3 ∧ i = .int .i64 j ∧ u = .int .i64 n ∧ n ≤ 65535 ∧ Hid (bulk k R.texts = n + bulk k (R.texts.drop j))) (fun _ i => n3 - (intOf i).toNat)
  case atStart => exact ⟨0, 0, Nat.zero_le _, rfl, rfl, Nat.zero_le _, Lib.hid (by simp)⟩
  case round =>
    obtain ⟨j, n, hj, rfl, rfl, hn, hH⟩ := hrel
    by_cases hlt : j < n3
    · have hkl : j < R.texts.length := by rw [HL3.out]; exact hlt
      obtain ⟨ad, rfl, hab, hcell⟩ := HRD3.out.get hkl
      have hd := hH.out
      rw [bulk_drop k hkl, if_neg h16] at hd
      have hsz := mk_size (R.texts.getD j [])
      have hs3 := hS.out.s3 j hkl
      rw [← hsz] at hd hs3
      generalize mk (R.texts.getD j []) = y at *
      by_cases hbig : (65535 : Int) < (n : Int) + (y.size : Int)
      · obtain rfl : f = false := by rw [HF.out, decide_eq_false (by omega)]
        obtain rfl : p = ⟨#[]⟩ := nil_text hp.out
        clear hd hH hkl hsz
        go_wp2_with fail
        go_ret2
        exact ⟨rfl, by have h := HB0.out; rw [← HGW.out] at h; exact h⟩
      · have HD : Hid (bulk k R.texts = (n + y.size) + bulk k (R.texts.drop (j + 1))) := by show _ = _; omega
        clear hd hH hkl hsz
        go_wp2_with fail
        go_round
        case rel => exact ⟨j + 1, n + y.size, by omega, by go_num, by go_num, by omega, HD⟩
        case measure => simp [intOf]; omega
    · have hd := hH.out
      rw [List.drop_of_length_le (by rw [HL3.out]; omega), bulk_nil, Nat.add_zero] at hd
      obtain rfl : f = true := by rw [HF.out, decide_eq_true (by omega)]
      have hp' : p.data.toList = plainL R := hp.out
      have hpz : p.size ≤ 300000 := by rw [Lib.size_eq, hp']; exact HLEN.out (by omega)
      rw [HPL.out] at hp'
      have HP := Lib.hid hp'
      clear hd hH hp' HF hp
      go_wp2_with fail
      go_loopw [6, 7] (fun u i wr => ∃ (j : Nat) (s : ByteArray), j ≤ n2 ∧ i = .int .i64 j ∧ u = .string s ∧ Hid (s.data.toList ++ (numsL 2 (R.nums.drop j) ++ (R.names.flatten ++ R.texts.flatMap (textL k))) = p.data.toList) ∧ Below wb.heap.size wb wr) (fun _ i _ => n2 - (intOf i).toNat)
      case atStart => exact ⟨0, _, Nat.zero_le _, rfl, rfl, Lib.hid HP.out.symm, Below.refl _ _⟩
      case round =>
        obtain ⟨j, s, hj, rfl, rfl, hH, hB⟩ := hrel
        have q1 : wr.cell? ⟨g, 1, none⟩ = some (.int .u16 k) := (hB.cell (p := ⟨g, 1, none⟩) hgl).trans d1
        have q4 : wr.cell? ⟨g, 4, none⟩ = some (.slice A1 n1 c1) := (hB.cell (p := ⟨g, 4, none⟩) hgl).trans d4
        have q5 : wr.cell? ⟨g, 5, none⟩ = some (.slice A2 n2 c2) := (hB.cell (p := ⟨g, 5, none⟩) hgl).trans d5
        have q6 : wr.cell? ⟨g, 6, none⟩ = some (.slice A3 n3 c3) := (hB.cell (p := ⟨g, 6, none⟩) hgl).trans d6
        by_cases hlt : j < n2
        · have hkl : j < R.nums.length := by rw [HL2.out]; exact hlt
          obtain ⟨ad, rfl, hab, hcell⟩ := (HRD2.out.on hB hB.size).get hkl
          have hd := hH.out
          rw [numsL_drop 2 hkl, List.append_assoc, ← List.append_assoc] at hd
          have hu := hS.out.u2 j hkl
          have hsz := cat_le hH.out
          generalize R.nums.getD j 0 = y at *
          have hr : s.data.toList ++ beTail y 2 = (mk (s.data.toList ++ beTail y 2)).data.toList := (mk_list _).symm
          rw [hr] at hd
          have HD := Lib.hid hd
          have HRR := Lib.hid hr
          have hs6 : s.size ≤ 1000000 := by omega
          have hy8 : y ≤ 18446744073709551615 := by omega
          clear hd hH hkl hr
          generalize mk (s.data.toList ++ beTail y 2) = r at *
          go_wp2_with fail
          refine (refPut_is s r y 2 _ hs6 (by decide) hy8 HRR).mono ?_
          rintro e w3 ⟨rfl, hB3⟩
          have hBB := hB.trans (hB3.mono hB.size)
          clear hB hB3 q1 q4 q5 q6 hcell
          go_wp2_with fail
          go_roundw
          case rel => exact ⟨j + 1, r, by omega, by go_num, rfl, HD, hBB⟩
          case measure => simp [intOf]; omega
        · have hd := hH.out
          rw [List.drop_of_length_le (by rw [HL2.out]; omega)] at hd
          have HD : Hid (s.data.toList ++ (R.names.flatten ++ R.texts.flatMap (textL k)) = p.data.toList) := hd
          clear hd hH
          go_wp2_with fail
          go_loopw [6, 8] (fun u i wr => ∃ (j : Nat) (s : ByteArray), j ≤ n1 ∧ i = .int .i64 j ∧ u = .string s ∧ Hid (s.data.toList ++ ((R.names.drop j).flatten ++ (R.texts.flatMap (textL k))) = p.data.toList) ∧ Below wb.heap.size wb wr) (fun _ i _ => n1 - (intOf i).toNat)
          case atStart => exact ⟨0, _, Nat.zero_le _, rfl, rfl, HD, hB⟩
          case round =>
            obtain ⟨j, s, hj, rfl, rfl, hH, hB⟩ := hrel
            have q1 : wr.cell? ⟨g, 1, none⟩ = some (.int .u16 k) := (hB.cell (p := ⟨g, 1, none⟩) hgl).trans d1
            have q4 : wr.cell? ⟨g, 4, none⟩ = some (.slice A1 n1 c1) := (hB.cell (p := ⟨g, 4, none⟩) hgl).trans d4
            have q5 : wr.cell? ⟨g, 5, none⟩ = some (.slice A2 n2 c2) := (hB.cell (p := ⟨g, 5, none⟩) hgl).trans d5
            have q6 : wr.cell? ⟨g, 6, none⟩ = some (.slice A3 n3 c3) := (hB.cell (p := ⟨g, 6, none⟩) hgl).trans d6
            by_cases hlt : j < n1
            · have hkl : j < R.names.length := by rw [HL1.out]; exact hlt
              obtain ⟨ad, rfl, hab, hcell⟩ := (HRD1.out.on hB hB.size).get hkl
              have hd := hH.out
              rw [flat_drop hkl, List.append_assoc, ← List.append_assoc] at hd
              have hs1 := hS.out.s1 j hkl
              have hsz := cat_le hH.out
              have hml := mk_list (R.names.getD j [])
              rw [← mk_size] at hs1
              rw [← hml] at hd
              generalize mk (R.names.getD j []) = y at *
              rw [← cat_list] at hd
              have HD := Lib.hid hd
              have hs6 : s.size ≤ 1000000 := by omega
              clear hd hH hkl hml
              go_wp2_with fail
              go_roundw
              case rel => exact ⟨j + 1, _, by omega, by go_num, rfl, HD, hB⟩
              case measure => simp [intOf]; omega
            · have hd := hH.out
              rw [List.drop_of_length_le (by rw [HL1.out]; omega)] at hd
              have HD : Hid (s.data.toList ++ (R.texts.flatMap (textL k)) = p.data.toList) := hd
              clear hd hH
              go_wp2_with fail
              go_loopw [6, 9] (fun u i wr => ∃ s : ByteArray, i = .int .i64 0 ∧ u = .string s ∧ Hid (s.data.toList ++ (R.texts.flatMap (textL k)) = p.data.toList) ∧ Below wb.heap.size wb wr) (fun _ _ _ => 0)
              case atStart => exact ⟨_, rfl, rfl, HD, hB⟩
              case round =>
                obtain ⟨s, rfl, rfl, hH, hB⟩ := hrel
                have q1 : wr.cell? ⟨g, 1, none⟩ = some (.int .u16 k) := (hB.cell (p := ⟨g, 1, none⟩) hgl).trans d1
                have q4 : wr.cell? ⟨g, 4, none⟩ = some (.slice A1 n1 c1) := (hB.cell (p := ⟨g, 4, none⟩) hgl).trans d4
                have q5 : wr.cell? ⟨g, 5, none⟩ = some (.slice A2 n2 c2) := (hB.cell (p := ⟨g, 5, none⟩) hgl).trans d5
                have q6 : wr.cell? ⟨g, 6, none⟩ = some (.slice A3 n3 c3) := (hB.cell (p := ⟨g, 6, none⟩) hgl).trans d6
                have HD := hH
                clear hH
                have hz : (0 : Int) < n2 ∨ (n2 : Int) ≤ 0 := by omega
                rcases hz with hz | hz
                all_goals
                  go_wp2_with fail
                  go_loopw [6, 10] (fun u i wr => ∃ (j : Nat) (s : ByteArray), j ≤ n3 ∧ i = .int .i64 j ∧ u = .string s ∧ Hid (s.data.toList ++ ((R.texts.drop j).flatMap (textL k)) = p.data.toList) ∧ Below wb.heap.size wb wr) (fun _ i _ => n3 - (intOf i).toNat)
                  case atStart => exact ⟨0, _, Nat.zero_le _, rfl, rfl, HD, hB⟩
                  case round =>
                    obtain ⟨j, s, hj, rfl, rfl, hH, hB⟩ := hrel
                    have q1 : wr.cell? ⟨g, 1, none⟩ = some (.int .u16 k) := (hB.cell (p := ⟨g, 1, none⟩) hgl).trans d1
                    have q4 : wr.cell? ⟨g, 4, none⟩ = some (.slice A1 n1 c1) := (hB.cell (p := ⟨g, 4, none⟩) hgl).trans d4
                    have q5 : wr.cell? ⟨g, 5, none⟩ = some (.slice A2 n2 c2) := (hB.cell (p := ⟨g, 5, none⟩) hgl).trans d5
                    have q6 : wr.cell? ⟨g, 6, none⟩ = some (.slice A3 n3 c3) := (hB.cell (p := ⟨g, 6, none⟩) hgl).trans d6
                    by_cases hlt : j < n3
                    · have hkl : j < R.texts.length := by rw [HL3.out]; exact hlt
                      obtain ⟨ad, rfl, hab, hcell⟩ := (HRD3.out.on hB hB.size).get hkl
                      have hd := hH.out
                      rw [textL_drop k hkl, textL_not h16, ← List.append_assoc] at hd
                      have hs1 := hS.out.s3 j hkl
                      have hsz := cat_le hH.out
                      have hml := mk_list (R.texts.getD j [])
                      rw [← mk_size] at hs1
                      rw [← hml] at hd
                      generalize mk (R.texts.getD j []) = y at *
                      rw [← cat_list] at hd
                      have HD := Lib.hid hd
                      have hs6 : s.size ≤ 1000000 := by omega
                      clear hd hH hkl hml
                      go_wp2_with fail
                      go_roundw
                      case rel => exact ⟨j + 1, _, by omega, by go_num, rfl, HD, hB⟩
                      case measure => simp [intOf]; omega
                    · have hd := hH.out
                      rw [List.drop_of_length_le (by rw [HL3.out]; omega), List.flatMap_nil, List.append_nil] at hd
                      have HE := Lib.hid (list_inj hd)
                      clear hd hH
                      go_wp2_with fail
                      go_ret2
                      exact ⟨by rw [HE.out]; rfl, by have h := HB0.out; rw [← HGW.out] at h; exact h.trans (hB.mono h.size)⟩

theorem refPlain_is (R : Rec) (x : ByteArray) (k l t : Nat) (A1 : Option Addr) (n1 c1 : Nat) (A2 : Option Addr) (n2 c2 : Nat) (A3 : Option Addr) (n3 c3 : Nat) (f : Bool) (p : ByteArray) (w : World) (hR : Hid (RecAt w w.heap.size R x k l t A1 n1 A2 n2 A3 n3)) (hS : Hid (Small R)) (hc : Hid (shapedB R = true)) (hf : Hid (fitsB R = f)) (hp : Hid (p.data.toList = if f = true then plainL R else [])) :
    Calls Try.prog 68 #[.agg #[.string x, .int .u16 k, .int .u16 l, .int .u32 t, .slice A1 n1 c1, .slice A2 n2 c2, .slice A3 n3 c3]] w fun e w' => e = .returned (.tuple #[.string p, .bool f]) ∧ Below w.heap.size w w' := by
  by_cases h16 : k = 16
  · exact refPlain_16 R x k l t A1 n1 c1 A2 n2 c2 A3 n3 c3 f p w hR hS h16 hc hf hp
  by_cases h6 : k = 6
  · exact refPlain_6 R x k l t A1 n1 c1 A2 n2 c2 A3 n3 c3 f p w hR hS h6 hc hf hp
  · exact refPlain_other R x k l t A1 n1 c1 A2 n2 c2 A3 n3 c3 f p w hR hS h16 h6 hc hf hp
end Go.Proofs.Ytihkmdojakalbaa

/- What stands at a place of a name's bytes tells of the whole. No condition. -/
namespace Go.Proofs.Ytihkmdojakalbaa
open Go.RowKit Bytes Strs NameMath

theorem lbs_end {l : List UInt8} {k : Nat} (h : l.length ≤ k) : lbs (l.drop k) = none := by rw [List.drop_of_length_le h, lbs_nil]
theorem lbs_at0 {l : List UInt8} {k : Nat} {x : UInt8} (hk : k < l.length) (hx : l.getD k 0 = x) (h0 : x.toNat = 0) : lbs (l.drop k) = if k + 1 = l.length then some [] else none := by
  rw [drop_cons hk, hx, lbs_zero h0, List.length_drop]
  by_cases h : k + 1 = l.length
  · rw [if_pos (by omega), if_pos h]
  · rw [if_neg (by omega), if_neg h]
theorem lbs_atbad {l : List UInt8} {k : Nat} {x : UInt8} (hk : k < l.length) (hx : l.getD k 0 = x) (h0 : x.toNat ≠ 0) (h1 : 63 < x.toNat ∨ l.length < k + 1 + x.toNat) : lbs (l.drop k) = none := by
  rw [drop_cons hk, hx, lbs_bad h0]
  rw [List.length_drop]
  omega
theorem lbs_atmore {l : List UInt8} {k : Nat} {x : UInt8} (hk : k < l.length) (hx : l.getD k 0 = x) (h0 : x.toNat ≠ 0) (h1 : x.toNat ≤ 63) (h2 : k + 1 + x.toNat ≤ l.length) :
    lbs (l.drop k) = (lbs (l.drop (k + 1 + x.toNat))).map ((l.drop (k + 1)).take x.toNat :: ·) := by
  rw [drop_cons hk, hx, lbs_more h0 h1 (by rw [List.length_drop]; omega), List.drop_drop]
/-- What stands at place k tells of the whole. -/
def IsRel (l : List UInt8) (k : Nat) : Prop := (k ≤ l.length ∧ (lbs l).isSome = (lbs (l.drop k)).isSome) ∨ (l.length < k ∧ (lbs l).isSome = false)
theorem isRel_step {l : List UInt8} {k : Nat} {x : UInt8} (h : IsRel l k) (hk : k < l.length) (hx : l.getD k 0 = x) (h0 : x.toNat ≠ 0) (h1 : x.toNat ≤ 63) : IsRel l (k + 1 + x.toNat) := by
  rcases h with ⟨_, h⟩ | ⟨h, _⟩
  · by_cases h2 : k + 1 + x.toNat ≤ l.length
    · refine Or.inl ⟨h2, ?_⟩
      rw [h, lbs_atmore hk hx h0 h1 h2, Option.isSome_map]
    · refine Or.inr ⟨by omega, ?_⟩
      rw [h, lbs_atbad hk hx h0 (by omega)]
      rfl
  · omega
theorem isRel_bad {l : List UInt8} {k : Nat} {x : UInt8} (h : IsRel l k) (hk : k < l.length) (hx : l.getD k 0 = x) (h0 : x.toNat ≠ 0) (h1 : 63 < x.toNat) : (lbs l).isSome = false := by
  rcases h with ⟨_, h⟩ | ⟨h, h2⟩
  · rw [h, lbs_atbad hk hx h0 (Or.inl h1)]
    rfl
  · exact h2
theorem isRel_zero {l : List UInt8} {k : Nat} {x : UInt8} (h : IsRel l k) (hk : k < l.length) (hx : l.getD k 0 = x) (h0 : x.toNat = 0) : (lbs l).isSome = decide (k + 1 = l.length) := by
  rcases h with ⟨_, h⟩ | ⟨h, _⟩
  · rw [h, lbs_at0 hk hx h0]
    by_cases e : k + 1 = l.length
    · rw [if_pos e, decide_eq_true e]; rfl
    · rw [if_neg e, decide_eq_false e]; rfl
  · omega
theorem isRel_end {l : List UInt8} {k : Nat} (h : IsRel l k) (hk : l.length ≤ k) : (lbs l).isSome = false := by
  rcases h with ⟨h1, h⟩ | ⟨_, h⟩
  · rw [h, lbs_end hk]; rfl
  · exact h
theorem isN_long {l : List UInt8} (h : 255 < l.length) : isN l = false := by unfold isN labels; rw [if_neg (by omega)]; rfl
theorem isN_short {l : List UInt8} (h : l.length ≤ 255) : isN l = (lbs l).isSome := by unfold isN labels; rw [if_pos h]
/-- A slice of texts of the call's own came back, and nothing that stood has changed. -/
def RetStrs (w : World) (L : List (List UInt8)) (e : Ending) (w' : World) : Prop :=
  ∃ v, e = .returned v ∧ w'.ownsRow w.heap.size 9 1 v L.length (strCs L) ∧ Below w.heap.size w w'
theorem piece_list (s : ByteArray) (i j : Nat) : (s.extract i (i + j)).data.toList = (s.data.toList.drop i).take j := by
  rw [extract_list, List.drop_take, Nat.add_sub_cancel_left]
/-- Labels so far, and those that are still to come. -/
def LabRel (l : List UInt8) (L A : List (List UInt8)) (k : Nat) : Prop := ∃ M, lbs (l.drop k) = some M ∧ L = A ++ M
theorem labRel_lt {l : List UInt8} {L A : List (List UInt8)} {k : Nat} (h : LabRel l L A k) : k < l.length := by
  obtain ⟨M, h, _⟩ := h
  rcases Nat.lt_or_ge k l.length with hlt | hge
  · exact hlt
  · rw [lbs_end hge] at h; cases h
theorem labRel_zero {l : List UInt8} {L A : List (List UInt8)} {k : Nat} {x : UInt8} (h : LabRel l L A k) (hx : l.getD k 0 = x) (h0 : x.toNat = 0) : A = L := by
  have hk := labRel_lt h
  obtain ⟨M, h, e⟩ := h
  rw [lbs_at0 hk hx h0] at h
  split at h
  · injection h with h
    rw [e, ← h, List.append_nil]
  · cases h
theorem labRel_more {l : List UInt8} {L A : List (List UInt8)} {k : Nat} {x : UInt8} (h : LabRel l L A k) (hx : l.getD k 0 = x) (h0 : x.toNat ≠ 0) :
    x.toNat ≤ 63 ∧ k + 1 + x.toNat ≤ l.length ∧ LabRel l L (A ++ [(l.drop (k + 1)).take x.toNat]) (k + 1 + x.toNat) := by
  have hk := labRel_lt h
  obtain ⟨M, h, e⟩ := h
  by_cases hbad : 63 < x.toNat ∨ l.length < k + 1 + x.toNat
  · rw [lbs_atbad hk hx h0 hbad] at h; cases h
  · rw [lbs_atmore hk hx h0 (by omega) (by omega)] at h
    obtain ⟨M', h', rfl⟩ := Option.map_eq_some_iff.1 h
    exact ⟨by omega, by omega, M', h', by rw [e, List.append_assoc]; rfl⟩
theorem labels_lbs {l : List UInt8} {L : List (List UInt8)} (h : labels l = some L) : lbs l = some L := by
  unfold labels at h
  split at h
  · exact h
  · cases h
theorem labRel_len {l : List UInt8} {L A : List (List UInt8)} {k : Nat} (h : LabRel l L A k) : A.length ≤ L.length := by
  obtain ⟨M, _, e⟩ := h
  rw [e, List.length_append]; omega
theorem lbs_count {s : List UInt8} : ∀ {L : List (List UInt8)}, lbs s = some L → L.length ≤ s.length := by
  fun_induction lbs s with
  | case1 => intro L h; cases h
  | case2 n r h0 h1 => intro L h; injection h with h; subst h; exact Nat.zero_le _
  | case3 => intro L h; cases h
  | case4 => intro L h; cases h
  | case5 n r h0 h1 ih =>
    intro L h
    obtain ⟨M, hM, rfl⟩ := Option.map_eq_some_iff.1 h
    have := ih hM
    rw [List.length_drop] at this
    simp only [List.length_cons]
    omega

end Go.Proofs.Ytihkmdojakalbaa
