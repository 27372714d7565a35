/- Texts of one proof, one behind the other: RecPlain. -/
import Derived.Test.YtihkmdojakalbaaProg
import Derived.Test.YtihkmdojakalbaaRecAt
import Derived.Test.YtihkmdojakalbaaWriteSparesProofG6
import Derived.Test.YtihkmdojakalbaaWriteSparesProofG8
import Derived.Test.YtihkmdojakalbaaWriteSparesProofG1
import Derived.Test.YtihkmdojakalbaaHeld
import Derived.WalkKit
import Derived.Lib.Hide
import Derived.Outline
import Derived.IntWalk
import Derived.WalkSpells
import Derived.WalkLawsBesides
import Derived.Deep.RegionHeld3
import Derived.Deep.DeepCutAuto
import Derived.Deep.Draws

/- The contract of rdata's Plain. For records of at most 10^5 texts of at most 10^5 bytes. -/
namespace Go.Proofs.Ytihkmdojakalbaa
open Go.RowKit Bytes Strs Nums NameMath RecMath

theorem one_flat {L : List (List UInt8)} (h : L.length = 1) : L.flatten = L.getD 0 [] := by
  match L, h with
  | [a], _ => simp
theorem two_flat {L : List (List UInt8)} (h : L.length = 2) : L.flatten = L.getD 0 [] ++ L.getD 1 [] := by
  match L, h with
  | [a, b], _ => simp
theorem one_map {L : List (List UInt8)} {k : Nat} (hk : k ≠ 16) (h : L.length = 1) : L.flatMap (textL k) = L.getD 0 [] := by
  match L, h with
  | [a], _ => simp [textL_not hk]
theorem nil_of {α : Type} {L : List α} (h : L.length = 0) : L = [] := List.length_eq_zero_iff.1 h
theorem check_at (R : Rec) (x : ByteArray) (k l t : Nat) (A1 : Option Addr) (n1 c1 : Nat) (A2 : Option Addr) (n2 c2 : Nat) (A3 : Option Addr) (n3 c3 : Nat) (E : Nat) (kk ee : Int) (w : World) (hR : Hid (RecAt w w.heap.size R x k l t A1 n1 A2 n2 A3 n3)) (hS : Hid (Small R)) (hE : Hid (checkE R = E)) (hkk : (k : Int) = kk) (hee : (E : Int) = ee) :
    Calls Try.prog 39 #[.agg #[.string x, .int .u16 kk, .int .u16 l, .int .u32 t, .slice A1 n1 c1, .slice A2 n2 c2, .slice A3 n3 c3]] w fun e w' => e = .returned (.int .i64 ee) ∧ Below w.heap.size w w' := by
  subst hkk
  subst hee
  exact check_is R x k l t A1 n1 c1 A2 n2 c2 A3 n3 c3 E w hR hS hE
theorem numbers_held (A : Option Addr) (c n k : Nat) (L : List Nat) (r : ByteArray) (pa pb pc pd : Addr) (va vb vc vd : Value) (w W : World)
    (ha : pa.block < w.heap.size) (hb : pb.block < w.heap.size) (hc : pc.block < w.heap.size) (hd : pd.block < w.heap.size)
    (hS : W.cell? pa = some va ∧ W.cell? pb = some vb ∧ W.cell? pc = some vc ∧ W.cell? pd = some vd ∧ Held w W)
    (hr : Hid (RdN w w.heap.size A L)) (hn0 : Hid (L.length = n)) (hn : n ≤ 100000) (hk : k ≤ 8) (hu : Hid (∀ k, k < L.length → L.getD k 0 ≤ 4294967295)) (hR : Hid (numsL k L = r.data.toList)) (kk : Int) (hkk : (k : Int) = kk) :
    Calls Try.prog 107 #[.slice A n c, .int .i64 kk] W fun e w' => e = .returned (.string r) ∧ w'.cell? pa = some va ∧ w'.cell? pb = some vb ∧ w'.cell? pc = some vc ∧ w'.cell? pd = some vd ∧ Held w w' := by
  subst hkk
  obtain ⟨h1, h2, h3, h4, hH⟩ := hS
  have hH' : Below w.heap.size w W := hH
  have hle := hH'.size
  exact (numbers_is A c n k L r W (hr.out.on hH' hle) hn0 hn hk hu hR).mono fun _ _ ⟨he, hB⟩ => ⟨he, (hB.cell (by omega)).trans h1, (hB.cell (by omega)).trans h2, (hB.cell (by omega)).trans h3, (hB.cell (by omega)).trans h4, hH'.trans (hB.mono hle)⟩

set_option maxHeartbeats 4000000 in
set_option maxRecDepth 100000 in
theorem plain_2 (R : Rec) (x : ByteArray) (k l t : Nat) (A1 : Option Addr) (n1 c1 : Nat) (A2 : Option Addr) (n2 c2 : Nat) (A3 : Option Addr) (n3 c3 : Nat) (p : ByteArray) (w : World) (hR : Hid (RecAt w w.heap.size R x k l t A1 n1 A2 n2 A3 n3)) (hS : Hid (Small R)) (hk : k = 2) (hE : Hid (checkE R = 0)) (hp : Hid (plainL R = p.data.toList)) :
    Calls Try.prog 100 #[.agg #[.string x, .int .u16 k, .int .u16 l, .int .u32 t, .slice A1 n1 c1, .slice A2 n2 c2, .slice A3 n3 c3]] w fun e w' => e = .returned (.string p) ∧ Below w.heap.size w w' := by
  subst hk
  have hm1 := hR.out.m1 hS.out
  have hm2 := hR.out.m2 hS.out
  have hm3 := hR.out.m3 hS.out
  have hkd := hR.out.kind
  have HR2 := Lib.hid (hR.out.box (.cells #[.string x, .int .u16 2, .int .u16 l, .int .u32 t, .slice A1 n1 c1, .slice A2 n2 c2, .slice A3 n3 c3] 49))
  have HB0 : Hid (Below w.heap.size w (w.alloc (.cells #[.string x, .int .u16 2, .int .u16 l, .int .u32 t, .slice A1 n1 c1, .slice A2 n2 c2, .slice A3 n3 c3] 49))) := (Below.refl _ _).alloc (Nat.le_refl _) _
  have d1 : (w.alloc (.cells #[.string x, .int .u16 2, .int .u16 l, .int .u32 t, .slice A1 n1 c1, .slice A2 n2 c2, .slice A3 n3 c3] 49)).cell? ⟨w.heap.size, 1, none⟩ = some (.int .u16 2) := by simp
  have d4 : (w.alloc (.cells #[.string x, .int .u16 2, .int .u16 l, .int .u32 t, .slice A1 n1 c1, .slice A2 n2 c2, .slice A3 n3 c3] 49)).cell? ⟨w.heap.size, 4, none⟩ = some (.slice A1 n1 c1) := by simp
  have d5 : (w.alloc (.cells #[.string x, .int .u16 2, .int .u16 l, .int .u32 t, .slice A1 n1 c1, .slice A2 n2 c2, .slice A3 n3 c3] 49)).cell? ⟨w.heap.size, 5, none⟩ = some (.slice A2 n2 c2) := by simp
  have d6 : (w.alloc (.cells #[.string x, .int .u16 2, .int .u16 l, .int .u32 t, .slice A1 n1 c1, .slice A2 n2 c2, .slice A3 n3 c3] 49)).cell? ⟨w.heap.size, 6, none⟩ = some (.slice A3 n3 c3) := by simp
  have hgl : w.heap.size < (w.alloc (.cells #[.string x, .int .u16 2, .int .u16 l, .int .u32 t, .slice A1 n1 c1, .slice A2 n2 c2, .slice A3 n3 c3] 49)).heap.size := by simp
  have HL1 := Lib.hid HR2.out.len1
  have HL2 := Lib.hid HR2.out.len2
  have HL3 := Lib.hid HR2.out.len3
  have HRD1 := Lib.hid HR2.out.rd1
  have HRD2 := Lib.hid HR2.out.rd2
  have HRD3 := Lib.hid HR2.out.rd3
  have hok := (check_ok hE.out).2.1
  have hoc := okB_cnt hok
  obtain ⟨l1, l2, l3⟩ := cnt_of hoc.1
  rw [HL1.out, hkd] at l1
  rw [HL2.out, hkd] at l2
  rw [HL3.out, hkd] at l3
  rw [show shA 2 = 1 from rfl] at l1
  rw [show shB 2 = 0 from rfl] at l2
  rw [show shC 2 = 0 from rfl] at l3
  have hpl : R.names.getD 0 [] = p.data.toList := by
    rw [← hp.out, plainL_not (by rw [hkd]; decide), nil_of (L := R.nums) (by rw [HL2.out]; exact l2), nil_of (L := R.texts) (by rw [HL3.out]; omega), one_flat (by rw [HL1.out]; exact l1)]
    simp [numsL]
  have HPL := Lib.hid hpl
  have M1 := Lib.hid l1
  have M2 := Lib.hid l2
  have M3 := Lib.hid l3
  clear hok hoc hpl hp hkd l1 l2 l3
  go_enter Try.func100, Try.ntmps100
  go_wp2_with fail
  generalize w.alloc (.cells #[.string x, .int .u16 2, .int .u16 l, .int .u32 t, .slice A1 n1 c1, .slice A2 n2 c2, .slice A3 n3 c3] 49) = wb at *
  generalize hgw : w.heap.size = g at *
  have HGW := Lib.hid hgw
  clear hgw
  ((with_reducible refine (check_at R x 2 l t A1 n1 c1 A2 n2 c2 A3 n3 c3 0 2 0 _ HR2 hS hE rfl rfl).mono ?_))
  rintro e w1 ⟨rfl, hB⟩
  have hw1 := hB.size
  have q1 : w1.cell? ⟨g, 1, none⟩ = some (.int .u16 2) := (hB.cell (p := ⟨g, 1, none⟩) hgl).trans d1
  have q4 : w1.cell? ⟨g, 4, none⟩ = some (.slice A1 n1 c1) := (hB.cell (p := ⟨g, 4, none⟩) hgl).trans d4
  have q5 : w1.cell? ⟨g, 5, none⟩ = some (.slice A2 n2 c2) := (hB.cell (p := ⟨g, 5, none⟩) hgl).trans d5
  have q6 : w1.cell? ⟨g, 6, none⟩ = some (.slice A3 n3 c3) := (hB.cell (p := ⟨g, 6, none⟩) hgl).trans d6
  have hgl1 : g < w1.heap.size := Nat.lt_of_lt_of_le hgl hw1
  have h1n : 0 < R.names.length := by rw [HL1.out]; have := M1.out; have := M3.out; omega
  obtain ⟨ad, rfl, hab, hcell⟩ := (HRD1.out.on hB hw1).get h1n
  have hy := hS.out.s1 0 h1n
  rw [HPL.out, ← Lib.size_eq] at hy
  rw [HPL.out, mk_data, show ad.add 0 = ad from by simp [Addr.add]] at hcell
  have hn0 : (0 : Int) < n1 := by have := M1.out; have := M3.out; omega
  have hn0n : 0 < n1 := by have := M1.out; have := M3.out; omega
  clear h1n
  have hy6 : p.size ≤ 1000000 := by omega
  go_wp2_with fail
  refine (clone_any p _ hy6).mono ?_
  rintro e w2 ⟨rfl, hB2⟩
  have hBB := hB.trans (hB2.mono hw1)
  go_wp2_with fail
  go_ret
  exact ⟨rfl, by have h := HB0.out; rw [← HGW.out] at h; exact h.trans (hBB.mono h.size)⟩

set_option maxHeartbeats 4000000 in
set_option maxRecDepth 100000 in
theorem plain_5 (R : Rec) (x : ByteArray) (k l t : Nat) (A1 : Option Addr) (n1 c1 : Nat) (A2 : Option Addr) (n2 c2 : Nat) (A3 : Option Addr) (n3 c3 : Nat) (p : ByteArray) (w : World) (hR : Hid (RecAt w w.heap.size R x k l t A1 n1 A2 n2 A3 n3)) (hS : Hid (Small R)) (hk : k = 5) (hE : Hid (checkE R = 0)) (hp : Hid (plainL R = p.data.toList)) :
    Calls Try.prog 100 #[.agg #[.string x, .int .u16 k, .int .u16 l, .int .u32 t, .slice A1 n1 c1, .slice A2 n2 c2, .slice A3 n3 c3]] w fun e w' => e = .returned (.string p) ∧ Below w.heap.size w w' := by
  subst hk
  have hm1 := hR.out.m1 hS.out
  have hm2 := hR.out.m2 hS.out
  have hm3 := hR.out.m3 hS.out
  have hkd := hR.out.kind
  have HR2 := Lib.hid (hR.out.box (.cells #[.string x, .int .u16 5, .int .u16 l, .int .u32 t, .slice A1 n1 c1, .slice A2 n2 c2, .slice A3 n3 c3] 49))
  have HB0 : Hid (Below w.heap.size w (w.alloc (.cells #[.string x, .int .u16 5, .int .u16 l, .int .u32 t, .slice A1 n1 c1, .slice A2 n2 c2, .slice A3 n3 c3] 49))) := (Below.refl _ _).alloc (Nat.le_refl _) _
  have d1 : (w.alloc (.cells #[.string x, .int .u16 5, .int .u16 l, .int .u32 t, .slice A1 n1 c1, .slice A2 n2 c2, .slice A3 n3 c3] 49)).cell? ⟨w.heap.size, 1, none⟩ = some (.int .u16 5) := by simp
  have d4 : (w.alloc (.cells #[.string x, .int .u16 5, .int .u16 l, .int .u32 t, .slice A1 n1 c1, .slice A2 n2 c2, .slice A3 n3 c3] 49)).cell? ⟨w.heap.size, 4, none⟩ = some (.slice A1 n1 c1) := by simp
  have d5 : (w.alloc (.cells #[.string x, .int .u16 5, .int .u16 l, .int .u32 t, .slice A1 n1 c1, .slice A2 n2 c2, .slice A3 n3 c3] 49)).cell? ⟨w.heap.size, 5, none⟩ = some (.slice A2 n2 c2) := by simp
  have d6 : (w.alloc (.cells #[.string x, .int .u16 5, .int .u16 l, .int .u32 t, .slice A1 n1 c1, .slice A2 n2 c2, .slice A3 n3 c3] 49)).cell? ⟨w.heap.size, 6, none⟩ = some (.slice A3 n3 c3) := by simp
  have hgl : w.heap.size < (w.alloc (.cells #[.string x, .int .u16 5, .int .u16 l, .int .u32 t, .slice A1 n1 c1, .slice A2 n2 c2, .slice A3 n3 c3] 49)).heap.size := by simp
  have HL1 := Lib.hid HR2.out.len1
  have HL2 := Lib.hid HR2.out.len2
  have HL3 := Lib.hid HR2.out.len3
  have HRD1 := Lib.hid HR2.out.rd1
  have HRD2 := Lib.hid HR2.out.rd2
  have HRD3 := Lib.hid HR2.out.rd3
  have hok := (check_ok hE.out).2.1
  have hoc := okB_cnt hok
  obtain ⟨l1, l2, l3⟩ := cnt_of hoc.1
  rw [HL1.out, hkd] at l1
  rw [HL2.out, hkd] at l2
  rw [HL3.out, hkd] at l3
  rw [show shA 5 = 1 from rfl] at l1
  rw [show shB 5 = 0 from rfl] at l2
  rw [show shC 5 = 0 from rfl] at l3
  have hpl : R.names.getD 0 [] = p.data.toList := by
    rw [← hp.out, plainL_not (by rw [hkd]; decide), nil_of (L := R.nums) (by rw [HL2.out]; exact l2), nil_of (L := R.texts) (by rw [HL3.out]; omega), one_flat (by rw [HL1.out]; exact l1)]
    simp [numsL]
  have HPL := Lib.hid hpl
  have M1 := Lib.hid l1
  have M2 := Lib.hid l2
  have M3 := Lib.hid l3
  clear hok hoc hpl hp hkd l1 l2 l3
  go_enter Try.func100, Try.ntmps100
  go_wp2_with fail
  generalize w.alloc (.cells #[.string x, .int .u16 5, .int .u16 l, .int .u32 t, .slice A1 n1 c1, .slice A2 n2 c2, .slice A3 n3 c3] 49) = wb at *
  generalize hgw : w.heap.size = g at *
  have HGW := Lib.hid hgw
  clear hgw
  ((with_reducible refine (check_at R x 5 l t A1 n1 c1 A2 n2 c2 A3 n3 c3 0 5 0 _ HR2 hS hE rfl rfl).mono ?_))
  rintro e w1 ⟨rfl, hB⟩
  have hw1 := hB.size
  have q1 : w1.cell? ⟨g, 1, none⟩ = some (.int .u16 5) := (hB.cell (p := ⟨g, 1, none⟩) hgl).trans d1
  have q4 : w1.cell? ⟨g, 4, none⟩ = some (.slice A1 n1 c1) := (hB.cell (p := ⟨g, 4, none⟩) hgl).trans d4
  have q5 : w1.cell? ⟨g, 5, none⟩ = some (.slice A2 n2 c2) := (hB.cell (p := ⟨g, 5, none⟩) hgl).trans d5
  have q6 : w1.cell? ⟨g, 6, none⟩ = some (.slice A3 n3 c3) := (hB.cell (p := ⟨g, 6, none⟩) hgl).trans d6
  have hgl1 : g < w1.heap.size := Nat.lt_of_lt_of_le hgl hw1
  have h1n : 0 < R.names.length := by rw [HL1.out]; have := M1.out; have := M3.out; omega
  obtain ⟨ad, rfl, hab, hcell⟩ := (HRD1.out.on hB hw1).get h1n
  have hy := hS.out.s1 0 h1n
  rw [HPL.out, ← Lib.size_eq] at hy
  rw [HPL.out, mk_data, show ad.add 0 = ad from by simp [Addr.add]] at hcell
  have hn0 : (0 : Int) < n1 := by have := M1.out; have := M3.out; omega
  have hn0n : 0 < n1 := by have := M1.out; have := M3.out; omega
  clear h1n
  have hy6 : p.size ≤ 1000000 := by omega
  go_wp2_with fail
  refine (clone_any p _ hy6).mono ?_
  rintro e w2 ⟨rfl, hB2⟩
  have hBB := hB.trans (hB2.mono hw1)
  go_wp2_with fail
  go_ret
  exact ⟨rfl, by have h := HB0.out; rw [← HGW.out] at h; exact h.trans (hBB.mono h.size)⟩

set_option maxHeartbeats 4000000 in
set_option maxRecDepth 100000 in
theorem plain_12 (R : Rec) (x : ByteArray) (k l t : Nat) (A1 : Option Addr) (n1 c1 : Nat) (A2 : Option Addr) (n2 c2 : Nat) (A3 : Option Addr) (n3 c3 : Nat) (p : ByteArray) (w : World) (hR : Hid (RecAt w w.heap.size R x k l t A1 n1 A2 n2 A3 n3)) (hS : Hid (Small R)) (hk : k = 12) (hE : Hid (checkE R = 0)) (hp : Hid (plainL R = p.data.toList)) :
    Calls Try.prog 100 #[.agg #[.string x, .int .u16 k, .int .u16 l, .int .u32 t, .slice A1 n1 c1, .slice A2 n2 c2, .slice A3 n3 c3]] w fun e w' => e = .returned (.string p) ∧ Below w.heap.size w w' := by
  subst hk
  have hm1 := hR.out.m1 hS.out
  have hm2 := hR.out.m2 hS.out
  have hm3 := hR.out.m3 hS.out
  have hkd := hR.out.kind
  have HR2 := Lib.hid (hR.out.box (.cells #[.string x, .int .u16 12, .int .u16 l, .int .u32 t, .slice A1 n1 c1, .slice A2 n2 c2, .slice A3 n3 c3] 49))
  have HB0 : Hid (Below w.heap.size w (w.alloc (.cells #[.string x, .int .u16 12, .int .u16 l, .int .u32 t, .slice A1 n1 c1, .slice A2 n2 c2, .slice A3 n3 c3] 49))) := (Below.refl _ _).alloc (Nat.le_refl _) _
  have d1 : (w.alloc (.cells #[.string x, .int .u16 12, .int .u16 l, .int .u32 t, .slice A1 n1 c1, .slice A2 n2 c2, .slice A3 n3 c3] 49)).cell? ⟨w.heap.size, 1, none⟩ = some (.int .u16 12) := by simp
  have d4 : (w.alloc (.cells #[.string x, .int .u16 12, .int .u16 l, .int .u32 t, .slice A1 n1 c1, .slice A2 n2 c2, .slice A3 n3 c3] 49)).cell? ⟨w.heap.size, 4, none⟩ = some (.slice A1 n1 c1) := by simp
  have d5 : (w.alloc (.cells #[.string x, .int .u16 12, .int .u16 l, .int .u32 t, .slice A1 n1 c1, .slice A2 n2 c2, .slice A3 n3 c3] 49)).cell? ⟨w.heap.size, 5, none⟩ = some (.slice A2 n2 c2) := by simp
  have d6 : (w.alloc (.cells #[.string x, .int .u16 12, .int .u16 l, .int .u32 t, .slice A1 n1 c1, .slice A2 n2 c2, .slice A3 n3 c3] 49)).cell? ⟨w.heap.size, 6, none⟩ = some (.slice A3 n3 c3) := by simp
  have hgl : w.heap.size < (w.alloc (.cells #[.string x, .int .u16 12, .int .u16 l, .int .u32 t, .slice A1 n1 c1, .slice A2 n2 c2, .slice A3 n3 c3] 49)).heap.size := by simp
  have HL1 := Lib.hid HR2.out.len1
  have HL2 := Lib.hid HR2.out.len2
  have HL3 := Lib.hid HR2.out.len3
  have HRD1 := Lib.hid HR2.out.rd1
  have HRD2 := Lib.hid HR2.out.rd2
  have HRD3 := Lib.hid HR2.out.rd3
  have hok := (check_ok hE.out).2.1
  have hoc := okB_cnt hok
  obtain ⟨l1, l2, l3⟩ := cnt_of hoc.1
  rw [HL1.out, hkd] at l1
  rw [HL2.out, hkd] at l2
  rw [HL3.out, hkd] at l3
  rw [show shA 12 = 1 from rfl] at l1
  rw [show shB 12 = 0 from rfl] at l2
  rw [show shC 12 = 0 from rfl] at l3
  have hpl : R.names.getD 0 [] = p.data.toList := by
    rw [← hp.out, plainL_not (by rw [hkd]; decide), nil_of (L := R.nums) (by rw [HL2.out]; exact l2), nil_of (L := R.texts) (by rw [HL3.out]; omega), one_flat (by rw [HL1.out]; exact l1)]
    simp [numsL]
  have HPL := Lib.hid hpl
  have M1 := Lib.hid l1
  have M2 := Lib.hid l2
  have M3 := Lib.hid l3
  clear hok hoc hpl hp hkd l1 l2 l3
  go_enter Try.func100, Try.ntmps100
  go_wp2_with fail
  generalize w.alloc (.cells #[.string x, .int .u16 12, .int .u16 l, .int .u32 t, .slice A1 n1 c1, .slice A2 n2 c2, .slice A3 n3 c3] 49) = wb at *
  generalize hgw : w.heap.size = g at *
  have HGW := Lib.hid hgw
  clear hgw
  ((with_reducible refine (check_at R x 12 l t A1 n1 c1 A2 n2 c2 A3 n3 c3 0 12 0 _ HR2 hS hE rfl rfl).mono ?_))
  rintro e w1 ⟨rfl, hB⟩
  have hw1 := hB.size
  have q1 : w1.cell? ⟨g, 1, none⟩ = some (.int .u16 12) := (hB.cell (p := ⟨g, 1, none⟩) hgl).trans d1
  have q4 : w1.cell? ⟨g, 4, none⟩ = some (.slice A1 n1 c1) := (hB.cell (p := ⟨g, 4, none⟩) hgl).trans d4
  have q5 : w1.cell? ⟨g, 5, none⟩ = some (.slice A2 n2 c2) := (hB.cell (p := ⟨g, 5, none⟩) hgl).trans d5
  have q6 : w1.cell? ⟨g, 6, none⟩ = some (.slice A3 n3 c3) := (hB.cell (p := ⟨g, 6, none⟩) hgl).trans d6
  have hgl1 : g < w1.heap.size := Nat.lt_of_lt_of_le hgl hw1
  have h1n : 0 < R.names.length := by rw [HL1.out]; have := M1.out; have := M3.out; omega
  obtain ⟨ad, rfl, hab, hcell⟩ := (HRD1.out.on hB hw1).get h1n
  have hy := hS.out.s1 0 h1n
  rw [HPL.out, ← Lib.size_eq] at hy
  rw [HPL.out, mk_data, show ad.add 0 = ad from by simp [Addr.add]] at hcell
  have hn0 : (0 : Int) < n1 := by have := M1.out; have := M3.out; omega
  have hn0n : 0 < n1 := by have := M1.out; have := M3.out; omega
  clear h1n
  have hy6 : p.size ≤ 1000000 := by omega
  go_wp2_with fail
  refine (clone_any p _ hy6).mono ?_
  rintro e w2 ⟨rfl, hB2⟩
  have hBB := hB.trans (hB2.mono hw1)
  go_wp2_with fail
  go_ret
  exact ⟨rfl, by have h := HB0.out; rw [← HGW.out] at h; exact h.trans (hBB.mono h.size)⟩

set_option maxHeartbeats 4000000 in
set_option maxRecDepth 100000 in
theorem plain_6 (R : Rec) (x : ByteArray) (k l t : Nat) (A1 : Option Addr) (n1 c1 : Nat) (A2 : Option Addr) (n2 c2 : Nat) (A3 : Option Addr) (n3 c3 : Nat) (p : ByteArray) (w : World) (hR : Hid (RecAt w w.heap.size R x k l t A1 n1 A2 n2 A3 n3)) (hS : Hid (Small R)) (hk : k = 6) (hE : Hid (checkE R = 0)) (hp : Hid (plainL R = p.data.toList)) :
    Calls Try.prog 100 #[.agg #[.string x, .int .u16 k, .int .u16 l, .int .u32 t, .slice A1 n1 c1, .slice A2 n2 c2, .slice A3 n3 c3]] w fun e w' => e = .returned (.string p) ∧ Below w.heap.size w w' := by
  subst hk
  have hm1 := hR.out.m1 hS.out
  have hm2 := hR.out.m2 hS.out
  have hm3 := hR.out.m3 hS.out
  have hkd := hR.out.kind
  have HR2 := Lib.hid (hR.out.box (.cells #[.string x, .int .u16 6, .int .u16 l, .int .u32 t, .slice A1 n1 c1, .slice A2 n2 c2, .slice A3 n3 c3] 49))
  have HB0 : Hid (Below w.heap.size w (w.alloc (.cells #[.string x, .int .u16 6, .int .u16 l, .int .u32 t, .slice A1 n1 c1, .slice A2 n2 c2, .slice A3 n3 c3] 49))) := (Below.refl _ _).alloc (Nat.le_refl _) _
  have d1 : (w.alloc (.cells #[.string x, .int .u16 6, .int .u16 l, .int .u32 t, .slice A1 n1 c1, .slice A2 n2 c2, .slice A3 n3 c3] 49)).cell? ⟨w.heap.size, 1, none⟩ = some (.int .u16 6) := by simp
  have d4 : (w.alloc (.cells #[.string x, .int .u16 6, .int .u16 l, .int .u32 t, .slice A1 n1 c1, .slice A2 n2 c2, .slice A3 n3 c3] 49)).cell? ⟨w.heap.size, 4, none⟩ = some (.slice A1 n1 c1) := by simp
  have d5 : (w.alloc (.cells #[.string x, .int .u16 6, .int .u16 l, .int .u32 t, .slice A1 n1 c1, .slice A2 n2 c2, .slice A3 n3 c3] 49)).cell? ⟨w.heap.size, 5, none⟩ = some (.slice A2 n2 c2) := by simp
  have d6 : (w.alloc (.cells #[.string x, .int .u16 6, .int .u16 l, .int .u32 t, .slice A1 n1 c1, .slice A2 n2 c2, .slice A3 n3 c3] 49)).cell? ⟨w.heap.size, 6, none⟩ = some (.slice A3 n3 c3) := by simp
  have hgl : w.heap.size < (w.alloc (.cells #[.string x, .int .u16 6, .int .u16 l, .int .u32 t, .slice A1 n1 c1, .slice A2 n2 c2, .slice A3 n3 c3] 49)).heap.size := by simp
  have HL1 := Lib.hid HR2.out.len1
  have HL2 := Lib.hid HR2.out.len2
  have HL3 := Lib.hid HR2.out.len3
  have HRD1 := Lib.hid HR2.out.rd1
  have HRD2 := Lib.hid HR2.out.rd2
  have HRD3 := Lib.hid HR2.out.rd3
  have hok := (check_ok hE.out).2.1
  have hoc := okB_cnt hok
  obtain ⟨l1, l2, l3⟩ := cnt_of hoc.1
  rw [HL1.out, hkd] at l1
  rw [HL2.out, hkd] at l2
  rw [HL3.out, hkd] at l3
  rw [show shA 6 = 2 from rfl] at l1
  rw [show shB 6 = 5 from rfl] at l2
  rw [show shC 6 = 0 from rfl] at l3
  have hpl : R.names.getD 0 [] ++ R.names.getD 1 [] ++ numsL 4 R.nums = p.data.toList := by
    rw [← hp.out, plainL_6 hkd, nil_of (L := R.texts) (by rw [HL3.out]; omega), two_flat (by rw [HL1.out]; exact l1)]
    simp
  have HPL := Lib.hid hpl
  have M1 := Lib.hid l1
  have M2 := Lib.hid l2
  have M3 := Lib.hid l3
  clear hok hoc hpl hp hkd l1 l2 l3
  go_enter Try.func100, Try.ntmps100
  go_wp2_with fail
  generalize w.alloc (.cells #[.string x, .int .u16 6, .int .u16 l, .int .u32 t, .slice A1 n1 c1, .slice A2 n2 c2, .slice A3 n3 c3] 49) = wb at *
  generalize hgw : w.heap.size = g at *
  have HGW := Lib.hid hgw
  clear hgw
  ((with_reducible refine (check_at R x 6 l t A1 n1 c1 A2 n2 c2 A3 n3 c3 0 6 0 _ HR2 hS hE rfl rfl).mono ?_))
  rintro e w1 ⟨rfl, hB⟩
  have hw1 := hB.size
  have q1 : w1.cell? ⟨g, 1, none⟩ = some (.int .u16 6) := (hB.cell (p := ⟨g, 1, none⟩) hgl).trans d1
  have q4 : w1.cell? ⟨g, 4, none⟩ = some (.slice A1 n1 c1) := (hB.cell (p := ⟨g, 4, none⟩) hgl).trans d4
  have q5 : w1.cell? ⟨g, 5, none⟩ = some (.slice A2 n2 c2) := (hB.cell (p := ⟨g, 5, none⟩) hgl).trans d5
  have q6 : w1.cell? ⟨g, 6, none⟩ = some (.slice A3 n3 c3) := (hB.cell (p := ⟨g, 6, none⟩) hgl).trans d6
  have hgl1 : g < w1.heap.size := Nat.lt_of_lt_of_le hgl hw1
  have h1n : 0 < R.names.length := by rw [HL1.out]; have := M1.out; omega
  have h2n : 1 < R.names.length := by rw [HL1.out]; have := M1.out; omega
  obtain ⟨ad, rfl, hab, hcell⟩ := (HRD1.out.on hB hw1).get h1n
  obtain ⟨ad', e', _, hcell2⟩ := (HRD1.out.on hB hw1).get h2n
  injection e' with e'
  subst e'
  rw [show ad.add 0 = ad from by simp [Addr.add]] at hcell
  rw [show ad.add 1 = ⟨ad.block, ad.off + 1, none⟩ from by simp [Addr.add]] at hcell2
  have hy := hS.out.s1 0 h1n
  have hy2 := hS.out.s1 1 h2n
  have hnl := numsL_len 4 R.nums
  rw [HL2.out] at hnl
  have HRN := Lib.hid (HRD2.out.on hB hw1)
  obtain ⟨r, hr⟩ : ∃ r, mk (numsL 4 R.nums) = r := ⟨_, rfl⟩
  have HRR : Hid (numsL 4 R.nums = r.data.toList) := by show _ = _; rw [← hr, mk_list]
  have hpe : p = mk (R.names.getD 0 []) ++ mk (R.names.getD 1 []) ++ r := list_inj (by rw [← HPL.out, cat_list, cat_list, mk_list, mk_list, HRR.out])
  have hrz : r.size ≤ 100 := by rw [← hr, mk_size, hnl]; have := M2.out; omega
  rw [← mk_size] at hy hy2
  generalize mk (R.names.getD 0 []) = y0 at *
  generalize mk (R.names.getD 1 []) = y1 at *
  have hy02 : (y0 ++ y1).size ≤ 200000 := by rw [ByteArray.size_append]; omega
  have hs1 : (9223372036854775807 < y0.size + y1.size) = False := eq_false (by omega)
  have hs2 : (9223372036854775807 < y0.size + y1.size + r.size) = False := eq_false (by omega)
  have HPE := Lib.hid hpe
  have hn0 : (0 : Int) < n1 := by have := M1.out; omega
  have hn0n : 0 < n1 := by have := M1.out; omega
  have hn1 : (1 : Int) < n1 := by have := M1.out; omega
  have hab1 : (⟨ad.block, ad.off + 1, none⟩ : Addr).block < w1.heap.size := hab
  have hH0 : Held w1 w1.drew := (Below.refl _ _).drew
  have hg4 : (⟨g, 4, none⟩ : Addr).block < w1.heap.size := hgl1
  have hg5 : (⟨g, 5, none⟩ : Addr).block < w1.heap.size := hgl1
  have hu := Lib.hid hS.out.u2
  clear h1n h2n hpe hr hnl
  go_wp2_with fail
  go_region_held3 (fun w' => w'.cell? ad = some (.string y0) ∧ w'.cell? ⟨ad.block, ad.off + 1, none⟩ = some (.string y1) ∧ w'.cell? ⟨g, 4, none⟩ = some (.slice (some ad) n1 c1) ∧ w'.cell? ⟨g, 5, none⟩ = some (.slice A2 n2 c2) ∧ Held w1 w') (go_keep)
    (first | ((go_at_call 107; (with_reducible refine (numbers_held A2 c2 n2 4 R.nums r ad ⟨ad.block, ad.off + 1, none⟩ ⟨g, 4, none⟩ ⟨g, 5, none⟩ (.string y0) (.string y1) (.slice (some ad) n1 c1) (.slice A2 n2 c2) w1 _ hab hab1 hg4 hg5 ?_ HRN HL2 hm2 (by decide) hu HRR 4 rfl).mono ?_)); (simp [*]); rintro e w2 ⟨rfl, k0, k1, k2, k3, hH2⟩))
  have hBB := hB.trans (Below.mono hH2 hw1)
  go_wp2_with fail
  go_ret
  exact ⟨by rw [HPE.out]; rfl, by have h := HB0.out; rw [← HGW.out] at h; exact h.trans (hBB.mono h.size)⟩

set_option maxHeartbeats 4000000 in
set_option maxRecDepth 100000 in
theorem plain_15 (R : Rec) (x : ByteArray) (k l t : Nat) (A1 : Option Addr) (n1 c1 : Nat) (A2 : Option Addr) (n2 c2 : Nat) (A3 : Option Addr) (n3 c3 : Nat) (p : ByteArray) (w : World) (hR : Hid (RecAt w w.heap.size R x k l t A1 n1 A2 n2 A3 n3)) (hS : Hid (Small R)) (hk : k = 15) (hE : Hid (checkE R = 0)) (hp : Hid (plainL R = p.data.toList)) :
    Calls Try.prog 100 #[.agg #[.string x, .int .u16 k, .int .u16 l, .int .u32 t, .slice A1 n1 c1, .slice A2 n2 c2, .slice A3 n3 c3]] w fun e w' => e = .returned (.string p) ∧ Below w.heap.size w w' := by
  subst hk
  have hm1 := hR.out.m1 hS.out
  have hm2 := hR.out.m2 hS.out
  have hm3 := hR.out.m3 hS.out
  have hkd := hR.out.kind
  have HR2 := Lib.hid (hR.out.box (.cells #[.string x, .int .u16 15, .int .u16 l, .int .u32 t, .slice A1 n1 c1, .slice A2 n2 c2, .slice A3 n3 c3] 49))
  have HB0 : Hid (Below w.heap.size w (w.alloc (.cells #[.string x, .int .u16 15, .int .u16 l, .int .u32 t, .slice A1 n1 c1, .slice A2 n2 c2, .slice A3 n3 c3] 49))) := (Below.refl _ _).alloc (Nat.le_refl _) _
  have d1 : (w.alloc (.cells #[.string x, .int .u16 15, .int .u16 l, .int .u32 t, .slice A1 n1 c1, .slice A2 n2 c2, .slice A3 n3 c3] 49)).cell? ⟨w.heap.size, 1, none⟩ = some (.int .u16 15) := by simp
  have d4 : (w.alloc (.cells #[.string x, .int .u16 15, .int .u16 l, .int .u32 t, .slice A1 n1 c1, .slice A2 n2 c2, .slice A3 n3 c3] 49)).cell? ⟨w.heap.size, 4, none⟩ = some (.slice A1 n1 c1) := by simp
  have d5 : (w.alloc (.cells #[.string x, .int .u16 15, .int .u16 l, .int .u32 t, .slice A1 n1 c1, .slice A2 n2 c2, .slice A3 n3 c3] 49)).cell? ⟨w.heap.size, 5, none⟩ = some (.slice A2 n2 c2) := by simp
  have d6 : (w.alloc (.cells #[.string x, .int .u16 15, .int .u16 l, .int .u32 t, .slice A1 n1 c1, .slice A2 n2 c2, .slice A3 n3 c3] 49)).cell? ⟨w.heap.size, 6, none⟩ = some (.slice A3 n3 c3) := by simp
  have hgl : w.heap.size < (w.alloc (.cells #[.string x, .int .u16 15, .int .u16 l, .int .u32 t, .slice A1 n1 c1, .slice A2 n2 c2, .slice A3 n3 c3] 49)).heap.size := by simp
  have HL1 := Lib.hid HR2.out.len1
  have HL2 := Lib.hid HR2.out.len2
  have HL3 := Lib.hid HR2.out.len3
  have HRD1 := Lib.hid HR2.out.rd1
  have HRD2 := Lib.hid HR2.out.rd2
  have HRD3 := Lib.hid HR2.out.rd3
  have hok := (check_ok hE.out).2.1
  have hoc := okB_cnt hok
  obtain ⟨l1, l2, l3⟩ := cnt_of hoc.1
  rw [HL1.out, hkd] at l1
  rw [HL2.out, hkd] at l2
  rw [HL3.out, hkd] at l3
  rw [show shA 15 = 1 from rfl] at l1
  rw [show shB 15 = 1 from rfl] at l2
  rw [show shC 15 = 0 from rfl] at l3
  have hpl : numsL 2 R.nums ++ R.names.getD 0 [] = p.data.toList := by
    rw [← hp.out, plainL_not (by rw [hkd]; decide), nil_of (L := R.texts) (by rw [HL3.out]; omega), one_flat (by rw [HL1.out]; exact l1)]
    simp
  have HPL := Lib.hid hpl
  have M1 := Lib.hid l1
  have M2 := Lib.hid l2
  have M3 := Lib.hid l3
  clear hok hoc hpl hp hkd l1 l2 l3
  go_enter Try.func100, Try.ntmps100
  go_wp2_with fail
  generalize w.alloc (.cells #[.string x, .int .u16 15, .int .u16 l, .int .u32 t, .slice A1 n1 c1, .slice A2 n2 c2, .slice A3 n3 c3] 49) = wb at *
  generalize hgw : w.heap.size = g at *
  have HGW := Lib.hid hgw
  clear hgw
  ((with_reducible refine (check_at R x 15 l t A1 n1 c1 A2 n2 c2 A3 n3 c3 0 15 0 _ HR2 hS hE rfl rfl).mono ?_))
  rintro e w1 ⟨rfl, hB⟩
  have hw1 := hB.size
  have q1 : w1.cell? ⟨g, 1, none⟩ = some (.int .u16 15) := (hB.cell (p := ⟨g, 1, none⟩) hgl).trans d1
  have q4 : w1.cell? ⟨g, 4, none⟩ = some (.slice A1 n1 c1) := (hB.cell (p := ⟨g, 4, none⟩) hgl).trans d4
  have q5 : w1.cell? ⟨g, 5, none⟩ = some (.slice A2 n2 c2) := (hB.cell (p := ⟨g, 5, none⟩) hgl).trans d5
  have q6 : w1.cell? ⟨g, 6, none⟩ = some (.slice A3 n3 c3) := (hB.cell (p := ⟨g, 6, none⟩) hgl).trans d6
  have hgl1 : g < w1.heap.size := Nat.lt_of_lt_of_le hgl hw1
  have h1n : 0 < R.names.length := by rw [HL1.out]; have := M1.out; omega
  obtain ⟨ad, rfl, hab, hcell⟩ := (HRD1.out.on hB hw1).get h1n
  rw [show ad.add 0 = ad from by simp [Addr.add]] at hcell
  have hy := hS.out.s1 0 h1n
  have hnl := numsL_len 2 R.nums
  rw [HL2.out] at hnl
  have HRN := Lib.hid (HRD2.out.on hB hw1)
  obtain ⟨r, hr⟩ : ∃ r, mk (numsL 2 R.nums) = r := ⟨_, rfl⟩
  have HRR : Hid (numsL 2 R.nums = r.data.toList) := by show _ = _; rw [← hr, mk_list]
  have hpe : p = r ++ mk (R.names.getD 0 []) := list_inj (by rw [← HPL.out, cat_list, mk_list, HRR.out])
  have hrz : r.size ≤ 100 := by rw [← hr, mk_size, hnl]; have := M2.out; omega
  rw [← mk_size] at hy
  generalize mk (R.names.getD 0 []) = y0 at *
  have hs1 : (9223372036854775807 < r.size + y0.size) = False := eq_false (by omega)
  have HPE := Lib.hid hpe
  have hn0 : (0 : Int) < n1 := by have := M1.out; omega
  have hn0n : 0 < n1 := by have := M1.out; omega
  have hH0 : Held w1 w1.drew := (Below.refl _ _).drew
  have hg4 : (⟨g, 4, none⟩ : Addr).block < w1.heap.size := hgl1
  have hg5 : (⟨g, 5, none⟩ : Addr).block < w1.heap.size := hgl1
  have hu := Lib.hid hS.out.u2
  clear h1n hpe hr hnl
  go_wp2_with fail
  go_region_held3 (fun w' => w'.cell? ad = some (.string y0) ∧ w'.cell? ⟨g, 4, none⟩ = some (.slice (some ad) n1 c1) ∧ w'.cell? ⟨g, 5, none⟩ = some (.slice A2 n2 c2) ∧ Held w1 w') (go_keep)
    (first | ((go_at_call 107; (with_reducible refine (numbers_held A2 c2 n2 2 R.nums r ad ⟨g, 4, none⟩ ⟨g, 5, none⟩ ⟨g, 5, none⟩ (.string y0) (.slice (some ad) n1 c1) (.slice A2 n2 c2) (.slice A2 n2 c2) w1 _ hab hg4 hg5 hg5 ?_ HRN HL2 hm2 (by decide) hu HRR 2 rfl).mono ?_)); (simp [*]); rintro e w2 ⟨rfl, k0, k1, k2, k3, hH2⟩))
  have hBB := hB.trans (Below.mono hH2 hw1)
  go_wp2_with fail
  go_ret
  exact ⟨by rw [HPE.out]; rfl, by have h := HB0.out; rw [← HGW.out] at h; exact h.trans (hBB.mono h.size)⟩

set_option maxHeartbeats 4000000 in
set_option maxRecDepth 100000 in
theorem plain_33 (R : Rec) (x : ByteArray) (k l t : Nat) (A1 : Option Addr) (n1 c1 : Nat) (A2 : Option Addr) (n2 c2 : Nat) (A3 : Option Addr) (n3 c3 : Nat) (p : ByteArray) (w : World) (hR : Hid (RecAt w w.heap.size R x k l t A1 n1 A2 n2 A3 n3)) (hS : Hid (Small R)) (hk : k = 33) (hE : Hid (checkE R = 0)) (hp : Hid (plainL R = p.data.toList)) :
    Calls Try.prog 100 #[.agg #[.string x, .int .u16 k, .int .u16 l, .int .u32 t, .slice A1 n1 c1, .slice A2 n2 c2, .slice A3 n3 c3]] w fun e w' => e = .returned (.string p) ∧ Below w.heap.size w w' := by
  subst hk
  have hm1 := hR.out.m1 hS.out
  have hm2 := hR.out.m2 hS.out
  have hm3 := hR.out.m3 hS.out
  have hkd := hR.out.kind
  have HR2 := Lib.hid (hR.out.box (.cells #[.string x, .int .u16 33, .int .u16 l, .int .u32 t, .slice A1 n1 c1, .slice A2 n2 c2, .slice A3 n3 c3] 49))
  have HB0 : Hid (Below w.heap.size w (w.alloc (.cells #[.string x, .int .u16 33, .int .u16 l, .int .u32 t, .slice A1 n1 c1, .slice A2 n2 c2, .slice A3 n3 c3] 49))) := (Below.refl _ _).alloc (Nat.le_refl _) _
  have d1 : (w.alloc (.cells #[.string x, .int .u16 33, .int .u16 l, .int .u32 t, .slice A1 n1 c1, .slice A2 n2 c2, .slice A3 n3 c3] 49)).cell? ⟨w.heap.size, 1, none⟩ = some (.int .u16 33) := by simp
  have d4 : (w.alloc (.cells #[.string x, .int .u16 33, .int .u16 l, .int .u32 t, .slice A1 n1 c1, .slice A2 n2 c2, .slice A3 n3 c3] 49)).cell? ⟨w.heap.size, 4, none⟩ = some (.slice A1 n1 c1) := by simp
  have d5 : (w.alloc (.cells #[.string x, .int .u16 33, .int .u16 l, .int .u32 t, .slice A1 n1 c1, .slice A2 n2 c2, .slice A3 n3 c3] 49)).cell? ⟨w.heap.size, 5, none⟩ = some (.slice A2 n2 c2) := by simp
  have d6 : (w.alloc (.cells #[.string x, .int .u16 33, .int .u16 l, .int .u32 t, .slice A1 n1 c1, .slice A2 n2 c2, .slice A3 n3 c3] 49)).cell? ⟨w.heap.size, 6, none⟩ = some (.slice A3 n3 c3) := by simp
  have hgl : w.heap.size < (w.alloc (.cells #[.string x, .int .u16 33, .int .u16 l, .int .u32 t, .slice A1 n1 c1, .slice A2 n2 c2, .slice A3 n3 c3] 49)).heap.size := by simp
  have HL1 := Lib.hid HR2.out.len1
  have HL2 := Lib.hid HR2.out.len2
  have HL3 := Lib.hid HR2.out.len3
  have HRD1 := Lib.hid HR2.out.rd1
  have HRD2 := Lib.hid HR2.out.rd2
  have HRD3 := Lib.hid HR2.out.rd3
  have hok := (check_ok hE.out).2.1
  have hoc := okB_cnt hok
  obtain ⟨l1, l2, l3⟩ := cnt_of hoc.1
  rw [HL1.out, hkd] at l1
  rw [HL2.out, hkd] at l2
  rw [HL3.out, hkd] at l3
  rw [show shA 33 = 1 from rfl] at l1
  rw [show shB 33 = 3 from rfl] at l2
  rw [show shC 33 = 0 from rfl] at l3
  have hpl : numsL 2 R.nums ++ R.names.getD 0 [] = p.data.toList := by
    rw [← hp.out, plainL_not (by rw [hkd]; decide), nil_of (L := R.texts) (by rw [HL3.out]; omega), one_flat (by rw [HL1.out]; exact l1)]
    simp
  have HPL := Lib.hid hpl
  have M1 := Lib.hid l1
  have M2 := Lib.hid l2
  have M3 := Lib.hid l3
  clear hok hoc hpl hp hkd l1 l2 l3
  go_enter Try.func100, Try.ntmps100
  go_wp2_with fail
  generalize w.alloc (.cells #[.string x, .int .u16 33, .int .u16 l, .int .u32 t, .slice A1 n1 c1, .slice A2 n2 c2, .slice A3 n3 c3] 49) = wb at *
  generalize hgw : w.heap.size = g at *
  have HGW := Lib.hid hgw
  clear hgw
  ((with_reducible refine (check_at R x 33 l t A1 n1 c1 A2 n2 c2 A3 n3 c3 0 33 0 _ HR2 hS hE rfl rfl).mono ?_))
  rintro e w1 ⟨rfl, hB⟩
  have hw1 := hB.size
  have q1 : w1.cell? ⟨g, 1, none⟩ = some (.int .u16 33) := (hB.cell (p := ⟨g, 1, none⟩) hgl).trans d1
  have q4 : w1.cell? ⟨g, 4, none⟩ = some (.slice A1 n1 c1) := (hB.cell (p := ⟨g, 4, none⟩) hgl).trans d4
  have q5 : w1.cell? ⟨g, 5, none⟩ = some (.slice A2 n2 c2) := (hB.cell (p := ⟨g, 5, none⟩) hgl).trans d5
  have q6 : w1.cell? ⟨g, 6, none⟩ = some (.slice A3 n3 c3) := (hB.cell (p := ⟨g, 6, none⟩) hgl).trans d6
  have hgl1 : g < w1.heap.size := Nat.lt_of_lt_of_le hgl hw1
  have h1n : 0 < R.names.length := by rw [HL1.out]; have := M1.out; omega
  obtain ⟨ad, rfl, hab, hcell⟩ := (HRD1.out.on hB hw1).get h1n
  rw [show ad.add 0 = ad from by simp [Addr.add]] at hcell
  have hy := hS.out.s1 0 h1n
  have hnl := numsL_len 2 R.nums
  rw [HL2.out] at hnl
  have HRN := Lib.hid (HRD2.out.on hB hw1)
  obtain ⟨r, hr⟩ : ∃ r, mk (numsL 2 R.nums) = r := ⟨_, rfl⟩
  have HRR : Hid (numsL 2 R.nums = r.data.toList) := by show _ = _; rw [← hr, mk_list]
  have hpe : p = r ++ mk (R.names.getD 0 []) := list_inj (by rw [← HPL.out, cat_list, mk_list, HRR.out])
  have hrz : r.size ≤ 100 := by rw [← hr, mk_size, hnl]; have := M2.out; omega
  rw [← mk_size] at hy
  generalize mk (R.names.getD 0 []) = y0 at *
  have hs1 : (9223372036854775807 < r.size + y0.size) = False := eq_false (by omega)
  have HPE := Lib.hid hpe
  have hn0 : (0 : Int) < n1 := by have := M1.out; omega
  have hn0n : 0 < n1 := by have := M1.out; omega
  have hH0 : Held w1 w1.drew := (Below.refl _ _).drew
  have hg4 : (⟨g, 4, none⟩ : Addr).block < w1.heap.size := hgl1
  have hg5 : (⟨g, 5, none⟩ : Addr).block < w1.heap.size := hgl1
  have hu := Lib.hid hS.out.u2
  clear h1n hpe hr hnl
  go_wp2_with fail
  go_region_held3 (fun w' => w'.cell? ad = some (.string y0) ∧ w'.cell? ⟨g, 4, none⟩ = some (.slice (some ad) n1 c1) ∧ w'.cell? ⟨g, 5, none⟩ = some (.slice A2 n2 c2) ∧ Held w1 w') (go_keep)
    (first | ((go_at_call 107; (with_reducible refine (numbers_held A2 c2 n2 2 R.nums r ad ⟨g, 4, none⟩ ⟨g, 5, none⟩ ⟨g, 5, none⟩ (.string y0) (.slice (some ad) n1 c1) (.slice A2 n2 c2) (.slice A2 n2 c2) w1 _ hab hg4 hg5 hg5 ?_ HRN HL2 hm2 (by decide) hu HRR 2 rfl).mono ?_)); (simp [*]); rintro e w2 ⟨rfl, k0, k1, k2, k3, hH2⟩))
  have hBB := hB.trans (Below.mono hH2 hw1)
  go_wp2_with fail
  go_ret
  exact ⟨by rw [HPE.out]; rfl, by have h := HB0.out; rw [← HGW.out] at h; exact h.trans (hBB.mono h.size)⟩

set_option maxHeartbeats 4000000 in
set_option maxRecDepth 100000 in
theorem plain_16 (R : Rec) (x : ByteArray) (k l t : Nat) (A1 : Option Addr) (n1 c1 : Nat) (A2 : Option Addr) (n2 c2 : Nat) (A3 : Option Addr) (n3 c3 : Nat) (p : ByteArray) (w : World) (hR : Hid (RecAt w w.heap.size R x k l t A1 n1 A2 n2 A3 n3)) (hS : Hid (Small R)) (hk : k = 16) (hE : Hid (checkE R = 0)) (hp : Hid (plainL R = p.data.toList)) :
    Calls Try.prog 100 #[.agg #[.string x, .int .u16 k, .int .u16 l, .int .u32 t, .slice A1 n1 c1, .slice A2 n2 c2, .slice A3 n3 c3]] w fun e w' => e = .returned (.string p) ∧ Below w.heap.size w w' := by
  subst hk
  have hm1 := hR.out.m1 hS.out
  have hm2 := hR.out.m2 hS.out
  have hm3 := hR.out.m3 hS.out
  have hkd := hR.out.kind
  have HR2 := Lib.hid (hR.out.box (.cells #[.string x, .int .u16 16, .int .u16 l, .int .u32 t, .slice A1 n1 c1, .slice A2 n2 c2, .slice A3 n3 c3] 49))
  have HB0 : Hid (Below w.heap.size w (w.alloc (.cells #[.string x, .int .u16 16, .int .u16 l, .int .u32 t, .slice A1 n1 c1, .slice A2 n2 c2, .slice A3 n3 c3] 49))) := (Below.refl _ _).alloc (Nat.le_refl _) _
  have d1 : (w.alloc (.cells #[.string x, .int .u16 16, .int .u16 l, .int .u32 t, .slice A1 n1 c1, .slice A2 n2 c2, .slice A3 n3 c3] 49)).cell? ⟨w.heap.size, 1, none⟩ = some (.int .u16 16) := by simp
  have d4 : (w.alloc (.cells #[.string x, .int .u16 16, .int .u16 l, .int .u32 t, .slice A1 n1 c1, .slice A2 n2 c2, .slice A3 n3 c3] 49)).cell? ⟨w.heap.size, 4, none⟩ = some (.slice A1 n1 c1) := by simp
  have d5 : (w.alloc (.cells #[.string x, .int .u16 16, .int .u16 l, .int .u32 t, .slice A1 n1 c1, .slice A2 n2 c2, .slice A3 n3 c3] 49)).cell? ⟨w.heap.size, 5, none⟩ = some (.slice A2 n2 c2) := by simp
  have d6 : (w.alloc (.cells #[.string x, .int .u16 16, .int .u16 l, .int .u32 t, .slice A1 n1 c1, .slice A2 n2 c2, .slice A3 n3 c3] 49)).cell? ⟨w.heap.size, 6, none⟩ = some (.slice A3 n3 c3) := by simp
  have hgl : w.heap.size < (w.alloc (.cells #[.string x, .int .u16 16, .int .u16 l, .int .u32 t, .slice A1 n1 c1, .slice A2 n2 c2, .slice A3 n3 c3] 49)).heap.size := by simp
  have HL1 := Lib.hid HR2.out.len1
  have HL2 := Lib.hid HR2.out.len2
  have HL3 := Lib.hid HR2.out.len3
  have HRD1 := Lib.hid HR2.out.rd1
  have HRD2 := Lib.hid HR2.out.rd2
  have HRD3 := Lib.hid HR2.out.rd3
  have hok := (check_ok hE.out).2.1
  have hoc := okB_cnt hok
  obtain ⟨l1, l2, l3⟩ := cnt_of hoc.1
  rw [HL1.out, hkd] at l1
  rw [HL2.out, hkd] at l2
  rw [HL3.out, hkd] at l3
  rw [show shA 16 = 0 from rfl] at l1
  rw [show shB 16 = 0 from rfl] at l2
  rw [show shC 16 = 1 from rfl] at l3
  have hpl : R.texts.flatMap (textL 16) = p.data.toList := by
    rw [← hp.out, plainL_not (by rw [hkd]; decide), nil_of (L := R.nums) (by rw [HL2.out]; exact l2), nil_of (L := R.names) (by rw [HL1.out]; exact l1), hkd]
    simp [numsL]
  have hpz : p.size ≤ 1000000 := by
    have h1 := textL_len 16 R.texts
    have h2 := hoc.2.2.2
    rw [hkd] at h2
    rw [Lib.size_eq, ← hpl, h1]
    omega
  have h255 := Lib.hid (any_short (by have h := hoc.2.2.1; rw [hkd] at h; exact h))
  have HPL := Lib.hid hpl
  have M1 := Lib.hid l1
  have M2 := Lib.hid l2
  have M3 := Lib.hid l3
  clear hok hoc hpl hp hkd l1 l2 l3
  go_enter Try.func100, Try.ntmps100
  go_wp2_with fail
  generalize w.alloc (.cells #[.string x, .int .u16 16, .int .u16 l, .int .u32 t, .slice A1 n1 c1, .slice A2 n2 c2, .slice A3 n3 c3] 49) = wb at *
  generalize hgw : w.heap.size = g at *
  have HGW := Lib.hid hgw
  clear hgw
  ((with_reducible refine (check_at R x 16 l t A1 n1 c1 A2 n2 c2 A3 n3 c3 0 16 0 _ HR2 hS hE rfl rfl).mono ?_))
  rintro e w1 ⟨rfl, hB⟩
  have hw1 := hB.size
  have q1 : w1.cell? ⟨g, 1, none⟩ = some (.int .u16 16) := (hB.cell (p := ⟨g, 1, none⟩) hgl).trans d1
  have q4 : w1.cell? ⟨g, 4, none⟩ = some (.slice A1 n1 c1) := (hB.cell (p := ⟨g, 4, none⟩) hgl).trans d4
  have q5 : w1.cell? ⟨g, 5, none⟩ = some (.slice A2 n2 c2) := (hB.cell (p := ⟨g, 5, none⟩) hgl).trans d5
  have q6 : w1.cell? ⟨g, 6, none⟩ = some (.slice A3 n3 c3) := (hB.cell (p := ⟨g, 6, none⟩) hgl).trans d6
  have hgl1 : g < w1.heap.size := Nat.lt_of_lt_of_le hgl hw1
  have HM := (HRD3.out.on hB hw1)
  have HM2 := Lib.hid HM
  clear HM
  go_wp2_with fail
  refine (measured_is A3 c3 n3 R.texts p _ HM2.out HL3 hm3 h255 hpz HPL).mono ?_
  rintro e w2 ⟨rfl, hB2⟩
  have hBB := hB.trans (hB2.mono hw1)
  go_wp2_with fail
  go_ret
  exact ⟨rfl, by have h := HB0.out; rw [← HGW.out] at h; exact h.trans (hBB.mono h.size)⟩

set_option maxHeartbeats 4000000 in
set_option maxRecDepth 100000 in
theorem plain_other (R : Rec) (x : ByteArray) (k l t : Nat) (A1 : Option Addr) (n1 c1 : Nat) (A2 : Option Addr) (n2 c2 : Nat) (A3 : Option Addr) (n3 c3 : Nat) (p : ByteArray) (w : World) (hR : Hid (RecAt w w.heap.size R x k l t A1 n1 A2 n2 A3 n3)) (hS : Hid (Small R)) (h2 : k ≠ 2) (h5 : k ≠ 5) (h12 : k ≠ 12) (h6 : k ≠ 6) (h15 : k ≠ 15) (h33 : k ≠ 33) (h16 : k ≠ 16) (hE : Hid (checkE R = 0)) (hp : Hid (plainL R = p.data.toList)) :
    Calls Try.prog 100 #[.agg #[.string x, .int .u16 k, .int .u16 l, .int .u32 t, .slice A1 n1 c1, .slice A2 n2 c2, .slice A3 n3 c3]] w fun e w' => e = .returned (.string p) ∧ Below w.heap.size w w' := by
  have g2 : ((k : Int) == 2) = false := int_ne h2
  have g5 : ((k : Int) == 5) = false := int_ne h5
  have g12 : ((k : Int) == 12) = false := int_ne h12
  have g6 : ((k : Int) == 6) = false := int_ne h6
  have g15 : ((k : Int) == 15) = false := int_ne h15
  have g33 : ((k : Int) == 33) = false := int_ne h33
  have g16 : ((k : Int) == 16) = false := int_ne h16
  have hm1 := hR.out.m1 hS.out
  have hm2 := hR.out.m2 hS.out
  have hm3 := hR.out.m3 hS.out
  have hkd := hR.out.kind
  have HR2 := Lib.hid (hR.out.box (.cells #[.string x, .int .u16 k, .int .u16 l, .int .u32 t, .slice A1 n1 c1, .slice A2 n2 c2, .slice A3 n3 c3] 49))
  have HB0 : Hid (Below w.heap.size w (w.alloc (.cells #[.string x, .int .u16 k, .int .u16 l, .int .u32 t, .slice A1 n1 c1, .slice A2 n2 c2, .slice A3 n3 c3] 49))) := (Below.refl _ _).alloc (Nat.le_refl _) _
  have d1 : (w.alloc (.cells #[.string x, .int .u16 k, .int .u16 l, .int .u32 t, .slice A1 n1 c1, .slice A2 n2 c2, .slice A3 n3 c3] 49)).cell? ⟨w.heap.size, 1, none⟩ = some (.int .u16 k) := by simp
  have d4 : (w.alloc (.cells #[.string x, .int .u16 k, .int .u16 l, .int .u32 t, .slice A1 n1 c1, .slice A2 n2 c2, .slice A3 n3 c3] 49)).cell? ⟨w.heap.size, 4, none⟩ = some (.slice A1 n1 c1) := by simp
  have d5 : (w.alloc (.cells #[.string x, .int .u16 k, .int .u16 l, .int .u32 t, .slice A1 n1 c1, .slice A2 n2 c2, .slice A3 n3 c3] 49)).cell? ⟨w.heap.size, 5, none⟩ = some (.slice A2 n2 c2) := by simp
  have d6 : (w.alloc (.cells #[.string x, .int .u16 k, .int .u16 l, .int .u32 t, .slice A1 n1 c1, .slice A2 n2 c2, .slice A3 n3 c3] 49)).cell? ⟨w.heap.size, 6, none⟩ = some (.slice A3 n3 c3) := by simp
  have hgl : w.heap.size < (w.alloc (.cells #[.string x, .int .u16 k, .int .u16 l, .int .u32 t, .slice A1 n1 c1, .slice A2 n2 c2, .slice A3 n3 c3] 49)).heap.size := by simp
  have HL1 := Lib.hid HR2.out.len1
  have HL2 := Lib.hid HR2.out.len2
  have HL3 := Lib.hid HR2.out.len3
  have HRD1 := Lib.hid HR2.out.rd1
  have HRD2 := Lib.hid HR2.out.rd2
  have HRD3 := Lib.hid HR2.out.rd3
  have hok := (check_ok hE.out).2.1
  have hoc := okB_cnt hok
  obtain ⟨l1, l2, l3⟩ := cnt_of hoc.1
  rw [HL1.out, hkd] at l1
  rw [HL2.out, hkd] at l2
  rw [HL3.out, hkd] at l3
  have s1 : shA k = 0 := by unfold shA; simp [h2, h5, h12, h6, h15, h33]
  have s2 : shB k = 0 := by unfold shB; simp [h2, h5, h12, h6, h15, h33]
  have s3 : shC k = 1 := by unfold shC; simp [h2, h5, h12, h6, h15, h33]
  rw [s1] at l1
  rw [s2] at l2
  rw [s3] at l3
  have hpl : R.texts.getD 0 [] = p.data.toList := by
    rw [← hp.out, plainL_not (by rw [hkd]; exact h6), nil_of (L := R.nums) (by rw [HL2.out]; exact l2), nil_of (L := R.names) (by rw [HL1.out]; exact l1), hkd, one_map h16 (by rw [HL3.out]; omega)]
    simp [numsL]
  have HPL := Lib.hid hpl
  have M1 := Lib.hid l1
  have M2 := Lib.hid l2
  have M3 := Lib.hid l3
  clear hok hoc hpl hp hkd l1 l2 l3
  go_enter Try.func100, Try.ntmps100
  go_wp2_with fail
  generalize w.alloc (.cells #[.string x, .int .u16 k, .int .u16 l, .int .u32 t, .slice A1 n1 c1, .slice A2 n2 c2, .slice A3 n3 c3] 49) = wb at *
  generalize hgw : w.heap.size = g at *
  have HGW := Lib.hid hgw
  clear hgw
  ((with_reducible refine (check_at R x k l t A1 n1 c1 A2 n2 c2 A3 n3 c3 0 (k : Int) 0 _ HR2 hS hE rfl rfl).mono ?_))
  rintro e w1 ⟨rfl, hB⟩
  have hw1 := hB.size
  have q1 : w1.cell? ⟨g, 1, none⟩ = some (.int .u16 k) := (hB.cell (p := ⟨g, 1, none⟩) hgl).trans d1
  have q4 : w1.cell? ⟨g, 4, none⟩ = some (.slice A1 n1 c1) := (hB.cell (p := ⟨g, 4, none⟩) hgl).trans d4
  have q5 : w1.cell? ⟨g, 5, none⟩ = some (.slice A2 n2 c2) := (hB.cell (p := ⟨g, 5, none⟩) hgl).trans d5
  have q6 : w1.cell? ⟨g, 6, none⟩ = some (.slice A3 n3 c3) := (hB.cell (p := ⟨g, 6, none⟩) hgl).trans d6
  have hgl1 : g < w1.heap.size := Nat.lt_of_lt_of_le hgl hw1
  have h1n : 0 < R.texts.length := by rw [HL3.out]; have := M1.out; have := M3.out; omega
  obtain ⟨ad, rfl, hab, hcell⟩ := (HRD3.out.on hB hw1).get h1n
  have hy := hS.out.s3 0 h1n
  rw [HPL.out, ← Lib.size_eq] at hy
  rw [HPL.out, mk_data, show ad.add 0 = ad from by simp [Addr.add]] at hcell
  have hn0 : (0 : Int) < n3 := by have := M1.out; have := M3.out; omega
  have hn0n : 0 < n3 := by have := M1.out; have := M3.out; omega
  clear h1n
  have hy6 : p.size ≤ 1000000 := by omega
  go_wp2_with fail
  refine (clone_any p _ hy6).mono ?_
  rintro e w2 ⟨rfl, hB2⟩
  have hBB := hB.trans (hB2.mono hw1)
  go_wp2_with fail
  go_ret
  exact ⟨rfl, by have h := HB0.out; rw [← HGW.out] at h; exact h.trans (hBB.mono h.size)⟩

set_option maxHeartbeats 1000000 in
theorem plain_not (R : Rec) (x : ByteArray) (k l t : Nat) (A1 : Option Addr) (n1 c1 : Nat) (A2 : Option Addr) (n2 c2 : Nat) (A3 : Option Addr) (n3 c3 : Nat) (E : Nat) (w : World) (hR : Hid (RecAt w w.heap.size R x k l t A1 n1 A2 n2 A3 n3)) (hS : Hid (Small R)) (hE : Hid (checkE R = E)) (h0 : E ≠ 0) :
    Calls Try.prog 100 #[.agg #[.string x, .int .u16 k, .int .u16 l, .int .u32 t, .slice A1 n1 c1, .slice A2 n2 c2, .slice A3 n3 c3]] w fun e w' => e = .returned (.string ⟨#[]⟩) ∧ Below w.heap.size w w' := by
  have HR2 := Lib.hid (hR.out.box (.cells #[.string x, .int .u16 k, .int .u16 l, .int .u32 t, .slice A1 n1 c1, .slice A2 n2 c2, .slice A3 n3 c3] 49))
  have HB0 : Hid (Below w.heap.size w (w.alloc (.cells #[.string x, .int .u16 k, .int .u16 l, .int .u32 t, .slice A1 n1 c1, .slice A2 n2 c2, .slice A3 n3 c3] 49))) := (Below.refl _ _).alloc (Nat.le_refl _) _
  have g0 : ((E : Int) != 0) = true := int_nne h0
  clear h0
  go_enter Try.func100, Try.ntmps100
  go_wp2_with fail
  generalize w.alloc (.cells #[.string x, .int .u16 k, .int .u16 l, .int .u32 t, .slice A1 n1 c1, .slice A2 n2 c2, .slice A3 n3 c3] 49) = wb at *
  generalize hgw : w.heap.size = g at *
  have HGW := Lib.hid hgw
  clear hgw
  ((with_reducible refine (check_is R x k l t A1 n1 c1 A2 n2 c2 A3 n3 c3 E _ HR2 hS hE).mono ?_))
  rintro e w1 ⟨rfl, hB⟩
  go_wp2_with fail
  go_ret
  exact ⟨rfl, by have h := HB0.out; rw [← HGW.out] at h; exact h.trans (hB.mono h.size)⟩
theorem plain_is (R : Rec) (x : ByteArray) (k l t : Nat) (A1 : Option Addr) (n1 c1 : Nat) (A2 : Option Addr) (n2 c2 : Nat) (A3 : Option Addr) (n3 c3 : Nat) (p : ByteArray) (w : World) (hR : Hid (RecAt w w.heap.size R x k l t A1 n1 A2 n2 A3 n3)) (hS : Hid (Small R)) (hp : Hid (mk (plainO R) = p)) :
    Calls Try.prog 100 #[.agg #[.string x, .int .u16 k, .int .u16 l, .int .u32 t, .slice A1 n1 c1, .slice A2 n2 c2, .slice A3 n3 c3]] w fun e w' => e = .returned (.string p) ∧ Below w.heap.size w w' := by
  by_cases h0 : checkE R = 0
  · have hpp : Hid (plainL R = p.data.toList) := by show _ = _; rw [← hp.out, mk_list, plainO_ok h0]
    have hE := Lib.hid h0
    by_cases h2 : k = 2
    · exact plain_2 R x k l t A1 n1 c1 A2 n2 c2 A3 n3 c3 p w hR hS h2 hE hpp
    by_cases h5 : k = 5
    · exact plain_5 R x k l t A1 n1 c1 A2 n2 c2 A3 n3 c3 p w hR hS h5 hE hpp
    by_cases h12 : k = 12
    · exact plain_12 R x k l t A1 n1 c1 A2 n2 c2 A3 n3 c3 p w hR hS h12 hE hpp
    by_cases h6 : k = 6
    · exact plain_6 R x k l t A1 n1 c1 A2 n2 c2 A3 n3 c3 p w hR hS h6 hE hpp
    by_cases h15 : k = 15
    · exact plain_15 R x k l t A1 n1 c1 A2 n2 c2 A3 n3 c3 p w hR hS h15 hE hpp
    by_cases h33 : k = 33
    · exact plain_33 R x k l t A1 n1 c1 A2 n2 c2 A3 n3 c3 p w hR hS h33 hE hpp
    by_cases h16 : k = 16
    · exact plain_16 R x k l t A1 n1 c1 A2 n2 c2 A3 n3 c3 p w hR hS h16 hE hpp
    · exact plain_other R x k l t A1 n1 c1 A2 n2 c2 A3 n3 c3 p w hR hS h2 h5 h12 h6 h15 h33 h16 hE hpp
  · obtain rfl : p = ⟨#[]⟩ := by rw [← hp.out, plainO_no h0]; rfl
    exact plain_not R x k l t A1 n1 c1 A2 n2 c2 A3 n3 c3 (checkE R) w hR hS (Lib.hid rfl) h0
end Go.Proofs.Ytihkmdojakalbaa
