/- The contract of rdata's shaped: has a record its type's shape, and no more plain bytes than may be? For records of at most 10^5 texts of at most 10^5 bytes. -/
import Derived.Test.YtpmmjmnleoicjaaProg
import Derived.Test.YtpmmjmnleoicjaaRecAt
import Derived.Test.YtpmmjmnleoicjaaRecShape
import Derived.Test.YtpmmjmnleoicjaaRecAskText
import Derived.Test.YtpmmjmnleoicjaaRecShape
import Derived.WalkSmall
import Derived.WalkKit
import Derived.Lib.Hide
import Derived.Outline
import Derived.IntWalk
import Derived.WalkSpells
import Derived.WalkLawsBesides
import Derived.Deep.QuietTactic
import Derived.BigQuiet
import Derived.Deep.RegionHeld3
import Derived.Deep.DeepCutAuto
import Derived.Deep.Draws
namespace Go.Proofs.Ytpmmjmnleoicjaa
open Go.RowKit Bytes Strs Nums NameMath RecMath

theorem takeAt {l : List Oper} {i : Nat} {o : Oper} (h : l[i]? = some o) : l.toArray[i]? = some o := by simpa using h
theorem wrongNum_held (g k : Nat) (kk : Int) (hk : (k : Int) = kk) (v1 v4 v5 v6 : Value) (w W : World) (hg : g < w.heap.size)
    (hS : W.cell? ⟨g, 1, none⟩ = some v1 ∧ W.cell? ⟨g, 4, none⟩ = some v4 ∧ W.cell? ⟨g, 5, none⟩ = some v5 ∧ W.cell? ⟨g, 6, none⟩ = some v6 ∧ Held w W) :
    Calls Try.prog 116 #[.int .u16 kk] W fun e w' => ∃ b, e = .returned (.func (.func 131) #[] #[.pointer (some ⟨b, 0, none⟩)]) ∧ w'.cell? ⟨b, 0, none⟩ = some (.int .u16 k) ∧ w'.cell? ⟨g, 1, none⟩ = some v1 ∧ w'.cell? ⟨g, 4, none⟩ = some v4 ∧ w'.cell? ⟨g, 5, none⟩ = some v5 ∧ w'.cell? ⟨g, 6, none⟩ = some v6 ∧ Held w w' := by
  subst hk
  obtain ⟨h1, h4, h5, h6, hH⟩ := hS
  have hH' : Below w.heap.size w W := hH
  have hle := hH'.size
  exact (wrongNum_any k W).mono fun _ _ ⟨b, he, hc, _, hB⟩ => ⟨b, he, hc, (hB.cell (p := ⟨g, 1, none⟩) (Nat.lt_of_lt_of_le hg hle)).trans h1, (hB.cell (p := ⟨g, 4, none⟩) (Nat.lt_of_lt_of_le hg hle)).trans h4, (hB.cell (p := ⟨g, 5, none⟩) (Nat.lt_of_lt_of_le hg hle)).trans h5, (hB.cell (p := ⟨g, 6, none⟩) (Nat.lt_of_lt_of_le hg hle)).trans h6, hH'.trans (hB.mono hle)⟩
theorem hasNums_held (A : Option Addr) (c n k b g : Nat) (v1 v4 v5 v6 : Value) (L : List Nat) (q : Bool) (w W : World)
    (hS : W.cell? ⟨b, 0, none⟩ = some (.int .u16 k) ∧ W.cell? ⟨g, 1, none⟩ = some v1 ∧ W.cell? ⟨g, 4, none⟩ = some v4 ∧ W.cell? ⟨g, 5, none⟩ = some v5 ∧ W.cell? ⟨g, 6, none⟩ = some v6 ∧ Held w W)
    (hr : Hid (RdN w w.heap.size A L)) (hn0 : Hid (L.length = n)) (hn : n ≤ 1000000) (hq : Hid (L.any (badNum k) = q)) :
    Calls Try.prog 115 #[.slice A n c, .func (.func 131) #[] #[.pointer (some ⟨b, 0, none⟩)]] W fun e w' => e = .returned (.bool q) ∧ w'.cell? ⟨g, 1, none⟩ = some v1 ∧ w'.cell? ⟨g, 4, none⟩ = some v4 ∧ w'.cell? ⟨g, 5, none⟩ = some v5 ∧ w'.cell? ⟨g, 6, none⟩ = some v6 ∧ Held w w' := by
  obtain ⟨hc, h1, h4, h5, h6, hH⟩ := hS
  have hH' : Below w.heap.size w W := hH
  exact (hasNums_is A c n k b L q W (hr.out.on hH' hH'.size) hn0 hn hc hq).mono fun _ _ ⟨he, hw⟩ => by subst hw; exact ⟨he, h1, h4, h5, h6, hH⟩
theorem wrongText_held (g k : Nat) (kk : Int) (hk : (k : Int) = kk) (v1 v4 v5 v6 : Value) (w W : World) (hg : g < w.heap.size)
    (hS : W.cell? ⟨g, 1, none⟩ = some v1 ∧ W.cell? ⟨g, 4, none⟩ = some v4 ∧ W.cell? ⟨g, 5, none⟩ = some v5 ∧ W.cell? ⟨g, 6, none⟩ = some v6 ∧ Held w W) :
    Calls Try.prog 117 #[.int .u16 kk] W fun e w' => ∃ b1 b2, e = .returned (.func (.func 132) #[] #[.pointer (some ⟨b1, 0, none⟩), .pointer (some ⟨b2, 0, none⟩)]) ∧ Hid (TextAt w' b1 b2 k 65535 ∧ w.heap.size ≤ b2) ∧ w'.cell? ⟨g, 1, none⟩ = some v1 ∧ w'.cell? ⟨g, 4, none⟩ = some v4 ∧ w'.cell? ⟨g, 5, none⟩ = some v5 ∧ w'.cell? ⟨g, 6, none⟩ = some v6 ∧ Held w w' := by
  subst hk
  obtain ⟨h1, h4, h5, h6, hH⟩ := hS
  have hH' : Below w.heap.size w W := hH
  have hle := hH'.size
  exact (wrongText_any k W).mono fun _ _ ⟨b1, b2, he, hT, _, hb2, hB⟩ => ⟨b1, b2, he, ⟨hT, Nat.le_trans hle hb2⟩, (hB.cell (p := ⟨g, 1, none⟩) (Nat.lt_of_lt_of_le hg hle)).trans h1, (hB.cell (p := ⟨g, 4, none⟩) (Nat.lt_of_lt_of_le hg hle)).trans h4, (hB.cell (p := ⟨g, 5, none⟩) (Nat.lt_of_lt_of_le hg hle)).trans h5, (hB.cell (p := ⟨g, 6, none⟩) (Nat.lt_of_lt_of_le hg hle)).trans h6, hH'.trans (hB.mono hle)⟩
theorem hasTexts_held (A : Option Addr) (c n k b1 b2 g : Nat) (v1 v4 v5 v6 : Value) (L : List (List UInt8)) (q : Bool) (w W : World) (hg : g < w.heap.size)
    (hS : W.cell? ⟨g, 1, none⟩ = some v1 ∧ W.cell? ⟨g, 4, none⟩ = some v4 ∧ W.cell? ⟨g, 5, none⟩ = some v5 ∧ W.cell? ⟨g, 6, none⟩ = some v6 ∧ Held w W)
    (hr : Hid (RdS w w.heap.size A L)) (hn0 : Hid (L.length = n)) (hn : n ≤ 1000000) (hs : Hid (∀ k, k < n → (L.getD k []).length ≤ 1000000)) (hT : Hid (TextAt W b1 b2 k 65535 ∧ w.heap.size ≤ b2)) (hq : Hid (wrongs k 65535 L = q)) :
    Calls Try.prog 90 #[.slice A n c, .func (.func 132) #[] #[.pointer (some ⟨b1, 0, none⟩), .pointer (some ⟨b2, 0, none⟩)]] W fun e w' => e = .returned (.bool q) ∧ w'.cell? ⟨g, 1, none⟩ = some v1 ∧ w'.cell? ⟨g, 4, none⟩ = some v4 ∧ w'.cell? ⟨g, 5, none⟩ = some v5 ∧ w'.cell? ⟨g, 6, none⟩ = some v6 ∧ Held w w' := by
  obtain ⟨h1, h4, h5, h6, hH⟩ := hS
  have hH' : Below w.heap.size w W := hH
  obtain ⟨hT1, hT2⟩ := hT.out
  exact (hasTexts_is A c n k b1 b2 w.heap.size L q W (hr.out.below hH') hn0 hn hs hT1 hT2 hq).mono fun _ _ ⟨he, hB⟩ => ⟨he, (hB.cell (p := ⟨g, 1, none⟩) hg).trans h1, (hB.cell (p := ⟨g, 4, none⟩) hg).trans h4, (hB.cell (p := ⟨g, 5, none⟩) hg).trans h5, (hB.cell (p := ⟨g, 6, none⟩) hg).trans h6, hH'.trans hB⟩
theorem cntOk_no {R : Rec} {n1 n2 n3 a b c d : Nat} (h1 : R.names.length = n1) (h2 : R.nums.length = n2) (h3 : R.texts.length = n3) (ha : shA R.kind = a) (hb : shB R.kind = b) (hc : shC R.kind = c) (hd : (if R.kind = 16 then max c n3 else c) = d) : cntOk R = decide (n1 = a ∧ n2 = b ∧ n3 = d) := by
  subst h1 h2 h3 ha hb hc hd
  unfold cntOk
  refine decide_eq_decide.2 ?_
  by_cases k16 : R.kind = 16
  · have e : shC R.kind = 1 := by rw [k16]; rfl
    rw [if_pos k16, e]
    omega
  · rw [if_neg k16]
    omega

set_option maxHeartbeats 4000000 in
set_option maxRecDepth 100000 in
set_option linter.unusedSimpArgs false in
theorem shaped_one (R : Rec) (x : ByteArray) (k l t : Nat) (A1 : Option Addr) (n1 c1 : Nat) (A2 : Option Addr) (n2 c2 : Nat) (A3 : Option Addr) (n3 c3 : Nat) (q : Bool) (w : World) (hR : Hid (RecAt w w.heap.size R x k l t A1 n1 A2 n2 A3 n3)) (hS : Hid (Small R)) (hk : k = 16) (hone : (n3 : Int) ≤ 1) (hq : Hid (okB R = q)) :
    Calls Try.prog 91 #[.agg #[.string x, .int .u16 k, .int .u16 l, .int .u32 t, .slice A1 n1 c1, .slice A2 n2 c2, .slice A3 n3 c3]] w fun e w' => e = .returned (.bool q) ∧ Below w.heap.size w w' := by
  obtain ⟨a, ha⟩ : ∃ a, shA k = a := ⟨_, rfl⟩
  obtain ⟨b, hb⟩ : ∃ b, shB k = b := ⟨_, rfl⟩
  obtain ⟨c, hc⟩ : ∃ c, shC k = c := ⟨_, rfl⟩
  obtain ⟨d, hd⟩ : ∃ d, (if k = 16 then max c n3 else c) = d := ⟨_, rfl⟩
  have hm1 := hR.out.m1 hS.out
  have hm2 := hR.out.m2 hS.out
  have hm3 := hR.out.m3 hS.out
  have hcn := cntOk_no (R := R) (n1 := n1) (n2 := n2) (n3 := n3) (a := a) (b := b) (c := c) (d := d) hR.out.len1 hR.out.len2 hR.out.len3 (by rw [hR.out.kind]; exact ha) (by rw [hR.out.kind]; exact hb) (by rw [hR.out.kind]; exact hc) (by rw [hR.out.kind]; exact hd)
  have hok := okB_wrongs R
  rw [hcn, hR.out.kind, hq.out] at hok
  have HOK := Lib.hid hok
  have HA := Lib.hid ha
  have HB := Lib.hid hb
  have HC := Lib.hid hc
  clear hok hcn ha hb
  rw [if_pos hk] at hd
  obtain rfl : c = 1 := by rw [← hc, hk]; rfl
  obtain rfl : 1 = d := by omega
  subst hk
  clear hc hd
  by_cases e1 : n1 = a
  rotate_left
  · have f : ((n1 : Int) == (a : Int)) = false := int_ne e1
    obtain rfl : q = false := by rw [HOK.out, decide_eq_false (by rintro ⟨r1, r2, r3⟩; exact e1 r1), Bool.false_and]
    clear e1 HOK
    go_enter Try.func91, Try.ntmps91
    go_wp2_with fail
    refine (shape_is 16 a b 1 _ HA HB HC).mono ?_
    rintro e w' ⟨rfl, rfl⟩
    go_wp2_with fail
    go_quiet (fail)
    go_wp2_with fail
    go_ret
    exact ⟨rfl, below_drewN ((Below.refl _ _).alloc (Nat.le_refl _) _) _⟩
  have f1 : ((n1 : Int) == (a : Int)) = true := int_eq e1
  by_cases e2 : n2 = b
  rotate_left
  · have f : ((n2 : Int) == (b : Int)) = false := int_ne e2
    obtain rfl : q = false := by rw [HOK.out, decide_eq_false (by rintro ⟨r1, r2, r3⟩; exact e2 r2), Bool.false_and]
    clear e2 HOK
    go_enter Try.func91, Try.ntmps91
    go_wp2_with fail
    refine (shape_is 16 a b 1 _ HA HB HC).mono ?_
    rintro e w' ⟨rfl, rfl⟩
    go_wp2_with fail
    go_quiet (fail)
    go_wp2_with fail
    go_ret
    exact ⟨rfl, below_drewN ((Below.refl _ _).alloc (Nat.le_refl _) _) _⟩
  have f2 : ((n2 : Int) == (b : Int)) = true := int_eq e2
  by_cases e3 : n3 = 1
  rotate_left
  · have f : ((n3 : Int) == 1) = false := int_ne e3
    obtain rfl : q = false := by rw [HOK.out, decide_eq_false (by rintro ⟨r1, r2, r3⟩; exact e3 r3), Bool.false_and]
    clear e3 HOK
    go_enter Try.func91, Try.ntmps91
    go_wp2_with fail
    refine (shape_is 16 a b 1 _ HA HB HC).mono ?_
    rintro e w' ⟨rfl, rfl⟩
    go_wp2_with fail
    go_quiet (fail)
    go_wp2_with fail
    go_ret
    exact ⟨rfl, below_drewN ((Below.refl _ _).alloc (Nat.le_refl _) _) _⟩
  have f3 : ((n3 : Int) == 1) = true := int_eq e3
  obtain ⟨z1, hz1⟩ : ∃ z, R.nums.any (badNum 16) = z := ⟨_, rfl⟩
  obtain ⟨z2, hz2⟩ : ∃ z, wrongs 16 65535 R.texts = z := ⟨_, rfl⟩
  have hqz : q = (!z1 && !z2) := by rw [HOK.out, decide_eq_true ⟨e1, e2, e3⟩, Bool.true_and, hz1, hz2]
  have HZ1 := Lib.hid hz1
  have HZ2 := Lib.hid hz2
  have HR2 := Lib.hid (hR.out.box (.cells #[.string x, .int .u16 16, .int .u16 l, .int .u32 t, .slice A1 n1 c1, .slice A2 n2 c2, .slice A3 n3 c3] 60))
  have HB0 : Hid (Below w.heap.size w (w.alloc (.cells #[.string x, .int .u16 16, .int .u16 l, .int .u32 t, .slice A1 n1 c1, .slice A2 n2 c2, .slice A3 n3 c3] 60))) := (Below.refl _ _).alloc (Nat.le_refl _) _
  have hcell1 : (w.alloc (.cells #[.string x, .int .u16 16, .int .u16 l, .int .u32 t, .slice A1 n1 c1, .slice A2 n2 c2, .slice A3 n3 c3] 60)).cell? ⟨w.heap.size, 1, none⟩ = some (.int .u16 16) := by simp
  have hcell4 : (w.alloc (.cells #[.string x, .int .u16 16, .int .u16 l, .int .u32 t, .slice A1 n1 c1, .slice A2 n2 c2, .slice A3 n3 c3] 60)).cell? ⟨w.heap.size, 4, none⟩ = some (.slice A1 n1 c1) := by simp
  have hcell5 : (w.alloc (.cells #[.string x, .int .u16 16, .int .u16 l, .int .u32 t, .slice A1 n1 c1, .slice A2 n2 c2, .slice A3 n3 c3] 60)).cell? ⟨w.heap.size, 5, none⟩ = some (.slice A2 n2 c2) := by simp
  have hcell6 : (w.alloc (.cells #[.string x, .int .u16 16, .int .u16 l, .int .u32 t, .slice A1 n1 c1, .slice A2 n2 c2, .slice A3 n3 c3] 60)).cell? ⟨w.heap.size, 6, none⟩ = some (.slice A3 n3 c3) := by simp
  have hgl : w.heap.size < (w.alloc (.cells #[.string x, .int .u16 16, .int .u16 l, .int .u32 t, .slice A1 n1 c1, .slice A2 n2 c2, .slice A3 n3 c3] 60)).heap.size := by simp
  clear hz1 hz2 HOK e1 e2 e3
  go_enter Try.func91, Try.ntmps91
  go_wp2_with fail
  refine (shape_is 16 a b 1 _ HA HB HC).mono ?_
  rintro e w' ⟨rfl, rfl⟩
  go_wp2_with fail
  have HRD2 := Lib.hid HR2.out.rd2
  have HRD3 := Lib.hid HR2.out.rd3
  have HL2 := Lib.hid HR2.out.len2
  have HL3 := Lib.hid HR2.out.len3
  have HS3 := Lib.hid (HR2.out.s3 hS.out).out
  have hm2' : n2 ≤ 1000000 := by omega
  have hm3' : n3 ≤ 1000000 := by omega
  have hH0 : Held (w.alloc (.cells #[.string x, .int .u16 16, .int .u16 l, .int .u32 t, .slice A1 n1 c1, .slice A2 n2 c2, .slice A3 n3 c3] 60)) (w.alloc (.cells #[.string x, .int .u16 16, .int .u16 l, .int .u32 t, .slice A1 n1 c1, .slice A2 n2 c2, .slice A3 n3 c3] 60)).drew := (Below.refl _ _).drew
  clear HR2
  generalize hwb : w.alloc (.cells #[.string x, .int .u16 16, .int .u16 l, .int .u32 t, .slice A1 n1 c1, .slice A2 n2 c2, .slice A3 n3 c3] 60) = wb at *
  generalize hgw : w.heap.size = g at *
  have HGW := Lib.hid hgw
  clear hwb hgw
  cases z1 with
  | true =>
    obtain rfl : q = false := by rw [hqz]; rfl
    clear hqz
    refine wp_region_held_drew (S := fun w' => w'.cell? ⟨g, 1, none⟩ = some (.int .u16 16) ∧ w'.cell? ⟨g, 4, none⟩ = some (.slice A1 n1 c1) ∧ w'.cell? ⟨g, 5, none⟩ = some (.slice A2 n2 c2) ∧ w'.cell? ⟨g, 6, none⟩ = some (.slice A3 n3 c3) ∧ Held wb w') (by kernel_rfl) (by (try dsimp only); go_keep) (fun hHeld => ?_)
    refine wpAnyH_take (i := 0) (v := ?av0) (takeAt rfl) (by kernel_rfl) (by kernel_rfl) (by kernel_rfl) (fun _ _ _ h => h) (Or.inl ⟨by rfl, ?ahy0⟩) (by assumption) ?_
    case ahy0 => ((intro w hSw; (try dsimp only at hSw); go_simp); try (with_reducible rfl))
    try simp only [Act.put, List.setIfInBounds_toArray, List.set_cons_zero, List.set_cons_succ]
    refine wpAnyH_take (i := 1) (v := ?av1) (takeAt rfl) (by kernel_rfl) (by kernel_rfl) (by kernel_rfl) (fun _ _ _ h => h) (Or.inl ⟨by rfl, ?ahy1⟩) (by assumption) ?_
    case ahy1 => ((intro w hSw; (try dsimp only at hSw); go_simp); try (with_reducible rfl))
    try simp only [Act.put, List.setIfInBounds_toArray, List.set_cons_zero, List.set_cons_succ]
    refine wpAnyH_take (i := 2) (v := ?av2) (takeAt rfl) (by kernel_rfl) (by kernel_rfl) (by kernel_rfl) (fun _ _ _ h => h) (Or.inl ⟨by rfl, ?ahy2⟩) (by assumption) ?_
    case ahy2 => ((intro w hSw; (try dsimp only at hSw); go_simp); try (with_reducible rfl))
    try simp only [Act.put, List.setIfInBounds_toArray, List.set_cons_zero, List.set_cons_succ]
    refine wpAnyH_take (i := 3) (v := ?av3) (takeAt rfl) (by kernel_rfl) (by kernel_rfl) (by kernel_rfl) (fun _ _ _ h => h) (Or.inl ⟨by rfl, ?ahy3⟩) (by assumption) ?_
    case ahy3 => ((intro w hSw; (try dsimp only at hSw); go_simp); try (with_reducible rfl))
    try simp only [Act.put, List.setIfInBounds_toArray, List.set_cons_zero, List.set_cons_succ]
    refine wpAnyH_take (i := 4) (v := ?av4) (takeAt rfl) (by kernel_rfl) (by kernel_rfl) (by kernel_rfl) (fun _ _ _ h => h) (Or.inl ⟨by rfl, ?ahy4⟩) (by assumption) ?_
    case ahy4 => ((intro w hSw; (try dsimp only at hSw); go_simp); try (with_reducible rfl))
    try simp only [Act.put, List.setIfInBounds_toArray, List.set_cons_zero, List.set_cons_succ]
    refine wpAnyH_take (i := 5) (v := ?av5) (takeAt rfl) (by kernel_rfl) (by kernel_rfl) (by kernel_rfl) (fun _ _ _ h => h) (Or.inl ⟨by rfl, ?ahy5⟩) (by assumption) ?_
    case ahy5 => ((intro w hSw; (try dsimp only at hSw); go_simp); try (with_reducible rfl))
    try simp only [Act.put, List.setIfInBounds_toArray, List.set_cons_zero, List.set_cons_succ]
    refine wpAnyH_take (i := 6) (v := ?av6) (takeAt rfl) (by kernel_rfl) (by kernel_rfl) (by kernel_rfl) (fun _ _ _ h => h) (Or.inl ⟨by rfl, ?ahy6⟩) (by assumption) ?_
    case ahy6 => ((intro w hSw; (try dsimp only at hSw); go_simp); try (with_reducible rfl))
    try simp only [Act.put, List.setIfInBounds_toArray, List.set_cons_zero, List.set_cons_succ]
    refine wpAnyH_take (i := 7) (v := ?av7) (takeAt rfl) (by kernel_rfl) (by kernel_rfl) (by kernel_rfl) (fun _ _ _ h => h) (Or.inl ⟨by rfl, ?ahy7⟩) (by assumption) ?_
    case ahy7 => ((intro w hSw; (try dsimp only at hSw); go_simp); try (with_reducible rfl))
    try simp only [Act.put, List.setIfInBounds_toArray, List.set_cons_zero, List.set_cons_succ]
    refine wpAnyH_take (i := 8) (v := ?av8) (takeAt rfl) (by kernel_rfl) (by kernel_rfl) (by kernel_rfl) (fun _ _ _ h => h) (Or.inl ⟨by rfl, ?ahy8⟩) (by assumption) ?_
    case ahy8 => ((intro w hSw; (try dsimp only at hSw); go_simp); try (with_reducible rfl))
    try simp only [Act.put, List.setIfInBounds_toArray, List.set_cons_zero, List.set_cons_succ]
    refine wpAnyH_take (i := 9) (v := ?av9) (takeAt rfl) (by kernel_rfl) (by kernel_rfl) (by kernel_rfl) (fun _ _ _ h => h) (Or.inl ⟨by rfl, ?ahy9⟩) (by assumption) ?_
    case ahy9 => ((intro w hSw; (try dsimp only at hSw); go_simp); try (with_reducible rfl))
    try simp only [Act.put, List.setIfInBounds_toArray, List.set_cons_zero, List.set_cons_succ]
    refine wpAnyH_take (i := 10) (v := ?av10) (takeAt rfl) (by kernel_rfl) (by kernel_rfl) (by kernel_rfl) (fun _ _ _ h => h) (Or.inl ⟨by rfl, ?ahy10⟩) (by assumption) ?_
    case ahy10 => ((intro w hSw; (try dsimp only at hSw); go_simp); try (with_reducible rfl))
    try simp only [Act.put, List.setIfInBounds_toArray, List.set_cons_zero, List.set_cons_succ]
    refine wpAnyH_take (i := 11) (v := ?av11) (takeAt rfl) (by kernel_rfl) (by kernel_rfl) (by kernel_rfl) (fun _ _ _ h => h) (Or.inl ⟨by rfl, ?ahy11⟩) (by assumption) ?_
    case ahy11 => ((intro w hSw; (try dsimp only at hSw); go_simp); try (with_reducible rfl))
    try simp only [Act.put, List.setIfInBounds_toArray, List.set_cons_zero, List.set_cons_succ]
    refine wpAnyH_take (i := 12) (v := ?av12) (takeAt rfl) (by kernel_rfl) (by kernel_rfl) (by kernel_rfl) (fun _ _ _ h => h) (Or.inl ⟨by rfl, ?ahy12⟩) (by assumption) ?_
    case ahy12 => ((intro w hSw; (try dsimp only at hSw); go_simp); try (with_reducible rfl))
    try simp only [Act.put, List.setIfInBounds_toArray, List.set_cons_zero, List.set_cons_succ]
    refine wpAnyH_take (i := 13) (v := ?av13) (takeAt rfl) (by kernel_rfl) (by kernel_rfl) (by kernel_rfl) (fun _ _ _ h => h) (Or.inl ⟨by rfl, ?ahy13⟩) (by assumption) ?_
    case ahy13 => ((intro w hSw; (try dsimp only at hSw); go_simp); try (with_reducible rfl))
    try simp only [Act.put, List.setIfInBounds_toArray, List.set_cons_zero, List.set_cons_succ]
    refine wpAnyH_take (i := 14) (v := ?av14) (takeAt rfl) (by kernel_rfl) (by kernel_rfl) (by kernel_rfl) (fun _ _ _ h => h) (Or.inl ⟨by rfl, ?ahy14⟩) (by assumption) ?_
    case ahy14 => ((intro w hSw; (try dsimp only at hSw); go_simp); try (with_reducible rfl))
    try simp only [Act.put, List.setIfInBounds_toArray, List.set_cons_zero, List.set_cons_succ]
    refine wpAnyH_take (i := 15) (v := ?av15) (takeAt rfl) (by kernel_rfl) (by kernel_rfl) (by kernel_rfl) (fun _ _ _ h => h) (Or.inl ⟨by rfl, ?ahy15⟩) (by assumption) ?_
    case ahy15 => ((intro w hSw; (try dsimp only at hSw); go_simp); try (with_reducible rfl))
    try simp only [Act.put, List.setIfInBounds_toArray, List.set_cons_zero, List.set_cons_succ]
    refine wpAnyH_take (i := 16) (v := ?av16) (takeAt rfl) (by kernel_rfl) (by kernel_rfl) (by kernel_rfl) (fun _ _ _ h => h) (Or.inl ⟨by rfl, ?ahy16⟩) (by assumption) ?_
    case ahy16 => ((intro w hSw; (try dsimp only at hSw); go_simp); try (with_reducible rfl))
    try simp only [Act.put, List.setIfInBounds_toArray, List.set_cons_zero, List.set_cons_succ]
    refine wpAnyH_take (i := 17) (v := ?av17) (takeAt rfl) (by kernel_rfl) (by kernel_rfl) (by kernel_rfl) (fun _ _ _ h => h) (Or.inl ⟨by rfl, ?ahy17⟩) (by assumption) ?_
    case ahy17 => ((intro w hSw; (try dsimp only at hSw); go_simp); try (with_reducible rfl))
    try simp only [Act.put, List.setIfInBounds_toArray, List.set_cons_zero, List.set_cons_succ]
    refine wpAnyH_take (i := 18) (v := ?av18) (takeAt rfl) (by kernel_rfl) (by kernel_rfl) (by kernel_rfl) (fun _ _ _ h => h) (Or.inl ⟨by rfl, ?ahy18⟩) (by assumption) ?_
    case ahy18 => ((intro w hSw; (try dsimp only at hSw); go_simp); try (with_reducible rfl))
    try simp only [Act.put, List.setIfInBounds_toArray, List.set_cons_zero, List.set_cons_succ]
    refine wpAnyH_take (i := 19) (v := ?av19) (takeAt rfl) (by kernel_rfl) (by kernel_rfl) (by kernel_rfl) (fun _ _ _ h => h) (Or.inl ⟨by rfl, ?ahy19⟩) (by assumption) ?_
    case ahy19 => ((intro w hSw; (try dsimp only at hSw); go_simp); try (with_reducible rfl))
    try simp only [Act.put, List.setIfInBounds_toArray, List.set_cons_zero, List.set_cons_succ]
    refine wpAnyH_take (i := 20) (v := ?av20) (takeAt rfl) (by kernel_rfl) (by kernel_rfl) (by kernel_rfl) (fun _ _ _ h => h) (Or.inl ⟨by rfl, ?ahy20⟩) (by assumption) ?_
    case ahy20 => ((intro w hSw; (try dsimp only at hSw); go_simp); try (with_reducible rfl))
    try simp only [Act.put, List.setIfInBounds_toArray, List.set_cons_zero, List.set_cons_succ]
    refine wpAnyH_take (i := 21) (v := ?av21) (takeAt rfl) (by kernel_rfl) (by kernel_rfl) (by kernel_rfl) (fun _ _ _ h => h) (Or.inl ⟨by rfl, ?ahy21⟩) (by assumption) ?_
    case ahy21 => ((intro w hSw; (try dsimp only at hSw); go_simp); try (with_reducible rfl))
    try simp only [Act.put, List.setIfInBounds_toArray, List.set_cons_zero, List.set_cons_succ]
    refine wpAnyH_take (i := 22) (v := ?av22) (takeAt rfl) (by kernel_rfl) (by kernel_rfl) (by kernel_rfl) (fun _ _ _ h => h) (Or.inl ⟨by rfl, ?ahy22⟩) (by assumption) ?_
    case ahy22 => ((intro w hSw; (try dsimp only at hSw); go_simp); try (with_reducible rfl))
    try simp only [Act.put, List.setIfInBounds_toArray, List.set_cons_zero, List.set_cons_succ]
    refine wpAnyH_take (i := 23) (v := ?av23) (takeAt rfl) (by kernel_rfl) (by kernel_rfl) (by kernel_rfl) (fun _ _ _ h => h) (Or.inl ⟨by rfl, ?ahy23⟩) (by assumption) ?_
    case ahy23 => ((intro w hSw; (try dsimp only at hSw); go_simp); try (with_reducible rfl))
    try simp only [Act.put, List.setIfInBounds_toArray, List.set_cons_zero, List.set_cons_succ]
    refine wpAnyH_ready (rs := [24]) (by kernel_rfl) (by simp) ?_
    refine AllReadyH.cons (takeAt rfl) (fun K hK => ?_) AllReadyH.nil
    go_simp
    ((go_at_call 116; (with_reducible refine (wrongNum_held g 16 16 rfl (.int .u16 16) (.slice A1 n1 c1) (.slice A2 n2 c2) (.slice A3 n3 c3) wb _ hgl ?_).mono ?_)); (simp [*]); rintro e w3 ⟨b, rfl, hcb, k1, k4, k5, k6, hH3⟩)
    go_wp2_with fail
    refine hK.out _ _ ?_ (fun hHeld => ?_)
    · (try dsimp only); go_keep
    clear hK K
    try simp only [Act.put, List.setIfInBounds_toArray, List.set_cons_zero, List.set_cons_succ]
    refine wpAnyH_ready (rs := [25]) (by kernel_rfl) (by simp) ?_
    refine AllReadyH.cons (takeAt rfl) (fun K hK => ?_) AllReadyH.nil
    go_simp
    ((go_at_call 115; (with_reducible refine (hasNums_held A2 c2 n2 16 b g (.int .u16 16) (.slice A1 n1 c1) (.slice A2 n2 c2) (.slice A3 n3 c3) R.nums true wb _ ?_ HRD2 HL2 hm2' HZ1).mono ?_)); (simp [*]); rintro e w4 ⟨rfl, k1, k4, k5, k6, hH4⟩)
    go_wp2_with fail
    refine hK.out _ _ ?_ (fun hHeld => ?_)
    · (try dsimp only); go_keep
    clear hK K
    try simp only [Act.put, List.setIfInBounds_toArray, List.set_cons_zero, List.set_cons_succ]
    refine wpAnyH_take (i := 26) (v := ?av26) (takeAt rfl) (by kernel_rfl) (by kernel_rfl) (by kernel_rfl) (fun _ _ _ h => h) (Or.inl ⟨by rfl, ?ahy26⟩) (by assumption) ?_
    case ahy26 => ((intro w hSw; (try dsimp only at hSw); go_simp); try (with_reducible rfl))
    try simp only [Act.put, List.setIfInBounds_toArray, List.set_cons_zero, List.set_cons_succ]
    refine wpAnyH_take (i := 27) (v := ?av27) (takeAt rfl) (by kernel_rfl) (by kernel_rfl) (by kernel_rfl) (fun _ _ _ h => h) (Or.inl ⟨by rfl, ?ahy27⟩) (by assumption) ?_
    case ahy27 => ((intro w hSw; (try dsimp only at hSw); go_simp); try (with_reducible rfl))
    try simp only [Act.put, List.setIfInBounds_toArray, List.set_cons_zero, List.set_cons_succ]
    refine wpAnyH_take (i := 28) (v := ?av28) (takeAt rfl) (by kernel_rfl) (by kernel_rfl) (by kernel_rfl) (fun _ _ _ h => h) (Or.inl ⟨by rfl, ?ahy28⟩) (by assumption) ?_
    case ahy28 => ((intro w hSw; (try dsimp only at hSw); go_simp); try (with_reducible rfl))
    try simp only [Act.put, List.setIfInBounds_toArray, List.set_cons_zero, List.set_cons_succ]
    refine wpAnyH_take (i := 29) (v := _) (takeAt rfl) (by kernel_rfl) (by kernel_rfl) (by kernel_rfl) (fun _ _ _ h => h) (Or.inr ⟨by rfl, rfl⟩) (by assumption) ?_
    try simp only [Act.put, List.setIfInBounds_toArray, List.set_cons_zero, List.set_cons_succ]
    refine wpAnyH_take (i := 30) (v := _) (takeAt rfl) (by kernel_rfl) (by kernel_rfl) (by kernel_rfl) (fun _ _ _ h => h) (Or.inr ⟨by rfl, rfl⟩) (by assumption) ?_
    try simp only [Act.put, List.setIfInBounds_toArray, List.set_cons_zero, List.set_cons_succ]
    refine wpAnyH_take (i := 31) (v := _) (takeAt rfl) (by kernel_rfl) (by kernel_rfl) (by kernel_rfl) (fun _ _ _ h => h) (Or.inr ⟨by rfl, rfl⟩) (by assumption) ?_
    try simp only [Act.put, List.setIfInBounds_toArray, List.set_cons_zero, List.set_cons_succ]
    refine wpAnyH_take (i := 32) (v := _) (takeAt rfl) (by kernel_rfl) (by kernel_rfl) (by kernel_rfl) (fun _ _ _ h => h) (Or.inr ⟨by rfl, rfl⟩) (by assumption) ?_
    try simp only [Act.put, List.setIfInBounds_toArray, List.set_cons_zero, List.set_cons_succ]
    refine wpAnyH_take (i := 33) (v := _) (takeAt rfl) (by kernel_rfl) (by kernel_rfl) (by kernel_rfl) (fun _ _ _ h => h) (Or.inr ⟨by rfl, rfl⟩) (by assumption) ?_
    try simp only [Act.put, List.setIfInBounds_toArray, List.set_cons_zero, List.set_cons_succ]
    refine wpAnyH_take (i := 34) (v := _) (takeAt rfl) (by kernel_rfl) (by kernel_rfl) (by kernel_rfl) (fun _ _ _ h => h) (Or.inr ⟨by rfl, rfl⟩) (by assumption) ?_
    try simp only [Act.put, List.setIfInBounds_toArray, List.set_cons_zero, List.set_cons_succ]
    refine wpAnyH_take (i := 35) (v := _) (takeAt rfl) (by kernel_rfl) (by kernel_rfl) (by kernel_rfl) (fun _ _ _ h => h) (Or.inr ⟨by rfl, rfl⟩) (by assumption) ?_
    try simp only [Act.put, List.setIfInBounds_toArray, List.set_cons_zero, List.set_cons_succ]
    refine wpAnyH_take (i := 36) (v := ?av36) (takeAt rfl) (by kernel_rfl) (by kernel_rfl) (by kernel_rfl) (fun _ _ _ h => h) (Or.inl ⟨by rfl, ?ahy36⟩) (by assumption) ?_
    case ahy36 => ((intro w hSw; (try dsimp only at hSw); go_simp); try (with_reducible rfl))
    try simp only [Act.put, List.setIfInBounds_toArray, List.set_cons_zero, List.set_cons_succ]
    refine wpAnyH_take (i := 37) (v := ?av37) (takeAt rfl) (by kernel_rfl) (by kernel_rfl) (by kernel_rfl) (fun _ _ _ h => h) (Or.inl ⟨by rfl, ?ahy37⟩) (by assumption) ?_
    case ahy37 => ((intro w hSw; (try dsimp only at hSw); go_simp); try (with_reducible rfl))
    try simp only [Act.put, List.setIfInBounds_toArray, List.set_cons_zero, List.set_cons_succ]
    refine wpAnyH_done (by kernel_rfl) ?_ _
    go_wp2_with fail
    go_ret
    exact ⟨rfl, by have h := HB0.out; rw [← HGW.out] at h; exact h.trans (Below.mono hHeld.2.2.2.2 h.size)⟩
  | false =>
    have hqz2 : q = !z2 := by rw [hqz]; rfl
    subst hqz2
    clear hqz
    refine wp_region_held_drew (S := fun w' => w'.cell? ⟨g, 1, none⟩ = some (.int .u16 16) ∧ w'.cell? ⟨g, 4, none⟩ = some (.slice A1 n1 c1) ∧ w'.cell? ⟨g, 5, none⟩ = some (.slice A2 n2 c2) ∧ w'.cell? ⟨g, 6, none⟩ = some (.slice A3 n3 c3) ∧ Held wb w') (by kernel_rfl) (by (try dsimp only); go_keep) (fun hHeld => ?_)
    refine wpAnyH_take (i := 0) (v := ?bv0) (takeAt rfl) (by kernel_rfl) (by kernel_rfl) (by kernel_rfl) (fun _ _ _ h => h) (Or.inl ⟨by rfl, ?bhy0⟩) (by assumption) ?_
    case bhy0 => ((intro w hSw; (try dsimp only at hSw); go_simp); try (with_reducible rfl))
    try simp only [Act.put, List.setIfInBounds_toArray, List.set_cons_zero, List.set_cons_succ]
    refine wpAnyH_take (i := 1) (v := ?bv1) (takeAt rfl) (by kernel_rfl) (by kernel_rfl) (by kernel_rfl) (fun _ _ _ h => h) (Or.inl ⟨by rfl, ?bhy1⟩) (by assumption) ?_
    case bhy1 => ((intro w hSw; (try dsimp only at hSw); go_simp); try (with_reducible rfl))
    try simp only [Act.put, List.setIfInBounds_toArray, List.set_cons_zero, List.set_cons_succ]
    refine wpAnyH_take (i := 2) (v := ?bv2) (takeAt rfl) (by kernel_rfl) (by kernel_rfl) (by kernel_rfl) (fun _ _ _ h => h) (Or.inl ⟨by rfl, ?bhy2⟩) (by assumption) ?_
    case bhy2 => ((intro w hSw; (try dsimp only at hSw); go_simp); try (with_reducible rfl))
    try simp only [Act.put, List.setIfInBounds_toArray, List.set_cons_zero, List.set_cons_succ]
    refine wpAnyH_take (i := 3) (v := ?bv3) (takeAt rfl) (by kernel_rfl) (by kernel_rfl) (by kernel_rfl) (fun _ _ _ h => h) (Or.inl ⟨by rfl, ?bhy3⟩) (by assumption) ?_
    case bhy3 => ((intro w hSw; (try dsimp only at hSw); go_simp); try (with_reducible rfl))
    try simp only [Act.put, List.setIfInBounds_toArray, List.set_cons_zero, List.set_cons_succ]
    refine wpAnyH_take (i := 4) (v := ?bv4) (takeAt rfl) (by kernel_rfl) (by kernel_rfl) (by kernel_rfl) (fun _ _ _ h => h) (Or.inl ⟨by rfl, ?bhy4⟩) (by assumption) ?_
    case bhy4 => ((intro w hSw; (try dsimp only at hSw); go_simp); try (with_reducible rfl))
    try simp only [Act.put, List.setIfInBounds_toArray, List.set_cons_zero, List.set_cons_succ]
    refine wpAnyH_take (i := 5) (v := ?bv5) (takeAt rfl) (by kernel_rfl) (by kernel_rfl) (by kernel_rfl) (fun _ _ _ h => h) (Or.inl ⟨by rfl, ?bhy5⟩) (by assumption) ?_
    case bhy5 => ((intro w hSw; (try dsimp only at hSw); go_simp); try (with_reducible rfl))
    try simp only [Act.put, List.setIfInBounds_toArray, List.set_cons_zero, List.set_cons_succ]
    refine wpAnyH_take (i := 6) (v := ?bv6) (takeAt rfl) (by kernel_rfl) (by kernel_rfl) (by kernel_rfl) (fun _ _ _ h => h) (Or.inl ⟨by rfl, ?bhy6⟩) (by assumption) ?_
    case bhy6 => ((intro w hSw; (try dsimp only at hSw); go_simp); try (with_reducible rfl))
    try simp only [Act.put, List.setIfInBounds_toArray, List.set_cons_zero, List.set_cons_succ]
    refine wpAnyH_take (i := 7) (v := ?bv7) (takeAt rfl) (by kernel_rfl) (by kernel_rfl) (by kernel_rfl) (fun _ _ _ h => h) (Or.inl ⟨by rfl, ?bhy7⟩) (by assumption) ?_
    case bhy7 => ((intro w hSw; (try dsimp only at hSw); go_simp); try (with_reducible rfl))
    try simp only [Act.put, List.setIfInBounds_toArray, List.set_cons_zero, List.set_cons_succ]
    refine wpAnyH_take (i := 8) (v := ?bv8) (takeAt rfl) (by kernel_rfl) (by kernel_rfl) (by kernel_rfl) (fun _ _ _ h => h) (Or.inl ⟨by rfl, ?bhy8⟩) (by assumption) ?_
    case bhy8 => ((intro w hSw; (try dsimp only at hSw); go_simp); try (with_reducible rfl))
    try simp only [Act.put, List.setIfInBounds_toArray, List.set_cons_zero, List.set_cons_succ]
    refine wpAnyH_take (i := 9) (v := ?bv9) (takeAt rfl) (by kernel_rfl) (by kernel_rfl) (by kernel_rfl) (fun _ _ _ h => h) (Or.inl ⟨by rfl, ?bhy9⟩) (by assumption) ?_
    case bhy9 => ((intro w hSw; (try dsimp only at hSw); go_simp); try (with_reducible rfl))
    try simp only [Act.put, List.setIfInBounds_toArray, List.set_cons_zero, List.set_cons_succ]
    refine wpAnyH_take (i := 10) (v := ?bv10) (takeAt rfl) (by kernel_rfl) (by kernel_rfl) (by kernel_rfl) (fun _ _ _ h => h) (Or.inl ⟨by rfl, ?bhy10⟩) (by assumption) ?_
    case bhy10 => ((intro w hSw; (try dsimp only at hSw); go_simp); try (with_reducible rfl))
    try simp only [Act.put, List.setIfInBounds_toArray, List.set_cons_zero, List.set_cons_succ]
    refine wpAnyH_take (i := 11) (v := ?bv11) (takeAt rfl) (by kernel_rfl) (by kernel_rfl) (by kernel_rfl) (fun _ _ _ h => h) (Or.inl ⟨by rfl, ?bhy11⟩) (by assumption) ?_
    case bhy11 => ((intro w hSw; (try dsimp only at hSw); go_simp); try (with_reducible rfl))
    try simp only [Act.put, List.setIfInBounds_toArray, List.set_cons_zero, List.set_cons_succ]
    refine wpAnyH_take (i := 12) (v := ?bv12) (takeAt rfl) (by kernel_rfl) (by kernel_rfl) (by kernel_rfl) (fun _ _ _ h => h) (Or.inl ⟨by rfl, ?bhy12⟩) (by assumption) ?_
    case bhy12 => ((intro w hSw; (try dsimp only at hSw); go_simp); try (with_reducible rfl))
    try simp only [Act.put, List.setIfInBounds_toArray, List.set_cons_zero, List.set_cons_succ]
    refine wpAnyH_take (i := 13) (v := ?bv13) (takeAt rfl) (by kernel_rfl) (by kernel_rfl) (by kernel_rfl) (fun _ _ _ h => h) (Or.inl ⟨by rfl, ?bhy13⟩) (by assumption) ?_
    case bhy13 => ((intro w hSw; (try dsimp only at hSw); go_simp); try (with_reducible rfl))
    try simp only [Act.put, List.setIfInBounds_toArray, List.set_cons_zero, List.set_cons_succ]
    refine wpAnyH_take (i := 14) (v := ?bv14) (takeAt rfl) (by kernel_rfl) (by kernel_rfl) (by kernel_rfl) (fun _ _ _ h => h) (Or.inl ⟨by rfl, ?bhy14⟩) (by assumption) ?_
    case bhy14 => ((intro w hSw; (try dsimp only at hSw); go_simp); try (with_reducible rfl))
    try simp only [Act.put, List.setIfInBounds_toArray, List.set_cons_zero, List.set_cons_succ]
    refine wpAnyH_take (i := 15) (v := ?bv15) (takeAt rfl) (by kernel_rfl) (by kernel_rfl) (by kernel_rfl) (fun _ _ _ h => h) (Or.inl ⟨by rfl, ?bhy15⟩) (by assumption) ?_
    case bhy15 => ((intro w hSw; (try dsimp only at hSw); go_simp); try (with_reducible rfl))
    try simp only [Act.put, List.setIfInBounds_toArray, List.set_cons_zero, List.set_cons_succ]
    refine wpAnyH_take (i := 16) (v := ?bv16) (takeAt rfl) (by kernel_rfl) (by kernel_rfl) (by kernel_rfl) (fun _ _ _ h => h) (Or.inl ⟨by rfl, ?bhy16⟩) (by assumption) ?_
    case bhy16 => ((intro w hSw; (try dsimp only at hSw); go_simp); try (with_reducible rfl))
    try simp only [Act.put, List.setIfInBounds_toArray, List.set_cons_zero, List.set_cons_succ]
    refine wpAnyH_take (i := 17) (v := ?bv17) (takeAt rfl) (by kernel_rfl) (by kernel_rfl) (by kernel_rfl) (fun _ _ _ h => h) (Or.inl ⟨by rfl, ?bhy17⟩) (by assumption) ?_
    case bhy17 => ((intro w hSw; (try dsimp only at hSw); go_simp); try (with_reducible rfl))
    try simp only [Act.put, List.setIfInBounds_toArray, List.set_cons_zero, List.set_cons_succ]
    refine wpAnyH_take (i := 18) (v := ?bv18) (takeAt rfl) (by kernel_rfl) (by kernel_rfl) (by kernel_rfl) (fun _ _ _ h => h) (Or.inl ⟨by rfl, ?bhy18⟩) (by assumption) ?_
    case bhy18 => ((intro w hSw; (try dsimp only at hSw); go_simp); try (with_reducible rfl))
    try simp only [Act.put, List.setIfInBounds_toArray, List.set_cons_zero, List.set_cons_succ]
    refine wpAnyH_take (i := 19) (v := ?bv19) (takeAt rfl) (by kernel_rfl) (by kernel_rfl) (by kernel_rfl) (fun _ _ _ h => h) (Or.inl ⟨by rfl, ?bhy19⟩) (by assumption) ?_
    case bhy19 => ((intro w hSw; (try dsimp only at hSw); go_simp); try (with_reducible rfl))
    try simp only [Act.put, List.setIfInBounds_toArray, List.set_cons_zero, List.set_cons_succ]
    refine wpAnyH_take (i := 20) (v := ?bv20) (takeAt rfl) (by kernel_rfl) (by kernel_rfl) (by kernel_rfl) (fun _ _ _ h => h) (Or.inl ⟨by rfl, ?bhy20⟩) (by assumption) ?_
    case bhy20 => ((intro w hSw; (try dsimp only at hSw); go_simp); try (with_reducible rfl))
    try simp only [Act.put, List.setIfInBounds_toArray, List.set_cons_zero, List.set_cons_succ]
    refine wpAnyH_take (i := 21) (v := ?bv21) (takeAt rfl) (by kernel_rfl) (by kernel_rfl) (by kernel_rfl) (fun _ _ _ h => h) (Or.inl ⟨by rfl, ?bhy21⟩) (by assumption) ?_
    case bhy21 => ((intro w hSw; (try dsimp only at hSw); go_simp); try (with_reducible rfl))
    try simp only [Act.put, List.setIfInBounds_toArray, List.set_cons_zero, List.set_cons_succ]
    refine wpAnyH_take (i := 22) (v := ?bv22) (takeAt rfl) (by kernel_rfl) (by kernel_rfl) (by kernel_rfl) (fun _ _ _ h => h) (Or.inl ⟨by rfl, ?bhy22⟩) (by assumption) ?_
    case bhy22 => ((intro w hSw; (try dsimp only at hSw); go_simp); try (with_reducible rfl))
    try simp only [Act.put, List.setIfInBounds_toArray, List.set_cons_zero, List.set_cons_succ]
    refine wpAnyH_take (i := 23) (v := ?bv23) (takeAt rfl) (by kernel_rfl) (by kernel_rfl) (by kernel_rfl) (fun _ _ _ h => h) (Or.inl ⟨by rfl, ?bhy23⟩) (by assumption) ?_
    case bhy23 => ((intro w hSw; (try dsimp only at hSw); go_simp); try (with_reducible rfl))
    try simp only [Act.put, List.setIfInBounds_toArray, List.set_cons_zero, List.set_cons_succ]
    refine wpAnyH_ready (rs := [24]) (by kernel_rfl) (by simp) ?_
    refine AllReadyH.cons (takeAt rfl) (fun K hK => ?_) AllReadyH.nil
    go_simp
    ((go_at_call 116; (with_reducible refine (wrongNum_held g 16 16 rfl (.int .u16 16) (.slice A1 n1 c1) (.slice A2 n2 c2) (.slice A3 n3 c3) wb _ hgl ?_).mono ?_)); (simp [*]); rintro e w3 ⟨b, rfl, hcb, k1, k4, k5, k6, hH3⟩)
    go_wp2_with fail
    refine hK.out _ _ ?_ (fun hHeld => ?_)
    · (try dsimp only); go_keep
    clear hK K
    try simp only [Act.put, List.setIfInBounds_toArray, List.set_cons_zero, List.set_cons_succ]
    refine wpAnyH_ready (rs := [25]) (by kernel_rfl) (by simp) ?_
    refine AllReadyH.cons (takeAt rfl) (fun K hK => ?_) AllReadyH.nil
    go_simp
    ((go_at_call 115; (with_reducible refine (hasNums_held A2 c2 n2 16 b g (.int .u16 16) (.slice A1 n1 c1) (.slice A2 n2 c2) (.slice A3 n3 c3) R.nums false wb _ ?_ HRD2 HL2 hm2' HZ1).mono ?_)); (simp [*]); rintro e w4 ⟨rfl, k1, k4, k5, k6, hH4⟩)
    go_wp2_with fail
    refine hK.out _ _ ?_ (fun hHeld => ?_)
    · (try dsimp only); go_keep
    clear hK K
    try simp only [Act.put, List.setIfInBounds_toArray, List.set_cons_zero, List.set_cons_succ]
    refine wpAnyH_take (i := 26) (v := ?bv26) (takeAt rfl) (by kernel_rfl) (by kernel_rfl) (by kernel_rfl) (fun _ _ _ h => h) (Or.inl ⟨by rfl, ?bhy26⟩) (by assumption) ?_
    case bhy26 => ((intro w hSw; (try dsimp only at hSw); go_simp); try (with_reducible rfl))
    try simp only [Act.put, List.setIfInBounds_toArray, List.set_cons_zero, List.set_cons_succ]
    refine wpAnyH_take (i := 27) (v := ?bv27) (takeAt rfl) (by kernel_rfl) (by kernel_rfl) (by kernel_rfl) (fun _ _ _ h => h) (Or.inl ⟨by rfl, ?bhy27⟩) (by assumption) ?_
    case bhy27 => ((intro w hSw; (try dsimp only at hSw); go_simp); try (with_reducible rfl))
    try simp only [Act.put, List.setIfInBounds_toArray, List.set_cons_zero, List.set_cons_succ]
    refine wpAnyH_take (i := 28) (v := ?bv28) (takeAt rfl) (by kernel_rfl) (by kernel_rfl) (by kernel_rfl) (fun _ _ _ h => h) (Or.inl ⟨by rfl, ?bhy28⟩) (by assumption) ?_
    case bhy28 => ((intro w hSw; (try dsimp only at hSw); go_simp); try (with_reducible rfl))
    try simp only [Act.put, List.setIfInBounds_toArray, List.set_cons_zero, List.set_cons_succ]
    refine wpAnyH_take (i := 29) (v := ?bv29) (takeAt rfl) (by kernel_rfl) (by kernel_rfl) (by kernel_rfl) (fun _ _ _ h => h) (Or.inl ⟨by rfl, ?bhy29⟩) (by assumption) ?_
    case bhy29 => ((intro w hSw; (try dsimp only at hSw); go_simp); try (with_reducible rfl))
    try simp only [Act.put, List.setIfInBounds_toArray, List.set_cons_zero, List.set_cons_succ]
    refine wpAnyH_take (i := 30) (v := ?bv30) (takeAt rfl) (by kernel_rfl) (by kernel_rfl) (by kernel_rfl) (fun _ _ _ h => h) (Or.inl ⟨by rfl, ?bhy30⟩) (by assumption) ?_
    case bhy30 => ((intro w hSw; (try dsimp only at hSw); go_simp); try (with_reducible rfl))
    try simp only [Act.put, List.setIfInBounds_toArray, List.set_cons_zero, List.set_cons_succ]
    refine wpAnyH_take (i := 31) (v := ?bv31) (takeAt rfl) (by kernel_rfl) (by kernel_rfl) (by kernel_rfl) (fun _ _ _ h => h) (Or.inl ⟨by rfl, ?bhy31⟩) (by assumption) ?_
    case bhy31 => ((intro w hSw; (try dsimp only at hSw); go_simp); try (with_reducible rfl))
    try simp only [Act.put, List.setIfInBounds_toArray, List.set_cons_zero, List.set_cons_succ]
    refine wpAnyH_take (i := 32) (v := ?bv32) (takeAt rfl) (by kernel_rfl) (by kernel_rfl) (by kernel_rfl) (fun _ _ _ h => h) (Or.inl ⟨by rfl, ?bhy32⟩) (by assumption) ?_
    case bhy32 => ((intro w hSw; (try dsimp only at hSw); go_simp); try (with_reducible rfl))
    try simp only [Act.put, List.setIfInBounds_toArray, List.set_cons_zero, List.set_cons_succ]
    refine wpAnyH_ready (rs := [33]) (by kernel_rfl) (by simp) ?_
    refine AllReadyH.cons (takeAt rfl) (fun K hK => ?_) AllReadyH.nil
    go_simp
    ((go_at_call 117; (with_reducible refine (wrongText_held g 16 16 rfl (.int .u16 16) (.slice A1 n1 c1) (.slice A2 n2 c2) (.slice A3 n3 c3) wb _ hgl ?_).mono ?_)); (simp [*]); rintro e w5 ⟨b1, b2, rfl, hcT, k1, k4, k5, k6, hH5⟩)
    go_wp2_with fail
    refine hK.out _ _ ?_ (fun hHeld => ?_)
    · (try dsimp only); go_keep
    clear hK K
    try simp only [Act.put, List.setIfInBounds_toArray, List.set_cons_zero, List.set_cons_succ]
    refine wpAnyH_ready (rs := [34]) (by kernel_rfl) (by simp) ?_
    refine AllReadyH.cons (takeAt rfl) (fun K hK => ?_) AllReadyH.nil
    go_simp
    ((go_at_call 90; (with_reducible refine (hasTexts_held A3 c3 n3 16 b1 b2 g (.int .u16 16) (.slice A1 n1 c1) (.slice A2 n2 c2) (.slice A3 n3 c3) R.texts z2 wb _ hgl ?_ HRD3 HL3 hm3' HS3 hcT HZ2).mono ?_)); (simp [*]); rintro e w6 ⟨rfl, k1, k4, k5, k6, hH6⟩)
    go_wp2_with fail
    refine hK.out _ _ ?_ (fun hHeld => ?_)
    · (try dsimp only); go_keep
    clear hK K
    try simp only [Act.put, List.setIfInBounds_toArray, List.set_cons_zero, List.set_cons_succ]
    refine wpAnyH_take (i := 35) (v := ?bv35) (takeAt rfl) (by kernel_rfl) (by kernel_rfl) (by kernel_rfl) (fun _ _ _ h => h) (Or.inl ⟨by rfl, ?bhy35⟩) (by assumption) ?_
    case bhy35 => ((intro w hSw; (try dsimp only at hSw); go_simp); try (with_reducible rfl))
    try simp only [Act.put, List.setIfInBounds_toArray, List.set_cons_zero, List.set_cons_succ]
    refine wpAnyH_take (i := 36) (v := ?bv36) (takeAt rfl) (by kernel_rfl) (by kernel_rfl) (by kernel_rfl) (fun _ _ _ h => h) (Or.inl ⟨by rfl, ?bhy36⟩) (by assumption) ?_
    case bhy36 => ((intro w hSw; (try dsimp only at hSw); go_simp); try (with_reducible rfl))
    try simp only [Act.put, List.setIfInBounds_toArray, List.set_cons_zero, List.set_cons_succ]
    refine wpAnyH_take (i := 37) (v := ?bv37) (takeAt rfl) (by kernel_rfl) (by kernel_rfl) (by kernel_rfl) (fun _ _ _ h => h) (Or.inl ⟨by rfl, ?bhy37⟩) (by assumption) ?_
    case bhy37 => ((intro w hSw; (try dsimp only at hSw); go_simp); try (with_reducible rfl))
    try simp only [Act.put, List.setIfInBounds_toArray, List.set_cons_zero, List.set_cons_succ]
    refine wpAnyH_done (by kernel_rfl) ?_ _
    go_wp2_with fail
    go_ret
    exact ⟨rfl, by have h := HB0.out; rw [← HGW.out] at h; exact h.trans (Below.mono hHeld.2.2.2.2 h.size)⟩
set_option maxHeartbeats 4000000 in
set_option maxRecDepth 100000 in
set_option linter.unusedSimpArgs false in
theorem shaped_many (R : Rec) (x : ByteArray) (k l t : Nat) (A1 : Option Addr) (n1 c1 : Nat) (A2 : Option Addr) (n2 c2 : Nat) (A3 : Option Addr) (n3 c3 : Nat) (q : Bool) (w : World) (hR : Hid (RecAt w w.heap.size R x k l t A1 n1 A2 n2 A3 n3)) (hS : Hid (Small R)) (hk : k = 16) (hmany : (1 : Int) < n3) (hq : Hid (okB R = q)) :
    Calls Try.prog 91 #[.agg #[.string x, .int .u16 k, .int .u16 l, .int .u32 t, .slice A1 n1 c1, .slice A2 n2 c2, .slice A3 n3 c3]] w fun e w' => e = .returned (.bool q) ∧ Below w.heap.size w w' := by
  obtain ⟨a, ha⟩ : ∃ a, shA k = a := ⟨_, rfl⟩
  obtain ⟨b, hb⟩ : ∃ b, shB k = b := ⟨_, rfl⟩
  obtain ⟨c, hc⟩ : ∃ c, shC k = c := ⟨_, rfl⟩
  obtain ⟨d, hd⟩ : ∃ d, (if k = 16 then max c n3 else c) = d := ⟨_, rfl⟩
  have hm1 := hR.out.m1 hS.out
  have hm2 := hR.out.m2 hS.out
  have hm3 := hR.out.m3 hS.out
  have hcn := cntOk_no (R := R) (n1 := n1) (n2 := n2) (n3 := n3) (a := a) (b := b) (c := c) (d := d) hR.out.len1 hR.out.len2 hR.out.len3 (by rw [hR.out.kind]; exact ha) (by rw [hR.out.kind]; exact hb) (by rw [hR.out.kind]; exact hc) (by rw [hR.out.kind]; exact hd)
  have hok := okB_wrongs R
  rw [hcn, hR.out.kind, hq.out] at hok
  have HOK := Lib.hid hok
  have HA := Lib.hid ha
  have HB := Lib.hid hb
  have HC := Lib.hid hc
  clear hok hcn ha hb
  rw [if_pos hk] at hd
  obtain rfl : c = 1 := by rw [← hc, hk]; rfl
  obtain rfl : n3 = d := by omega
  subst hk
  clear hc hd
  by_cases e1 : n1 = a
  rotate_left
  · have f : ((n1 : Int) == (a : Int)) = false := int_ne e1
    obtain rfl : q = false := by rw [HOK.out, decide_eq_false (by rintro ⟨r1, r2, r3⟩; exact e1 r1), Bool.false_and]
    clear e1 HOK
    go_enter Try.func91, Try.ntmps91
    go_wp2_with fail
    refine (shape_is 16 a b 1 _ HA HB HC).mono ?_
    rintro e w' ⟨rfl, rfl⟩
    go_wp2_with fail
    go_quiet (fail)
    go_wp2_with fail
    go_ret
    exact ⟨rfl, below_drewN ((Below.refl _ _).alloc (Nat.le_refl _) _) _⟩
  have f1 : ((n1 : Int) == (a : Int)) = true := int_eq e1
  by_cases e2 : n2 = b
  rotate_left
  · have f : ((n2 : Int) == (b : Int)) = false := int_ne e2
    obtain rfl : q = false := by rw [HOK.out, decide_eq_false (by rintro ⟨r1, r2, r3⟩; exact e2 r2), Bool.false_and]
    clear e2 HOK
    go_enter Try.func91, Try.ntmps91
    go_wp2_with fail
    refine (shape_is 16 a b 1 _ HA HB HC).mono ?_
    rintro e w' ⟨rfl, rfl⟩
    go_wp2_with fail
    go_quiet (fail)
    go_wp2_with fail
    go_ret
    exact ⟨rfl, below_drewN ((Below.refl _ _).alloc (Nat.le_refl _) _) _⟩
  have f2 : ((n2 : Int) == (b : Int)) = true := int_eq e2
  obtain ⟨z1, hz1⟩ : ∃ z, R.nums.any (badNum 16) = z := ⟨_, rfl⟩
  obtain ⟨z2, hz2⟩ : ∃ z, wrongs 16 65535 R.texts = z := ⟨_, rfl⟩
  have hqz : q = (!z1 && !z2) := by rw [HOK.out, decide_eq_true ⟨e1, e2, rfl⟩, Bool.true_and, hz1, hz2]
  have HZ1 := Lib.hid hz1
  have HZ2 := Lib.hid hz2
  have HR2 := Lib.hid (hR.out.box (.cells #[.string x, .int .u16 16, .int .u16 l, .int .u32 t, .slice A1 n1 c1, .slice A2 n2 c2, .slice A3 n3 c3] 60))
  have HB0 : Hid (Below w.heap.size w (w.alloc (.cells #[.string x, .int .u16 16, .int .u16 l, .int .u32 t, .slice A1 n1 c1, .slice A2 n2 c2, .slice A3 n3 c3] 60))) := (Below.refl _ _).alloc (Nat.le_refl _) _
  have hcell1 : (w.alloc (.cells #[.string x, .int .u16 16, .int .u16 l, .int .u32 t, .slice A1 n1 c1, .slice A2 n2 c2, .slice A3 n3 c3] 60)).cell? ⟨w.heap.size, 1, none⟩ = some (.int .u16 16) := by simp
  have hcell4 : (w.alloc (.cells #[.string x, .int .u16 16, .int .u16 l, .int .u32 t, .slice A1 n1 c1, .slice A2 n2 c2, .slice A3 n3 c3] 60)).cell? ⟨w.heap.size, 4, none⟩ = some (.slice A1 n1 c1) := by simp
  have hcell5 : (w.alloc (.cells #[.string x, .int .u16 16, .int .u16 l, .int .u32 t, .slice A1 n1 c1, .slice A2 n2 c2, .slice A3 n3 c3] 60)).cell? ⟨w.heap.size, 5, none⟩ = some (.slice A2 n2 c2) := by simp
  have hcell6 : (w.alloc (.cells #[.string x, .int .u16 16, .int .u16 l, .int .u32 t, .slice A1 n1 c1, .slice A2 n2 c2, .slice A3 n3 c3] 60)).cell? ⟨w.heap.size, 6, none⟩ = some (.slice A3 n3 c3) := by simp
  have hgl : w.heap.size < (w.alloc (.cells #[.string x, .int .u16 16, .int .u16 l, .int .u32 t, .slice A1 n1 c1, .slice A2 n2 c2, .slice A3 n3 c3] 60)).heap.size := by simp
  clear hz1 hz2 HOK e1 e2
  go_enter Try.func91, Try.ntmps91
  go_wp2_with fail
  refine (shape_is 16 a b 1 _ HA HB HC).mono ?_
  rintro e w' ⟨rfl, rfl⟩
  go_wp2_with fail
  have HRD2 := Lib.hid HR2.out.rd2
  have HRD3 := Lib.hid HR2.out.rd3
  have HL2 := Lib.hid HR2.out.len2
  have HL3 := Lib.hid HR2.out.len3
  have HS3 := Lib.hid (HR2.out.s3 hS.out).out
  have hm2' : n2 ≤ 1000000 := by omega
  have hm3' : n3 ≤ 1000000 := by omega
  have hH0 : Held (w.alloc (.cells #[.string x, .int .u16 16, .int .u16 l, .int .u32 t, .slice A1 n1 c1, .slice A2 n2 c2, .slice A3 n3 c3] 60)) (w.alloc (.cells #[.string x, .int .u16 16, .int .u16 l, .int .u32 t, .slice A1 n1 c1, .slice A2 n2 c2, .slice A3 n3 c3] 60)).drew := (Below.refl _ _).drew
  clear HR2
  generalize hwb : w.alloc (.cells #[.string x, .int .u16 16, .int .u16 l, .int .u32 t, .slice A1 n1 c1, .slice A2 n2 c2, .slice A3 n3 c3] 60) = wb at *
  generalize hgw : w.heap.size = g at *
  have HGW := Lib.hid hgw
  clear hwb hgw
  cases z1 with
  | true =>
    obtain rfl : q = false := by rw [hqz]; rfl
    clear hqz
    refine wp_region_held_drew (S := fun w' => w'.cell? ⟨g, 1, none⟩ = some (.int .u16 16) ∧ w'.cell? ⟨g, 4, none⟩ = some (.slice A1 n1 c1) ∧ w'.cell? ⟨g, 5, none⟩ = some (.slice A2 n2 c2) ∧ w'.cell? ⟨g, 6, none⟩ = some (.slice A3 n3 c3) ∧ Held wb w') (by kernel_rfl) (by (try dsimp only); go_keep) (fun hHeld => ?_)
    refine wpAnyH_take (i := 0) (v := ?av0) (takeAt rfl) (by kernel_rfl) (by kernel_rfl) (by kernel_rfl) (fun _ _ _ h => h) (Or.inl ⟨by rfl, ?ahy0⟩) (by assumption) ?_
    case ahy0 => ((intro w hSw; (try dsimp only at hSw); go_simp); try (with_reducible rfl))
    try simp only [Act.put, List.setIfInBounds_toArray, List.set_cons_zero, List.set_cons_succ]
    refine wpAnyH_take (i := 1) (v := ?av1) (takeAt rfl) (by kernel_rfl) (by kernel_rfl) (by kernel_rfl) (fun _ _ _ h => h) (Or.inl ⟨by rfl, ?ahy1⟩) (by assumption) ?_
    case ahy1 => ((intro w hSw; (try dsimp only at hSw); go_simp); try (with_reducible rfl))
    try simp only [Act.put, List.setIfInBounds_toArray, List.set_cons_zero, List.set_cons_succ]
    refine wpAnyH_take (i := 2) (v := ?av2) (takeAt rfl) (by kernel_rfl) (by kernel_rfl) (by kernel_rfl) (fun _ _ _ h => h) (Or.inl ⟨by rfl, ?ahy2⟩) (by assumption) ?_
    case ahy2 => ((intro w hSw; (try dsimp only at hSw); go_simp); try (with_reducible rfl))
    try simp only [Act.put, List.setIfInBounds_toArray, List.set_cons_zero, List.set_cons_succ]
    refine wpAnyH_take (i := 3) (v := ?av3) (takeAt rfl) (by kernel_rfl) (by kernel_rfl) (by kernel_rfl) (fun _ _ _ h => h) (Or.inl ⟨by rfl, ?ahy3⟩) (by assumption) ?_
    case ahy3 => ((intro w hSw; (try dsimp only at hSw); go_simp); try (with_reducible rfl))
    try simp only [Act.put, List.setIfInBounds_toArray, List.set_cons_zero, List.set_cons_succ]
    refine wpAnyH_take (i := 4) (v := ?av4) (takeAt rfl) (by kernel_rfl) (by kernel_rfl) (by kernel_rfl) (fun _ _ _ h => h) (Or.inl ⟨by rfl, ?ahy4⟩) (by assumption) ?_
    case ahy4 => ((intro w hSw; (try dsimp only at hSw); go_simp); try (with_reducible rfl))
    try simp only [Act.put, List.setIfInBounds_toArray, List.set_cons_zero, List.set_cons_succ]
    refine wpAnyH_take (i := 5) (v := ?av5) (takeAt rfl) (by kernel_rfl) (by kernel_rfl) (by kernel_rfl) (fun _ _ _ h => h) (Or.inl ⟨by rfl, ?ahy5⟩) (by assumption) ?_
    case ahy5 => ((intro w hSw; (try dsimp only at hSw); go_simp); try (with_reducible rfl))
    try simp only [Act.put, List.setIfInBounds_toArray, List.set_cons_zero, List.set_cons_succ]
    refine wpAnyH_take (i := 6) (v := ?av6) (takeAt rfl) (by kernel_rfl) (by kernel_rfl) (by kernel_rfl) (fun _ _ _ h => h) (Or.inl ⟨by rfl, ?ahy6⟩) (by assumption) ?_
    case ahy6 => ((intro w hSw; (try dsimp only at hSw); go_simp); try (with_reducible rfl))
    try simp only [Act.put, List.setIfInBounds_toArray, List.set_cons_zero, List.set_cons_succ]
    refine wpAnyH_take (i := 7) (v := ?av7) (takeAt rfl) (by kernel_rfl) (by kernel_rfl) (by kernel_rfl) (fun _ _ _ h => h) (Or.inl ⟨by rfl, ?ahy7⟩) (by assumption) ?_
    case ahy7 => ((intro w hSw; (try dsimp only at hSw); go_simp); try (with_reducible rfl))
    try simp only [Act.put, List.setIfInBounds_toArray, List.set_cons_zero, List.set_cons_succ]
    refine wpAnyH_take (i := 8) (v := ?av8) (takeAt rfl) (by kernel_rfl) (by kernel_rfl) (by kernel_rfl) (fun _ _ _ h => h) (Or.inl ⟨by rfl, ?ahy8⟩) (by assumption) ?_
    case ahy8 => ((intro w hSw; (try dsimp only at hSw); go_simp); try (with_reducible rfl))
    try simp only [Act.put, List.setIfInBounds_toArray, List.set_cons_zero, List.set_cons_succ]
    refine wpAnyH_take (i := 9) (v := ?av9) (takeAt rfl) (by kernel_rfl) (by kernel_rfl) (by kernel_rfl) (fun _ _ _ h => h) (Or.inl ⟨by rfl, ?ahy9⟩) (by assumption) ?_
    case ahy9 => ((intro w hSw; (try dsimp only at hSw); go_simp); try (with_reducible rfl))
    try simp only [Act.put, List.setIfInBounds_toArray, List.set_cons_zero, List.set_cons_succ]
    refine wpAnyH_take (i := 10) (v := ?av10) (takeAt rfl) (by kernel_rfl) (by kernel_rfl) (by kernel_rfl) (fun _ _ _ h => h) (Or.inl ⟨by rfl, ?ahy10⟩) (by assumption) ?_
    case ahy10 => ((intro w hSw; (try dsimp only at hSw); go_simp); try (with_reducible rfl))
    try simp only [Act.put, List.setIfInBounds_toArray, List.set_cons_zero, List.set_cons_succ]
    refine wpAnyH_take (i := 11) (v := ?av11) (takeAt rfl) (by kernel_rfl) (by kernel_rfl) (by kernel_rfl) (fun _ _ _ h => h) (Or.inl ⟨by rfl, ?ahy11⟩) (by assumption) ?_
    case ahy11 => ((intro w hSw; (try dsimp only at hSw); go_simp); try (with_reducible rfl))
    try simp only [Act.put, List.setIfInBounds_toArray, List.set_cons_zero, List.set_cons_succ]
    refine wpAnyH_take (i := 12) (v := ?av12) (takeAt rfl) (by kernel_rfl) (by kernel_rfl) (by kernel_rfl) (fun _ _ _ h => h) (Or.inl ⟨by rfl, ?ahy12⟩) (by assumption) ?_
    case ahy12 => ((intro w hSw; (try dsimp only at hSw); go_simp); try (with_reducible rfl))
    try simp only [Act.put, List.setIfInBounds_toArray, List.set_cons_zero, List.set_cons_succ]
    refine wpAnyH_take (i := 13) (v := ?av13) (takeAt rfl) (by kernel_rfl) (by kernel_rfl) (by kernel_rfl) (fun _ _ _ h => h) (Or.inl ⟨by rfl, ?ahy13⟩) (by assumption) ?_
    case ahy13 => ((intro w hSw; (try dsimp only at hSw); go_simp); try (with_reducible rfl))
    try simp only [Act.put, List.setIfInBounds_toArray, List.set_cons_zero, List.set_cons_succ]
    refine wpAnyH_take (i := 14) (v := ?av14) (takeAt rfl) (by kernel_rfl) (by kernel_rfl) (by kernel_rfl) (fun _ _ _ h => h) (Or.inl ⟨by rfl, ?ahy14⟩) (by assumption) ?_
    case ahy14 => ((intro w hSw; (try dsimp only at hSw); go_simp); try (with_reducible rfl))
    try simp only [Act.put, List.setIfInBounds_toArray, List.set_cons_zero, List.set_cons_succ]
    refine wpAnyH_take (i := 15) (v := ?av15) (takeAt rfl) (by kernel_rfl) (by kernel_rfl) (by kernel_rfl) (fun _ _ _ h => h) (Or.inl ⟨by rfl, ?ahy15⟩) (by assumption) ?_
    case ahy15 => ((intro w hSw; (try dsimp only at hSw); go_simp); try (with_reducible rfl))
    try simp only [Act.put, List.setIfInBounds_toArray, List.set_cons_zero, List.set_cons_succ]
    refine wpAnyH_take (i := 16) (v := ?av16) (takeAt rfl) (by kernel_rfl) (by kernel_rfl) (by kernel_rfl) (fun _ _ _ h => h) (Or.inl ⟨by rfl, ?ahy16⟩) (by assumption) ?_
    case ahy16 => ((intro w hSw; (try dsimp only at hSw); go_simp); try (with_reducible rfl))
    try simp only [Act.put, List.setIfInBounds_toArray, List.set_cons_zero, List.set_cons_succ]
    refine wpAnyH_take (i := 17) (v := ?av17) (takeAt rfl) (by kernel_rfl) (by kernel_rfl) (by kernel_rfl) (fun _ _ _ h => h) (Or.inl ⟨by rfl, ?ahy17⟩) (by assumption) ?_
    case ahy17 => ((intro w hSw; (try dsimp only at hSw); go_simp); try (with_reducible rfl))
    try simp only [Act.put, List.setIfInBounds_toArray, List.set_cons_zero, List.set_cons_succ]
    refine wpAnyH_take (i := 18) (v := ?av18) (takeAt rfl) (by kernel_rfl) (by kernel_rfl) (by kernel_rfl) (fun _ _ _ h => h) (Or.inl ⟨by rfl, ?ahy18⟩) (by assumption) ?_
    case ahy18 => ((intro w hSw; (try dsimp only at hSw); go_simp); try (with_reducible rfl))
    try simp only [Act.put, List.setIfInBounds_toArray, List.set_cons_zero, List.set_cons_succ]
    refine wpAnyH_take (i := 19) (v := ?av19) (takeAt rfl) (by kernel_rfl) (by kernel_rfl) (by kernel_rfl) (fun _ _ _ h => h) (Or.inl ⟨by rfl, ?ahy19⟩) (by assumption) ?_
    case ahy19 => ((intro w hSw; (try dsimp only at hSw); go_simp); try (with_reducible rfl))
    try simp only [Act.put, List.setIfInBounds_toArray, List.set_cons_zero, List.set_cons_succ]
    refine wpAnyH_take (i := 20) (v := ?av20) (takeAt rfl) (by kernel_rfl) (by kernel_rfl) (by kernel_rfl) (fun _ _ _ h => h) (Or.inl ⟨by rfl, ?ahy20⟩) (by assumption) ?_
    case ahy20 => ((intro w hSw; (try dsimp only at hSw); go_simp); try (with_reducible rfl))
    try simp only [Act.put, List.setIfInBounds_toArray, List.set_cons_zero, List.set_cons_succ]
    refine wpAnyH_take (i := 21) (v := ?av21) (takeAt rfl) (by kernel_rfl) (by kernel_rfl) (by kernel_rfl) (fun _ _ _ h => h) (Or.inl ⟨by rfl, ?ahy21⟩) (by assumption) ?_
    case ahy21 => ((intro w hSw; (try dsimp only at hSw); go_simp); try (with_reducible rfl))
    try simp only [Act.put, List.setIfInBounds_toArray, List.set_cons_zero, List.set_cons_succ]
    refine wpAnyH_take (i := 22) (v := ?av22) (takeAt rfl) (by kernel_rfl) (by kernel_rfl) (by kernel_rfl) (fun _ _ _ h => h) (Or.inl ⟨by rfl, ?ahy22⟩) (by assumption) ?_
    case ahy22 => ((intro w hSw; (try dsimp only at hSw); go_simp); try (with_reducible rfl))
    try simp only [Act.put, List.setIfInBounds_toArray, List.set_cons_zero, List.set_cons_succ]
    refine wpAnyH_take (i := 23) (v := ?av23) (takeAt rfl) (by kernel_rfl) (by kernel_rfl) (by kernel_rfl) (fun _ _ _ h => h) (Or.inl ⟨by rfl, ?ahy23⟩) (by assumption) ?_
    case ahy23 => ((intro w hSw; (try dsimp only at hSw); go_simp); try (with_reducible rfl))
    try simp only [Act.put, List.setIfInBounds_toArray, List.set_cons_zero, List.set_cons_succ]
    refine wpAnyH_ready (rs := [24]) (by kernel_rfl) (by simp) ?_
    refine AllReadyH.cons (takeAt rfl) (fun K hK => ?_) AllReadyH.nil
    go_simp
    ((go_at_call 116; (with_reducible refine (wrongNum_held g 16 16 rfl (.int .u16 16) (.slice A1 n1 c1) (.slice A2 n2 c2) (.slice A3 n3 c3) wb _ hgl ?_).mono ?_)); (simp [*]); rintro e w3 ⟨b, rfl, hcb, k1, k4, k5, k6, hH3⟩)
    go_wp2_with fail
    refine hK.out _ _ ?_ (fun hHeld => ?_)
    · (try dsimp only); go_keep
    clear hK K
    try simp only [Act.put, List.setIfInBounds_toArray, List.set_cons_zero, List.set_cons_succ]
    refine wpAnyH_ready (rs := [25]) (by kernel_rfl) (by simp) ?_
    refine AllReadyH.cons (takeAt rfl) (fun K hK => ?_) AllReadyH.nil
    go_simp
    ((go_at_call 115; (with_reducible refine (hasNums_held A2 c2 n2 16 b g (.int .u16 16) (.slice A1 n1 c1) (.slice A2 n2 c2) (.slice A3 n3 c3) R.nums true wb _ ?_ HRD2 HL2 hm2' HZ1).mono ?_)); (simp [*]); rintro e w4 ⟨rfl, k1, k4, k5, k6, hH4⟩)
    go_wp2_with fail
    refine hK.out _ _ ?_ (fun hHeld => ?_)
    · (try dsimp only); go_keep
    clear hK K
    try simp only [Act.put, List.setIfInBounds_toArray, List.set_cons_zero, List.set_cons_succ]
    refine wpAnyH_take (i := 26) (v := ?av26) (takeAt rfl) (by kernel_rfl) (by kernel_rfl) (by kernel_rfl) (fun _ _ _ h => h) (Or.inl ⟨by rfl, ?ahy26⟩) (by assumption) ?_
    case ahy26 => ((intro w hSw; (try dsimp only at hSw); go_simp); try (with_reducible rfl))
    try simp only [Act.put, List.setIfInBounds_toArray, List.set_cons_zero, List.set_cons_succ]
    refine wpAnyH_take (i := 27) (v := ?av27) (takeAt rfl) (by kernel_rfl) (by kernel_rfl) (by kernel_rfl) (fun _ _ _ h => h) (Or.inl ⟨by rfl, ?ahy27⟩) (by assumption) ?_
    case ahy27 => ((intro w hSw; (try dsimp only at hSw); go_simp); try (with_reducible rfl))
    try simp only [Act.put, List.setIfInBounds_toArray, List.set_cons_zero, List.set_cons_succ]
    refine wpAnyH_take (i := 28) (v := ?av28) (takeAt rfl) (by kernel_rfl) (by kernel_rfl) (by kernel_rfl) (fun _ _ _ h => h) (Or.inl ⟨by rfl, ?ahy28⟩) (by assumption) ?_
    case ahy28 => ((intro w hSw; (try dsimp only at hSw); go_simp); try (with_reducible rfl))
    try simp only [Act.put, List.setIfInBounds_toArray, List.set_cons_zero, List.set_cons_succ]
    refine wpAnyH_take (i := 29) (v := _) (takeAt rfl) (by kernel_rfl) (by kernel_rfl) (by kernel_rfl) (fun _ _ _ h => h) (Or.inr ⟨by rfl, rfl⟩) (by assumption) ?_
    try simp only [Act.put, List.setIfInBounds_toArray, List.set_cons_zero, List.set_cons_succ]
    refine wpAnyH_take (i := 30) (v := _) (takeAt rfl) (by kernel_rfl) (by kernel_rfl) (by kernel_rfl) (fun _ _ _ h => h) (Or.inr ⟨by rfl, rfl⟩) (by assumption) ?_
    try simp only [Act.put, List.setIfInBounds_toArray, List.set_cons_zero, List.set_cons_succ]
    refine wpAnyH_take (i := 31) (v := _) (takeAt rfl) (by kernel_rfl) (by kernel_rfl) (by kernel_rfl) (fun _ _ _ h => h) (Or.inr ⟨by rfl, rfl⟩) (by assumption) ?_
    try simp only [Act.put, List.setIfInBounds_toArray, List.set_cons_zero, List.set_cons_succ]
    refine wpAnyH_take (i := 32) (v := _) (takeAt rfl) (by kernel_rfl) (by kernel_rfl) (by kernel_rfl) (fun _ _ _ h => h) (Or.inr ⟨by rfl, rfl⟩) (by assumption) ?_
    try simp only [Act.put, List.setIfInBounds_toArray, List.set_cons_zero, List.set_cons_succ]
    refine wpAnyH_take (i := 33) (v := _) (takeAt rfl) (by kernel_rfl) (by kernel_rfl) (by kernel_rfl) (fun _ _ _ h => h) (Or.inr ⟨by rfl, rfl⟩) (by assumption) ?_
    try simp only [Act.put, List.setIfInBounds_toArray, List.set_cons_zero, List.set_cons_succ]
    refine wpAnyH_take (i := 34) (v := _) (takeAt rfl) (by kernel_rfl) (by kernel_rfl) (by kernel_rfl) (fun _ _ _ h => h) (Or.inr ⟨by rfl, rfl⟩) (by assumption) ?_
    try simp only [Act.put, List.setIfInBounds_toArray, List.set_cons_zero, List.set_cons_succ]
    refine wpAnyH_take (i := 35) (v := _) (takeAt rfl) (by kernel_rfl) (by kernel_rfl) (by kernel_rfl) (fun _ _ _ h => h) (Or.inr ⟨by rfl, rfl⟩) (by assumption) ?_
    try simp only [Act.put, List.setIfInBounds_toArray, List.set_cons_zero, List.set_cons_succ]
    refine wpAnyH_take (i := 36) (v := ?av36) (takeAt rfl) (by kernel_rfl) (by kernel_rfl) (by kernel_rfl) (fun _ _ _ h => h) (Or.inl ⟨by rfl, ?ahy36⟩) (by assumption) ?_
    case ahy36 => ((intro w hSw; (try dsimp only at hSw); go_simp); try (with_reducible rfl))
    try simp only [Act.put, List.setIfInBounds_toArray, List.set_cons_zero, List.set_cons_succ]
    refine wpAnyH_take (i := 37) (v := ?av37) (takeAt rfl) (by kernel_rfl) (by kernel_rfl) (by kernel_rfl) (fun _ _ _ h => h) (Or.inl ⟨by rfl, ?ahy37⟩) (by assumption) ?_
    case ahy37 => ((intro w hSw; (try dsimp only at hSw); go_simp); try (with_reducible rfl))
    try simp only [Act.put, List.setIfInBounds_toArray, List.set_cons_zero, List.set_cons_succ]
    refine wpAnyH_done (by kernel_rfl) ?_ _
    go_wp2_with fail
    go_ret
    exact ⟨rfl, by have h := HB0.out; rw [← HGW.out] at h; exact h.trans (Below.mono hHeld.2.2.2.2 h.size)⟩
  | false =>
    have hqz2 : q = !z2 := by rw [hqz]; rfl
    subst hqz2
    clear hqz
    refine wp_region_held_drew (S := fun w' => w'.cell? ⟨g, 1, none⟩ = some (.int .u16 16) ∧ w'.cell? ⟨g, 4, none⟩ = some (.slice A1 n1 c1) ∧ w'.cell? ⟨g, 5, none⟩ = some (.slice A2 n2 c2) ∧ w'.cell? ⟨g, 6, none⟩ = some (.slice A3 n3 c3) ∧ Held wb w') (by kernel_rfl) (by (try dsimp only); go_keep) (fun hHeld => ?_)
    refine wpAnyH_take (i := 0) (v := ?bv0) (takeAt rfl) (by kernel_rfl) (by kernel_rfl) (by kernel_rfl) (fun _ _ _ h => h) (Or.inl ⟨by rfl, ?bhy0⟩) (by assumption) ?_
    case bhy0 => ((intro w hSw; (try dsimp only at hSw); go_simp); try (with_reducible rfl))
    try simp only [Act.put, List.setIfInBounds_toArray, List.set_cons_zero, List.set_cons_succ]
    refine wpAnyH_take (i := 1) (v := ?bv1) (takeAt rfl) (by kernel_rfl) (by kernel_rfl) (by kernel_rfl) (fun _ _ _ h => h) (Or.inl ⟨by rfl, ?bhy1⟩) (by assumption) ?_
    case bhy1 => ((intro w hSw; (try dsimp only at hSw); go_simp); try (with_reducible rfl))
    try simp only [Act.put, List.setIfInBounds_toArray, List.set_cons_zero, List.set_cons_succ]
    refine wpAnyH_take (i := 2) (v := ?bv2) (takeAt rfl) (by kernel_rfl) (by kernel_rfl) (by kernel_rfl) (fun _ _ _ h => h) (Or.inl ⟨by rfl, ?bhy2⟩) (by assumption) ?_
    case bhy2 => ((intro w hSw; (try dsimp only at hSw); go_simp); try (with_reducible rfl))
    try simp only [Act.put, List.setIfInBounds_toArray, List.set_cons_zero, List.set_cons_succ]
    refine wpAnyH_take (i := 3) (v := ?bv3) (takeAt rfl) (by kernel_rfl) (by kernel_rfl) (by kernel_rfl) (fun _ _ _ h => h) (Or.inl ⟨by rfl, ?bhy3⟩) (by assumption) ?_
    case bhy3 => ((intro w hSw; (try dsimp only at hSw); go_simp); try (with_reducible rfl))
    try simp only [Act.put, List.setIfInBounds_toArray, List.set_cons_zero, List.set_cons_succ]
    refine wpAnyH_take (i := 4) (v := ?bv4) (takeAt rfl) (by kernel_rfl) (by kernel_rfl) (by kernel_rfl) (fun _ _ _ h => h) (Or.inl ⟨by rfl, ?bhy4⟩) (by assumption) ?_
    case bhy4 => ((intro w hSw; (try dsimp only at hSw); go_simp); try (with_reducible rfl))
    try simp only [Act.put, List.setIfInBounds_toArray, List.set_cons_zero, List.set_cons_succ]
    refine wpAnyH_take (i := 5) (v := ?bv5) (takeAt rfl) (by kernel_rfl) (by kernel_rfl) (by kernel_rfl) (fun _ _ _ h => h) (Or.inl ⟨by rfl, ?bhy5⟩) (by assumption) ?_
    case bhy5 => ((intro w hSw; (try dsimp only at hSw); go_simp); try (with_reducible rfl))
    try simp only [Act.put, List.setIfInBounds_toArray, List.set_cons_zero, List.set_cons_succ]
    refine wpAnyH_take (i := 6) (v := ?bv6) (takeAt rfl) (by kernel_rfl) (by kernel_rfl) (by kernel_rfl) (fun _ _ _ h => h) (Or.inl ⟨by rfl, ?bhy6⟩) (by assumption) ?_
    case bhy6 => ((intro w hSw; (try dsimp only at hSw); go_simp); try (with_reducible rfl))
    try simp only [Act.put, List.setIfInBounds_toArray, List.set_cons_zero, List.set_cons_succ]
    refine wpAnyH_take (i := 7) (v := ?bv7) (takeAt rfl) (by kernel_rfl) (by kernel_rfl) (by kernel_rfl) (fun _ _ _ h => h) (Or.inl ⟨by rfl, ?bhy7⟩) (by assumption) ?_
    case bhy7 => ((intro w hSw; (try dsimp only at hSw); go_simp); try (with_reducible rfl))
    try simp only [Act.put, List.setIfInBounds_toArray, List.set_cons_zero, List.set_cons_succ]
    refine wpAnyH_take (i := 8) (v := ?bv8) (takeAt rfl) (by kernel_rfl) (by kernel_rfl) (by kernel_rfl) (fun _ _ _ h => h) (Or.inl ⟨by rfl, ?bhy8⟩) (by assumption) ?_
    case bhy8 => ((intro w hSw; (try dsimp only at hSw); go_simp); try (with_reducible rfl))
    try simp only [Act.put, List.setIfInBounds_toArray, List.set_cons_zero, List.set_cons_succ]
    refine wpAnyH_take (i := 9) (v := ?bv9) (takeAt rfl) (by kernel_rfl) (by kernel_rfl) (by kernel_rfl) (fun _ _ _ h => h) (Or.inl ⟨by rfl, ?bhy9⟩) (by assumption) ?_
    case bhy9 => ((intro w hSw; (try dsimp only at hSw); go_simp); try (with_reducible rfl))
    try simp only [Act.put, List.setIfInBounds_toArray, List.set_cons_zero, List.set_cons_succ]
    refine wpAnyH_take (i := 10) (v := ?bv10) (takeAt rfl) (by kernel_rfl) (by kernel_rfl) (by kernel_rfl) (fun _ _ _ h => h) (Or.inl ⟨by rfl, ?bhy10⟩) (by assumption) ?_
    case bhy10 => ((intro w hSw; (try dsimp only at hSw); go_simp); try (with_reducible rfl))
    try simp only [Act.put, List.setIfInBounds_toArray, List.set_cons_zero, List.set_cons_succ]
    refine wpAnyH_take (i := 11) (v := ?bv11) (takeAt rfl) (by kernel_rfl) (by kernel_rfl) (by kernel_rfl) (fun _ _ _ h => h) (Or.inl ⟨by rfl, ?bhy11⟩) (by assumption) ?_
    case bhy11 => ((intro w hSw; (try dsimp only at hSw); go_simp); try (with_reducible rfl))
    try simp only [Act.put, List.setIfInBounds_toArray, List.set_cons_zero, List.set_cons_succ]
    refine wpAnyH_take (i := 12) (v := ?bv12) (takeAt rfl) (by kernel_rfl) (by kernel_rfl) (by kernel_rfl) (fun _ _ _ h => h) (Or.inl ⟨by rfl, ?bhy12⟩) (by assumption) ?_
    case bhy12 => ((intro w hSw; (try dsimp only at hSw); go_simp); try (with_reducible rfl))
    try simp only [Act.put, List.setIfInBounds_toArray, List.set_cons_zero, List.set_cons_succ]
    refine wpAnyH_take (i := 13) (v := ?bv13) (takeAt rfl) (by kernel_rfl) (by kernel_rfl) (by kernel_rfl) (fun _ _ _ h => h) (Or.inl ⟨by rfl, ?bhy13⟩) (by assumption) ?_
    case bhy13 => ((intro w hSw; (try dsimp only at hSw); go_simp); try (with_reducible rfl))
    try simp only [Act.put, List.setIfInBounds_toArray, List.set_cons_zero, List.set_cons_succ]
    refine wpAnyH_take (i := 14) (v := ?bv14) (takeAt rfl) (by kernel_rfl) (by kernel_rfl) (by kernel_rfl) (fun _ _ _ h => h) (Or.inl ⟨by rfl, ?bhy14⟩) (by assumption) ?_
    case bhy14 => ((intro w hSw; (try dsimp only at hSw); go_simp); try (with_reducible rfl))
    try simp only [Act.put, List.setIfInBounds_toArray, List.set_cons_zero, List.set_cons_succ]
    refine wpAnyH_take (i := 15) (v := ?bv15) (takeAt rfl) (by kernel_rfl) (by kernel_rfl) (by kernel_rfl) (fun _ _ _ h => h) (Or.inl ⟨by rfl, ?bhy15⟩) (by assumption) ?_
    case bhy15 => ((intro w hSw; (try dsimp only at hSw); go_simp); try (with_reducible rfl))
    try simp only [Act.put, List.setIfInBounds_toArray, List.set_cons_zero, List.set_cons_succ]
    refine wpAnyH_take (i := 16) (v := ?bv16) (takeAt rfl) (by kernel_rfl) (by kernel_rfl) (by kernel_rfl) (fun _ _ _ h => h) (Or.inl ⟨by rfl, ?bhy16⟩) (by assumption) ?_
    case bhy16 => ((intro w hSw; (try dsimp only at hSw); go_simp); try (with_reducible rfl))
    try simp only [Act.put, List.setIfInBounds_toArray, List.set_cons_zero, List.set_cons_succ]
    refine wpAnyH_take (i := 17) (v := ?bv17) (takeAt rfl) (by kernel_rfl) (by kernel_rfl) (by kernel_rfl) (fun _ _ _ h => h) (Or.inl ⟨by rfl, ?bhy17⟩) (by assumption) ?_
    case bhy17 => ((intro w hSw; (try dsimp only at hSw); go_simp); try (with_reducible rfl))
    try simp only [Act.put, List.setIfInBounds_toArray, List.set_cons_zero, List.set_cons_succ]
    refine wpAnyH_take (i := 18) (v := ?bv18) (takeAt rfl) (by kernel_rfl) (by kernel_rfl) (by kernel_rfl) (fun _ _ _ h => h) (Or.inl ⟨by rfl, ?bhy18⟩) (by assumption) ?_
    case bhy18 => ((intro w hSw; (try dsimp only at hSw); go_simp); try (with_reducible rfl))
    try simp only [Act.put, List.setIfInBounds_toArray, List.set_cons_zero, List.set_cons_succ]
    refine wpAnyH_take (i := 19) (v := ?bv19) (takeAt rfl) (by kernel_rfl) (by kernel_rfl) (by kernel_rfl) (fun _ _ _ h => h) (Or.inl ⟨by rfl, ?bhy19⟩) (by assumption) ?_
    case bhy19 => ((intro w hSw; (try dsimp only at hSw); go_simp); try (with_reducible rfl))
    try simp only [Act.put, List.setIfInBounds_toArray, List.set_cons_zero, List.set_cons_succ]
    refine wpAnyH_take (i := 20) (v := ?bv20) (takeAt rfl) (by kernel_rfl) (by kernel_rfl) (by kernel_rfl) (fun _ _ _ h => h) (Or.inl ⟨by rfl, ?bhy20⟩) (by assumption) ?_
    case bhy20 => ((intro w hSw; (try dsimp only at hSw); go_simp); try (with_reducible rfl))
    try simp only [Act.put, List.setIfInBounds_toArray, List.set_cons_zero, List.set_cons_succ]
    refine wpAnyH_take (i := 21) (v := ?bv21) (takeAt rfl) (by kernel_rfl) (by kernel_rfl) (by kernel_rfl) (fun _ _ _ h => h) (Or.inl ⟨by rfl, ?bhy21⟩) (by assumption) ?_
    case bhy21 => ((intro w hSw; (try dsimp only at hSw); go_simp); try (with_reducible rfl))
    try simp only [Act.put, List.setIfInBounds_toArray, List.set_cons_zero, List.set_cons_succ]
    refine wpAnyH_take (i := 22) (v := ?bv22) (takeAt rfl) (by kernel_rfl) (by kernel_rfl) (by kernel_rfl) (fun _ _ _ h => h) (Or.inl ⟨by rfl, ?bhy22⟩) (by assumption) ?_
    case bhy22 => ((intro w hSw; (try dsimp only at hSw); go_simp); try (with_reducible rfl))
    try simp only [Act.put, List.setIfInBounds_toArray, List.set_cons_zero, List.set_cons_succ]
    refine wpAnyH_take (i := 23) (v := ?bv23) (takeAt rfl) (by kernel_rfl) (by kernel_rfl) (by kernel_rfl) (fun _ _ _ h => h) (Or.inl ⟨by rfl, ?bhy23⟩) (by assumption) ?_
    case bhy23 => ((intro w hSw; (try dsimp only at hSw); go_simp); try (with_reducible rfl))
    try simp only [Act.put, List.setIfInBounds_toArray, List.set_cons_zero, List.set_cons_succ]
    refine wpAnyH_ready (rs := [24]) (by kernel_rfl) (by simp) ?_
    refine AllReadyH.cons (takeAt rfl) (fun K hK => ?_) AllReadyH.nil
    go_simp
    ((go_at_call 116; (with_reducible refine (wrongNum_held g 16 16 rfl (.int .u16 16) (.slice A1 n1 c1) (.slice A2 n2 c2) (.slice A3 n3 c3) wb _ hgl ?_).mono ?_)); (simp [*]); rintro e w3 ⟨b, rfl, hcb, k1, k4, k5, k6, hH3⟩)
    go_wp2_with fail
    refine hK.out _ _ ?_ (fun hHeld => ?_)
    · (try dsimp only); go_keep
    clear hK K
    try simp only [Act.put, List.setIfInBounds_toArray, List.set_cons_zero, List.set_cons_succ]
    refine wpAnyH_ready (rs := [25]) (by kernel_rfl) (by simp) ?_
    refine AllReadyH.cons (takeAt rfl) (fun K hK => ?_) AllReadyH.nil
    go_simp
    ((go_at_call 115; (with_reducible refine (hasNums_held A2 c2 n2 16 b g (.int .u16 16) (.slice A1 n1 c1) (.slice A2 n2 c2) (.slice A3 n3 c3) R.nums false wb _ ?_ HRD2 HL2 hm2' HZ1).mono ?_)); (simp [*]); rintro e w4 ⟨rfl, k1, k4, k5, k6, hH4⟩)
    go_wp2_with fail
    refine hK.out _ _ ?_ (fun hHeld => ?_)
    · (try dsimp only); go_keep
    clear hK K
    try simp only [Act.put, List.setIfInBounds_toArray, List.set_cons_zero, List.set_cons_succ]
    refine wpAnyH_take (i := 26) (v := ?bv26) (takeAt rfl) (by kernel_rfl) (by kernel_rfl) (by kernel_rfl) (fun _ _ _ h => h) (Or.inl ⟨by rfl, ?bhy26⟩) (by assumption) ?_
    case bhy26 => ((intro w hSw; (try dsimp only at hSw); go_simp); try (with_reducible rfl))
    try simp only [Act.put, List.setIfInBounds_toArray, List.set_cons_zero, List.set_cons_succ]
    refine wpAnyH_take (i := 27) (v := ?bv27) (takeAt rfl) (by kernel_rfl) (by kernel_rfl) (by kernel_rfl) (fun _ _ _ h => h) (Or.inl ⟨by rfl, ?bhy27⟩) (by assumption) ?_
    case bhy27 => ((intro w hSw; (try dsimp only at hSw); go_simp); try (with_reducible rfl))
    try simp only [Act.put, List.setIfInBounds_toArray, List.set_cons_zero, List.set_cons_succ]
    refine wpAnyH_take (i := 28) (v := ?bv28) (takeAt rfl) (by kernel_rfl) (by kernel_rfl) (by kernel_rfl) (fun _ _ _ h => h) (Or.inl ⟨by rfl, ?bhy28⟩) (by assumption) ?_
    case bhy28 => ((intro w hSw; (try dsimp only at hSw); go_simp); try (with_reducible rfl))
    try simp only [Act.put, List.setIfInBounds_toArray, List.set_cons_zero, List.set_cons_succ]
    refine wpAnyH_take (i := 29) (v := ?bv29) (takeAt rfl) (by kernel_rfl) (by kernel_rfl) (by kernel_rfl) (fun _ _ _ h => h) (Or.inl ⟨by rfl, ?bhy29⟩) (by assumption) ?_
    case bhy29 => ((intro w hSw; (try dsimp only at hSw); go_simp); try (with_reducible rfl))
    try simp only [Act.put, List.setIfInBounds_toArray, List.set_cons_zero, List.set_cons_succ]
    refine wpAnyH_take (i := 30) (v := ?bv30) (takeAt rfl) (by kernel_rfl) (by kernel_rfl) (by kernel_rfl) (fun _ _ _ h => h) (Or.inl ⟨by rfl, ?bhy30⟩) (by assumption) ?_
    case bhy30 => ((intro w hSw; (try dsimp only at hSw); go_simp); try (with_reducible rfl))
    try simp only [Act.put, List.setIfInBounds_toArray, List.set_cons_zero, List.set_cons_succ]
    refine wpAnyH_take (i := 31) (v := ?bv31) (takeAt rfl) (by kernel_rfl) (by kernel_rfl) (by kernel_rfl) (fun _ _ _ h => h) (Or.inl ⟨by rfl, ?bhy31⟩) (by assumption) ?_
    case bhy31 => ((intro w hSw; (try dsimp only at hSw); go_simp); try (with_reducible rfl))
    try simp only [Act.put, List.setIfInBounds_toArray, List.set_cons_zero, List.set_cons_succ]
    refine wpAnyH_take (i := 32) (v := ?bv32) (takeAt rfl) (by kernel_rfl) (by kernel_rfl) (by kernel_rfl) (fun _ _ _ h => h) (Or.inl ⟨by rfl, ?bhy32⟩) (by assumption) ?_
    case bhy32 => ((intro w hSw; (try dsimp only at hSw); go_simp); try (with_reducible rfl))
    try simp only [Act.put, List.setIfInBounds_toArray, List.set_cons_zero, List.set_cons_succ]
    refine wpAnyH_ready (rs := [33]) (by kernel_rfl) (by simp) ?_
    refine AllReadyH.cons (takeAt rfl) (fun K hK => ?_) AllReadyH.nil
    go_simp
    ((go_at_call 117; (with_reducible refine (wrongText_held g 16 16 rfl (.int .u16 16) (.slice A1 n1 c1) (.slice A2 n2 c2) (.slice A3 n3 c3) wb _ hgl ?_).mono ?_)); (simp [*]); rintro e w5 ⟨b1, b2, rfl, hcT, k1, k4, k5, k6, hH5⟩)
    go_wp2_with fail
    refine hK.out _ _ ?_ (fun hHeld => ?_)
    · (try dsimp only); go_keep
    clear hK K
    try simp only [Act.put, List.setIfInBounds_toArray, List.set_cons_zero, List.set_cons_succ]
    refine wpAnyH_ready (rs := [34]) (by kernel_rfl) (by simp) ?_
    refine AllReadyH.cons (takeAt rfl) (fun K hK => ?_) AllReadyH.nil
    go_simp
    ((go_at_call 90; (with_reducible refine (hasTexts_held A3 c3 n3 16 b1 b2 g (.int .u16 16) (.slice A1 n1 c1) (.slice A2 n2 c2) (.slice A3 n3 c3) R.texts z2 wb _ hgl ?_ HRD3 HL3 hm3' HS3 hcT HZ2).mono ?_)); (simp [*]); rintro e w6 ⟨rfl, k1, k4, k5, k6, hH6⟩)
    go_wp2_with fail
    refine hK.out _ _ ?_ (fun hHeld => ?_)
    · (try dsimp only); go_keep
    clear hK K
    try simp only [Act.put, List.setIfInBounds_toArray, List.set_cons_zero, List.set_cons_succ]
    refine wpAnyH_take (i := 35) (v := ?bv35) (takeAt rfl) (by kernel_rfl) (by kernel_rfl) (by kernel_rfl) (fun _ _ _ h => h) (Or.inl ⟨by rfl, ?bhy35⟩) (by assumption) ?_
    case bhy35 => ((intro w hSw; (try dsimp only at hSw); go_simp); try (with_reducible rfl))
    try simp only [Act.put, List.setIfInBounds_toArray, List.set_cons_zero, List.set_cons_succ]
    refine wpAnyH_take (i := 36) (v := ?bv36) (takeAt rfl) (by kernel_rfl) (by kernel_rfl) (by kernel_rfl) (fun _ _ _ h => h) (Or.inl ⟨by rfl, ?bhy36⟩) (by assumption) ?_
    case bhy36 => ((intro w hSw; (try dsimp only at hSw); go_simp); try (with_reducible rfl))
    try simp only [Act.put, List.setIfInBounds_toArray, List.set_cons_zero, List.set_cons_succ]
    refine wpAnyH_take (i := 37) (v := ?bv37) (takeAt rfl) (by kernel_rfl) (by kernel_rfl) (by kernel_rfl) (fun _ _ _ h => h) (Or.inl ⟨by rfl, ?bhy37⟩) (by assumption) ?_
    case bhy37 => ((intro w hSw; (try dsimp only at hSw); go_simp); try (with_reducible rfl))
    try simp only [Act.put, List.setIfInBounds_toArray, List.set_cons_zero, List.set_cons_succ]
    refine wpAnyH_done (by kernel_rfl) ?_ _
    go_wp2_with fail
    go_ret
    exact ⟨rfl, by have h := HB0.out; rw [← HGW.out] at h; exact h.trans (Below.mono hHeld.2.2.2.2 h.size)⟩
set_option maxHeartbeats 4000000 in
set_option maxRecDepth 100000 in
set_option linter.unusedSimpArgs false in
theorem shaped_not (R : Rec) (x : ByteArray) (k l t : Nat) (A1 : Option Addr) (n1 c1 : Nat) (A2 : Option Addr) (n2 c2 : Nat) (A3 : Option Addr) (n3 c3 : Nat) (q : Bool) (w : World) (hR : Hid (RecAt w w.heap.size R x k l t A1 n1 A2 n2 A3 n3)) (hS : Hid (Small R)) (hk : k ≠ 16) (hq : Hid (okB R = q)) :
    Calls Try.prog 91 #[.agg #[.string x, .int .u16 k, .int .u16 l, .int .u32 t, .slice A1 n1 c1, .slice A2 n2 c2, .slice A3 n3 c3]] w fun e w' => e = .returned (.bool q) ∧ Below w.heap.size w w' := by
  obtain ⟨a, ha⟩ : ∃ a, shA k = a := ⟨_, rfl⟩
  obtain ⟨b, hb⟩ : ∃ b, shB k = b := ⟨_, rfl⟩
  obtain ⟨c, hc⟩ : ∃ c, shC k = c := ⟨_, rfl⟩
  obtain ⟨d, hd⟩ : ∃ d, (if k = 16 then max c n3 else c) = d := ⟨_, rfl⟩
  have hm1 := hR.out.m1 hS.out
  have hm2 := hR.out.m2 hS.out
  have hm3 := hR.out.m3 hS.out
  have hcn := cntOk_no (R := R) (n1 := n1) (n2 := n2) (n3 := n3) (a := a) (b := b) (c := c) (d := d) hR.out.len1 hR.out.len2 hR.out.len3 (by rw [hR.out.kind]; exact ha) (by rw [hR.out.kind]; exact hb) (by rw [hR.out.kind]; exact hc) (by rw [hR.out.kind]; exact hd)
  have hok := okB_wrongs R
  rw [hcn, hR.out.kind, hq.out] at hok
  have HOK := Lib.hid hok
  have HA := Lib.hid ha
  have HB := Lib.hid hb
  have HC := Lib.hid hc
  clear hok hcn ha hb
  rw [if_neg hk] at hd
  subst hd
  have g16 : ((k : Int) == 16) = false := int_ne hk
  clear hc hk
  by_cases e1 : n1 = a
  rotate_left
  · have f : ((n1 : Int) == (a : Int)) = false := int_ne e1
    obtain rfl : q = false := by rw [HOK.out, decide_eq_false (by rintro ⟨r1, r2, r3⟩; exact e1 r1), Bool.false_and]
    clear e1 HOK
    go_enter Try.func91, Try.ntmps91
    go_wp2_with fail
    refine (shape_is k a b c _ HA HB HC).mono ?_
    rintro e w' ⟨rfl, rfl⟩
    go_wp2_with fail
    go_quiet (fail)
    go_wp2_with fail
    go_ret
    exact ⟨rfl, below_drewN ((Below.refl _ _).alloc (Nat.le_refl _) _) _⟩
  have f1 : ((n1 : Int) == (a : Int)) = true := int_eq e1
  by_cases e2 : n2 = b
  rotate_left
  · have f : ((n2 : Int) == (b : Int)) = false := int_ne e2
    obtain rfl : q = false := by rw [HOK.out, decide_eq_false (by rintro ⟨r1, r2, r3⟩; exact e2 r2), Bool.false_and]
    clear e2 HOK
    go_enter Try.func91, Try.ntmps91
    go_wp2_with fail
    refine (shape_is k a b c _ HA HB HC).mono ?_
    rintro e w' ⟨rfl, rfl⟩
    go_wp2_with fail
    go_quiet (fail)
    go_wp2_with fail
    go_ret
    exact ⟨rfl, below_drewN ((Below.refl _ _).alloc (Nat.le_refl _) _) _⟩
  have f2 : ((n2 : Int) == (b : Int)) = true := int_eq e2
  by_cases e3 : n3 = c
  rotate_left
  · have f : ((n3 : Int) == (c : Int)) = false := int_ne e3
    obtain rfl : q = false := by rw [HOK.out, decide_eq_false (by rintro ⟨r1, r2, r3⟩; exact e3 r3), Bool.false_and]
    clear e3 HOK
    go_enter Try.func91, Try.ntmps91
    go_wp2_with fail
    refine (shape_is k a b c _ HA HB HC).mono ?_
    rintro e w' ⟨rfl, rfl⟩
    go_wp2_with fail
    go_quiet (fail)
    go_wp2_with fail
    go_ret
    exact ⟨rfl, below_drewN ((Below.refl _ _).alloc (Nat.le_refl _) _) _⟩
  have f3 : ((n3 : Int) == (c : Int)) = true := int_eq e3
  obtain ⟨z1, hz1⟩ : ∃ z, R.nums.any (badNum k) = z := ⟨_, rfl⟩
  obtain ⟨z2, hz2⟩ : ∃ z, wrongs k 65535 R.texts = z := ⟨_, rfl⟩
  have hqz : q = (!z1 && !z2) := by rw [HOK.out, decide_eq_true ⟨e1, e2, e3⟩, Bool.true_and, hz1, hz2]
  have HZ1 := Lib.hid hz1
  have HZ2 := Lib.hid hz2
  have HR2 := Lib.hid (hR.out.box (.cells #[.string x, .int .u16 k, .int .u16 l, .int .u32 t, .slice A1 n1 c1, .slice A2 n2 c2, .slice A3 n3 c3] 60))
  have HB0 : Hid (Below w.heap.size w (w.alloc (.cells #[.string x, .int .u16 k, .int .u16 l, .int .u32 t, .slice A1 n1 c1, .slice A2 n2 c2, .slice A3 n3 c3] 60))) := (Below.refl _ _).alloc (Nat.le_refl _) _
  have hcell1 : (w.alloc (.cells #[.string x, .int .u16 k, .int .u16 l, .int .u32 t, .slice A1 n1 c1, .slice A2 n2 c2, .slice A3 n3 c3] 60)).cell? ⟨w.heap.size, 1, none⟩ = some (.int .u16 k) := by simp
  have hcell4 : (w.alloc (.cells #[.string x, .int .u16 k, .int .u16 l, .int .u32 t, .slice A1 n1 c1, .slice A2 n2 c2, .slice A3 n3 c3] 60)).cell? ⟨w.heap.size, 4, none⟩ = some (.slice A1 n1 c1) := by simp
  have hcell5 : (w.alloc (.cells #[.string x, .int .u16 k, .int .u16 l, .int .u32 t, .slice A1 n1 c1, .slice A2 n2 c2, .slice A3 n3 c3] 60)).cell? ⟨w.heap.size, 5, none⟩ = some (.slice A2 n2 c2) := by simp
  have hcell6 : (w.alloc (.cells #[.string x, .int .u16 k, .int .u16 l, .int .u32 t, .slice A1 n1 c1, .slice A2 n2 c2, .slice A3 n3 c3] 60)).cell? ⟨w.heap.size, 6, none⟩ = some (.slice A3 n3 c3) := by simp
  have hgl : w.heap.size < (w.alloc (.cells #[.string x, .int .u16 k, .int .u16 l, .int .u32 t, .slice A1 n1 c1, .slice A2 n2 c2, .slice A3 n3 c3] 60)).heap.size := by simp
  clear hz1 hz2 HOK e1 e2 e3
  go_enter Try.func91, Try.ntmps91
  go_wp2_with fail
  refine (shape_is k a b c _ HA HB HC).mono ?_
  rintro e w' ⟨rfl, rfl⟩
  go_wp2_with fail
  have HRD2 := Lib.hid HR2.out.rd2
  have HRD3 := Lib.hid HR2.out.rd3
  have HL2 := Lib.hid HR2.out.len2
  have HL3 := Lib.hid HR2.out.len3
  have HS3 := Lib.hid (HR2.out.s3 hS.out).out
  have hm2' : n2 ≤ 1000000 := by omega
  have hm3' : n3 ≤ 1000000 := by omega
  have hH0 : Held (w.alloc (.cells #[.string x, .int .u16 k, .int .u16 l, .int .u32 t, .slice A1 n1 c1, .slice A2 n2 c2, .slice A3 n3 c3] 60)) (w.alloc (.cells #[.string x, .int .u16 k, .int .u16 l, .int .u32 t, .slice A1 n1 c1, .slice A2 n2 c2, .slice A3 n3 c3] 60)).drew := (Below.refl _ _).drew
  clear HR2
  generalize hwb : w.alloc (.cells #[.string x, .int .u16 k, .int .u16 l, .int .u32 t, .slice A1 n1 c1, .slice A2 n2 c2, .slice A3 n3 c3] 60) = wb at *
  generalize hgw : w.heap.size = g at *
  have HGW := Lib.hid hgw
  clear hwb hgw
  cases z1 with
  | true =>
    obtain rfl : q = false := by rw [hqz]; rfl
    clear hqz
    refine wp_region_held_drew (S := fun w' => w'.cell? ⟨g, 1, none⟩ = some (.int .u16 k) ∧ w'.cell? ⟨g, 4, none⟩ = some (.slice A1 n1 c1) ∧ w'.cell? ⟨g, 5, none⟩ = some (.slice A2 n2 c2) ∧ w'.cell? ⟨g, 6, none⟩ = some (.slice A3 n3 c3) ∧ Held wb w') (by kernel_rfl) (by (try dsimp only); go_keep) (fun hHeld => ?_)
    refine wpAnyH_take (i := 0) (v := ?av0) (takeAt rfl) (by kernel_rfl) (by kernel_rfl) (by kernel_rfl) (fun _ _ _ h => h) (Or.inl ⟨by rfl, ?ahy0⟩) (by assumption) ?_
    case ahy0 => ((intro w hSw; (try dsimp only at hSw); go_simp); try (with_reducible rfl))
    try simp only [Act.put, List.setIfInBounds_toArray, List.set_cons_zero, List.set_cons_succ]
    refine wpAnyH_take (i := 1) (v := ?av1) (takeAt rfl) (by kernel_rfl) (by kernel_rfl) (by kernel_rfl) (fun _ _ _ h => h) (Or.inl ⟨by rfl, ?ahy1⟩) (by assumption) ?_
    case ahy1 => ((intro w hSw; (try dsimp only at hSw); go_simp); try (with_reducible rfl))
    try simp only [Act.put, List.setIfInBounds_toArray, List.set_cons_zero, List.set_cons_succ]
    refine wpAnyH_take (i := 2) (v := ?av2) (takeAt rfl) (by kernel_rfl) (by kernel_rfl) (by kernel_rfl) (fun _ _ _ h => h) (Or.inl ⟨by rfl, ?ahy2⟩) (by assumption) ?_
    case ahy2 => ((intro w hSw; (try dsimp only at hSw); go_simp); try (with_reducible rfl))
    try simp only [Act.put, List.setIfInBounds_toArray, List.set_cons_zero, List.set_cons_succ]
    refine wpAnyH_take (i := 3) (v := ?av3) (takeAt rfl) (by kernel_rfl) (by kernel_rfl) (by kernel_rfl) (fun _ _ _ h => h) (Or.inl ⟨by rfl, ?ahy3⟩) (by assumption) ?_
    case ahy3 => ((intro w hSw; (try dsimp only at hSw); go_simp); try (with_reducible rfl))
    try simp only [Act.put, List.setIfInBounds_toArray, List.set_cons_zero, List.set_cons_succ]
    refine wpAnyH_take (i := 4) (v := ?av4) (takeAt rfl) (by kernel_rfl) (by kernel_rfl) (by kernel_rfl) (fun _ _ _ h => h) (Or.inl ⟨by rfl, ?ahy4⟩) (by assumption) ?_
    case ahy4 => ((intro w hSw; (try dsimp only at hSw); go_simp); try (with_reducible rfl))
    try simp only [Act.put, List.setIfInBounds_toArray, List.set_cons_zero, List.set_cons_succ]
    refine wpAnyH_take (i := 5) (v := ?av5) (takeAt rfl) (by kernel_rfl) (by kernel_rfl) (by kernel_rfl) (fun _ _ _ h => h) (Or.inl ⟨by rfl, ?ahy5⟩) (by assumption) ?_
    case ahy5 => ((intro w hSw; (try dsimp only at hSw); go_simp); try (with_reducible rfl))
    try simp only [Act.put, List.setIfInBounds_toArray, List.set_cons_zero, List.set_cons_succ]
    refine wpAnyH_take (i := 6) (v := ?av6) (takeAt rfl) (by kernel_rfl) (by kernel_rfl) (by kernel_rfl) (fun _ _ _ h => h) (Or.inl ⟨by rfl, ?ahy6⟩) (by assumption) ?_
    case ahy6 => ((intro w hSw; (try dsimp only at hSw); go_simp); try (with_reducible rfl))
    try simp only [Act.put, List.setIfInBounds_toArray, List.set_cons_zero, List.set_cons_succ]
    refine wpAnyH_take (i := 7) (v := ?av7) (takeAt rfl) (by kernel_rfl) (by kernel_rfl) (by kernel_rfl) (fun _ _ _ h => h) (Or.inl ⟨by rfl, ?ahy7⟩) (by assumption) ?_
    case ahy7 => ((intro w hSw; (try dsimp only at hSw); go_simp); try (with_reducible rfl))
    try simp only [Act.put, List.setIfInBounds_toArray, List.set_cons_zero, List.set_cons_succ]
    refine wpAnyH_take (i := 8) (v := ?av8) (takeAt rfl) (by kernel_rfl) (by kernel_rfl) (by kernel_rfl) (fun _ _ _ h => h) (Or.inl ⟨by rfl, ?ahy8⟩) (by assumption) ?_
    case ahy8 => ((intro w hSw; (try dsimp only at hSw); go_simp); try (with_reducible rfl))
    try simp only [Act.put, List.setIfInBounds_toArray, List.set_cons_zero, List.set_cons_succ]
    refine wpAnyH_take (i := 9) (v := ?av9) (takeAt rfl) (by kernel_rfl) (by kernel_rfl) (by kernel_rfl) (fun _ _ _ h => h) (Or.inl ⟨by rfl, ?ahy9⟩) (by assumption) ?_
    case ahy9 => ((intro w hSw; (try dsimp only at hSw); go_simp); try (with_reducible rfl))
    try simp only [Act.put, List.setIfInBounds_toArray, List.set_cons_zero, List.set_cons_succ]
    refine wpAnyH_take (i := 10) (v := ?av10) (takeAt rfl) (by kernel_rfl) (by kernel_rfl) (by kernel_rfl) (fun _ _ _ h => h) (Or.inl ⟨by rfl, ?ahy10⟩) (by assumption) ?_
    case ahy10 => ((intro w hSw; (try dsimp only at hSw); go_simp); try (with_reducible rfl))
    try simp only [Act.put, List.setIfInBounds_toArray, List.set_cons_zero, List.set_cons_succ]
    refine wpAnyH_take (i := 11) (v := ?av11) (takeAt rfl) (by kernel_rfl) (by kernel_rfl) (by kernel_rfl) (fun _ _ _ h => h) (Or.inl ⟨by rfl, ?ahy11⟩) (by assumption) ?_
    case ahy11 => ((intro w hSw; (try dsimp only at hSw); go_simp); try (with_reducible rfl))
    try simp only [Act.put, List.setIfInBounds_toArray, List.set_cons_zero, List.set_cons_succ]
    refine wpAnyH_take (i := 12) (v := ?av12) (takeAt rfl) (by kernel_rfl) (by kernel_rfl) (by kernel_rfl) (fun _ _ _ h => h) (Or.inl ⟨by rfl, ?ahy12⟩) (by assumption) ?_
    case ahy12 => ((intro w hSw; (try dsimp only at hSw); go_simp); try (with_reducible rfl))
    try simp only [Act.put, List.setIfInBounds_toArray, List.set_cons_zero, List.set_cons_succ]
    refine wpAnyH_take (i := 13) (v := ?av13) (takeAt rfl) (by kernel_rfl) (by kernel_rfl) (by kernel_rfl) (fun _ _ _ h => h) (Or.inl ⟨by rfl, ?ahy13⟩) (by assumption) ?_
    case ahy13 => ((intro w hSw; (try dsimp only at hSw); go_simp); try (with_reducible rfl))
    try simp only [Act.put, List.setIfInBounds_toArray, List.set_cons_zero, List.set_cons_succ]
    refine wpAnyH_take (i := 14) (v := ?av14) (takeAt rfl) (by kernel_rfl) (by kernel_rfl) (by kernel_rfl) (fun _ _ _ h => h) (Or.inl ⟨by rfl, ?ahy14⟩) (by assumption) ?_
    case ahy14 => ((intro w hSw; (try dsimp only at hSw); go_simp); try (with_reducible rfl))
    try simp only [Act.put, List.setIfInBounds_toArray, List.set_cons_zero, List.set_cons_succ]
    refine wpAnyH_take (i := 15) (v := ?av15) (takeAt rfl) (by kernel_rfl) (by kernel_rfl) (by kernel_rfl) (fun _ _ _ h => h) (Or.inl ⟨by rfl, ?ahy15⟩) (by assumption) ?_
    case ahy15 => ((intro w hSw; (try dsimp only at hSw); go_simp); try (with_reducible rfl))
    try simp only [Act.put, List.setIfInBounds_toArray, List.set_cons_zero, List.set_cons_succ]
    refine wpAnyH_take (i := 16) (v := ?av16) (takeAt rfl) (by kernel_rfl) (by kernel_rfl) (by kernel_rfl) (fun _ _ _ h => h) (Or.inl ⟨by rfl, ?ahy16⟩) (by assumption) ?_
    case ahy16 => ((intro w hSw; (try dsimp only at hSw); go_simp); try (with_reducible rfl))
    try simp only [Act.put, List.setIfInBounds_toArray, List.set_cons_zero, List.set_cons_succ]
    refine wpAnyH_take (i := 17) (v := ?av17) (takeAt rfl) (by kernel_rfl) (by kernel_rfl) (by kernel_rfl) (fun _ _ _ h => h) (Or.inl ⟨by rfl, ?ahy17⟩) (by assumption) ?_
    case ahy17 => ((intro w hSw; (try dsimp only at hSw); go_simp); try (with_reducible rfl))
    try simp only [Act.put, List.setIfInBounds_toArray, List.set_cons_zero, List.set_cons_succ]
    refine wpAnyH_take (i := 18) (v := ?av18) (takeAt rfl) (by kernel_rfl) (by kernel_rfl) (by kernel_rfl) (fun _ _ _ h => h) (Or.inl ⟨by rfl, ?ahy18⟩) (by assumption) ?_
    case ahy18 => ((intro w hSw; (try dsimp only at hSw); go_simp); try (with_reducible rfl))
    try simp only [Act.put, List.setIfInBounds_toArray, List.set_cons_zero, List.set_cons_succ]
    refine wpAnyH_take (i := 19) (v := ?av19) (takeAt rfl) (by kernel_rfl) (by kernel_rfl) (by kernel_rfl) (fun _ _ _ h => h) (Or.inl ⟨by rfl, ?ahy19⟩) (by assumption) ?_
    case ahy19 => ((intro w hSw; (try dsimp only at hSw); go_simp); try (with_reducible rfl))
    try simp only [Act.put, List.setIfInBounds_toArray, List.set_cons_zero, List.set_cons_succ]
    refine wpAnyH_take (i := 20) (v := ?av20) (takeAt rfl) (by kernel_rfl) (by kernel_rfl) (by kernel_rfl) (fun _ _ _ h => h) (Or.inl ⟨by rfl, ?ahy20⟩) (by assumption) ?_
    case ahy20 => ((intro w hSw; (try dsimp only at hSw); go_simp); try (with_reducible rfl))
    try simp only [Act.put, List.setIfInBounds_toArray, List.set_cons_zero, List.set_cons_succ]
    refine wpAnyH_take (i := 21) (v := ?av21) (takeAt rfl) (by kernel_rfl) (by kernel_rfl) (by kernel_rfl) (fun _ _ _ h => h) (Or.inl ⟨by rfl, ?ahy21⟩) (by assumption) ?_
    case ahy21 => ((intro w hSw; (try dsimp only at hSw); go_simp); try (with_reducible rfl))
    try simp only [Act.put, List.setIfInBounds_toArray, List.set_cons_zero, List.set_cons_succ]
    refine wpAnyH_take (i := 22) (v := ?av22) (takeAt rfl) (by kernel_rfl) (by kernel_rfl) (by kernel_rfl) (fun _ _ _ h => h) (Or.inl ⟨by rfl, ?ahy22⟩) (by assumption) ?_
    case ahy22 => ((intro w hSw; (try dsimp only at hSw); go_simp); try (with_reducible rfl))
    try simp only [Act.put, List.setIfInBounds_toArray, List.set_cons_zero, List.set_cons_succ]
    refine wpAnyH_take (i := 23) (v := ?av23) (takeAt rfl) (by kernel_rfl) (by kernel_rfl) (by kernel_rfl) (fun _ _ _ h => h) (Or.inl ⟨by rfl, ?ahy23⟩) (by assumption) ?_
    case ahy23 => ((intro w hSw; (try dsimp only at hSw); go_simp); try (with_reducible rfl))
    try simp only [Act.put, List.setIfInBounds_toArray, List.set_cons_zero, List.set_cons_succ]
    refine wpAnyH_ready (rs := [24]) (by kernel_rfl) (by simp) ?_
    refine AllReadyH.cons (takeAt rfl) (fun K hK => ?_) AllReadyH.nil
    go_simp
    ((go_at_call 116; (with_reducible refine (wrongNum_held g k k rfl (.int .u16 k) (.slice A1 n1 c1) (.slice A2 n2 c2) (.slice A3 n3 c3) wb _ hgl ?_).mono ?_)); (simp [*]); rintro e w3 ⟨b, rfl, hcb, k1, k4, k5, k6, hH3⟩)
    go_wp2_with fail
    refine hK.out _ _ ?_ (fun hHeld => ?_)
    · (try dsimp only); go_keep
    clear hK K
    try simp only [Act.put, List.setIfInBounds_toArray, List.set_cons_zero, List.set_cons_succ]
    refine wpAnyH_ready (rs := [25]) (by kernel_rfl) (by simp) ?_
    refine AllReadyH.cons (takeAt rfl) (fun K hK => ?_) AllReadyH.nil
    go_simp
    ((go_at_call 115; (with_reducible refine (hasNums_held A2 c2 n2 k b g (.int .u16 k) (.slice A1 n1 c1) (.slice A2 n2 c2) (.slice A3 n3 c3) R.nums true wb _ ?_ HRD2 HL2 hm2' HZ1).mono ?_)); (simp [*]); rintro e w4 ⟨rfl, k1, k4, k5, k6, hH4⟩)
    go_wp2_with fail
    refine hK.out _ _ ?_ (fun hHeld => ?_)
    · (try dsimp only); go_keep
    clear hK K
    try simp only [Act.put, List.setIfInBounds_toArray, List.set_cons_zero, List.set_cons_succ]
    refine wpAnyH_take (i := 26) (v := ?av26) (takeAt rfl) (by kernel_rfl) (by kernel_rfl) (by kernel_rfl) (fun _ _ _ h => h) (Or.inl ⟨by rfl, ?ahy26⟩) (by assumption) ?_
    case ahy26 => ((intro w hSw; (try dsimp only at hSw); go_simp); try (with_reducible rfl))
    try simp only [Act.put, List.setIfInBounds_toArray, List.set_cons_zero, List.set_cons_succ]
    refine wpAnyH_take (i := 27) (v := ?av27) (takeAt rfl) (by kernel_rfl) (by kernel_rfl) (by kernel_rfl) (fun _ _ _ h => h) (Or.inl ⟨by rfl, ?ahy27⟩) (by assumption) ?_
    case ahy27 => ((intro w hSw; (try dsimp only at hSw); go_simp); try (with_reducible rfl))
    try simp only [Act.put, List.setIfInBounds_toArray, List.set_cons_zero, List.set_cons_succ]
    refine wpAnyH_take (i := 28) (v := ?av28) (takeAt rfl) (by kernel_rfl) (by kernel_rfl) (by kernel_rfl) (fun _ _ _ h => h) (Or.inl ⟨by rfl, ?ahy28⟩) (by assumption) ?_
    case ahy28 => ((intro w hSw; (try dsimp only at hSw); go_simp); try (with_reducible rfl))
    try simp only [Act.put, List.setIfInBounds_toArray, List.set_cons_zero, List.set_cons_succ]
    refine wpAnyH_take (i := 29) (v := _) (takeAt rfl) (by kernel_rfl) (by kernel_rfl) (by kernel_rfl) (fun _ _ _ h => h) (Or.inr ⟨by rfl, rfl⟩) (by assumption) ?_
    try simp only [Act.put, List.setIfInBounds_toArray, List.set_cons_zero, List.set_cons_succ]
    refine wpAnyH_take (i := 30) (v := _) (takeAt rfl) (by kernel_rfl) (by kernel_rfl) (by kernel_rfl) (fun _ _ _ h => h) (Or.inr ⟨by rfl, rfl⟩) (by assumption) ?_
    try simp only [Act.put, List.setIfInBounds_toArray, List.set_cons_zero, List.set_cons_succ]
    refine wpAnyH_take (i := 31) (v := _) (takeAt rfl) (by kernel_rfl) (by kernel_rfl) (by kernel_rfl) (fun _ _ _ h => h) (Or.inr ⟨by rfl, rfl⟩) (by assumption) ?_
    try simp only [Act.put, List.setIfInBounds_toArray, List.set_cons_zero, List.set_cons_succ]
    refine wpAnyH_take (i := 32) (v := _) (takeAt rfl) (by kernel_rfl) (by kernel_rfl) (by kernel_rfl) (fun _ _ _ h => h) (Or.inr ⟨by rfl, rfl⟩) (by assumption) ?_
    try simp only [Act.put, List.setIfInBounds_toArray, List.set_cons_zero, List.set_cons_succ]
    refine wpAnyH_take (i := 33) (v := _) (takeAt rfl) (by kernel_rfl) (by kernel_rfl) (by kernel_rfl) (fun _ _ _ h => h) (Or.inr ⟨by rfl, rfl⟩) (by assumption) ?_
    try simp only [Act.put, List.setIfInBounds_toArray, List.set_cons_zero, List.set_cons_succ]
    refine wpAnyH_take (i := 34) (v := _) (takeAt rfl) (by kernel_rfl) (by kernel_rfl) (by kernel_rfl) (fun _ _ _ h => h) (Or.inr ⟨by rfl, rfl⟩) (by assumption) ?_
    try simp only [Act.put, List.setIfInBounds_toArray, List.set_cons_zero, List.set_cons_succ]
    refine wpAnyH_take (i := 35) (v := _) (takeAt rfl) (by kernel_rfl) (by kernel_rfl) (by kernel_rfl) (fun _ _ _ h => h) (Or.inr ⟨by rfl, rfl⟩) (by assumption) ?_
    try simp only [Act.put, List.setIfInBounds_toArray, List.set_cons_zero, List.set_cons_succ]
    refine wpAnyH_take (i := 36) (v := ?av36) (takeAt rfl) (by kernel_rfl) (by kernel_rfl) (by kernel_rfl) (fun _ _ _ h => h) (Or.inl ⟨by rfl, ?ahy36⟩) (by assumption) ?_
    case ahy36 => ((intro w hSw; (try dsimp only at hSw); go_simp); try (with_reducible rfl))
    try simp only [Act.put, List.setIfInBounds_toArray, List.set_cons_zero, List.set_cons_succ]
    refine wpAnyH_take (i := 37) (v := ?av37) (takeAt rfl) (by kernel_rfl) (by kernel_rfl) (by kernel_rfl) (fun _ _ _ h => h) (Or.inl ⟨by rfl, ?ahy37⟩) (by assumption) ?_
    case ahy37 => ((intro w hSw; (try dsimp only at hSw); go_simp); try (with_reducible rfl))
    try simp only [Act.put, List.setIfInBounds_toArray, List.set_cons_zero, List.set_cons_succ]
    refine wpAnyH_done (by kernel_rfl) ?_ _
    go_wp2_with fail
    go_ret
    exact ⟨rfl, by have h := HB0.out; rw [← HGW.out] at h; exact h.trans (Below.mono hHeld.2.2.2.2 h.size)⟩
  | false =>
    have hqz2 : q = !z2 := by rw [hqz]; rfl
    subst hqz2
    clear hqz
    refine wp_region_held_drew (S := fun w' => w'.cell? ⟨g, 1, none⟩ = some (.int .u16 k) ∧ w'.cell? ⟨g, 4, none⟩ = some (.slice A1 n1 c1) ∧ w'.cell? ⟨g, 5, none⟩ = some (.slice A2 n2 c2) ∧ w'.cell? ⟨g, 6, none⟩ = some (.slice A3 n3 c3) ∧ Held wb w') (by kernel_rfl) (by (try dsimp only); go_keep) (fun hHeld => ?_)
    refine wpAnyH_take (i := 0) (v := ?bv0) (takeAt rfl) (by kernel_rfl) (by kernel_rfl) (by kernel_rfl) (fun _ _ _ h => h) (Or.inl ⟨by rfl, ?bhy0⟩) (by assumption) ?_
    case bhy0 => ((intro w hSw; (try dsimp only at hSw); go_simp); try (with_reducible rfl))
    try simp only [Act.put, List.setIfInBounds_toArray, List.set_cons_zero, List.set_cons_succ]
    refine wpAnyH_take (i := 1) (v := ?bv1) (takeAt rfl) (by kernel_rfl) (by kernel_rfl) (by kernel_rfl) (fun _ _ _ h => h) (Or.inl ⟨by rfl, ?bhy1⟩) (by assumption) ?_
    case bhy1 => ((intro w hSw; (try dsimp only at hSw); go_simp); try (with_reducible rfl))
    try simp only [Act.put, List.setIfInBounds_toArray, List.set_cons_zero, List.set_cons_succ]
    refine wpAnyH_take (i := 2) (v := ?bv2) (takeAt rfl) (by kernel_rfl) (by kernel_rfl) (by kernel_rfl) (fun _ _ _ h => h) (Or.inl ⟨by rfl, ?bhy2⟩) (by assumption) ?_
    case bhy2 => ((intro w hSw; (try dsimp only at hSw); go_simp); try (with_reducible rfl))
    try simp only [Act.put, List.setIfInBounds_toArray, List.set_cons_zero, List.set_cons_succ]
    refine wpAnyH_take (i := 3) (v := ?bv3) (takeAt rfl) (by kernel_rfl) (by kernel_rfl) (by kernel_rfl) (fun _ _ _ h => h) (Or.inl ⟨by rfl, ?bhy3⟩) (by assumption) ?_
    case bhy3 => ((intro w hSw; (try dsimp only at hSw); go_simp); try (with_reducible rfl))
    try simp only [Act.put, List.setIfInBounds_toArray, List.set_cons_zero, List.set_cons_succ]
    refine wpAnyH_take (i := 4) (v := ?bv4) (takeAt rfl) (by kernel_rfl) (by kernel_rfl) (by kernel_rfl) (fun _ _ _ h => h) (Or.inl ⟨by rfl, ?bhy4⟩) (by assumption) ?_
    case bhy4 => ((intro w hSw; (try dsimp only at hSw); go_simp); try (with_reducible rfl))
    try simp only [Act.put, List.setIfInBounds_toArray, List.set_cons_zero, List.set_cons_succ]
    refine wpAnyH_take (i := 5) (v := ?bv5) (takeAt rfl) (by kernel_rfl) (by kernel_rfl) (by kernel_rfl) (fun _ _ _ h => h) (Or.inl ⟨by rfl, ?bhy5⟩) (by assumption) ?_
    case bhy5 => ((intro w hSw; (try dsimp only at hSw); go_simp); try (with_reducible rfl))
    try simp only [Act.put, List.setIfInBounds_toArray, List.set_cons_zero, List.set_cons_succ]
    refine wpAnyH_take (i := 6) (v := ?bv6) (takeAt rfl) (by kernel_rfl) (by kernel_rfl) (by kernel_rfl) (fun _ _ _ h => h) (Or.inl ⟨by rfl, ?bhy6⟩) (by assumption) ?_
    case bhy6 => ((intro w hSw; (try dsimp only at hSw); go_simp); try (with_reducible rfl))
    try simp only [Act.put, List.setIfInBounds_toArray, List.set_cons_zero, List.set_cons_succ]
    refine wpAnyH_take (i := 7) (v := ?bv7) (takeAt rfl) (by kernel_rfl) (by kernel_rfl) (by kernel_rfl) (fun _ _ _ h => h) (Or.inl ⟨by rfl, ?bhy7⟩) (by assumption) ?_
    case bhy7 => ((intro w hSw; (try dsimp only at hSw); go_simp); try (with_reducible rfl))
    try simp only [Act.put, List.setIfInBounds_toArray, List.set_cons_zero, List.set_cons_succ]
    refine wpAnyH_take (i := 8) (v := ?bv8) (takeAt rfl) (by kernel_rfl) (by kernel_rfl) (by kernel_rfl) (fun _ _ _ h => h) (Or.inl ⟨by rfl, ?bhy8⟩) (by assumption) ?_
    case bhy8 => ((intro w hSw; (try dsimp only at hSw); go_simp); try (with_reducible rfl))
    try simp only [Act.put, List.setIfInBounds_toArray, List.set_cons_zero, List.set_cons_succ]
    refine wpAnyH_take (i := 9) (v := ?bv9) (takeAt rfl) (by kernel_rfl) (by kernel_rfl) (by kernel_rfl) (fun _ _ _ h => h) (Or.inl ⟨by rfl, ?bhy9⟩) (by assumption) ?_
    case bhy9 => ((intro w hSw; (try dsimp only at hSw); go_simp); try (with_reducible rfl))
    try simp only [Act.put, List.setIfInBounds_toArray, List.set_cons_zero, List.set_cons_succ]
    refine wpAnyH_take (i := 10) (v := ?bv10) (takeAt rfl) (by kernel_rfl) (by kernel_rfl) (by kernel_rfl) (fun _ _ _ h => h) (Or.inl ⟨by rfl, ?bhy10⟩) (by assumption) ?_
    case bhy10 => ((intro w hSw; (try dsimp only at hSw); go_simp); try (with_reducible rfl))
    try simp only [Act.put, List.setIfInBounds_toArray, List.set_cons_zero, List.set_cons_succ]
    refine wpAnyH_take (i := 11) (v := ?bv11) (takeAt rfl) (by kernel_rfl) (by kernel_rfl) (by kernel_rfl) (fun _ _ _ h => h) (Or.inl ⟨by rfl, ?bhy11⟩) (by assumption) ?_
    case bhy11 => ((intro w hSw; (try dsimp only at hSw); go_simp); try (with_reducible rfl))
    try simp only [Act.put, List.setIfInBounds_toArray, List.set_cons_zero, List.set_cons_succ]
    refine wpAnyH_take (i := 12) (v := ?bv12) (takeAt rfl) (by kernel_rfl) (by kernel_rfl) (by kernel_rfl) (fun _ _ _ h => h) (Or.inl ⟨by rfl, ?bhy12⟩) (by assumption) ?_
    case bhy12 => ((intro w hSw; (try dsimp only at hSw); go_simp); try (with_reducible rfl))
    try simp only [Act.put, List.setIfInBounds_toArray, List.set_cons_zero, List.set_cons_succ]
    refine wpAnyH_take (i := 13) (v := ?bv13) (takeAt rfl) (by kernel_rfl) (by kernel_rfl) (by kernel_rfl) (fun _ _ _ h => h) (Or.inl ⟨by rfl, ?bhy13⟩) (by assumption) ?_
    case bhy13 => ((intro w hSw; (try dsimp only at hSw); go_simp); try (with_reducible rfl))
    try simp only [Act.put, List.setIfInBounds_toArray, List.set_cons_zero, List.set_cons_succ]
    refine wpAnyH_take (i := 14) (v := ?bv14) (takeAt rfl) (by kernel_rfl) (by kernel_rfl) (by kernel_rfl) (fun _ _ _ h => h) (Or.inl ⟨by rfl, ?bhy14⟩) (by assumption) ?_
    case bhy14 => ((intro w hSw; (try dsimp only at hSw); go_simp); try (with_reducible rfl))
    try simp only [Act.put, List.setIfInBounds_toArray, List.set_cons_zero, List.set_cons_succ]
    refine wpAnyH_take (i := 15) (v := ?bv15) (takeAt rfl) (by kernel_rfl) (by kernel_rfl) (by kernel_rfl) (fun _ _ _ h => h) (Or.inl ⟨by rfl, ?bhy15⟩) (by assumption) ?_
    case bhy15 => ((intro w hSw; (try dsimp only at hSw); go_simp); try (with_reducible rfl))
    try simp only [Act.put, List.setIfInBounds_toArray, List.set_cons_zero, List.set_cons_succ]
    refine wpAnyH_take (i := 16) (v := ?bv16) (takeAt rfl) (by kernel_rfl) (by kernel_rfl) (by kernel_rfl) (fun _ _ _ h => h) (Or.inl ⟨by rfl, ?bhy16⟩) (by assumption) ?_
    case bhy16 => ((intro w hSw; (try dsimp only at hSw); go_simp); try (with_reducible rfl))
    try simp only [Act.put, List.setIfInBounds_toArray, List.set_cons_zero, List.set_cons_succ]
    refine wpAnyH_take (i := 17) (v := ?bv17) (takeAt rfl) (by kernel_rfl) (by kernel_rfl) (by kernel_rfl) (fun _ _ _ h => h) (Or.inl ⟨by rfl, ?bhy17⟩) (by assumption) ?_
    case bhy17 => ((intro w hSw; (try dsimp only at hSw); go_simp); try (with_reducible rfl))
    try simp only [Act.put, List.setIfInBounds_toArray, List.set_cons_zero, List.set_cons_succ]
    refine wpAnyH_take (i := 18) (v := ?bv18) (takeAt rfl) (by kernel_rfl) (by kernel_rfl) (by kernel_rfl) (fun _ _ _ h => h) (Or.inl ⟨by rfl, ?bhy18⟩) (by assumption) ?_
    case bhy18 => ((intro w hSw; (try dsimp only at hSw); go_simp); try (with_reducible rfl))
    try simp only [Act.put, List.setIfInBounds_toArray, List.set_cons_zero, List.set_cons_succ]
    refine wpAnyH_take (i := 19) (v := ?bv19) (takeAt rfl) (by kernel_rfl) (by kernel_rfl) (by kernel_rfl) (fun _ _ _ h => h) (Or.inl ⟨by rfl, ?bhy19⟩) (by assumption) ?_
    case bhy19 => ((intro w hSw; (try dsimp only at hSw); go_simp); try (with_reducible rfl))
    try simp only [Act.put, List.setIfInBounds_toArray, List.set_cons_zero, List.set_cons_succ]
    refine wpAnyH_take (i := 20) (v := ?bv20) (takeAt rfl) (by kernel_rfl) (by kernel_rfl) (by kernel_rfl) (fun _ _ _ h => h) (Or.inl ⟨by rfl, ?bhy20⟩) (by assumption) ?_
    case bhy20 => ((intro w hSw; (try dsimp only at hSw); go_simp); try (with_reducible rfl))
    try simp only [Act.put, List.setIfInBounds_toArray, List.set_cons_zero, List.set_cons_succ]
    refine wpAnyH_take (i := 21) (v := ?bv21) (takeAt rfl) (by kernel_rfl) (by kernel_rfl) (by kernel_rfl) (fun _ _ _ h => h) (Or.inl ⟨by rfl, ?bhy21⟩) (by assumption) ?_
    case bhy21 => ((intro w hSw; (try dsimp only at hSw); go_simp); try (with_reducible rfl))
    try simp only [Act.put, List.setIfInBounds_toArray, List.set_cons_zero, List.set_cons_succ]
    refine wpAnyH_take (i := 22) (v := ?bv22) (takeAt rfl) (by kernel_rfl) (by kernel_rfl) (by kernel_rfl) (fun _ _ _ h => h) (Or.inl ⟨by rfl, ?bhy22⟩) (by assumption) ?_
    case bhy22 => ((intro w hSw; (try dsimp only at hSw); go_simp); try (with_reducible rfl))
    try simp only [Act.put, List.setIfInBounds_toArray, List.set_cons_zero, List.set_cons_succ]
    refine wpAnyH_take (i := 23) (v := ?bv23) (takeAt rfl) (by kernel_rfl) (by kernel_rfl) (by kernel_rfl) (fun _ _ _ h => h) (Or.inl ⟨by rfl, ?bhy23⟩) (by assumption) ?_
    case bhy23 => ((intro w hSw; (try dsimp only at hSw); go_simp); try (with_reducible rfl))
    try simp only [Act.put, List.setIfInBounds_toArray, List.set_cons_zero, List.set_cons_succ]
    refine wpAnyH_ready (rs := [24]) (by kernel_rfl) (by simp) ?_
    refine AllReadyH.cons (takeAt rfl) (fun K hK => ?_) AllReadyH.nil
    go_simp
    ((go_at_call 116; (with_reducible refine (wrongNum_held g k k rfl (.int .u16 k) (.slice A1 n1 c1) (.slice A2 n2 c2) (.slice A3 n3 c3) wb _ hgl ?_).mono ?_)); (simp [*]); rintro e w3 ⟨b, rfl, hcb, k1, k4, k5, k6, hH3⟩)
    go_wp2_with fail
    refine hK.out _ _ ?_ (fun hHeld => ?_)
    · (try dsimp only); go_keep
    clear hK K
    try simp only [Act.put, List.setIfInBounds_toArray, List.set_cons_zero, List.set_cons_succ]
    refine wpAnyH_ready (rs := [25]) (by kernel_rfl) (by simp) ?_
    refine AllReadyH.cons (takeAt rfl) (fun K hK => ?_) AllReadyH.nil
    go_simp
    ((go_at_call 115; (with_reducible refine (hasNums_held A2 c2 n2 k b g (.int .u16 k) (.slice A1 n1 c1) (.slice A2 n2 c2) (.slice A3 n3 c3) R.nums false wb _ ?_ HRD2 HL2 hm2' HZ1).mono ?_)); (simp [*]); rintro e w4 ⟨rfl, k1, k4, k5, k6, hH4⟩)
    go_wp2_with fail
    refine hK.out _ _ ?_ (fun hHeld => ?_)
    · (try dsimp only); go_keep
    clear hK K
    try simp only [Act.put, List.setIfInBounds_toArray, List.set_cons_zero, List.set_cons_succ]
    refine wpAnyH_take (i := 26) (v := ?bv26) (takeAt rfl) (by kernel_rfl) (by kernel_rfl) (by kernel_rfl) (fun _ _ _ h => h) (Or.inl ⟨by rfl, ?bhy26⟩) (by assumption) ?_
    case bhy26 => ((intro w hSw; (try dsimp only at hSw); go_simp); try (with_reducible rfl))
    try simp only [Act.put, List.setIfInBounds_toArray, List.set_cons_zero, List.set_cons_succ]
    refine wpAnyH_take (i := 27) (v := ?bv27) (takeAt rfl) (by kernel_rfl) (by kernel_rfl) (by kernel_rfl) (fun _ _ _ h => h) (Or.inl ⟨by rfl, ?bhy27⟩) (by assumption) ?_
    case bhy27 => ((intro w hSw; (try dsimp only at hSw); go_simp); try (with_reducible rfl))
    try simp only [Act.put, List.setIfInBounds_toArray, List.set_cons_zero, List.set_cons_succ]
    refine wpAnyH_take (i := 28) (v := ?bv28) (takeAt rfl) (by kernel_rfl) (by kernel_rfl) (by kernel_rfl) (fun _ _ _ h => h) (Or.inl ⟨by rfl, ?bhy28⟩) (by assumption) ?_
    case bhy28 => ((intro w hSw; (try dsimp only at hSw); go_simp); try (with_reducible rfl))
    try simp only [Act.put, List.setIfInBounds_toArray, List.set_cons_zero, List.set_cons_succ]
    refine wpAnyH_take (i := 29) (v := ?bv29) (takeAt rfl) (by kernel_rfl) (by kernel_rfl) (by kernel_rfl) (fun _ _ _ h => h) (Or.inl ⟨by rfl, ?bhy29⟩) (by assumption) ?_
    case bhy29 => ((intro w hSw; (try dsimp only at hSw); go_simp); try (with_reducible rfl))
    try simp only [Act.put, List.setIfInBounds_toArray, List.set_cons_zero, List.set_cons_succ]
    refine wpAnyH_take (i := 30) (v := ?bv30) (takeAt rfl) (by kernel_rfl) (by kernel_rfl) (by kernel_rfl) (fun _ _ _ h => h) (Or.inl ⟨by rfl, ?bhy30⟩) (by assumption) ?_
    case bhy30 => ((intro w hSw; (try dsimp only at hSw); go_simp); try (with_reducible rfl))
    try simp only [Act.put, List.setIfInBounds_toArray, List.set_cons_zero, List.set_cons_succ]
    refine wpAnyH_take (i := 31) (v := ?bv31) (takeAt rfl) (by kernel_rfl) (by kernel_rfl) (by kernel_rfl) (fun _ _ _ h => h) (Or.inl ⟨by rfl, ?bhy31⟩) (by assumption) ?_
    case bhy31 => ((intro w hSw; (try dsimp only at hSw); go_simp); try (with_reducible rfl))
    try simp only [Act.put, List.setIfInBounds_toArray, List.set_cons_zero, List.set_cons_succ]
    refine wpAnyH_take (i := 32) (v := ?bv32) (takeAt rfl) (by kernel_rfl) (by kernel_rfl) (by kernel_rfl) (fun _ _ _ h => h) (Or.inl ⟨by rfl, ?bhy32⟩) (by assumption) ?_
    case bhy32 => ((intro w hSw; (try dsimp only at hSw); go_simp); try (with_reducible rfl))
    try simp only [Act.put, List.setIfInBounds_toArray, List.set_cons_zero, List.set_cons_succ]
    refine wpAnyH_ready (rs := [33]) (by kernel_rfl) (by simp) ?_
    refine AllReadyH.cons (takeAt rfl) (fun K hK => ?_) AllReadyH.nil
    go_simp
    ((go_at_call 117; (with_reducible refine (wrongText_held g k k rfl (.int .u16 k) (.slice A1 n1 c1) (.slice A2 n2 c2) (.slice A3 n3 c3) wb _ hgl ?_).mono ?_)); (simp [*]); rintro e w5 ⟨b1, b2, rfl, hcT, k1, k4, k5, k6, hH5⟩)
    go_wp2_with fail
    refine hK.out _ _ ?_ (fun hHeld => ?_)
    · (try dsimp only); go_keep
    clear hK K
    try simp only [Act.put, List.setIfInBounds_toArray, List.set_cons_zero, List.set_cons_succ]
    refine wpAnyH_ready (rs := [34]) (by kernel_rfl) (by simp) ?_
    refine AllReadyH.cons (takeAt rfl) (fun K hK => ?_) AllReadyH.nil
    go_simp
    ((go_at_call 90; (with_reducible refine (hasTexts_held A3 c3 n3 k b1 b2 g (.int .u16 k) (.slice A1 n1 c1) (.slice A2 n2 c2) (.slice A3 n3 c3) R.texts z2 wb _ hgl ?_ HRD3 HL3 hm3' HS3 hcT HZ2).mono ?_)); (simp [*]); rintro e w6 ⟨rfl, k1, k4, k5, k6, hH6⟩)
    go_wp2_with fail
    refine hK.out _ _ ?_ (fun hHeld => ?_)
    · (try dsimp only); go_keep
    clear hK K
    try simp only [Act.put, List.setIfInBounds_toArray, List.set_cons_zero, List.set_cons_succ]
    refine wpAnyH_take (i := 35) (v := ?bv35) (takeAt rfl) (by kernel_rfl) (by kernel_rfl) (by kernel_rfl) (fun _ _ _ h => h) (Or.inl ⟨by rfl, ?bhy35⟩) (by assumption) ?_
    case bhy35 => ((intro w hSw; (try dsimp only at hSw); go_simp); try (with_reducible rfl))
    try simp only [Act.put, List.setIfInBounds_toArray, List.set_cons_zero, List.set_cons_succ]
    refine wpAnyH_take (i := 36) (v := ?bv36) (takeAt rfl) (by kernel_rfl) (by kernel_rfl) (by kernel_rfl) (fun _ _ _ h => h) (Or.inl ⟨by rfl, ?bhy36⟩) (by assumption) ?_
    case bhy36 => ((intro w hSw; (try dsimp only at hSw); go_simp); try (with_reducible rfl))
    try simp only [Act.put, List.setIfInBounds_toArray, List.set_cons_zero, List.set_cons_succ]
    refine wpAnyH_take (i := 37) (v := ?bv37) (takeAt rfl) (by kernel_rfl) (by kernel_rfl) (by kernel_rfl) (fun _ _ _ h => h) (Or.inl ⟨by rfl, ?bhy37⟩) (by assumption) ?_
    case bhy37 => ((intro w hSw; (try dsimp only at hSw); go_simp); try (with_reducible rfl))
    try simp only [Act.put, List.setIfInBounds_toArray, List.set_cons_zero, List.set_cons_succ]
    refine wpAnyH_done (by kernel_rfl) ?_ _
    go_wp2_with fail
    go_ret
    exact ⟨rfl, by have h := HB0.out; rw [← HGW.out] at h; exact h.trans (Below.mono hHeld.2.2.2.2 h.size)⟩
theorem shaped_is (R : Rec) (x : ByteArray) (k l t : Nat) (A1 : Option Addr) (n1 c1 : Nat) (A2 : Option Addr) (n2 c2 : Nat) (A3 : Option Addr) (n3 c3 : Nat) (q : Bool) (w : World) (hR : Hid (RecAt w w.heap.size R x k l t A1 n1 A2 n2 A3 n3)) (hS : Hid (Small R)) (hq : Hid (okB R = q)) :
    Calls Try.prog 91 #[.agg #[.string x, .int .u16 k, .int .u16 l, .int .u32 t, .slice A1 n1 c1, .slice A2 n2 c2, .slice A3 n3 c3]] w fun e w' => e = .returned (.bool q) ∧ Below w.heap.size w w' := by
  by_cases hk : k = 16
  · by_cases h1 : (1 : Int) < n3
    · exact shaped_many R x k l t A1 n1 c1 A2 n2 c2 A3 n3 c3 q w hR hS hk h1 hq
    · exact shaped_one R x k l t A1 n1 c1 A2 n2 c2 A3 n3 c3 q w hR hS hk (by omega) hq
  · exact shaped_not R x k l t A1 n1 c1 A2 n2 c2 A3 n3 c3 q w hR hS hk hq
end Go.Proofs.Ytpmmjmnleoicjaa
