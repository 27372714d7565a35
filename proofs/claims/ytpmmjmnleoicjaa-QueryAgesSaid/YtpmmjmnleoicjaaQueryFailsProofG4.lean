/- Texts of one proof, one behind the other: QrMin, QrDel, QrLeast. -/
import Derived.Test.YtpmmjmnleoicjaaProg
import Derived.Test.YtpmmjmnleoicjaaBytes
import Derived.Test.YtpmmjmnleoicjaaStrs
import Derived.Test.YtpmmjmnleoicjaaNums
import Derived.Test.YtpmmjmnleoicjaaMsgMath
import Derived.Test.YtpmmjmnleoicjaaRecMath
import Derived.Test.YtpmmjmnleoicjaaRecAt
import Derived.Test.YtpmmjmnleoicjaaRecShape
import Derived.Test.YtpmmjmnleoicjaaQueryFailsProofG1
import Derived.Test.YtpmmjmnleoicjaaQueryFailsProofG2
import Derived.Test.YtpmmjmnleoicjaaQueryFailsProofG3
import Derived.Test.YtpmmjmnleoicjaaRecRow
import Derived.Test.YtpmmjmnleoicjaaRecAll
import Derived.WalkKit
import Derived.Lib.Hide
import Derived.Lib.MinMax
import Derived.Outline
import Derived.IntWalk
import Derived.WalkSpells
import Derived.WalkLawsBesides
import Derived.Deep.Heap
import Derived.BigQuiet
import Derived.RegionTactic
import Derived.Deep.RegionHeld3
import Derived.Deep.Draws
import Derived.Laws.Rows
import Derived.Laws.CopyRow
import Derived.Deep.QuietTactic

/- The contracts of cmp.Compare over TTLs, of slices.MinFunc over records by their TTLs, and of query's leastOfNone. For rows of at most 10^6 records. -/
namespace Go.Proofs.Ytpmmjmnleoicjaa
open Go.RowKit Bytes Strs Nums NameMath MsgMath RecMath WrMath QrMath

theorem isNaN_any (a : Nat) (w : World) : Calls Try.prog 108 #[.int .u32 a] w fun e w' => e = .returned (.bool false) ∧ w = w' := by
  have f : ((a : Int) != (a : Int)) = false := bne_eq_false_iff_eq.2 rfl
  go_enter Try.func108, Try.ntmps108
  go_wp2_with fail
  go_ret
  exact ⟨rfl, rfl⟩
def cmpI (a b : Nat) : Int := if a < b then -1 else if b < a then 1 else 0
set_option maxHeartbeats 1000000 in
theorem compare_any (a b : Nat) (w : World) : Calls Try.prog 76 #[.int .u32 a, .int .u32 b] w fun e w' => e = .returned (.int .i64 (cmpI a b)) ∧ w = w' := by
  by_cases h1 : a < b
  · have e : cmpI a b = -1 := if_pos h1
    have f : ((a : Int) < (b : Int)) := by omega
    rw [e]
    go_enter Try.func76, Try.ntmps76
    go_wp2_with fail
    refine (isNaN_any a w).mono ?_
    rintro e w' ⟨rfl, rfl⟩
    go_wp2_with fail
    refine (isNaN_any b w).mono ?_
    rintro e w' ⟨rfl, rfl⟩
    go_wp2_with fail
    go_ret
    exact ⟨rfl, rfl⟩
  · have f : ¬ ((a : Int) < (b : Int)) := by omega
    by_cases h2 : b < a
    · have e : cmpI a b = 1 := by unfold cmpI; rw [if_neg h1, if_pos h2]
      have f2 : ((b : Int) < (a : Int)) := by omega
      rw [e]
      go_enter Try.func76, Try.ntmps76
      go_wp2_with fail
      refine (isNaN_any a w).mono ?_
      rintro e w' ⟨rfl, rfl⟩
      go_wp2_with fail
      refine (isNaN_any b w).mono ?_
      rintro e w' ⟨rfl, rfl⟩
      go_wp2_with fail
      go_ret
      exact ⟨rfl, rfl⟩
    · have e : cmpI a b = 0 := by unfold cmpI; rw [if_neg h1, if_neg h2]
      have f2 : ¬ ((b : Int) < (a : Int)) := by omega
      rw [e]
      go_enter Try.func76, Try.ntmps76
      go_wp2_with fail
      refine (isNaN_any a w).mono ?_
      rintro e w' ⟨rfl, rfl⟩
      go_wp2_with fail
      refine (isNaN_any b w).mono ?_
      rintro e w' ⟨rfl, rfl⟩
      go_wp2_with fail
      go_ret
      exact ⟨rfl, rfl⟩
set_option maxHeartbeats 1000000 in
set_option maxRecDepth 100000 in
theorem least1_any (x y : ByteArray) (k l t k' l' t' : Nat) (A1 A2 A3 B1 B2 B3 : Option Addr) (n1 c1 n2 c2 n3 c3 m1 d1 m2 d2 m3 d3 : Nat) (w : World) :
    Calls Try.prog 75 #[.agg (recA x k l t A1 n1 c1 A2 n2 c2 A3 n3 c3), .agg (recA y k' l' t' B1 m1 d1 B2 m2 d2 B3 m3 d3)] w fun e w' => e = .returned (.int .i64 (cmpI t t')) ∧ Below w.heap.size w w' := by
  have HB : Hid (Below w.heap.size w ((w.alloc (.cells (recA x k l t A1 n1 c1 A2 n2 c2 A3 n3 c3) 60)).alloc (.cells (recA y k' l' t' B1 m1 d1 B2 m2 d2 B3 m3 d3) 60))) := ((Below.refl _ _).alloc (Nat.le_refl _) _).alloc (by simp) _
  have HC := Lib.hid (compare_any t t')
  go_enter Try.func75, Try.ntmps75
  go_wp2_with fail
  refine (HC.out _).mono ?_
  rintro e w' ⟨rfl, rfl⟩
  go_wp2_with fail
  go_ret
  exact ⟨rfl, HB.out⟩
theorem least1_held (x y : ByteArray) (k l t k' l' t' : Nat) (A1 A2 A3 B1 B2 B3 : Option Addr) (n1 c1 n2 c2 n3 c3 m1 d1 m2 d2 m3 d3 : Nat) (a0 a1 a2 a3 a4 a5 a6 a7 a8 a9 a10 a11 a12 a13 : Addr) (v0 v1 v2 v3 v4 v5 v6 v7 v8 v9 v10 v11 v12 v13 : Value) (bb : Nat) (oo : Obj) (g : Nat) (w0 w : World) (hg : g ≤ w.heap.size) (hc : w.cell? a0 = some v0 ∧ w.cell? a1 = some v1 ∧ w.cell? a2 = some v2 ∧ w.cell? a3 = some v3 ∧ w.cell? a4 = some v4 ∧ w.cell? a5 = some v5 ∧ w.cell? a6 = some v6 ∧ w.cell? a7 = some v7 ∧ w.cell? a8 = some v8 ∧ w.cell? a9 = some v9 ∧ w.cell? a10 = some v10 ∧ w.cell? a11 = some v11 ∧ w.cell? a12 = some v12 ∧ w.cell? a13 = some v13 ∧ w.heap[bb]? = some oo ∧ Below g w0 w) :
    Calls Try.prog 75 #[.agg (recA x k l t A1 n1 c1 A2 n2 c2 A3 n3 c3), .agg (recA y k' l' t' B1 m1 d1 B2 m2 d2 B3 m3 d3)] w fun e w' => e = .returned (.int .i64 (cmpI t t')) ∧ w'.cell? a0 = some v0 ∧ w'.cell? a1 = some v1 ∧ w'.cell? a2 = some v2 ∧ w'.cell? a3 = some v3 ∧ w'.cell? a4 = some v4 ∧ w'.cell? a5 = some v5 ∧ w'.cell? a6 = some v6 ∧ w'.cell? a7 = some v7 ∧ w'.cell? a8 = some v8 ∧ w'.cell? a9 = some v9 ∧ w'.cell? a10 = some v10 ∧ w'.cell? a11 = some v11 ∧ w'.cell? a12 = some v12 ∧ w'.cell? a13 = some v13 ∧ w'.heap[bb]? = some oo ∧ Below g w0 w' := by
  obtain ⟨h0, h1, h2, h3, h4, h5, h6, h7, h8, h9, h10, h11, h12, h13, ho, hH⟩ := hc
  refine (least1_any x y k l t k' l' t' A1 A2 A3 B1 B2 B3 n1 c1 n2 c2 n3 c3 m1 d1 m2 d2 m3 d3 w).mono ?_
  rintro e w' ⟨rfl, hB⟩
  have far : ∀ {a : Addr} {v : Value}, w.cell? a = some v → w'.cell? a = some v := fun h => (hB.cell (World.block_lt_of_cell? w _ h)).trans h
  exact ⟨rfl, far h0, far h1, far h2, far h3, far h4, far h5, far h6, far h7, far h8, far h9, far h10, far h11, far h12, far h13, (hB.block bb (Array.getElem?_eq_some_iff.1 ho).1).trans ho, hH.trans (hB.mono hg)⟩
theorem leastL_snoc {L : List Rec} {S : Rec} (h : L ≠ []) : leastL (L ++ [S]) = if S.ttl < leastL L then S.ttl else leastL L := by
  cases L with
  | nil => exact absurd rfl h
  | cons R L => simp only [leastL, List.cons_append, List.foldl_append, List.foldl_cons, List.foldl_nil]; first | done | rfl | (split <;> rfl)
theorem leastL_take {L : List Rec} {j : Nat} (h0 : 0 < j) (hj : j < L.length) : leastL (L.take (j + 1)) = if (L[j]).ttl < leastL (L.take j) then (L[j]).ttl else leastL (L.take j) := by
  rw [List.take_succ_eq_append_getElem hj]
  exact leastL_snoc (fun e => by have := congrArg List.length e; rw [List.length_take, List.length_nil] at this; omega)
theorem set7_at {w : World} {b : Nat} {t : TypeId} {fz : Nat × Nat} {u0 u1 u2 u3 u4 u5 u6 v0 v1 v2 v3 v4 v5 v6 : Value} (h : w.heap[b]? = some (.cells #[u0, u1, u2, u3, u4, u5, u6] t fz)) : (((((((w.setCell ⟨b, 0, none⟩ v0).setCell ⟨b, 1, none⟩ v1).setCell ⟨b, 2, none⟩ v2).setCell ⟨b, 3, none⟩ v3).setCell ⟨b, 4, none⟩ v4).setCell ⟨b, 5, none⟩ v5).setCell ⟨b, 6, none⟩ v6).heap[b]? = some (.cells #[v0, v1, v2, v3, v4, v5, v6] t fz) := by
  have h0 := set_at (i := 0) (v := v0) (ds := #[v0, u1, u2, u3, u4, u5, u6]) h (by simp)
  have h1 := set_at (i := 1) (v := v1) (ds := #[v0, v1, u2, u3, u4, u5, u6]) h0 (by simp)
  have h2 := set_at (i := 2) (v := v2) (ds := #[v0, v1, v2, u3, u4, u5, u6]) h1 (by simp)
  have h3 := set_at (i := 3) (v := v3) (ds := #[v0, v1, v2, v3, u4, u5, u6]) h2 (by simp)
  have h4 := set_at (i := 4) (v := v4) (ds := #[v0, v1, v2, v3, v4, u5, u6]) h3 (by simp)
  have h5 := set_at (i := 5) (v := v5) (ds := #[v0, v1, v2, v3, v4, v5, u6]) h4 (by simp)
  have h6 := set_at (i := 6) (v := v6) (ds := #[v0, v1, v2, v3, v4, v5, v6]) h5 (by simp)
  exact h6
theorem leastL_one {L : List Rec} (h : 0 < L.length) : leastL (L.take 1) = (L[0]).ttl := by
  cases L with
  | nil => exact absurd h (Nat.lt_irrefl 0)
  | cons R L => rfl
/-- The record with the least TTL, its cells. -/
def MinAt (w : World) (b T : Nat) : Prop := ∃ x k l A1 n1 c1 A2 n2 c2 A3 n3 c3, w.heap[b]? = some (.cells (recA x k l T A1 n1 c1 A2 n2 c2 A3 n3 c3) 60 (0, 0))
def MinRet (T : Nat) (e : Ending) : Prop := ∃ x k l A1 n1 c1 A2 n2 c2 A3 n3 c3, e = .returned (.agg (recA x k l T A1 n1 c1 A2 n2 c2 A3 n3 c3))
set_option maxHeartbeats 8000000 in
set_option maxRecDepth 100000 in
theorem min_is (A : Option Addr) (c n B : Nat) (Z : List RecZ) (L : List Rec) (T : Nat) (w : World) (hc : CellsAt w B A (recCs Z)) (hz : ZAt w B Z) (hL : Hid (Z.map (·.1) = L)) (hn0 : Hid (Z.length = n)) (hn : n ≤ 1000000) (h0 : 0 < n) (hB : B ≤ w.heap.size) (hT : Hid (leastL L = T)) :
    Calls Try.prog 74 #[.slice A n c, .func (.func 75) #[] #[]] w fun e w' => MinRet T e ∧ Below w.heap.size w w' := by
  have HC := Lib.hid hc
  have HZ := Lib.hid hz
  obtain ⟨g, hg⟩ : ∃ g, w.heap.size = g := ⟨_, rfl⟩
  rw [hg] at hB ⊢
  have HG := Lib.hid hg
  have HLN : Hid (L.length = n) := by show _ = _; rw [← hL.out, List.length_map]; exact hn0.out
  obtain ⟨wa, hwa⟩ : ∃ wa, w.alloc (.cells #[.string ⟨#[]⟩, .int .u16 0, .int .u16 0, .int .u32 0, .slice none 0 0, .slice none 0 0, .slice none 0 0] 60) = wa := ⟨_, rfl⟩
  have HA : Hid (Below g w wa) := by rw [← hwa, ← hg]; exact (Below.refl _ _).alloc (Nat.le_refl _) _
  have HX : Hid (wa.heap[g]? = some (.cells #[.string ⟨#[]⟩, .int .u16 0, .int .u16 0, .int .u32 0, .slice none 0 0, .slice none 0 0, .slice none 0 0] 60 (0, 0))) := by rw [← hwa, ← hg]; exact heap_alloc_new w _
  have hsa : wa.heap.size = g + 1 := by rw [← hwa, ← hg]; simp
  have hz0 : 0 < Z.length := by rw [hn0.out]; exact h0
  obtain ⟨br, off, A1, c1, A2, c2, A3, c3, rfl, hbr, hat, p0, p1, p2, p3, p4, p5, p6⟩ := recs_get (HC.out.on (HA.out.mono hB) (Nat.le_refl _)) (HZ.out.on (HA.out.mono hB) (Nat.le_refl _)) hz0
  obtain ⟨hkL, hkR⟩ := zmap hL.out hz0
  have ht1 := leastL_one hkL
  rw [hkR] at ht1
  obtain ⟨R, hR⟩ : ∃ R, (Z[0]'hz0).1 = R := ⟨_, rfl⟩
  rw [hR] at p0 p1 p2 p3 p4 p5 p6 ht1
  simp only [Nat.zero_mul, Nat.add_zero] at p0 p1 p2 p3 p4 p5 p6
  obtain ⟨wb, hwb⟩ : ∃ v, wa.alloc (.cells (recA (mk R.name) R.kind R.cls R.ttl A1 R.names.length c1 A2 R.nums.length c2 A3 R.texts.length c3) 60) = v := ⟨_, rfl⟩
  have nb : Below (g + 1) wa wb := by rw [← hwb, ← hsa]; exact (Below.refl _ _).alloc (Nat.le_refl _) _
  have HM : Hid (MinAt wb (g + 1) (leastL (L.take 1))) := by
    rw [ht1]
    refine ⟨mk R.name, R.kind, R.cls, A1, R.names.length, c1, A2, R.nums.length, c2, A3, R.texts.length, c3, ?_⟩
    rw [← hwb, ← hsa]
    exact heap_alloc_new wa _
  have HXB : Hid (wb.heap[g]? = some (.cells #[.string ⟨#[]⟩, .int .u16 0, .int .u16 0, .int .u32 0, .slice none 0 0, .slice none 0 0, .slice none 0 0] 60 (0, 0))) := (nb.block g (Nat.lt_succ_self g)).trans HX.out
  have HSB : Hid (wb.heap.size = g + 2) := by show _ = _; rw [← hwb]; simp [hsa]
  have HVB : Hid (Below g w wb) := HA.out.trans (nb.mono (Nat.le_succ _))
  have hni : ¬ ((n : Int) < 1) := by omega
  have hni2 : (0 : Int) < (n : Int) := by omega
  have HWB := Lib.hid hwb
  clear nb hat hR hkR hkL ht1 hz0 hwb
  go_enter Try.func74, Try.ntmps74
  go_upto_region 4 with fail
  rw [HWB.out]
  clear hwa hsa p0 p1 p2 p3 p4 p5 p6
  go_wp2_with fail
  go_loopw [6] (fun v wr => ∃ j : Nat, j ≤ n ∧ 1 ≤ j ∧ v = .int .i64 j ∧ Hid (MinAt wr (g + 1) (leastL (L.take j))) ∧ Hid (Below (g + 1) wb wr)) (fun v _ => n - (intOf v).toNat)
  case atStart => exact ⟨1, h0, Nat.le_refl _, rfl, HM, Below.refl _ _⟩
  case round =>
    obtain ⟨j, hj, hj1, rfl, hM, hV⟩ := hrel
    have HS : Hid (g + 2 ≤ wr.heap.size) := by have h := hV.out.size; rw [HSB.out] at h; exact h
    have HVW : Hid (Below g w wr) := HVB.out.trans (hV.out.mono (Nat.le_succ _))
    obtain ⟨T0, hT0⟩ : ∃ T, leastL (L.take j) = T := ⟨_, rfl⟩
    rw [hT0] at hM
    by_cases hlt : j < n
    · have hkz : j < Z.length := by rw [hn0.out]; exact hlt
      obtain ⟨br', off', A1, c1, A2, c2, A3, c3, hAe, hbr', hat, p0, p1, p2, p3, p4, p5, p6⟩ := recs_get (HC.out.on (HVW.out.mono hB) (Nat.le_refl _)) (HZ.out.on (HVW.out.mono hB) (Nat.le_refl _)) hkz
      injection hAe with hAe
      injection hAe with hAe1 hAe2 _
      subst hAe1 hAe2
      obtain ⟨hkL, hkR⟩ := zmap hL.out hkz
      have htk := leastL_take hj1 hkL
      rw [hkR, hT0] at htk
      obtain ⟨R, hR⟩ : ∃ R, (Z[j]'hkz).1 = R := ⟨_, rfl⟩
      rw [hR] at p0 p1 p2 p3 p4 p5 p6 htk
      have HTK := Lib.hid htk
      obtain ⟨x', k', l', B1, m1, d1, B2, m2, d2, B3, m3, d3, hm⟩ := hM.out
      have q0 := cell_of_row _ _ 0 _ _ _ hm
      have q1 := cell_of_row _ _ 1 _ _ _ hm
      have q2 := cell_of_row _ _ 2 _ _ _ hm
      have q3 := cell_of_row _ _ 3 _ _ _ hm
      have q4 := cell_of_row _ _ 4 _ _ _ hm
      have q5 := cell_of_row _ _ 5 _ _ _ hm
      have q6 := cell_of_row _ _ 6 _ _ _ hm
      have HMM := Lib.hid hm
      obtain ⟨rt, hrt⟩ : ∃ t, R.ttl = t := ⟨_, rfl⟩
      rw [hrt] at p3 htk
      rw [hrt] at HTK
      clear hm hat hR hkR hkL hT0 htk hM hrt hkz
      have h0 : Below (g + 1) wb wr.drew := hV.out.drew
      have h1 : wr.drew.heap[g + 1]? = some (.cells (recA x' k' l' T0 B1 m1 d1 B2 m2 d2 B3 m3 d3) 60 (0, 0)) := HMM.out
      have HLO := Lib.hid (fun W hs h => least1_held (mk R.name) x' R.kind R.cls rt k' l' T0 A1 A2 A3 B1 B2 B3 R.names.length c1 R.nums.length c2 R.texts.length c3 m1 d1 m2 d2 m3 d3 ⟨br, off + j * 7, none⟩ ⟨br, off + j * 7 + 1, none⟩ ⟨br, off + j * 7 + 2, none⟩ ⟨br, off + j * 7 + 3, none⟩ ⟨br, off + j * 7 + 4, none⟩ ⟨br, off + j * 7 + 5, none⟩ ⟨br, off + j * 7 + 6, none⟩ ⟨g + 1, 0, none⟩ ⟨g + 1, 1, none⟩ ⟨g + 1, 2, none⟩ ⟨g + 1, 3, none⟩ ⟨g + 1, 4, none⟩ ⟨g + 1, 5, none⟩ ⟨g + 1, 6, none⟩ (.string (mk R.name)) (.int .u16 R.kind) (.int .u16 R.cls) (.int .u32 rt) (.slice A1 R.names.length c1) (.slice A2 R.nums.length c2) (.slice A3 R.texts.length c3) (.string x') (.int .u16 k') (.int .u16 l') (.int .u32 T0) (.slice B1 m1 d1) (.slice B2 m2 d2) (.slice B3 m3 d3) (g + 1) (.cells (recA x' k' l' T0 B1 m1 d1 B2 m2 d2 B3 m3 d3) 60 (0, 0)) (g + 1) wb W hs h)
      have HGW : Hid (∀ W : World, W.cell? ⟨g + 1, 3, none⟩ = some (.int .u32 T0) → g + 1 ≤ W.heap.size) := fun W h => by have h2 : g + 1 < W.heap.size := World.block_lt_of_cell? W _ h; omega
      by_cases hlt2 : rt < T0
      · have hcI : cmpI rt T0 = -1 := if_pos hlt2
        rw [hcI] at HLO
        have HTK2 : Hid (leastL (L.take (j + 1)) = rt) := by show _ = _; rw [HTK.out, if_pos hlt2]
        clear hcI hlt2
        go_wp2_with fail
        go_region_held3 (fun w' => w'.cell? ⟨br, off + j * 7, none⟩ = some (.string (mk R.name)) ∧ w'.cell? ⟨br, off + j * 7 + 1, none⟩ = some (.int .u16 R.kind) ∧ w'.cell? ⟨br, off + j * 7 + 2, none⟩ = some (.int .u16 R.cls) ∧ w'.cell? ⟨br, off + j * 7 + 3, none⟩ = some (.int .u32 rt) ∧ w'.cell? ⟨br, off + j * 7 + 4, none⟩ = some (.slice A1 R.names.length c1) ∧ w'.cell? ⟨br, off + j * 7 + 5, none⟩ = some (.slice A2 R.nums.length c2) ∧ w'.cell? ⟨br, off + j * 7 + 6, none⟩ = some (.slice A3 R.texts.length c3) ∧ w'.cell? ⟨g + 1, 0, none⟩ = some (.string x') ∧ w'.cell? ⟨g + 1, 1, none⟩ = some (.int .u16 k') ∧ w'.cell? ⟨g + 1, 2, none⟩ = some (.int .u16 l') ∧ w'.cell? ⟨g + 1, 3, none⟩ = some (.int .u32 T0) ∧ w'.cell? ⟨g + 1, 4, none⟩ = some (.slice B1 m1 d1) ∧ w'.cell? ⟨g + 1, 5, none⟩ = some (.slice B2 m2 d2) ∧ w'.cell? ⟨g + 1, 6, none⟩ = some (.slice B3 m3 d3) ∧ w'.heap[g + 1]? = some (.cells (recA x' k' l' T0 B1 m1 d1 B2 m2 d2 B3 m3 d3) 60 (0, 0)) ∧ Below (g + 1) wb w') (go_keep) (first | (go_at_call 75; (with_reducible refine (HLO.out _ (HGW.out _ ?_) ?_).mono ?_); (simp [*]); (simp [*]); rintro e w5 ⟨rfl, c0', c1', c2', c3', c4', c5', c6', c7', c8', c9', c10', c11', c12', c13', hx5, hG5⟩))
        have HX5 := Lib.hid hx5
        have ef : ∀ i, w5.frozen? ⟨g + 1, i, none⟩ = false := Lib.frozen_of_heap hx5
        clear hx5
        go_wp2_with fail
        have hnm := set7_at (v0 := .string (mk R.name)) (v1 := .int .u16 R.kind) (v2 := .int .u16 R.cls) (v3 := .int .u32 rt) (v4 := .slice A1 R.names.length c1) (v5 := .slice A2 R.nums.length c2) (v6 := .slice A3 R.texts.length c3) HX5.out
        have hnb := below_set7 hG5 (Nat.le_refl (g + 1)) (.string (mk R.name)) (.int .u16 R.kind) (.int .u16 R.cls) (.int .u32 rt) (.slice A1 R.names.length c1) (.slice A2 R.nums.length c2) (.slice A3 R.texts.length c3)
        go_roundw
        case rel => exact ⟨j + 1, by omega, by omega, by go_num, by rw [HTK2.out]; exact ⟨_, _, _, _, _, _, _, _, _, _, _, _, hnm⟩, hnb⟩
        case measure => simp [intOf]; omega
      · have hcI : 0 ≤ cmpI rt T0 := by unfold cmpI; rw [if_neg hlt2]; split <;> omega
        have HTK2 : Hid (leastL (L.take (j + 1)) = T0) := by show _ = _; rw [HTK.out, if_neg hlt2]
        have hcJ : ¬ (cmpI rt T0 < 0) := by omega
        generalize cmpI rt T0 = CI at hcI hcJ HLO
        clear hlt2
        go_wp2_with fail
        go_region_held3 (fun w' => w'.cell? ⟨br, off + j * 7, none⟩ = some (.string (mk R.name)) ∧ w'.cell? ⟨br, off + j * 7 + 1, none⟩ = some (.int .u16 R.kind) ∧ w'.cell? ⟨br, off + j * 7 + 2, none⟩ = some (.int .u16 R.cls) ∧ w'.cell? ⟨br, off + j * 7 + 3, none⟩ = some (.int .u32 rt) ∧ w'.cell? ⟨br, off + j * 7 + 4, none⟩ = some (.slice A1 R.names.length c1) ∧ w'.cell? ⟨br, off + j * 7 + 5, none⟩ = some (.slice A2 R.nums.length c2) ∧ w'.cell? ⟨br, off + j * 7 + 6, none⟩ = some (.slice A3 R.texts.length c3) ∧ w'.cell? ⟨g + 1, 0, none⟩ = some (.string x') ∧ w'.cell? ⟨g + 1, 1, none⟩ = some (.int .u16 k') ∧ w'.cell? ⟨g + 1, 2, none⟩ = some (.int .u16 l') ∧ w'.cell? ⟨g + 1, 3, none⟩ = some (.int .u32 T0) ∧ w'.cell? ⟨g + 1, 4, none⟩ = some (.slice B1 m1 d1) ∧ w'.cell? ⟨g + 1, 5, none⟩ = some (.slice B2 m2 d2) ∧ w'.cell? ⟨g + 1, 6, none⟩ = some (.slice B3 m3 d3) ∧ w'.heap[g + 1]? = some (.cells (recA x' k' l' T0 B1 m1 d1 B2 m2 d2 B3 m3 d3) 60 (0, 0)) ∧ Below (g + 1) wb w') (go_keep) (first | (go_at_call 75; (with_reducible refine (HLO.out _ (HGW.out _ ?_) ?_).mono ?_); (simp [*]); (simp [*]); rintro e w5 ⟨rfl, c0', c1', c2', c3', c4', c5', c6', c7', c8', c9', c10', c11', c12', c13', hx5, hG5⟩))
        have HX5 := Lib.hid hx5
        clear hx5
        go_wp2_with fail
        go_roundw
        case rel => exact ⟨j + 1, by omega, by omega, by go_num, by rw [HTK2.out]; exact ⟨_, _, _, _, _, _, _, _, _, _, _, _, HX5.out⟩, hG5⟩
        case measure => simp [intOf]; omega
    · have hjn : ¬ ((j : Int) < (n : Int)) := by omega
      have hTT : T0 = T := by rw [← hT0, List.take_of_length_le (by rw [HLN.out]; omega)]; exact hT.out
      obtain ⟨x', k', l', B1, m1, d1, B2, m2, d2, B3, m3, d3, hm⟩ := hM.out
      subst hTT
      have q0 := cell_of_row _ _ 0 _ _ _ hm
      have q1 := cell_of_row _ _ 1 _ _ _ hm
      have q2 := cell_of_row _ _ 2 _ _ _ hm
      have q3 := cell_of_row _ _ 3 _ _ _ hm
      have q4 := cell_of_row _ _ 4 _ _ _ hm
      have q5 := cell_of_row _ _ 5 _ _ _ hm
      have q6 := cell_of_row _ _ 6 _ _ _ hm
      have hxg := (hV.out.block g (Nat.lt_succ_self g)).trans HXB.out
      have y0 := cell_of_row _ _ 0 _ _ _ hxg
      have y1 := cell_of_row _ _ 1 _ _ _ hxg
      have y2 := cell_of_row _ _ 2 _ _ _ hxg
      have y3 := cell_of_row _ _ 3 _ _ _ hxg
      have y4 := cell_of_row _ _ 4 _ _ _ hxg
      have y5 := cell_of_row _ _ 5 _ _ _ hxg
      have y6 := cell_of_row _ _ 6 _ _ _ hxg
      have yf : ∀ i, wr.frozen? ⟨g, i, none⟩ = false := Lib.frozen_of_heap hxg
      clear hlt hm hxg hT0 hM
      go_wp2_with fail
      refine bodyPost_ret (v := .agg (recA x' k' l' T0 B1 m1 d1 B2 m2 d2 B3 m3 d3)) (by simp [results, Try.results74, go_sem, y0, y1, y2, y3, y4, y5, y6]) rfl ⟨⟨_, _, _, _, _, _, _, _, _, _, _, _, rfl⟩, below_set7 HVW.out (Nat.le_refl _) _ _ _ _ _ _ _⟩
end Go.Proofs.Ytpmmjmnleoicjaa

/- The contract of slices.DeleteFunc over records of a type, in a row of the call's own. For rows of at most 10^6 records. -/
namespace Go.Proofs.Ytpmmjmnleoicjaa
open Go.RowKit Bytes Strs Nums NameMath MsgMath RecMath WrMath QrMath

/-- A row of n records in block b, from o on: the first ones are F, from the i-th on they are Z's. -/
structure DelRow (w : World) (b o n i : Nat) (F Z : List RecZ) : Prop where
  blk : ∃ cs, w.heap[b]? = some (.cells cs 60 (0, 0)) ∧ o + n * 7 ≤ cs.size ∧ (∀ u, u < F.length * 7 → cs[o + u]? = (recCs F)[u]?) ∧ ∀ u, i * 7 ≤ u → u < n * 7 → cs[o + u]? = (recCs Z)[u]?
  le : F.length ≤ i
  len : Z.length = n
theorem DelRow.keep {w w' : World} {b o n i : Nat} {F Z : List RecZ} (h : DelRow w b o n i F Z) (hB : Below w.heap.size w w') : DelRow w' b o n i F Z := by
  obtain ⟨cs, hb, h1, h2, h3⟩ := h.blk
  exact ⟨⟨cs, (hB.block b (Array.getElem?_eq_some_iff.1 hb).1).trans hb, h1, h2, h3⟩, h.le, h.len⟩
theorem DelRow.skip {w : World} {b o n i : Nat} {F Z : List RecZ} (h : DelRow w b o n i F Z) : DelRow w b o n (i + 1) F Z := by
  obtain ⟨cs, hb, h1, h2, h3⟩ := h.blk
  exact ⟨⟨cs, hb, h1, h2, fun u hu hn => h3 u (by omega) hn⟩, by have := h.le; omega, h.len⟩
/-- The record at the place that is read. -/
theorem DelRow.get {w : World} {b o n i : Nat} {F Z : List RecZ} (h : DelRow w b o n i F Z) (hi : i < n) (m : Nat) (hm : m < 7) : w.cell? ⟨b, o + i * 7 + m, none⟩ = (recV (Z[i]'(by rw [h.len]; exact hi)).1 (Z[i]'(by rw [h.len]; exact hi)).2.1 (Z[i]'(by rw [h.len]; exact hi)).2.2.1 (Z[i]'(by rw [h.len]; exact hi)).2.2.2)[m]? := by
  obtain ⟨cs, hb, h1, h2, h3⟩ := h.blk
  have hiz : i < Z.length := by rw [h.len]; exact hi
  have e := h3 (i * 7 + m) (by omega) (by omega)
  rw [recCs_at hiz hm] at e
  rw [← e, ← Nat.add_assoc]
  exact cell_of_row _ _ _ _ _ _ hb
theorem DelRow.cell {w : World} {b o n i : Nat} {F Z : List RecZ} (h : DelRow w b o n i F Z) (u : Nat) (hu : u < n * 7) : ∃ v, w.cell? ⟨b, o + u, none⟩ = some v := by
  obtain ⟨cs, hb, h1, h2, h3⟩ := h.blk
  exact ⟨cs[o + u]'(by omega), (cell_of_row _ _ _ _ _ _ hb).trans (Array.getElem?_eq_getElem (by omega))⟩
theorem DelRow.frozen {w : World} {b o n i : Nat} {F Z : List RecZ} (h : DelRow w b o n i F Z) : ∀ u, w.frozen? ⟨b, u, none⟩ = false := by
  obtain ⟨cs, hb, h1, h2, h3⟩ := h.blk
  exact Lib.frozen_of_heap hb
theorem sib_one (cs : Array Value) (k : Nat) (v : Value) (hk : k < cs.size) : ∃ ds, cs.setIfInBounds k v = ds ∧ ds.size = cs.size ∧ ∀ u, ds[u]? = if u = k then some v else cs[u]? := by
  refine ⟨_, rfl, by simp, fun u => ?_⟩
  rw [Array.getElem?_setIfInBounds]
  by_cases h : u = k
  · subst h
    rw [if_pos rfl, if_pos hk, if_pos rfl]
  · rw [if_neg (fun e => h e.symm), if_neg h]
/-- Seven cells written one behind the other. -/
theorem set7_block {w : World} {b k : Nat} {cs : Array Value} {t : TypeId} {fz : Nat × Nat} (h : w.heap[b]? = some (.cells cs t fz)) (v0 v1 v2 v3 v4 v5 v6 : Value) (hk : k + 7 ≤ cs.size) :
    ∃ ds, (((((((w.setCell ⟨b, k, none⟩ v0).setCell ⟨b, k + 1, none⟩ v1).setCell ⟨b, k + 2, none⟩ v2).setCell ⟨b, k + 3, none⟩ v3).setCell ⟨b, k + 4, none⟩ v4).setCell ⟨b, k + 5, none⟩ v5).setCell ⟨b, k + 6, none⟩ v6).heap[b]? = some (.cells ds t fz) ∧ ds.size = cs.size ∧ (∀ u, ¬ (k ≤ u ∧ u < k + 7) → ds[u]? = cs[u]?) ∧ ∀ d, d < 7 → ds[k + d]? = [v0, v1, v2, v3, v4, v5, v6][d]? := by
  obtain ⟨c0, e0, z0, g0⟩ := sib_one cs k v0 (by omega)
  have s0 := set_at h e0
  obtain ⟨c1, e1, z1, g1⟩ := sib_one c0 (k + 1) v1 (by omega)
  have s1 := set_at s0 e1
  obtain ⟨c2, e2, z2, g2⟩ := sib_one c1 (k + 2) v2 (by omega)
  have s2 := set_at s1 e2
  obtain ⟨c3, e3, z3, g3⟩ := sib_one c2 (k + 3) v3 (by omega)
  have s3 := set_at s2 e3
  obtain ⟨c4, e4, z4, g4⟩ := sib_one c3 (k + 4) v4 (by omega)
  have s4 := set_at s3 e4
  obtain ⟨c5, e5, z5, g5⟩ := sib_one c4 (k + 5) v5 (by omega)
  have s5 := set_at s4 e5
  obtain ⟨c6, e6, z6, g6⟩ := sib_one c5 (k + 6) v6 (by omega)
  have s6 := set_at s5 e6
  clear e0 e1 e2 e3 e4 e5 e6 s0 s1 s2 s3 s4 s5
  refine ⟨c6, s6, by omega, fun u hu => ?_, fun d hd => ?_⟩
  · rw [g6, if_neg (by omega), g5, if_neg (by omega), g4, if_neg (by omega), g3, if_neg (by omega), g2, if_neg (by omega), g1, if_neg (by omega), g0, if_neg (by omega)]
  · have hd : d = 0 ∨ d = 1 ∨ d = 2 ∨ d = 3 ∨ d = 4 ∨ d = 5 ∨ d = 6 := by omega
    rcases hd with rfl | rfl | rfl | rfl | rfl | rfl | rfl
    · rw [g6, if_neg (by omega), g5, if_neg (by omega), g4, if_neg (by omega), g3, if_neg (by omega), g2, if_neg (by omega), g1, if_neg (by omega), g0, if_pos (by omega)]; rfl
    · rw [g6, if_neg (by omega), g5, if_neg (by omega), g4, if_neg (by omega), g3, if_neg (by omega), g2, if_neg (by omega), g1, if_pos (by omega)]; rfl
    · rw [g6, if_neg (by omega), g5, if_neg (by omega), g4, if_neg (by omega), g3, if_neg (by omega), g2, if_pos (by omega)]; rfl
    · rw [g6, if_neg (by omega), g5, if_neg (by omega), g4, if_neg (by omega), g3, if_pos (by omega)]; rfl
    · rw [g6, if_neg (by omega), g5, if_neg (by omega), g4, if_pos (by omega)]; rfl
    · rw [g6, if_neg (by omega), g5, if_pos (by omega)]; rfl
    · rw [g6, if_pos (by omega)]; rfl
theorem recCs_snocZ (F : List RecZ) (z : RecZ) : recCs (F ++ [z]) = recCs F ++ recV z.1 z.2.1 z.2.2.1 z.2.2.2 := by
  obtain ⟨R, v1, v2, v3⟩ := z
  exact recCs_snoc F R v1 v2 v3
/-- A record that is kept goes behind those that were. -/
theorem DelRow.put {w : World} {b o n i : Nat} {F Z : List RecZ} (h : DelRow w b o n i F Z) (hi : F.length < i) (hin : i < n) (z : RecZ) (v0 v1 v2 v3 v4 v5 v6 : Value) (hz : recV z.1 z.2.1 z.2.2.1 z.2.2.2 = [v0, v1, v2, v3, v4, v5, v6]) :
    DelRow (((((((w.setCell ⟨b, o + F.length * 7, none⟩ v0).setCell ⟨b, o + F.length * 7 + 1, none⟩ v1).setCell ⟨b, o + F.length * 7 + 2, none⟩ v2).setCell ⟨b, o + F.length * 7 + 3, none⟩ v3).setCell ⟨b, o + F.length * 7 + 4, none⟩ v4).setCell ⟨b, o + F.length * 7 + 5, none⟩ v5).setCell ⟨b, o + F.length * 7 + 6, none⟩ v6) b o n (i + 1) (F ++ [z]) Z := by
  obtain ⟨cs, hb, h1, h2, h3⟩ := h.blk
  obtain ⟨ds, s6, hz6, hfar, hin7⟩ := set7_block (k := o + F.length * 7) hb v0 v1 v2 v3 v4 v5 v6 (by omega)
  refine ⟨⟨ds, s6, by omega, fun u hu => ?_, fun u hu hn => ?_⟩, by rw [List.length_append, List.length_singleton]; omega, h.len⟩
  · rw [recCs_snocZ, hz]
    rw [List.length_append, List.length_singleton] at hu
    by_cases hlt : u < F.length * 7
    · rw [hfar _ (by omega), h2 u hlt, List.getElem?_append_left (by rw [recCs_len]; exact hlt)]
    · obtain ⟨d, rfl⟩ : ∃ d, u = F.length * 7 + d := ⟨u - F.length * 7, by omega⟩
      rw [List.getElem?_append_right (by rw [recCs_len]; omega), recCs_len, ← Nat.add_assoc, hin7 d (by omega), show F.length * 7 + d - F.length * 7 = d by omega]
  · rw [hfar _ (by omega)]
    exact h3 u (by omega) hn
/-- Such cells behind the kept ones may be written over. -/
theorem DelRow.done {w : World} {b o n i : Nat} {F Z : List RecZ} (h : DelRow w b o n i F Z) (B' : Nat) (hb : b < B') : CellsAt w B' (some ⟨b, o, none⟩) (recCs F) := by
  obtain ⟨cs, hb', h1, h2, h3⟩ := h.blk
  refine .inr ⟨b, o, rfl, hb, fun u v hv => ?_⟩
  have hu : u < F.length * 7 := by
    rw [← recCs_len]
    exact (List.getElem?_eq_some_iff.1 hv).1
  exact (cell_of_row _ _ _ _ _ _ hb').trans ((h2 u hu).trans hv)
/-- clear, at a row's end. -/
theorem run_clear (w : World) (ty : TypeId) (b o n c : Nat) (cs : Array Value) (hb : w.heap[b]? = some (.cells cs 60 (0, 0))) (hn : 0 < n) (hl : o + n * 7 ≤ cs.size) :
    ∃ ds, ((Builtin.clear_ #[24] ty #[.slice (some ⟨b, o, none⟩) n c]).run Try.prog w = .ok (.tuple #[]) (w.setRow b ds)) ∧ ds.size = cs.size ∧ ∀ u, u < o → ds[u]? = cs[u]? := by
  obtain ⟨i0, hi, hz0, hz1, hz2⟩ := info_parts info_rec
  obtain ⟨vs, hvs⟩ : ∃ vs, (Builtin.zeroCells (Value.agg #[.string ⟨#[]⟩, .int .u16 0, .int .u16 0, .int .u32 0, .slice none 0 0, .slice none 0 0, .slice none 0 0]).cells n).toList = vs := ⟨_, rfl⟩
  have hlen : vs.length = n * 7 := by
    rw [← hvs, Array.length_toList, size_zeroCells]
    rfl
  have hone : ∀ v ∈ vs, v.oneCell' = true := fun v hv => by
    rw [← hvs] at hv
    unfold Builtin.zeroCells at hv
    rw [Array.mem_toList_iff, Array.mem_map] at hv
    obtain ⟨i, _, rfl⟩ := hv
    have hm : i % 7 < 7 := Nat.mod_lt _ (by decide)
    show (#[Value.string ⟨#[]⟩, .int .u16 0, .int .u16 0, .int .u32 0, .slice none 0 0, .slice none 0 0, .slice none 0 0][i % 7]!).oneCell' = true
    generalize i % 7 = m at hm
    have : m = 0 ∨ m = 1 ∨ m = 2 ∨ m = 3 ∨ m = 4 ∨ m = 5 ∨ m = 6 := by omega
    rcases this with rfl | rfl | rfl | rfl | rfl | rfl | rfl <;> rfl
  have hrun := run_storeCells_at (P := Try.prog) b o 60 vs 0 cs w hb (by omega) hone
  obtain ⟨ds, hds⟩ : ∃ ds, (cs.toList.take (o + 0) ++ vs ++ cs.toList.drop (o + 0 + vs.length)).toArray = ds := ⟨_, rfl⟩
  rw [hds] at hrun
  refine ⟨ds, ?_, ?_, fun u hu => ?_⟩
  · have hn0 : n ≠ 0 := by omega
    obtain ⟨m, rfl⟩ : ∃ m, n = m + 1 := ⟨n - 1, by omega⟩
    simp [Builtin.clear_, run_underlying Try.underlying24, typeInfo, zeroValue, hi, hz0, hvs, hrun]
  · rw [← hds]
    simp
    omega
  · rw [← hds, List.getElem?_toArray, List.append_assoc, List.getElem?_append_left (by simp; omega), List.getElem?_take_of_lt (by omega), Array.getElem?_toList]
/-- clear, by its run's equation, at the operation. -/
theorem wpList_clear_run {P : Program} {w : World} {ops : Array Oper} {rest : List Oper} {o : Oper} {a : Act} {Q : Exit → Act → World → Prop} (hgd : o.guard = none) (s : Operand) (t : TypeId) (ho : o.op = .call { callee := .builtin .clear, args := #[s], argTypes := #[t] })
    (v : Value) (hs : a.eval s = v) (v' : Value) (w' : World) (hrun : (Builtin.clear_ #[t] o.type #[v]).run P w = .ok v' w') (h : wpList P ops Q rest (a.put o.dst v') w') : wpList P ops Q (o :: rest) a w := by
  refine wpList_plain hgd fun K hK => ?_
  unfold Oper.wp execOp
  simp only [ho, resolve, invoke, builtin, Sem.run_bind, Sem.run_pure, Result.andThen_ok, List.map_toArray, List.map_cons, List.map_nil, hs, hrun]
  exact hK _ _ h
theorem DelRow.cleared {w : World} {b o n i : Nat} {F Z : List RecZ} (h : DelRow w b o n i F Z) (hF : F.length < n) (ty : TypeId) (c : Nat) : ∃ ds, ((Builtin.clear_ #[24] ty #[.slice (some ⟨b, o + F.length * 7, none⟩) (n - F.length) c]).run Try.prog w = .ok (.tuple #[]) (w.setRow b ds)) ∧ DelRow (w.setRow b ds) b o n n F Z := by
  obtain ⟨cs, hb, h1, h2, h3⟩ := h.blk
  obtain ⟨ds, hr, hs, hf⟩ := run_clear w ty b (o + F.length * 7) (n - F.length) c cs hb (by omega) (by rw [Nat.sub_mul]; omega)
  exact ⟨ds, hr, ⟨ds, setRow_heap w b cs ds _ _ hb, by omega, fun u hu => by rw [hf _ (by omega)]; exact h2 u hu, fun u hu hn => by omega⟩, by omega, h.len⟩
theorem far_seven {w : World} {a : Addr} {b k : Nat} {v u0 u1 u2 u3 u4 u5 u6 : Value} (h : w.cell? a = some v) (hb : a.block ≠ b) : (((((((w.setCell ⟨b, k, none⟩ u0).setCell ⟨b, k + 1, none⟩ u1).setCell ⟨b, k + 2, none⟩ u2).setCell ⟨b, k + 3, none⟩ u3).setCell ⟨b, k + 4, none⟩ u4).setCell ⟨b, k + 5, none⟩ u5).setCell ⟨b, k + 6, none⟩ u6).cell? a = some v := by
  have ne : ∀ i, (⟨b, i, none⟩ : Addr) ≠ a := fun i e => hb (by rw [← e])
  rw [World.cell?_setCell_other _ _ _ _ (ne _), World.cell?_setCell_other _ _ _ _ (ne _), World.cell?_setCell_other _ _ _ _ (ne _), World.cell?_setCell_other _ _ _ _ (ne _), World.cell?_setCell_other _ _ _ _ (ne _), World.cell?_setCell_other _ _ _ _ (ne _), World.cell?_setCell_other _ _ _ _ (ne _)]
  exact h
theorem below_sevenk {B b : Nat} {w w' : World} (h : Below B w w') (hg : B ≤ b) (k : Nat) (v0 v1 v2 v3 v4 v5 v6 : Value) : Below B w (((((((w'.setCell ⟨b, k, none⟩ v0).setCell ⟨b, k + 1, none⟩ v1).setCell ⟨b, k + 2, none⟩ v2).setCell ⟨b, k + 3, none⟩ v3).setCell ⟨b, k + 4, none⟩ v4).setCell ⟨b, k + 5, none⟩ v5).setCell ⟨b, k + 6, none⟩ v6) := by
  have h0 := h.setCell (p := ⟨b, k, none⟩) hg v0
  have h1 := h0.setCell (p := ⟨b, k + 1, none⟩) hg v1
  have h2 := h1.setCell (p := ⟨b, k + 2, none⟩) hg v2
  have h3 := h2.setCell (p := ⟨b, k + 3, none⟩) hg v3
  have h4 := h3.setCell (p := ⟨b, k + 4, none⟩) hg v4
  have h5 := h4.setCell (p := ⟨b, k + 5, none⟩) hg v5
  exact h5.setCell (p := ⟨b, k + 6, none⟩) hg v6
theorem below_setRow {B b : Nat} {w w' : World} {ds : Array Value} (h : Below B w w') (hb : B ≤ b) : Below B w (w'.setRow b ds) :=
  ⟨h.os, h.tape, h.output, by rw [setRow_size]; exact h.size, fun k hk => by rw [setRow_other _ _ _ _ (by omega)]; exact h.block k hk⟩
theorem DelRow.whole {w : World} {b o n : Nat} {Z : List RecZ} (h : DelRow w b o n 0 [] Z) : CellsAt w w.heap.size (some ⟨b, o, none⟩) (recCs Z) := by
  obtain ⟨cs, hb, h1, h2, h3⟩ := h.blk
  refine .inr ⟨b, o, rfl, (Array.getElem?_eq_some_iff.1 hb).1, fun u v hv => ?_⟩
  have hu : u < n * 7 := by
    rw [← h.len, ← recCs_len]
    exact (List.getElem?_eq_some_iff.1 hv).1
  exact (cell_of_row _ _ _ _ _ _ hb).trans ((h3 u (by omega) hu).trans hv)
theorem recCs_take {Z : List RecZ} {i u : Nat} (hu : u < i * 7) : (recCs (Z.take i))[u]? = (recCs Z)[u]? := by
  by_cases hi : i ≤ Z.length
  · have e : recCs Z = recCs (Z.take i) ++ recCs (Z.drop i) := by rw [← recCs_app, List.take_append_drop]
    rw [e, List.getElem?_append_left (by rw [recCs_len, List.length_take]; omega)]
  · rw [List.take_of_length_le (by omega)]
theorem DelRow.start {w : World} {b o n i : Nat} {Z : List RecZ} (h : DelRow w b o n 0 [] Z) (hi : i < n) : DelRow w b o n (i + 1) (Z.take i) Z := by
  obtain ⟨cs, hb, h1, h2, h3⟩ := h.blk
  have hl : (Z.take i).length = i := by rw [List.length_take, h.len]; omega
  exact ⟨⟨cs, hb, h1, fun u hu => by rw [hl] at hu; rw [recCs_take hu]; exact h3 u (by omega) (by omega), fun u hu hn => h3 u (by omega) hn⟩, by omega, h.len⟩
def keepZ (kk : Nat) (z : RecZ) : Bool := decide (z.1.kind ≠ kk)
theorem keep_map {kk : Nat} {Z : List RecZ} : (Z.filter (keepZ kk)).map (·.1) = (Z.map (·.1)).filter (fun R => decide (R.kind ≠ kk)) := by
  induction Z with
  | nil => rfl
  | cons z Z ih =>
    rw [List.map_cons, List.filter_cons, List.filter_cons]
    unfold keepZ at ih ⊢
    split
    · rw [List.map_cons, ih]
    · exact ih
theorem keep_snoc {kk j : Nat} {Z : List RecZ} (hj : j < Z.length) : (Z.take (j + 1)).filter (keepZ kk) = (Z.take j).filter (keepZ kk) ++ if keepZ kk (Z[j]) = true then [Z[j]] else [] := by
  rw [List.take_succ_eq_append_getElem hj, List.filter_append]
  congr 1
  rw [List.filter_cons]
  rfl
theorem keep_none {kk : Nat} {Z : List RecZ} {L : List Rec} (hL : Z.map (·.1) = L) (h : L.any (fun R => decide (R.kind = kk)) = false) : Z.filter (keepZ kk) = Z := by
  rw [List.filter_eq_self]
  intro z hz
  subst hL
  have := List.any_eq_false.1 h z.1 (List.mem_map_of_mem hz)
  unfold keepZ
  simpa using this
theorem keep_first {kk i : Nat} {Z : List RecZ} {L : List Rec} (hL : Z.map (·.1) = L) (hI : idxP (fun R => decide (R.kind = kk)) L 0 = (i : Int)) : i < Z.length ∧ (Z.take (i + 1)).filter (keepZ kk) = Z.take i := by
  have hI' : idxP (fun R => decide (R.kind = kk)) L 0 = ((0 + i : Nat) : Int) := by rw [hI, Nat.zero_add]
  obtain ⟨h1, h2, h3⟩ := idxP_at (d := zeroR) hI'
  subst hL
  rw [List.length_map] at h1
  refine ⟨h1, ?_⟩
  rw [keep_snoc h1]
  have e1 : keepZ kk Z[i] = false := by
    have h2' := of_decide_eq_true h2
    rw [List.getD_eq_getElem?_getD, List.getElem?_map, List.getElem?_eq_getElem h1] at h2'
    exact decide_eq_false (fun h => h h2')
  rw [e1, if_neg (by decide), List.append_nil, List.filter_eq_self]
  intro z hz
  obtain ⟨m, hm, rfl⟩ := List.getElem_of_mem hz
  rw [List.length_take] at hm
  have h4 := of_decide_eq_false (h3 m (by omega))
  rw [List.getD_eq_getElem?_getD, List.getElem?_map, List.getElem?_eq_getElem (show m < Z.length by omega)] at h4
  rw [List.getElem_take]
  exact decide_eq_true h4
set_option maxHeartbeats 8000000 in
set_option maxRecDepth 100000 in
theorem del_is (b o n cap kk bk g B : Nat) (Z : List RecZ) (L : List Rec) (w0 w : World) (hr : DelRow w b o n 0 [] Z) (hz : ZAt w B Z) (hL : Hid (Z.map (·.1) = L)) (hn : n ≤ 1000000) (hcap : n ≤ cap) (hc : w.cell? ⟨bk, 0, none⟩ = some (.int .u16 kk)) (hne : bk ≠ b) (hg : g ≤ b) (hBg : B ≤ g) (hgs : g ≤ w.heap.size) (hB : Below g w0 w) :
    Calls Try.prog 72 #[.slice (some ⟨b, o, none⟩) n cap, .func (.func 105) #[] #[.pointer (some ⟨bk, 0, none⟩)]] w fun e w' => ∃ F c', e = .returned (.slice (some ⟨b, o, none⟩) F.length c') ∧ F = Z.filter (keepZ kk) ∧ CellsAt w' w'.heap.size (some ⟨b, o, none⟩) (recCs F) ∧ Below g w0 w' := by
  have HR := Lib.hid hr
  have HZ := Lib.hid hz
  have HC := Lib.hid hc
  have HB := Lib.hid hB
  have HN : Hid (Z.length = n) := hr.len
  have HI := Lib.hid (fun I hI => idxOf_is (some ⟨b, o, none⟩) cap n kk bk w.heap.size Z L I w hr.whole (hz.on (Below.refl _ _) (by omega)) hL hr.len hn hc (World.block_lt_of_cell? w _ hc) (Nat.le_refl _) hI)
  clear hr hz hc hB
  cases hany : L.any (fun R => decide (R.kind = kk)) with
  | false =>
    have hF := keep_none hL.out hany
    have hi : Hid (idxP (fun R => decide (R.kind = kk)) L 0 = -1) := idxP_none hany
    clear hany
    go_enter Try.func72, Try.ntmps72
    go_wp2_with fail
    refine (HI.out (-1) hi).mono ?_
    rintro e w1 ⟨rfl, n1⟩
    go_wp2_with fail
    go_ret
    exact ⟨Z, cap, by rw [HN.out]; rfl, hF.symm, (HR.out.keep n1).whole, HB.out.trans (n1.mono hgs)⟩
  | true =>
    obtain ⟨i0, hi0, hi⟩ := idxP_some (j := 0) hany
    rw [Nat.zero_add] at hi
    obtain ⟨hiZ, hF0⟩ := keep_first hL.out hi
    have hin : i0 < n := by rw [← HN.out]; exact hiZ
    have HII := Lib.hid hi
    have HF0 := Lib.hid hF0
    clear hany hi hi0 hF0
    go_enter Try.func72, Try.ntmps72
    go_wp2_with fail
    refine (HI.out (i0 : Int) HII).mono ?_
    rintro e w1 ⟨rfl, n1⟩
    have hD1 := (HR.out.keep n1).start hin
    have hl0 : (Z.take i0).length = i0 := by rw [List.length_take, HN.out]; omega
    have HD1 := Lib.hid hD1
    have HC1 : Hid (w1.cell? ⟨bk, 0, none⟩ = some (.int .u16 kk)) := (n1.cell (p := ⟨bk, 0, none⟩) (World.block_lt_of_cell? w _ HC.out)).trans HC.out
    have HB1 : Hid (Below g w0 w1) := HB.out.trans (n1.mono hgs)
    have HG1 : Hid (g ≤ w1.heap.size) := Nat.le_trans hgs n1.size
    have HZ1 : Hid (ZAt w1 B Z) := HZ.out.on (n1.mono (by omega)) (Nat.le_refl _)
    have fi : ((i0 : Int) == -1) = false := beq_eq_false_iff_ne.2 (by omega)
    clear n1 hD1 HI HC HB HR HZ
    go_wp2_with fail
    go_loopw [5, 6] (fun v u wr => ∃ (j : Nat) (F : List RecZ), j ≤ n ∧ u = .int .i64 j ∧ v = .int .i64 (F.length : Nat) ∧ F.length < j ∧ Hid (DelRow wr b o n j F Z) ∧ Hid (F = (Z.take j).filter (keepZ kk)) ∧ Hid (wr.cell? ⟨bk, 0, none⟩ = some (.int .u16 kk)) ∧ Hid (Below g w0 wr) ∧ Hid (Below g w1 wr)) (fun _ u _ => n - (intOf u).toNat)
    case atStart => exact ⟨i0 + 1, Z.take i0, by omega, by go_num, by rw [hl0], by omega, HD1, HF0.out.symm, HC1, HB1, Below.refl _ _⟩
    case round =>
      obtain ⟨j, F, hj, rfl, rfl, hFj, hD, hF, hC, hV, hV1⟩ := hrel
      have HG : Hid (g ≤ wr.heap.size) := Nat.le_trans HG1.out hV1.out.size
      by_cases hlt : j < n
      · have hkz : j < Z.length := by rw [HN.out]; exact hlt
        obtain ⟨A1, c1, A2, c2, A3, c3, e1, e2, e3, _⟩ := (HZ1.out.on (hV1.out.mono hBg) (Nat.le_refl _)) (Z[j]) (List.getElem_mem hkz)
        have hget := fun m hm => hD.out.get hlt m hm
        rw [e1, e2, e3] at hget
        have hks := keep_snoc (kk := kk) hkz
        obtain ⟨R, hR⟩ : ∃ R, (Z[j]'hkz).1 = R := ⟨_, rfl⟩
        have hkk : keepZ kk (Z[j]) = !decide (R.kind = kk) := by unfold keepZ; rw [hR]; simp
        rw [hR] at hget
        have p0 := hget 0 (by decide)
        have p1 := hget 1 (by decide)
        have p2 := hget 2 (by decide)
        have p3 := hget 3 (by decide)
        have p4 := hget 4 (by decide)
        have p5 := hget 5 (by decide)
        have p6 := hget 6 (by decide)
        simp only [recV, Nat.add_zero] at p0 p1 p2 p3 p4 p5 p6
        rw [hkk, ← hF.out] at hks
        have HKS := Lib.hid hks
        obtain ⟨zz, hzz⟩ : ∃ z, Z[j]'hkz = z := ⟨_, rfl⟩
        rw [hzz] at HKS
        have HRV : Hid (recV zz.1 zz.2.1 zz.2.2.1 zz.2.2.2 = [.string (mk R.name), .int .u16 R.kind, .int .u16 R.cls, .int .u32 R.ttl, .slice A1 R.names.length c1, .slice A2 R.nums.length c2, .slice A3 R.texts.length c3]) := by
          show _ = _
          rw [← hzz, e1, e2, e3, hR]
          rfl
        obtain ⟨d, hd⟩ : ∃ d, wr.heap.size = d := ⟨_, rfl⟩
        obtain ⟨w2, hw2⟩ : ∃ v, wr.alloc (.cells #[.string (mk R.name), .int .u16 R.kind, .int .u16 R.cls, .int .u32 R.ttl, .slice A1 R.names.length c1, .slice A2 R.nums.length c2, .slice A3 R.texts.length c3] 60) = v := ⟨_, rfl⟩
        have n2 : Below wr.heap.size wr w2 := by rw [← hw2]; exact (Below.refl _ _).alloc (Nat.le_refl _) _
        have hy : w2.heap[d]? = some (.cells #[.string (mk R.name), .int .u16 R.kind, .int .u16 R.cls, .int .u32 R.ttl, .slice A1 R.names.length c1, .slice A2 R.nums.length c2, .slice A3 R.texts.length c3] 60 (0, 0)) := by rw [← hw2, ← hd]; exact heap_alloc_new wr _
        have S2 : Hid (w2.heap.size = d + 1) := by show _ = _; rw [← hw2, ← hd]; simp
        have HY := Lib.hid hy
        have HD2 := Lib.hid (hD.out.keep n2)
        have HC2 : Hid (w2.cell? ⟨bk, 0, none⟩ = some (.int .u16 kk)) := (n2.cell (p := ⟨bk, 0, none⟩) (World.block_lt_of_cell? wr _ hC.out)).trans hC.out
        have HV2 : Hid (Below g w0 w2) := hV.out.trans (n2.mono HG.out)
        have HV12 : Hid (Below g w1 w2) := hV1.out.trans (n2.mono HG.out)
        have HW2 := Lib.hid hw2
        obtain ⟨q, hq⟩ : ∃ q, decide (R.kind = kk) = q := ⟨_, rfl⟩
        rw [hq] at HKS
        have HQ := Lib.hid hq
        clear hget hks hkk hR hzz e1 e2 e3 n2 hw2 hy hq hD hC hV hV1
        go_upto_region 8 with fail
        rw [HW2.out]
        clear hd p0 p1 p2 p3 p4 p5 p6
        have y0 := cell_of_row _ _ 0 _ _ _ HY.out
        have y1 := cell_of_row _ _ 1 _ _ _ HY.out
        have y2 := cell_of_row _ _ 2 _ _ _ HY.out
        have y3 := cell_of_row _ _ 3 _ _ _ HY.out
        have y4 := cell_of_row _ _ 4 _ _ _ HY.out
        have y5 := cell_of_row _ _ 5 _ _ _ HY.out
        have y6 := cell_of_row _ _ 6 _ _ _ HY.out
        go_wp2_with fail
        refine (of1_any _ _ _ _ A1 _ c1 A2 _ c2 A3 _ c3 bk kk q w2 HC2.out (World.block_lt_of_cell? w2 _ HC2.out) HQ).mono ?_
        rintro e w3 ⟨rfl, n3⟩
        have HD3 := Lib.hid (HD2.out.keep n3)
        have HC3 : Hid (w3.cell? ⟨bk, 0, none⟩ = some (.int .u16 kk)) := (n3.cell (p := ⟨bk, 0, none⟩) (World.block_lt_of_cell? w2 _ HC2.out)).trans HC2.out
        have HV3 : Hid (Below g w0 w3) := HV2.out.trans (n3.mono (Nat.le_trans HG1.out HV12.out.size))
        have HV13 : Hid (Below g w1 w3) := HV12.out.trans (n3.mono (Nat.le_trans HG1.out HV12.out.size))
        have hy3 := (n3.block d (by rw [S2.out]; omega)).trans HY.out
        clear n3 y0 y1 y2 y3 y4 y5 y6
        cases q with
        | true =>
          have hks := HKS.out
          rw [Bool.not_true, if_neg (by decide), List.append_nil] at hks
          have HK2 := Lib.hid hks
          clear hks hy3
          go_wp2_with fail
          go_roundw
          case rel => exact ⟨j + 1, F, by omega, by go_num, rfl, by omega, HD3.out.skip, HK2.out.symm, HC3, HV3, HV13⟩
          case measure => simp [intOf]; omega
        | false =>
          have hks := HKS.out
          rw [Bool.not_false, if_pos rfl] at hks
          have HK2 := Lib.hid hks
          have fn : F.length < n := by omega
          obtain ⟨x0, q0⟩ := HD3.out.cell (F.length * 7) (by omega)
          obtain ⟨x1, q1⟩ := HD3.out.cell (F.length * 7 + 1) (by omega)
          obtain ⟨x2, q2⟩ := HD3.out.cell (F.length * 7 + 2) (by omega)
          obtain ⟨x3, q3⟩ := HD3.out.cell (F.length * 7 + 3) (by omega)
          obtain ⟨x4, q4⟩ := HD3.out.cell (F.length * 7 + 4) (by omega)
          obtain ⟨x5, q5⟩ := HD3.out.cell (F.length * 7 + 5) (by omega)
          obtain ⟨x6, q6⟩ := HD3.out.cell (F.length * 7 + 6) (by omega)
          simp only [← Nat.add_assoc] at q0 q1 q2 q3 q4 q5 q6
          have qf := HD3.out.frozen
          have y0 := cell_of_row _ _ 0 _ _ _ hy3
          have y1 := cell_of_row _ _ 1 _ _ _ hy3
          have y2 := cell_of_row _ _ 2 _ _ _ hy3
          have y3 := cell_of_row _ _ 3 _ _ _ hy3
          have y4 := cell_of_row _ _ 4 _ _ _ hy3
          have y5 := cell_of_row _ _ 5 _ _ _ hy3
          have y6 := cell_of_row _ _ 6 _ _ _ hy3
          have hput := HD3.out.put hFj hlt zz _ _ _ _ _ _ _ HRV.out
          have HPUT := Lib.hid hput
          clear hks hput hy3
          go_wp2_with fail
          go_roundw
          case rel => exact ⟨j + 1, F ++ [zz], by omega, by go_num, by rw [List.length_append, List.length_singleton]; go_num, by rw [List.length_append, List.length_singleton]; omega, HPUT.out, HK2.out.symm, far_seven HC3.out hne, below_sevenk HV3.out hg _ _ _ _ _ _ _ _, below_sevenk HV13.out hg _ _ _ _ _ _ _ _⟩
          case measure => simp [intOf]; omega
      · have hjn : j = n := by omega
        have hFe := hF.out
        rw [List.take_of_length_le (by rw [HN.out]; omega)] at hFe
        have HFE := Lib.hid hFe
        have hjn2 : ¬ ((j : Int) < (n : Int)) := by omega
        have fn : F.length ≤ n := by omega
        have fc : F.length ≤ cap := by omega
        obtain ⟨ds, hrun, hdone⟩ := hD.out.cleared (by omega) 0 (cap - F.length)
        have HDONE := Lib.hid hdone
        clear hFe hdone hF
        go_wp2_with fail
        go_ret
        refine ⟨F, ⟨cap, rfl⟩, HFE.out, HDONE.out.done _ ?_, below_setRow hV.out hg⟩
        obtain ⟨cs, hb, _⟩ := HDONE.out.blk
        exact (Array.getElem?_eq_some_iff.1 hb).1
end Go.Proofs.Ytpmmjmnleoicjaa

/- The contracts of query's leastOfNone and Least. For messages that can be gone through. -/
namespace Go.Proofs.Ytpmmjmnleoicjaa
open Go.RowKit Bytes Strs Nums NameMath MsgMath RecMath WrMath QrMath

theorem firstR_cases (k : Nat) (L : List Rec) : firstR k L = zeroR ∨ firstR k L ∈ L := by
  induction L with
  | nil => exact .inl rfl
  | cons R L ih =>
    unfold firstR
    split
    · exact .inr (List.mem_cons_self ..)
    · rcases ih with h | h
      · exact .inl h
      · exact .inr (List.mem_cons_of_mem _ h)
set_option maxHeartbeats 4000000 in
set_option maxRecDepth 100000 in
theorem leastOfNone_w (M : Msg) (Aq Aa An Ax : Option Addr) (nq na nn nx cq ca cn cx B : Nat) (Za Zn Zx : List RecZ) (T : Nat) (w : World) (hv : Hid (MsgV w B M Aq Aa An Ax nq na nn nx ca cn cx Za Zn Zx)) (hB : B ≤ w.heap.size) (hf : Hid (QM M)) (hT : Hid (noneM M = T)) :
    Calls Try.prog 71 #[.agg (msgA M.id M.flags Aq nq cq Aa na ca An nn cn Ax nx cx)] w fun e w' => e = .returned (.int .u32 T) ∧ Below w.heap.size w w' := by
  obtain ⟨id, hid⟩ : ∃ n, M.id = n := ⟨_, rfl⟩
  obtain ⟨fl, hfl⟩ : ∃ n, M.flags = n := ⟨_, rfl⟩
  obtain ⟨g, hg⟩ : ∃ g, w.heap.size = g := ⟨_, rfl⟩
  rw [hid, hfl, hg]
  rw [hg] at hB
  obtain ⟨wa, hwa⟩ : ∃ wa, w.alloc (.cells (msgA id fl Aq nq cq Aa na ca An nn cn Ax nx cx) 26) = wa := ⟨_, rfl⟩
  have hsa : wa.heap.size = g + 1 := by rw [← hwa, ← hg]; simp
  have HA : Hid (Below g w wa) := by rw [← hwa, ← hg]; exact (Below.refl _ _).alloc (Nat.le_refl _) _
  have hx : wa.heap[g]? = some (.cells (msgA id fl Aq nq cq Aa na ca An nn cn Ax nx cx) 26 (0, 0)) := by rw [← hwa, ← hg]; exact heap_alloc_new w _
  have k4 := cell_of_row _ _ 4 _ _ _ hx
  obtain ⟨R, hR⟩ : ∃ R, firstR 6 M.ns = R := ⟨_, rfl⟩
  have hrn := hv.out.rows.2.1
  have HFI := Lib.hid (first_is An cn nn 6 B Zn M.ns R wa (hv.out.at_.n.on (HA.out.mono hB) (Nat.le_refl _)) (hv.out.at_.zn.on (HA.out.mono hB) (Nat.le_refl _)) hv.out.at_.en hrn.2.1 (by have := hf.out.few.nn; have := hv.out.en; omega) (by omega) hR)
  have hRb : R.ttl ≤ 4294967295 ∧ ∀ k, k < R.nums.length → R.nums.getD k 0 ≤ 4294967295 := by
    rcases firstR_cases 6 M.ns with h | h
    · rw [hR] at h
      subst h
      exact ⟨by decide, fun k hk => absurd hk (Nat.not_lt_zero _)⟩
    · rw [hR] at h
      have hh := hf.out.recs R (by unfold recsM; exact List.mem_append_left _ (List.mem_append_right _ h))
      exact ⟨hh.2.2.2, hh.1.u2⟩
  have hT' : (if R.nums.length ≠ 5 then 0 else min R.ttl (R.nums.getD 4 0)) = T := by rw [← hR]; exact hT.out
  have HSH := Lib.hid (fun w => shape_is 6 2 5 0 w rfl rfl rfl)
  clear hx hT hrn hR hid hfl
  go_enter Try.func71, Try.ntmps71
  go_wp2_with fail
  refine HFI.out.mono ?_
  rintro e w1 ⟨v, rfl, hRV, n1⟩
  obtain ⟨A1, c1, A2, c2, A3, c3, rfl, hat⟩ := hRV
  have K1 : Hid (Below (g + 1) wa w1) := by have h := n1; rw [hsa] at h; exact h
  have S1 : Hid (g + 1 ≤ w1.heap.size) := by have h := n1.size; rw [hsa] at h; exact h
  obtain ⟨d, hd⟩ : ∃ d, w1.heap.size = d := ⟨_, rfl⟩
  obtain ⟨w2, hw2⟩ : ∃ v, w1.alloc (.cells #[.string (mk R.name), .int .u16 R.kind, .int .u16 R.cls, .int .u32 R.ttl, .slice A1 R.names.length c1, .slice A2 R.nums.length c2, .slice A3 R.texts.length c3] 60) = v := ⟨_, rfl⟩
  have n2 : Below d w1 w2 := by rw [← hw2, ← hd]; exact (Below.refl _ _).alloc (Nat.le_refl _) _
  have hy : w2.heap[d]? = some (.cells #[.string (mk R.name), .int .u16 R.kind, .int .u16 R.cls, .int .u32 R.ttl, .slice A1 R.names.length c1, .slice A2 R.nums.length c2, .slice A3 R.texts.length c3] 60 (0, 0)) := by rw [← hw2, ← hd]; exact heap_alloc_new w1 _
  have gd : g + 1 ≤ d := by rw [← hd]; exact S1.out
  have K2 : Hid (Below (g + 1) wa w2) := K1.out.trans (n2.mono gd)
  have V2 : Hid (Below g w w2) := HA.out.trans (K2.out.mono (Nat.le_succ _))
  have HRD := Lib.hid (hat.rd2.on (n2.mono (show B ≤ d by omega)) (Nat.le_refl B))
  have y3 := cell_of_row _ _ 3 _ _ _ hy
  have y5 := cell_of_row _ _ 5 _ _ _ hy
  have HW2 := Lib.hid hw2
  clear n1 n2 hw2 hat k4 hwa HFI hy
  go_upto_region 2 with fail
  rw [HW2.out]
  clear hd
  go_wp2_with fail
  refine (HSH.out _).mono ?_
  rintro e w' ⟨rfl, rfl⟩
  obtain ⟨rt, hrt⟩ : ∃ t, R.ttl = t := ⟨_, rfl⟩
  obtain ⟨l2, hl2⟩ : ∃ t, R.nums.length = t := ⟨_, rfl⟩
  rw [hrt] at y3 hT' hRb
  rw [hl2] at y5 hT'
  by_cases h5 : l2 = 5
  · rw [if_neg (by omega)] at hT'
    subst h5
    obtain ⟨a, rfl, hab, hcell⟩ := HRD.out.get (k := 4) (by omega)
    have hx4 := hRb.2 4 (by omega)
    obtain ⟨x4, hx4e⟩ : ∃ x, R.nums.getD 4 0 = x := ⟨_, rfl⟩
    rw [hx4e] at hcell hT' hx4
    rw [show a.add 4 = ⟨a.block, a.off + 4, none⟩ from by simp [Addr.add]] at hcell
    have hr1 := hRb.1
    have hmin : min (rt : Int) (x4 : Int) = (T : Int) := by omega
    clear hT' hRb HRD hx4e hl2 hrt
    have hw4 : IntKind.i64.wrap 4 = 4 := by decide
    go_wp2_with fail
    go_quiet (fail)
    go_wp2_with fail
    go_ret
    exact ⟨by first | (rw [← hmin]; rfl) | rfl, ⟨V2.out.os, V2.out.tape, V2.out.output, V2.out.size, V2.out.block⟩⟩
  · rw [if_pos h5] at hT'
    subst hT'
    have f1 : ((l2 : Int) != 5) = true := bne_iff_ne.2 (by omega)
    clear hRb HRD hl2 hrt
    go_wp2_with fail
    go_ret
    exact ⟨rfl, V2.out⟩
theorem delRow_of {w : World} {base n : Nat} {v : Value} {Z : List RecZ} (h : w.ownsRow base 60 7 v n (recCs Z)) : (v = .slice none 0 0 ∧ n = 0 ∧ Z = []) ∨ ∃ b cap, v = .slice (some ⟨b, 0, none⟩) n cap ∧ base ≤ b ∧ b < w.heap.size ∧ n ≤ cap ∧ DelRow w b 0 n 0 [] Z := by
  obtain ⟨hl, h⟩ := h
  rw [recCs_len] at hl
  have hln : Z.length = n := by omega
  rcases h with ⟨rfl, rfl⟩ | ⟨b, cap, cur, rfl, hb, hh, hc, _, hs, ht⟩
  · exact .inl ⟨rfl, rfl, List.length_eq_zero_iff.1 hln⟩
  · refine .inr ⟨b, cap, rfl, hb, (Array.getElem?_eq_some_iff.1 hh).1, hc, ⟨⟨cur, hh, by rw [hs]; omega, fun u hu => by simp at hu, fun u _ hu => ?_⟩, Nat.le_refl _, hln⟩⟩
    rw [← ht, Nat.zero_add, List.getElem?_take_of_lt hu, Array.getElem?_toList]
theorem field_ttl (x : ByteArray) (k l t : Nat) (A1 : Option Addr) (n1 c1 : Nat) (A2 : Option Addr) (n2 c2 : Nat) (A3 : Option Addr) (n3 c3 : Nat) (w : World) : (Instr.field 60 (.agg (recA x k l t A1 n1 c1 A2 n2 c2 A3 n3 c3)) 3).run Try.prog w = .ok (.int .u32 t) w := by kernel_rfl
theorem del_none (bk : Nat) (w : World) (hc : w.cell? ⟨bk, 0, none⟩ = some (.int .u16 41)) :
    Calls Try.prog 72 #[.slice none 0 0, .func (.func 105) #[] #[.pointer (some ⟨bk, 0, none⟩)]] w fun e w' => e = .returned (.slice none 0 0) ∧ Below w.heap.size w w' := by
  have HI := Lib.hid (idxOf_is none 0 0 41 bk w.heap.size [] [] (-1) w (.inl rfl) (fun z hz => by cases hz) rfl rfl (by decide) hc (World.block_lt_of_cell? w _ hc) (Nat.le_refl _) rfl)
  clear hc
  go_enter Try.func72, Try.ntmps72
  go_wp2_with fail
  refine HI.out.mono ?_
  rintro e w1 ⟨rfl, n1⟩
  go_wp2_with fail
  go_ret
  exact ⟨rfl, n1⟩
set_option maxHeartbeats 4000000 in
set_option maxRecDepth 100000 in
theorem least_w (M : Msg) (Aq Aa An Ax : Option Addr) (nq na nn nx cq ca cn cx B : Nat) (Za Zn Zx : List RecZ) (T : Nat) (w : World) (hv : Hid (MsgV w B M Aq Aa An Ax nq na nn nx ca cn cx Za Zn Zx)) (hB : B ≤ w.heap.size) (hf : Hid (QM M)) (hT : Hid (leastM M = T)) :
    Calls Try.prog 31 #[.agg (msgA M.id M.flags Aq nq cq Aa na ca An nn cn Ax nx cx)] w fun e w' => e = .returned (.int .u32 T) ∧ Below w.heap.size w w' := by
  obtain ⟨id, hid⟩ : ∃ n, M.id = n := ⟨_, rfl⟩
  obtain ⟨fl, hfl⟩ : ∃ n, M.flags = n := ⟨_, rfl⟩
  obtain ⟨g, hg⟩ : ∃ g, w.heap.size = g := ⟨_, rfl⟩
  rw [hg] at hB
  obtain ⟨wa, hwa⟩ : ∃ wa, w.alloc (.cells (msgA id fl Aq nq cq Aa na ca An nn cn Ax nx cx) 26) = wa := ⟨_, rfl⟩
  have hsa : wa.heap.size = g + 1 := by rw [← hwa, ← hg]; simp
  have HA : Hid (Below g w wa) := by rw [← hwa, ← hg]; exact (Below.refl _ _).alloc (Nat.le_refl _) _
  have hx : wa.heap[g]? = some (.cells (msgA id fl Aq nq cq Aa na ca An nn cn Ax nx cx) 26 (0, 0)) := by rw [← hwa, ← hg]; exact heap_alloc_new w _
  have HX := Lib.hid hx
  obtain ⟨q, hq⟩ : ∃ q, negM M = q := ⟨_, rfl⟩
  have HNE := Lib.hid (negative_w M Aq Aa An Ax nq na nn nx cq ca cn cx B Za Zn Zx q wa (hv.out.on (HA.out.mono hB) (Nat.le_refl _)) (by omega) hf.out.few hq)
  have hT' := hT.out
  unfold leastM at hT'
  rw [hq] at hT'
  rw [hid, hfl] at HNE
  have k0 := cell_of_row _ _ 0 _ _ _ hx
  have k1 := cell_of_row _ _ 1 _ _ _ hx
  have k2 := cell_of_row _ _ 2 _ _ _ hx
  have k3 := cell_of_row _ _ 3 _ _ _ hx
  have k4 := cell_of_row _ _ 4 _ _ _ hx
  have k5 := cell_of_row _ _ 5 _ _ _ hx
  have HID := Lib.hid hid
  have HFL := Lib.hid hfl
  have HG := Lib.hid hg
  rw [hid, hfl, hg]
  clear hx hT hq hid hfl
  go_enter Try.func31, Try.ntmps31
  go_wp2_with fail
  refine HNE.out.mono ?_
  rintro e w1 ⟨rfl, n1⟩
  have K1 : Hid (Below (g + 1) wa w1) := by have h := n1; rw [hsa] at h; exact h
  have V1 : Hid (Below g w w1) := HA.out.trans (K1.out.mono (Nat.le_succ _))
  have S1 : Hid (g + 1 ≤ w1.heap.size) := by have h := n1.size; rw [hsa] at h; exact h
  have hx1 := (K1.out.block g (Nat.lt_succ_self g)).trans HX.out
  clear n1 k0 k1 k2 k3 k4 k5 HNE
  have k0 := cell_of_row _ _ 0 _ _ _ hx1
  have k1 := cell_of_row _ _ 1 _ _ _ hx1
  have k2 := cell_of_row _ _ 2 _ _ _ hx1
  have k3 := cell_of_row _ _ 3 _ _ _ hx1
  have k4 := cell_of_row _ _ 4 _ _ _ hx1
  have k5 := cell_of_row _ _ 5 _ _ _ hx1
  clear hx1 hwa hsa hg
  cases q with
  | true =>
    rw [if_pos rfl] at hT'
    have HLN := Lib.hid (leastOfNone_w M Aq Aa An Ax nq na nn nx cq ca cn cx B Za Zn Zx T w1 (hv.out.on (V1.out.mono hB) (Nat.le_refl _)) (by have := S1.out; omega) hf hT')
    rw [HID.out, HFL.out] at HLN
    clear hT'
    go_wp2_with fail
    refine HLN.out.mono ?_
    rintro e w2 ⟨rfl, n2⟩
    have V2 : Hid (Below g w w2) := V1.out.trans (n2.mono (by have := S1.out; omega))
    clear n2 k0 k1 k2 k3 k4 k5
    go_wp2_with fail
    go_ret
    exact ⟨rfl, V2.out⟩
  | false =>
    rw [if_neg (by decide)] at hT'
    have HT := Lib.hid hT'
    have hrw := hv.out.rows
    have hall := hv.out.all
    obtain ⟨ZZ, hZZ⟩ : ∃ Z, Za ++ Zn ++ Zx = Z := ⟨_, rfl⟩
    obtain ⟨nz, hnz⟩ : ∃ n, na + nn + nx = n := ⟨_, rfl⟩
    have hb := hf.out.few
    have hbn : na ≤ 1000 ∧ nn ≤ 1000 ∧ nx ≤ 1000 := ⟨by rw [← hv.out.ea]; exact hb.na, by rw [← hv.out.en]; exact hb.nn, by rw [← hv.out.ex]; exact hb.nx⟩
    obtain ⟨w2, hw2⟩ : ∃ v, w1.alloc (.cells #[.slice Aa na ca, .slice An nn cn, .slice Ax nx cx] 24) = v := ⟨_, rfl⟩
    obtain ⟨d, hd⟩ : ∃ d, w1.heap.size = d := ⟨_, rfl⟩
    have n2 : Below d w1 w2 := by rw [← hw2, ← hd]; exact (Below.refl _ _).alloc (Nat.le_refl _) _
    have hy : w2.heap[d]? = some (.cells #[.slice Aa na ca, .slice An nn cn, .slice Ax nx cx] 24 (0, 0)) := by rw [← hw2, ← hd]; exact heap_alloc_new w1 _
    have gd : g + 1 ≤ d := by rw [← hd]; exact S1.out
    have V2 : Hid (Below g w w2) := V1.out.trans (n2.mono (by omega))
    have S2 : Hid (g + 1 ≤ w2.heap.size) := by show _ ≤ _; rw [← hw2]; simp; omega
    have HCC := Lib.hid (concat_any Aa An Ax na nn nx ca cn cx d B Za Zn Zx w2 hy (by have := S2.out; omega)
      ⟨hrw.1.1.on (V2.out.mono hB) (Nat.le_refl _), hrw.1.2⟩ ⟨hrw.2.1.1.on (V2.out.mono hB) (Nat.le_refl _), hrw.2.1.2⟩ ⟨hrw.2.2.1.on (V2.out.mono hB) (Nat.le_refl _), hrw.2.2.2⟩ (by omega) (by omega) (by omega))
    rw [hZZ] at hall HCC
    rw [hnz] at hall HCC
    have HALL := Lib.hid hall
    clear hT' hrw hall hb n2 hy hZZ
    go_wp2_with fail
    refine HCC.out.mono ?_
    rintro e w3 ⟨v, rfl, hO, n3⟩
    have V3 : Hid (Below g w w3) := V2.out.trans (n3.mono (by have := S2.out; omega))
    have S3 : Hid (g + 1 ≤ w3.heap.size) := Nat.le_trans S2.out n3.size
    have hcase := delRow_of hO
    have HS23 := Lib.hid n3.size
    clear n3 hO HCC k0 k1 k2 k3 k4 k5 hw2 hd
    rcases hcase with ⟨rfl, hn0, hZ0⟩ | ⟨b, cap, rfl, hbb, hbl, hcp, hdr⟩
    · go_wp2_with fail
      refine (of_any 41 _).mono ?_
      rintro e w4 ⟨bk, rfl, hbc, hb1, hb2, n4⟩
      have V4 : Hid (Below g w w4) := V3.out.trans (n4.mono (by have := S3.out; omega))
      have S4 : Hid (g + 1 ≤ w4.heap.size) := Nat.le_trans S3.out n4.size
      have HBC := Lib.hid hbc
      clear n4 hbc
      go_wp2_with fail
      refine (del_none bk _ HBC.out).mono ?_
      rintro e w5 ⟨rfl, n5⟩
      have V5 : Hid (Below g w w5) := V4.out.trans (n5.mono (by have := S4.out; omega))
      obtain rfl : T = 0 := by
        rw [← HT.out, ← HALL.out.1, hZ0]
        rfl
      clear n5
      go_wp2_with fail
      go_ret
      exact ⟨rfl, V5.out⟩
    · have HDR := Lib.hid hdr
      clear hdr
      go_wp2_with fail
      refine (of_any 41 _).mono ?_
      rintro e w4 ⟨bk, rfl, hbc, hb1, hb2, n4⟩
      have V4 : Hid (Below g w w4) := V3.out.trans (n4.mono (by have := S3.out; omega))
      have S4 : Hid (g + 1 ≤ w4.heap.size) := Nat.le_trans S3.out n4.size
      have HBC := Lib.hid hbc
      have HDR4 := Lib.hid (HDR.out.keep n4)
      have hne : bk ≠ b := by omega
      have hgb : g ≤ b := by have := S2.out; omega
      have HZ4 : Hid (ZAt w4 B ZZ) := HALL.out.2.1.on (V4.out.mono hB) (Nat.le_refl _)
      clear n4 hbc HDR
      go_wp2_with fail
      refine (del_is b 0 nz cap 41 bk g B ZZ (recsM M) w w4 HDR4.out HZ4.out HALL.out.1 (by omega) hcp HBC.out hne hgb hB (by have := S4.out; omega) V4.out).mono ?_
      rintro e w5 ⟨F, c', rfl, hF, hCF, n5⟩
      have V5 : Hid (Below g w w5) := n5
      have HCF := Lib.hid hCF
      have HFM : Hid (F.map (·.1) = (recsM M).filter fun R => decide (R.kind ≠ 41)) := by show _ = _; rw [hF, keep_map, HALL.out.1]
      have HTT : Hid (leastL (F.map (·.1)) = T) := by show _ = _; rw [HFM.out]; exact HT.out
      have S5 : Hid (g ≤ w5.heap.size) := by have h := V5.out.size; rw [HG.out] at h; exact h
      have HZ5 : Hid (ZAt w5 w5.heap.size F) := by
        have h := HALL.out.2.1.on (V5.out.mono hB) (show B ≤ w5.heap.size by have := S5.out; omega)
        show ZAt _ _ _
        rw [hF]
        exact fun z hz => h z ((List.mem_filter.1 hz).1)
      have hFl : F.length ≤ 3000 := by
        rw [hF]
        refine Nat.le_trans (List.length_filter_le _ _) ?_
        rw [HALL.out.2.2]
        omega
      clear n5 hCF hF
      obtain ⟨m, hm⟩ : ∃ m, F.length = m := ⟨_, rfl⟩
      by_cases h0 : m = 0
      · obtain rfl : T = 0 := by
          rw [← HTT.out, List.length_eq_zero_iff.1 (hm.trans h0)]
          rfl
        subst h0
        rw [hm]
        go_wp2_with fail
        go_ret
        exact ⟨rfl, V5.out⟩
      · rw [hm] at hFl ⊢
        have hm0 : 0 < m := by omega
        have f0 : ((m : Int) == 0) = false := beq_eq_false_iff_ne.2 (by omega)
        obtain ⟨LF, hLF⟩ : ∃ L, F.map (·.1) = L := ⟨_, rfl⟩
        have HTL : Hid (leastL LF = T) := by show _ = _; rw [← hLF]; exact HTT.out
        have HMI := Lib.hid (min_is (some ⟨b, 0, none⟩) c' m w5.heap.size F LF T w5 HCF.out HZ5.out hLF hm (by omega) hm0 (Nat.le_refl _) HTL)
        clear hm h0 hLF
        go_wp2_with fail
        refine HMI.out.mono ?_
        rintro e w6 ⟨⟨x, k, l, A1, n1, c1, A2, n2, c2, A3, n3, c3, rfl⟩, n6⟩
        have V6 : Hid (Below g w w6) := V5.out.trans (n6.mono S5.out)
        have hfd := field_ttl x k l T A1 n1 c1 A2 n2 c2 A3 n3 c3 w6
        clear n6
        go_wp2_with fail
        go_ret
        exact ⟨rfl, V6.out⟩
end Go.Proofs.Ytpmmjmnleoicjaa
