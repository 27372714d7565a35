/- The document's Initial of layer 17. For up to 1000 streams, windows not below -10^12. -/
import Derived.Test.YtieicfobhgfonaaProg
import Derived.Test.YtieicfobhgfonaaWiMath
import Derived.Test.YtieicfobhgfonaaWiRef
import Derived.Test.YtieicfobhgfonaaWiDrop
import Derived.Test.YtieicfobhgfonaaWiPut
import Derived.Test.YtieicfobhgfonaaWiOpen
import Derived.Test.YtieicfobhgfonaaWiGrow
import Derived.WalkKit
import Derived.Lib.Hide
import Derived.OwnWalk
import Derived.Below
import Derived.Laws.Rows
import Derived.Outline
import Derived.IntWalk
import Derived.WalkSpells
import Derived.WalkLawsBesides
import Derived.LoopTactic
import Derived.Deep.RegionHeld3
import Derived.Deep.AppendLies
import Derived.Deep.CutRange
namespace Go.Proofs.Ytieicfobhgfonaa
open Go Go.RowKit Wi

namespace Wi
theorem take_one {L : List (Nat × Int)} {k : Nat} (hk : k < L.length) : L.take (k + 1) = L.take k ++ [rwAt L k] := by
  have e : rwAt L k = L[k] := by
    unfold rwAt
    rw [List.getD_eq_getElem?_getD, List.getElem?_eq_getElem hk]
    rfl
  rw [List.take_succ_eq_append_getElem hk, ← e]
theorem shift_step {L : List (Nat × Int)} {k : Nat} (d : Int) (hk : k < L.length) : shiftR (L.take (k + 1)) d = shiftR (L.take k) d ++ [((rwAt L k).1, (rwAt L k).2 + d)] := by
  rw [take_one hk]
  unfold shiftR
  rw [List.map_append]
  rfl
theorem over_step {L : List (Nat × Int)} {k : Nat} (d : Int) (hk : k < L.length) : overR (L.take (k + 1)) d = (overR (L.take k) d || decide (mostW < (rwAt L k).2 + d)) := by
  rw [take_one hk]
  unfold overR
  rw [List.any_append]
  simp
theorem over_of {L : List (Nat × Int)} {k : Nat} (d : Int) (hk : k < L.length) (h : mostW < (rwAt L k).2 + d) : overR L d = true := by
  have e : rwAt L k = L[k] := by
    unfold rwAt
    rw [List.getD_eq_getElem?_getD, List.getElem?_eq_getElem hk]
    rfl
  unfold overR
  rw [List.any_eq_true]
  exact ⟨L[k], List.getElem_mem hk, by rw [← e]; exact decide_eq_true h⟩
theorem rwAt_mem {L : List (Nat × Int)} {k : Nat} (hk : k < L.length) : rwAt L k ∈ L := by
  have e : rwAt L k = L[k] := by
    unfold rwAt
    rw [List.getD_eq_getElem?_getD, List.getElem?_eq_getElem hk]
    rfl
  rw [e]
  exact List.getElem_mem hk
theorem shift_len (L : List (Nat × Int)) (d : Int) : (shiftR L d).length = L.length := List.length_map ..
end Wi
set_option maxHeartbeats 8000000 in
set_option maxRecDepth 100000 in
theorem xinit_is (K : Int) (B B' : Bk) (A : Option Addr) (n c k0 t : Nat) (w : World) (hn : Hid (B.rows.length = n)) (hnb : n ≤ 999) (hA : Hid (RdW w w.heap.size A B.rows)) (hI : Hid (Inv K B)) (hKb : K ≤ 1000000000000) (hk : k0 < 4294967296) (hr : Hid (initB B k0 = (B', t))) :
    Calls Try.prog 21 #[bkV B A n c, .int .u32 (k0 : Int)] w fun e w' => ∃ (A2 : Option Addr) (m c2 : Nat), e = .returned (.tuple #[bkV B' A2 m c2, .int .i64 (t : Int)]) ∧ Hid (Bks w w' B' A2 m) := by
  have hf0 := hI.out.f0
  have hf1 := hI.out.f1
  unfold mostW at hf1
  have HV := Lib.hid (fun k (h : k < B.rows.length) => (⟨hI.out.low _ (rwAt_mem h), hI.out.top _ (rwAt_mem h)⟩ : -K ≤ (rwAt B.rows k).2 ∧ (rwAt B.rows k).2 ≤ mostW))
  obtain ⟨cn, fi, L⟩ := B
  have hf0 : 0 ≤ fi := hf0
  have hf1 : fi ≤ 2147483647 := hf1
  obtain ⟨hX, hY, hB2, hs2⟩ := two_boxes w cn fi (.slice A n c)
  obtain ⟨W2, hW2⟩ : ∃ W2, (w.alloc (.cells #[.int .i64 cn, .int .i64 fi, .slice A n c] 28)).alloc (.cells #[.int .i64 0, .int .i64 0, .slice none 0 0] 28) = W2 := ⟨_, rfl⟩
  rw [hW2] at hX hY hB2 hs2
  obtain ⟨g, hg⟩ : ∃ g, w.heap.size = g := ⟨_, rfl⟩
  rw [hg] at hX hY hB2 hs2
  have HR2 : Hid (RdW W2 g A L) := Lib.hid (by rw [← hg]; exact hA.out.on (by rw [hg]; exact hB2) (Nat.le_refl _))
  have HX := Lib.hid hX
  have HY := Lib.hid hY
  have HB2 := Lib.hid hB2
  have HS2 := Lib.hid hs2
  have HW2 := Lib.hid hW2
  have G := Lib.hid hg
  have HN := Lib.hid (show L.length = n from hn.out)
  clear hX hY hB2 hs2 hW2 hn
  unfold bkV
  obtain ⟨x0, x1, x2⟩ := HX.out.cells
  obtain ⟨e0, e1, e2⟩ := HY.out.cells
  have q0 := HY.out.frz 0
  have q1 := HY.out.frz 1
  have q2 := HY.out.frz 2
  have nothing : ∀ V : World, Below (g + 2) W2 V → ∃ F, putK V (g + 1) cn fi (.slice A n c) = F ∧ (F.cell? ⟨g + 1, 0, none⟩ = some (.int .i64 cn) ∧ F.cell? ⟨g + 1, 1, none⟩ = some (.int .i64 fi) ∧ F.cell? ⟨g + 1, 2, none⟩ = some (.slice A n c)) ∧ Bks w F ⟨cn, fi, L⟩ A n := fun V hV => by
    have hb := HB2.out.trans (hV.mono (Nat.le_add_right g 2))
    have hy : BoxK V (g + 1) 0 0 (.slice none 0 0) := (hV.block (g + 1) (by omega)).trans HY.out
    exact laid (B := ⟨cn, fi, L⟩) hy G.out (Nat.le_succ g) hb HN.out (RdW.into (X := g + 1) (cn := cn) (fi := fi) (v := .slice A n c) G.out hA.out hb (Nat.le_succ g))
  have HNO := Lib.hid nothing
  clear nothing
  have hrr := hr.out
  unfold initB at hrr
  go_enter Try.func21, Try.ntmps21
  go_upto_region 1 with fail
  rw [HW2.out]
  clear hg
  by_cases hbig : mostW < (k0 : Int)
  · rw [if_pos hbig] at hrr
    injection hrr with hrB hrt
    subst hrB hrt
    unfold mostW at hbig
    obtain ⟨F, hF, hk3, hE⟩ := HNO.out W2 (Below.refl _ _)
    unfold putK at hF
    have HF := Lib.hid hF
    have HE := Lib.hid hE
    have HK3 := Lib.hid hk3
    clear hF hE hk3 HNO
    go_wp2_with fail
    rw [HF.out]
    obtain ⟨k0', k1, k2⟩ := HK3.out
    refine bodyPost_ret (v := .tuple #[.agg #[.int .i64 cn, .int .i64 fi, .slice A n c], .int .i64 3]) (by simp [results, Try.results21, go_sem, k0', k1, k2]) rfl ⟨A, n, ⟨c, rfl⟩, HE⟩
  rw [if_neg hbig] at hrr
  unfold mostW at hbig
  obtain ⟨d, hd⟩ : ∃ d, (k0 : Int) - fi = d := ⟨_, rfl⟩
  have hrr : (if overR L ((k0 : Int) - fi) = true then ((⟨cn, fi, L⟩ : Bk), 3) else (⟨cn, k0, shiftR L ((k0 : Int) - fi)⟩, 0)) = (B', t) := hrr
  rw [hd] at hrr
  have HRR := Lib.hid hrr
  have hd0 : -2147483647 ≤ d := by omega
  have hd1 : d ≤ 2147483647 := by omega
  clear hrr
  obtain ⟨i0, hi, hz0, hz1, hz2⟩ := info_parts infoW
  have HI := Lib.hid hi
  have HZ0 := Lib.hid hz0
  have HZ1 := Lib.hid hz1
  have HZ2 := Lib.hid hz2
  clear hi hz0 hz1 hz2
  go_upto_region 5 with fail
  have HD := Lib.hid hd
  clear hd hf0 hf1 hbig
  go_wp2_with fail
  go_loopw [7, 8] (fun l i wr => ∃ k : Nat, k ≤ n ∧ i = .int .i64 (k : Int) ∧ Hid (overR (L.take k) d = false) ∧ Hid (wr.ownsRow (g + 2) 60 2 l k (rwCs (shiftR (L.take k) d))) ∧ Hid (Below (g + 2) W2 wr)) (fun _ i _ => n - (intOf i).toNat)
  case atStart => exact ⟨0, Nat.zero_le _, rfl, Lib.hid rfl, Lib.hid ⟨rfl, .inl ⟨rfl, rfl⟩⟩, Lib.hid (Below.refl _ _)⟩
  case round =>
    obtain ⟨k, hk, rfl, hov, hO, hBw⟩ := hrel
    have hgw : Hid (g + 2 ≤ wr.heap.size) := Lib.hid (by have := hBw.out.size; have := HS2.out; omega)
    have hx : BoxK wr g cn fi (.slice A n c) := (hBw.out.block g (by omega)).trans HX.out
    have HXw := Lib.hid hx
    obtain ⟨c0, c1, c2⟩ := hx.cells
    clear hx x0 x1 x2 e0 e1 e2 q0 q1 q2
    have hy : BoxK wr (g + 1) 0 0 (.slice none 0 0) := (hBw.out.block (g + 1) (by omega)).trans HY.out
    have HYw := Lib.hid hy
    clear hy
    by_cases hlt : k < n
    · have hki : (k : Int) < (n : Int) := by omega
      have hk0 : (0 : Int) ≤ (k : Int) := by omega
      have hkl : k < L.length := by rw [HN.out]; exact hlt
      obtain ⟨b0, off, rfl, hb0, d0, d1⟩ := HR2.out.1 k hkl
      have HD0 := Lib.hid d0
      have HD1 := Lib.hid d1
      have d0 := (hBw.out.cell (p := ⟨b0, off + k * 2, none⟩) (by show b0 < g + 2; omega)).trans d0
      have d1 := (hBw.out.cell (p := ⟨b0, off + k * 2 + 1, none⟩) (by show b0 < g + 2; omega)).trans d1
      have hst := shift_step d hkl
      have hov2 := over_step d hkl
      have hofk := fun h => over_of (L := L) (k := k) d hkl h
      obtain ⟨hv0, hv1⟩ := HV.out k hkl
      have hv0 : -K ≤ (rwAt L k).2 := hv0
      have hv1 : (rwAt L k).2 ≤ mostW := hv1
      obtain ⟨⟨x, y⟩, hxy⟩ : ∃ z, rwAt L k = z := ⟨_, rfl⟩
      rw [hxy] at d0 d1 hst hov2 hofk hv0 hv1 HD0 HD1
      have HD0 : Hid (W2.cell? ⟨b0, off + k * 2, none⟩ = some (.int .u32 (x : Int))) := HD0
      have HD1 : Hid (W2.cell? ⟨b0, off + k * 2 + 1, none⟩ = some (.int .i64 y)) := HD1
      have d0 : wr.cell? ⟨b0, off + k * 2, none⟩ = some (.int .u32 (x : Int)) := d0
      have d1 : wr.cell? ⟨b0, off + k * 2 + 1, none⟩ = some (.int .i64 y) := d1
      have hv0 : -K ≤ y := hv0
      have hv1 : y ≤ mostW := hv1
      unfold mostW at hv1
      have hst : shiftR (L.take (k + 1)) d = shiftR (L.take k) d ++ [(x, y + d)] := hst
      have hov2 : overR (L.take (k + 1)) d = (overR (L.take k) d || decide (mostW < y + d)) := hov2
      have hofk : mostW < y + d → overR L d = true := hofk
      rw [hov.out, Bool.false_or] at hov2
      clear hxy hkl
      by_cases hm : mostW < y + d
      · have hrr := HRR.out
        rw [if_pos (hofk hm)] at hrr
        injection hrr with hrB hrt
        subst hrB hrt
        unfold mostW at hm
        obtain ⟨e0, e1, e2⟩ := HYw.out.cells
        have q0 := HYw.out.frz 0
        have q1 := HYw.out.frz 1
        have q2 := HYw.out.frz 2
        obtain ⟨F, hF, hk3, hE⟩ := HNO.out wr hBw.out
        unfold putK at hF
        have HF := Lib.hid hF
        have HE := Lib.hid hE
        have HK3 := Lib.hid hk3
        clear hF hE hk3 HNO hst hov2 hofk
        go_wp2_with fail
        rw [HF.out]
        obtain ⟨k0', k1, k2⟩ := HK3.out
        refine bodyPost_ret (v := .tuple #[.agg #[.int .i64 cn, .int .i64 fi, .slice (some ⟨b0, off, none⟩) n c], .int .i64 3]) (by simp [results, Try.results21, go_sem, k0', k1, k2]) rfl ⟨some ⟨b0, off, none⟩, n, ⟨c, rfl⟩, HE⟩
      · rw [decide_eq_false hm] at hov2
        unfold mostW at hm
        have HOV := Lib.hid hov2
        have HST := Lib.hid hst
        clear hst hov2 hofk
        have C2 : W2.cell? ⟨g, 2, none⟩ = some (.slice (some ⟨b0, off, none⟩) n c) := HX.out.cells.2.2
        have D0 := HD0.out
        have D1 := HD1.out
        have HC2 := Lib.hid C2
        have HKP : Hid (∀ V : World, Below (g + 2) W2 V → V.cell? ⟨g, 2, none⟩ = some (.slice (some ⟨b0, off, none⟩) n c) ∧ V.cell? ⟨b0, off + k * 2, none⟩ = some (.int .u32 (x : Int)) ∧ V.cell? ⟨b0, off + k * 2 + 1, none⟩ = some (.int .i64 y)) := Lib.hid (fun V h => ⟨(h.cell (p := ⟨g, 2, none⟩) (by show g < g + 2; omega)).trans C2, (h.cell (p := ⟨b0, off + k * 2, none⟩) (by show b0 < g + 2; omega)).trans D0, (h.cell (p := ⟨b0, off + k * 2 + 1, none⟩) (by show b0 < g + 2; omega)).trans D1⟩)
        clear C2 D0 D1
        have hgs := hgw.out
        have hwr : IntKind.i64.wrap (y + d) = y + d := by rw [IntKind.wrap_i64]; omega
        go_upto_region 10 with fail
        go_region_held3 (fun V => V.cell? ⟨g, 2, none⟩ = some (.slice (some ⟨b0, off, none⟩) n c) ∧ V.cell? ⟨b0, off + k * 2, none⟩ = some (.int .u32 (x : Int)) ∧ V.cell? ⟨b0, off + k * 2 + 1, none⟩ = some (.int .i64 y))
          (first
            | go_keep
            | exact HKP.out _ (((hBw.out.alloc hgw.out _).drew).grown hgrow (by have := hgw.out; simp; omega) (fun j hj => (hO.out.lt j hj).1)))
          ((refine step_append_lies _ (by rfl) _ _ _ (by rfl) (g + 2) 60 i0 _ 2 16 Try.underlying26 HI.out HZ0.out HZ1.out HZ2.out rfl (by omega) _ k (rwCs (shiftR (L.take k) d)) (by rfl) ((hO.out.alloc _).drew) ⟨wr.heap.size, 0, none⟩ 1 1 (rwCs [(x, y + d)]) (by rfl) (by rfl) (World.news_of_block (cs := #[.int .u32 (x : Int), .int .i64 (y + d)]) (t := 60) (fr := (0, 0)) (heap_alloc_new wr _)) rwCs_one (by omega) (by unfold maxLen; omega) (by omega) (by simp; omega) (wr.heap.size + 1) (by simp) ?_; intro gg cap w3 hown hgrow hat hlt2))
        rw [← rwCs_cat, ← HST.out] at hown
        have HO3 := Lib.hid hown
        have HB3 := Lib.hid (((hBw.out.alloc hgw.out _).drew).grown hgrow (by have := hgw.out; simp; omega) (fun j hj => (hO.out.lt j hj).1))
        clear hown hgrow hat hlt2
        go_wp2_with fail
        go_roundw
        case rel => exact ⟨k + 1, by omega, by go_num, HOV, HO3, HB3⟩
        case measure => simp [intOf]; omega
    · have hnk : ¬ ((k : Int) < (n : Int)) := by omega
      have hkn : k = n := by omega
      have hO2 := hO.out
      have hov2 := hov.out
      rw [show L.take k = L from by rw [show k = L.length by rw [HN.out]; exact hkn]; exact List.take_length] at hO2 hov2
      have hrr := HRR.out
      rw [hov2, if_neg (by decide)] at hrr
      injection hrr with hrB hrt
      subst hrB hrt
      have hlen : (shiftR L d).length = k := by rw [shift_len, HN.out]; exact hkn.symm
      obtain ⟨A2, c3, rfl, _⟩ := own_rdw hO2 hlen
      obtain ⟨V, hV⟩ : ∃ V, (wr.setCell ⟨g, 2, none⟩ (.slice A2 k c3)).setCell ⟨g, 1, none⟩ (.int .i64 (k0 : Int)) = V := ⟨_, rfl⟩
      have oth : ∀ j, j ≠ g → V.heap[j]? = wr.heap[j]? := fun j hj => by rw [← hV, Below.heap_setCell _ ⟨g, 1, none⟩ _ j hj, Below.heap_setCell _ ⟨g, 2, none⟩ _ j hj]
      have hXV : BoxK V g cn k0 (.slice A2 k c3) := by
        rw [← hV]
        have hx := HXw.out
        unfold BoxK at hx ⊢
        simp [World.setCell, Array.getElem?_modify, hx]
      have hYV : BoxK V (g + 1) 0 0 (.slice none 0 0) := (oth (g + 1) (by omega)).trans HYw.out
      have hBV : Below g w V := by
        rw [← hV]
        exact (((HB2.out.trans (hBw.out.mono (Nat.le_add_right g 2))).setCell (p := ⟨g, 2, none⟩) (Nat.le_refl _) _).setCell (p := ⟨g, 1, none⟩) (Nat.le_refl _) _)
      obtain ⟨F, hF, hk3, hE⟩ := laid (w := w) (V := V) (X := g + 1) (v := .slice A2 k c3) (cn := cn) (fi := (k0 : Int)) (B := ⟨cn, k0, shiftR L d⟩) (A := A2) (m := k) hYV G.out (Nat.le_succ g) hBV hlen (by
        have hOF := own_sets_low (g' := g + 2) (w' := putK V (g + 1) cn (k0 : Int) (.slice A2 k c3)) hO2 (Nat.le_refl _) (fun j hj => (putK_other (by omega)).trans (oth j (by omega)))
        exact rdw_own hOF hlen)
      unfold putK at hF
      have HF := Lib.hid hF
      have HE := Lib.hid hE
      have HK3 := Lib.hid hk3
      have HVV := Lib.hid hV
      have z1 := HXw.out.frz 1
      have z2 := HXw.out.frz 2
      have HXV := Lib.hid hXV
      have HYV := Lib.hid hYV
      clear hF hE hk3 hV oth hXV hYV hBV hO2 hov2 HNO hlen
      clear hkn
      go_upto_region 13 with fail
      rw [HVV.out]
      clear c0 c1 c2 z1 z2
      obtain ⟨c0, c1, c2⟩ := HXV.out.cells
      obtain ⟨e0, e1, e2⟩ := HYV.out.cells
      have q0 := HYV.out.frz 0
      have q1 := HYV.out.frz 1
      have q2 := HYV.out.frz 2
      go_wp2_with fail
      rw [HF.out]
      obtain ⟨k0', k1, k2⟩ := HK3.out
      refine bodyPost_ret (v := .tuple #[.agg #[.int .i64 cn, .int .i64 (k0 : Int), .slice A2 k c3], .int .i64 0]) (by simp [results, Try.results21, go_sem, k0', k1, k2]) rfl ⟨A2, k, ⟨c3, rfl⟩, HE⟩
end Go.Proofs.Ytieicfobhgfonaa
