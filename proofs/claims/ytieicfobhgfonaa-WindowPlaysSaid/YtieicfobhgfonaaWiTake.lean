/- The document's Take of layer 17. For up to 999 streams, windows not below -10^12. Printed by genwitake.py. -/
import Derived.Test.YtieicfobhgfonaaProg
import Derived.Test.YtieicfobhgfonaaWiMath
import Derived.Test.YtieicfobhgfonaaWiRef
import Derived.Test.YtieicfobhgfonaaWiDrop
import Derived.Test.YtieicfobhgfonaaWiPut
import Derived.Test.YtieicfobhgfonaaWiOpen
import Derived.Test.YtieicfobhgfonaaWiGrow
import Derived.WalkKit
import Derived.Lib.Hide
import Derived.OwnWalk
import Derived.Below
import Derived.Laws.Rows
import Derived.Outline
import Derived.IntWalk
import Derived.WalkSpells
import Derived.WalkLawsBesides
import Derived.Deep.CutRange
namespace Go.Proofs.Ytieicfobhgfonaa
open Go Go.RowKit Wi

set_option maxHeartbeats 8000000 in
set_option maxRecDepth 100000 in
theorem xtake_is (K : Int) (B B' : Bk) (A : Option Addr) (n c id : Nat) (want t : Int) (w : World) (hn : Hid (B.rows.length = n)) (hnb : n ≤ 999) (hA : Hid (RdW w w.heap.size A B.rows)) (hI : Hid (Inv K B)) (hKb : K ≤ 1000000000000) (hw : -9223372036854775808 ≤ want ∧ want ≤ 9223372036854775807) (hr : Hid (takeB B id want = (B', t))) :
    Calls Try.prog 22 #[bkV B A n c, .int .u32 (id : Int), .int .i64 want] w fun e w' => ∃ (A2 : Option Addr) (m c2 : Nat), e = .returned (.tuple #[bkV B' A2 m c2, .int .i64 t]) ∧ Hid (Bks w w' B' A2 m) := by
  have HOC := Lib.hid (fun (W : World) (o : Option Int) (ho : Hid (ofR B.rows id = o)) (h : Below w.heap.size w W) => xof_is B A n c id o W hn (by omega) (Lib.hid (hA.out.on h h.size)) ho)
  have HPC := Lib.hid (fun (W : World) (v : Int) (h : Below w.heap.size w W) => xput_is B A n c id v W hn hnb (Lib.hid (hA.out.on h h.size)))
  have hc0 := hI.out.c0
  have hc1 := hI.out.c1
  unfold mostW at hc1
  have HV := Lib.hid (fun (v : Int) (h : ofR B.rows id = some v) => (⟨hI.out.low _ (mem_ofR h), hI.out.top _ (mem_ofR h)⟩ : -K ≤ v ∧ v ≤ mostW))
  obtain ⟨cn, fi, L⟩ := B
  have hc0 : 0 ≤ cn := hc0
  have hc1 : cn ≤ 2147483647 := hc1
  obtain ⟨hX, hY, hB2, hs2⟩ := two_boxes w cn fi (.slice A n c)
  obtain ⟨W2, hW2⟩ : ∃ W2, (w.alloc (.cells #[.int .i64 cn, .int .i64 fi, .slice A n c] 28)).alloc (.cells #[.int .i64 0, .int .i64 0, .slice none 0 0] 28) = W2 := ⟨_, rfl⟩
  rw [hW2] at hX hY hB2 hs2
  obtain ⟨g, hg⟩ : ∃ g, w.heap.size = g := ⟨_, rfl⟩
  obtain ⟨o, ho⟩ : ∃ o, ofR L id = o := ⟨_, rfl⟩
  have HO1 := Lib.hid (HOC.out W2 o (Lib.hid ho) hB2)
  have HPC2 := Lib.hid (fun W v (h : Below w.heap.size W2 W) => HPC.out W v (hB2.trans h))
  rw [hg] at hX hY hB2 hs2
  have hrr := hr.out
  unfold takeB at hrr
  have ho' : ofR (Bk.mk cn fi L).rows id = o := ho
  rw [ho'] at hrr
  have HRR := Lib.hid hrr
  have HHO := Lib.hid ho
  have HX := Lib.hid hX
  have HY := Lib.hid hY
  have HB2 := Lib.hid hB2
  have HS2 := Lib.hid hs2
  have HW2 := Lib.hid hW2
  have G := Lib.hid hg
  have HN := Lib.hid (show L.length = n from hn.out)
  clear hX hY hB2 hs2 hW2 HPC HOC hn hrr ho ho'
  unfold bkV
  obtain ⟨x0, x1, x2⟩ := HX.out.cells
  go_enter Try.func22, Try.ntmps22
  go_upto_region 1 with fail
  rw [HW2.out]
  clear hg
  go_wp2_with fail
  refine HO1.out.mono ?_
  rintro e w3 ⟨rfl, hB3⟩
  have hX3 := HX.out.below hB3
  have hY3 := HY.out.below hB3
  have HB3 := Lib.hid (HB2.out.trans (hB3.mono (by have := HS2.out; omega)))
  have HBP := Lib.hid (show Below w.heap.size W2 w3 from hB3.mono (by have := HS2.out; have := G.out; omega))
  have HX3 := Lib.hid hX3
  have HY3 := Lib.hid hY3
  clear hX3 hY3 hB3 HX HY x0 x1 x2 HO1
  obtain ⟨x0, x1, x2⟩ := HX3.out.cells
  obtain ⟨e0, e1, e2⟩ := HY3.out.cells
  have q0 := HY3.out.frz 0
  have q1 := HY3.out.frz 1
  have q2 := HY3.out.frz 2
  have z0 := HX3.out.frz 0
  have z1 := HX3.out.frz 1
  have z2 := HX3.out.frz 2
  have nothing : ∃ F, putK w3 (g + 1) cn fi (.slice A n c) = F ∧ (F.cell? ⟨g + 1, 0, none⟩ = some (.int .i64 cn) ∧ F.cell? ⟨g + 1, 1, none⟩ = some (.int .i64 fi) ∧ F.cell? ⟨g + 1, 2, none⟩ = some (.slice A n c)) ∧ Bks w F ⟨cn, fi, L⟩ A n :=
    laid (B := ⟨cn, fi, L⟩) HY3.out G.out (Nat.le_succ g) HB3.out HN.out (RdW.into (X := g + 1) (cn := cn) (fi := fi) (v := .slice A n c) G.out hA.out HB3.out (Nat.le_succ g))
  have HNO := Lib.hid nothing
  clear nothing
  cases o with
  | none =>
    have hrr := HRR.out
    injection hrr with hrB hrt
    subst hrB hrt
    by_cases h1 : cn < want
    · by_cases h2 : 0 < cn
      · obtain ⟨F, hF, hk3, hE⟩ := HNO.out
        unfold putK at hF
        have HF := Lib.hid hF
        have HE := Lib.hid hE
        have HK3 := Lib.hid hk3
        clear hF hE hk3 HNO
        go_wp2_with fail
        rw [HF.out]
        obtain ⟨k0, k1, k2⟩ := HK3.out
        refine bodyPost_ret (v := .tuple #[.agg #[.int .i64 cn, .int .i64 fi, .slice A n c], .int .i64 0]) (by simp [results, Try.results22, go_sem, k0, k1, k2]) rfl ⟨A, n, ⟨c, rfl⟩, HE⟩
      · obtain ⟨F, hF, hk3, hE⟩ := HNO.out
        unfold putK at hF
        have HF := Lib.hid hF
        have HE := Lib.hid hE
        have HK3 := Lib.hid hk3
        clear hF hE hk3 HNO
        go_wp2_with fail
        rw [HF.out]
        obtain ⟨k0, k1, k2⟩ := HK3.out
        refine bodyPost_ret (v := .tuple #[.agg #[.int .i64 cn, .int .i64 fi, .slice A n c], .int .i64 0]) (by simp [results, Try.results22, go_sem, k0, k1, k2]) rfl ⟨A, n, ⟨c, rfl⟩, HE⟩
    · by_cases h2 : 0 < want
      · obtain ⟨F, hF, hk3, hE⟩ := HNO.out
        unfold putK at hF
        have HF := Lib.hid hF
        have HE := Lib.hid hE
        have HK3 := Lib.hid hk3
        clear hF hE hk3 HNO
        go_wp2_with fail
        rw [HF.out]
        obtain ⟨k0, k1, k2⟩ := HK3.out
        refine bodyPost_ret (v := .tuple #[.agg #[.int .i64 cn, .int .i64 fi, .slice A n c], .int .i64 0]) (by simp [results, Try.results22, go_sem, k0, k1, k2]) rfl ⟨A, n, ⟨c, rfl⟩, HE⟩
      · obtain ⟨F, hF, hk3, hE⟩ := HNO.out
        unfold putK at hF
        have HF := Lib.hid hF
        have HE := Lib.hid hE
        have HK3 := Lib.hid hk3
        clear hF hE hk3 HNO
        go_wp2_with fail
        rw [HF.out]
        obtain ⟨k0, k1, k2⟩ := HK3.out
        refine bodyPost_ret (v := .tuple #[.agg #[.int .i64 cn, .int .i64 fi, .slice A n c], .int .i64 0]) (by simp [results, Try.results22, go_sem, k0, k1, k2]) rfl ⟨A, n, ⟨c, rfl⟩, HE⟩
  | some v =>
    obtain ⟨hv0, hv1⟩ := HV.out v HHO.out
    unfold mostW at hv1
    have hrr : (if least3 want cn v ≤ 0 then ((⟨cn, fi, L⟩ : Bk), 0) else ({ putB ⟨cn, fi, L⟩ id (v - least3 want cn v) with conn := cn - least3 want cn v }, least3 want cn v)) = (B', t) := HRR.out
    by_cases h1 : cn < want
    · by_cases h2 : v < cn
      · have hq : least3 want cn v = v := by unfold least3; rw [if_pos h1]; split <;> omega
        rw [hq] at hrr
        clear hq
        by_cases hz : v ≤ 0
        · rw [if_pos hz] at hrr
          injection hrr with hrB hrt
          subst hrB hrt
          obtain ⟨F, hF, hk3, hE⟩ := HNO.out
          unfold putK at hF
          have HF := Lib.hid hF
          have HE := Lib.hid hE
          have HK3 := Lib.hid hk3
          clear hF hE hk3 HNO
          go_wp2_with fail
          rw [HF.out]
          obtain ⟨k0, k1, k2⟩ := HK3.out
          refine bodyPost_ret (v := .tuple #[.agg #[.int .i64 cn, .int .i64 fi, .slice A n c], .int .i64 0]) (by simp [results, Try.results22, go_sem, k0, k1, k2]) rfl ⟨A, n, ⟨c, rfl⟩, HE⟩
        · rw [if_neg hz, Int.sub_self] at hrr
          injection hrr with hrB hrt
          subst hrB hrt
          have HP1 := Lib.hid (HPC2.out w3 (0) HBP.out)
          clear HNO e0 e1 e2 q0 q1 q2
          go_upto_region 9 with fail
          go_wp2_with fail
          refine HP1.out.mono ?_
          rintro e w4 ⟨A2, m, c2, rfl, hO, hml, hB4⟩
          have hX4 := HX3.out.below hB4
          have hY4 := HY3.out.below hB4
          have hB04 := HB3.out.trans (hB4.mono (by have := HB3.out.size; have := G.out; omega))
          obtain ⟨w5, hw5⟩ : ∃ w5, putK w4 g cn fi (.slice A2 m c2) = w5 := ⟨_, rfl⟩
          have hX5 : BoxK w5 g cn fi (.slice A2 m c2) := by rw [← hw5]; exact hX4.put _ _ _
          obtain ⟨V, hV⟩ : ∃ V, w5.setCell ⟨g, 0, none⟩ (.int .i64 (cn - v)) = V := ⟨_, rfl⟩
          have oth : ∀ j, j ≠ g → V.heap[j]? = w4.heap[j]? := fun j hj => by rw [← hV, Below.heap_setCell _ ⟨g, 0, none⟩ _ j hj, ← hw5]; exact putK_other hj
          have hXV : BoxK V g (cn - v) fi (.slice A2 m c2) := by rw [← hV]; unfold BoxK at hX5 ⊢; simp [World.setCell, Array.getElem?_modify, hX5]
          have hYV : BoxK V (g + 1) 0 0 (.slice none 0 0) := (oth (g + 1) (by omega)).trans hY4
          have hBV : Below g w V := by rw [← hV, ← hw5]; exact (putK_below hB04 (Nat.le_refl g)).setCell (p := ⟨g, 0, none⟩) (Nat.le_refl _) _
          have hE := laid (w := w) (V := V) (X := g + 1) (v := .slice A2 m c2) (cn := cn - v) (fi := fi) (B := { putB ⟨cn, fi, L⟩ id (0) with conn := cn - v }) (A := A2) (m := m) hYV G.out (Nat.le_succ g) hBV hml.out (by
            have hlt := HY3.out.lt
            have hOF := own_sets_low (g' := w3.heap.size) (w' := putK V (g + 1) (cn - v) fi (.slice A2 m c2)) hO.out (Nat.le_refl _) (fun j hj => (putK_other (by omega)).trans (oth j (by omega)))
            exact rdw_own hOF hml.out)
          obtain ⟨F, hF, hk3, hE⟩ := hE
          unfold putK at hF hw5
          have HF := Lib.hid hF
          have HE := Lib.hid hE
          have HK3 := Lib.hid hk3
          have HW5 := Lib.hid hw5
          have HVV := Lib.hid hV
          have HX5 := Lib.hid hX5
          have HXV := Lib.hid hXV
          have HYV := Lib.hid hYV
          obtain ⟨x0, x1, x2⟩ := hX4.cells
          have z0 := hX4.frz 0
          have z1 := hX4.frz 1
          have z2 := hX4.frz 2
          clear hF hE hk3 hO hml hB4 hX4 hY4 hB04 HX3 HY3 HPC2 HP1 hV oth hYV hBV hw5 hX5 hXV
          unfold bkV putB
          go_upto_region 10 with fail
          rw [HW5.out]
          clear x0 x1 x2 z0 z1 z2
          obtain ⟨x0, x1, x2⟩ := HX5.out.cells
          have z0 := HX5.out.frz 0
          go_upto_region 11 with fail
          rw [HVV.out]
          clear x0 x1 x2 z0
          obtain ⟨x0, x1, x2⟩ := HXV.out.cells
          obtain ⟨e0, e1, e2⟩ := HYV.out.cells
          have q0 := HYV.out.frz 0
          have q1 := HYV.out.frz 1
          have q2 := HYV.out.frz 2
          go_wp2_with fail
          rw [HF.out]
          obtain ⟨k0, k1, k2⟩ := HK3.out
          refine bodyPost_ret (v := .tuple #[.agg #[.int .i64 (cn - v), .int .i64 fi, .slice A2 m c2], .int .i64 (v)]) (by simp [results, Try.results22, go_sem, k0, k1, k2]) rfl ⟨A2, m, ⟨c2, rfl⟩, HE⟩
      · have hq : least3 want cn v = cn := by unfold least3; rw [if_pos h1]; split <;> omega
        rw [hq] at hrr
        clear hq
        by_cases hz : cn ≤ 0
        · rw [if_pos hz] at hrr
          injection hrr with hrB hrt
          subst hrB hrt
          obtain ⟨F, hF, hk3, hE⟩ := HNO.out
          unfold putK at hF
          have HF := Lib.hid hF
          have HE := Lib.hid hE
          have HK3 := Lib.hid hk3
          clear hF hE hk3 HNO
          go_wp2_with fail
          rw [HF.out]
          obtain ⟨k0, k1, k2⟩ := HK3.out
          refine bodyPost_ret (v := .tuple #[.agg #[.int .i64 cn, .int .i64 fi, .slice A n c], .int .i64 0]) (by simp [results, Try.results22, go_sem, k0, k1, k2]) rfl ⟨A, n, ⟨c, rfl⟩, HE⟩
        · rw [if_neg hz, Int.sub_self] at hrr
          injection hrr with hrB hrt
          subst hrB hrt
          have HP1 := Lib.hid (HPC2.out w3 (v - cn) HBP.out)
          clear HNO e0 e1 e2 q0 q1 q2
          go_upto_region 9 with fail
          go_wp2_with fail
          refine HP1.out.mono ?_
          rintro e w4 ⟨A2, m, c2, rfl, hO, hml, hB4⟩
          have hX4 := HX3.out.below hB4
          have hY4 := HY3.out.below hB4
          have hB04 := HB3.out.trans (hB4.mono (by have := HB3.out.size; have := G.out; omega))
          obtain ⟨w5, hw5⟩ : ∃ w5, putK w4 g cn fi (.slice A2 m c2) = w5 := ⟨_, rfl⟩
          have hX5 : BoxK w5 g cn fi (.slice A2 m c2) := by rw [← hw5]; exact hX4.put _ _ _
          obtain ⟨V, hV⟩ : ∃ V, w5.setCell ⟨g, 0, none⟩ (.int .i64 (0)) = V := ⟨_, rfl⟩
          have oth : ∀ j, j ≠ g → V.heap[j]? = w4.heap[j]? := fun j hj => by rw [← hV, Below.heap_setCell _ ⟨g, 0, none⟩ _ j hj, ← hw5]; exact putK_other hj
          have hXV : BoxK V g (0) fi (.slice A2 m c2) := by rw [← hV]; unfold BoxK at hX5 ⊢; simp [World.setCell, Array.getElem?_modify, hX5]
          have hYV : BoxK V (g + 1) 0 0 (.slice none 0 0) := (oth (g + 1) (by omega)).trans hY4
          have hBV : Below g w V := by rw [← hV, ← hw5]; exact (putK_below hB04 (Nat.le_refl g)).setCell (p := ⟨g, 0, none⟩) (Nat.le_refl _) _
          have hE := laid (w := w) (V := V) (X := g + 1) (v := .slice A2 m c2) (cn := 0) (fi := fi) (B := { putB ⟨cn, fi, L⟩ id (v - cn) with conn := 0 }) (A := A2) (m := m) hYV G.out (Nat.le_succ g) hBV hml.out (by
            have hlt := HY3.out.lt
            have hOF := own_sets_low (g' := w3.heap.size) (w' := putK V (g + 1) (0) fi (.slice A2 m c2)) hO.out (Nat.le_refl _) (fun j hj => (putK_other (by omega)).trans (oth j (by omega)))
            exact rdw_own hOF hml.out)
          obtain ⟨F, hF, hk3, hE⟩ := hE
          unfold putK at hF hw5
          have HF := Lib.hid hF
          have HE := Lib.hid hE
          have HK3 := Lib.hid hk3
          have HW5 := Lib.hid hw5
          have HVV := Lib.hid hV
          have HX5 := Lib.hid hX5
          have HXV := Lib.hid hXV
          have HYV := Lib.hid hYV
          obtain ⟨x0, x1, x2⟩ := hX4.cells
          have z0 := hX4.frz 0
          have z1 := hX4.frz 1
          have z2 := hX4.frz 2
          clear hF hE hk3 hO hml hB4 hX4 hY4 hB04 HX3 HY3 HPC2 HP1 hV oth hYV hBV hw5 hX5 hXV
          unfold bkV putB
          go_upto_region 10 with fail
          rw [HW5.out]
          clear x0 x1 x2 z0 z1 z2
          obtain ⟨x0, x1, x2⟩ := HX5.out.cells
          have z0 := HX5.out.frz 0
          go_upto_region 11 with fail
          rw [HVV.out]
          clear x0 x1 x2 z0
          obtain ⟨x0, x1, x2⟩ := HXV.out.cells
          obtain ⟨e0, e1, e2⟩ := HYV.out.cells
          have q0 := HYV.out.frz 0
          have q1 := HYV.out.frz 1
          have q2 := HYV.out.frz 2
          go_wp2_with fail
          rw [HF.out]
          obtain ⟨k0, k1, k2⟩ := HK3.out
          refine bodyPost_ret (v := .tuple #[.agg #[.int .i64 (0), .int .i64 fi, .slice A2 m c2], .int .i64 (cn)]) (by simp [results, Try.results22, go_sem, k0, k1, k2]) rfl ⟨A2, m, ⟨c2, rfl⟩, HE⟩
    · by_cases h2 : v < want
      · have hq : least3 want cn v = v := by unfold least3; rw [if_neg h1]; split <;> omega
        rw [hq] at hrr
        clear hq
        by_cases hz : v ≤ 0
        · rw [if_pos hz] at hrr
          injection hrr with hrB hrt
          subst hrB hrt
          obtain ⟨F, hF, hk3, hE⟩ := HNO.out
          unfold putK at hF
          have HF := Lib.hid hF
          have HE := Lib.hid hE
          have HK3 := Lib.hid hk3
          clear hF hE hk3 HNO
          go_wp2_with fail
          rw [HF.out]
          obtain ⟨k0, k1, k2⟩ := HK3.out
          refine bodyPost_ret (v := .tuple #[.agg #[.int .i64 cn, .int .i64 fi, .slice A n c], .int .i64 0]) (by simp [results, Try.results22, go_sem, k0, k1, k2]) rfl ⟨A, n, ⟨c, rfl⟩, HE⟩
        · rw [if_neg hz, Int.sub_self] at hrr
          injection hrr with hrB hrt
          subst hrB hrt
          have HP1 := Lib.hid (HPC2.out w3 (0) HBP.out)
          clear HNO e0 e1 e2 q0 q1 q2
          go_upto_region 9 with fail
          go_wp2_with fail
          refine HP1.out.mono ?_
          rintro e w4 ⟨A2, m, c2, rfl, hO, hml, hB4⟩
          have hX4 := HX3.out.below hB4
          have hY4 := HY3.out.below hB4
          have hB04 := HB3.out.trans (hB4.mono (by have := HB3.out.size; have := G.out; omega))
          obtain ⟨w5, hw5⟩ : ∃ w5, putK w4 g cn fi (.slice A2 m c2) = w5 := ⟨_, rfl⟩
          have hX5 : BoxK w5 g cn fi (.slice A2 m c2) := by rw [← hw5]; exact hX4.put _ _ _
          obtain ⟨V, hV⟩ : ∃ V, w5.setCell ⟨g, 0, none⟩ (.int .i64 (cn - v)) = V := ⟨_, rfl⟩
          have oth : ∀ j, j ≠ g → V.heap[j]? = w4.heap[j]? := fun j hj => by rw [← hV, Below.heap_setCell _ ⟨g, 0, none⟩ _ j hj, ← hw5]; exact putK_other hj
          have hXV : BoxK V g (cn - v) fi (.slice A2 m c2) := by rw [← hV]; unfold BoxK at hX5 ⊢; simp [World.setCell, Array.getElem?_modify, hX5]
          have hYV : BoxK V (g + 1) 0 0 (.slice none 0 0) := (oth (g + 1) (by omega)).trans hY4
          have hBV : Below g w V := by rw [← hV, ← hw5]; exact (putK_below hB04 (Nat.le_refl g)).setCell (p := ⟨g, 0, none⟩) (Nat.le_refl _) _
          have hE := laid (w := w) (V := V) (X := g + 1) (v := .slice A2 m c2) (cn := cn - v) (fi := fi) (B := { putB ⟨cn, fi, L⟩ id (0) with conn := cn - v }) (A := A2) (m := m) hYV G.out (Nat.le_succ g) hBV hml.out (by
            have hlt := HY3.out.lt
            have hOF := own_sets_low (g' := w3.heap.size) (w' := putK V (g + 1) (cn - v) fi (.slice A2 m c2)) hO.out (Nat.le_refl _) (fun j hj => (putK_other (by omega)).trans (oth j (by omega)))
            exact rdw_own hOF hml.out)
          obtain ⟨F, hF, hk3, hE⟩ := hE
          unfold putK at hF hw5
          have HF := Lib.hid hF
          have HE := Lib.hid hE
          have HK3 := Lib.hid hk3
          have HW5 := Lib.hid hw5
          have HVV := Lib.hid hV
          have HX5 := Lib.hid hX5
          have HXV := Lib.hid hXV
          have HYV := Lib.hid hYV
          obtain ⟨x0, x1, x2⟩ := hX4.cells
          have z0 := hX4.frz 0
          have z1 := hX4.frz 1
          have z2 := hX4.frz 2
          clear hF hE hk3 hO hml hB4 hX4 hY4 hB04 HX3 HY3 HPC2 HP1 hV oth hYV hBV hw5 hX5 hXV
          unfold bkV putB
          go_upto_region 10 with fail
          rw [HW5.out]
          clear x0 x1 x2 z0 z1 z2
          obtain ⟨x0, x1, x2⟩ := HX5.out.cells
          have z0 := HX5.out.frz 0
          go_upto_region 11 with fail
          rw [HVV.out]
          clear x0 x1 x2 z0
          obtain ⟨x0, x1, x2⟩ := HXV.out.cells
          obtain ⟨e0, e1, e2⟩ := HYV.out.cells
          have q0 := HYV.out.frz 0
          have q1 := HYV.out.frz 1
          have q2 := HYV.out.frz 2
          go_wp2_with fail
          rw [HF.out]
          obtain ⟨k0, k1, k2⟩ := HK3.out
          refine bodyPost_ret (v := .tuple #[.agg #[.int .i64 (cn - v), .int .i64 fi, .slice A2 m c2], .int .i64 (v)]) (by simp [results, Try.results22, go_sem, k0, k1, k2]) rfl ⟨A2, m, ⟨c2, rfl⟩, HE⟩
      · have hq : least3 want cn v = want := by unfold least3; rw [if_neg h1]; split <;> omega
        rw [hq] at hrr
        clear hq
        by_cases hz : want ≤ 0
        · rw [if_pos hz] at hrr
          injection hrr with hrB hrt
          subst hrB hrt
          obtain ⟨F, hF, hk3, hE⟩ := HNO.out
          unfold putK at hF
          have HF := Lib.hid hF
          have HE := Lib.hid hE
          have HK3 := Lib.hid hk3
          clear hF hE hk3 HNO
          go_wp2_with fail
          rw [HF.out]
          obtain ⟨k0, k1, k2⟩ := HK3.out
          refine bodyPost_ret (v := .tuple #[.agg #[.int .i64 cn, .int .i64 fi, .slice A n c], .int .i64 0]) (by simp [results, Try.results22, go_sem, k0, k1, k2]) rfl ⟨A, n, ⟨c, rfl⟩, HE⟩
        · rw [if_neg hz] at hrr
          injection hrr with hrB hrt
          subst hrB hrt
          have HP1 := Lib.hid (HPC2.out w3 (v - want) HBP.out)
          clear HNO e0 e1 e2 q0 q1 q2
          go_upto_region 9 with fail
          go_wp2_with fail
          refine HP1.out.mono ?_
          rintro e w4 ⟨A2, m, c2, rfl, hO, hml, hB4⟩
          have hX4 := HX3.out.below hB4
          have hY4 := HY3.out.below hB4
          have hB04 := HB3.out.trans (hB4.mono (by have := HB3.out.size; have := G.out; omega))
          obtain ⟨w5, hw5⟩ : ∃ w5, putK w4 g cn fi (.slice A2 m c2) = w5 := ⟨_, rfl⟩
          have hX5 : BoxK w5 g cn fi (.slice A2 m c2) := by rw [← hw5]; exact hX4.put _ _ _
          obtain ⟨V, hV⟩ : ∃ V, w5.setCell ⟨g, 0, none⟩ (.int .i64 (cn - want)) = V := ⟨_, rfl⟩
          have oth : ∀ j, j ≠ g → V.heap[j]? = w4.heap[j]? := fun j hj => by rw [← hV, Below.heap_setCell _ ⟨g, 0, none⟩ _ j hj, ← hw5]; exact putK_other hj
          have hXV : BoxK V g (cn - want) fi (.slice A2 m c2) := by rw [← hV]; unfold BoxK at hX5 ⊢; simp [World.setCell, Array.getElem?_modify, hX5]
          have hYV : BoxK V (g + 1) 0 0 (.slice none 0 0) := (oth (g + 1) (by omega)).trans hY4
          have hBV : Below g w V := by rw [← hV, ← hw5]; exact (putK_below hB04 (Nat.le_refl g)).setCell (p := ⟨g, 0, none⟩) (Nat.le_refl _) _
          have hE := laid (w := w) (V := V) (X := g + 1) (v := .slice A2 m c2) (cn := cn - want) (fi := fi) (B := { putB ⟨cn, fi, L⟩ id (v - want) with conn := cn - want }) (A := A2) (m := m) hYV G.out (Nat.le_succ g) hBV hml.out (by
            have hlt := HY3.out.lt
            have hOF := own_sets_low (g' := w3.heap.size) (w' := putK V (g + 1) (cn - want) fi (.slice A2 m c2)) hO.out (Nat.le_refl _) (fun j hj => (putK_other (by omega)).trans (oth j (by omega)))
            exact rdw_own hOF hml.out)
          obtain ⟨F, hF, hk3, hE⟩ := hE
          unfold putK at hF hw5
          have HF := Lib.hid hF
          have HE := Lib.hid hE
          have HK3 := Lib.hid hk3
          have HW5 := Lib.hid hw5
          have HVV := Lib.hid hV
          have HX5 := Lib.hid hX5
          have HXV := Lib.hid hXV
          have HYV := Lib.hid hYV
          obtain ⟨x0, x1, x2⟩ := hX4.cells
          have z0 := hX4.frz 0
          have z1 := hX4.frz 1
          have z2 := hX4.frz 2
          clear hF hE hk3 hO hml hB4 hX4 hY4 hB04 HX3 HY3 HPC2 HP1 hV oth hYV hBV hw5 hX5 hXV
          unfold bkV putB
          go_upto_region 10 with fail
          rw [HW5.out]
          clear x0 x1 x2 z0 z1 z2
          obtain ⟨x0, x1, x2⟩ := HX5.out.cells
          have z0 := HX5.out.frz 0
          go_upto_region 11 with fail
          rw [HVV.out]
          clear x0 x1 x2 z0
          obtain ⟨x0, x1, x2⟩ := HXV.out.cells
          obtain ⟨e0, e1, e2⟩ := HYV.out.cells
          have q0 := HYV.out.frz 0
          have q1 := HYV.out.frz 1
          have q2 := HYV.out.frz 2
          go_wp2_with fail
          rw [HF.out]
          obtain ⟨k0, k1, k2⟩ := HK3.out
          refine bodyPost_ret (v := .tuple #[.agg #[.int .i64 (cn - want), .int .i64 fi, .slice A2 m c2], .int .i64 (want)]) (by simp [results, Try.results22, go_sem, k0, k1, k2]) rfl ⟨A2, m, ⟨c2, rfl⟩, HE⟩
end Go.Proofs.Ytieicfobhgfonaa
