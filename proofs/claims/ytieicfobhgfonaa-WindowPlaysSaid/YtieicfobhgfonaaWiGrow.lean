/- The document's Grow of layer 17. For up to 999 streams, windows not below -10^12. -/
import Derived.Test.YtieicfobhgfonaaProg
import Derived.Test.YtieicfobhgfonaaWiMath
import Derived.Test.YtieicfobhgfonaaWiRef
import Derived.Test.YtieicfobhgfonaaWiDrop
import Derived.Test.YtieicfobhgfonaaWiPut
import Derived.Test.YtieicfobhgfonaaWiOpen
import Derived.WalkKit
import Derived.Lib.Hide
import Derived.OwnWalk
import Derived.Below
import Derived.Laws.Rows
import Derived.Outline
import Derived.IntWalk
import Derived.WalkSpells
import Derived.WalkLawsBesides
import Derived.Deep.CutRange
namespace Go.Proofs.Ytieicfobhgfonaa
open Go Go.RowKit Wi

namespace Wi
/-- A book laid into the result's box. -/
theorem laid {w V : World} {X : Nat} {v v' : Value} {cn fi cn' fi' : Int} {B : Bk} {A : Option Addr} {m g : Nat} (hb : BoxK V X cn' fi' v') (hg : w.heap.size = g) (hgX : g ≤ X) (hB : Below g w V) (hl : B.rows.length = m) (hr : RdW (putK V X cn fi v) (putK V X cn fi v).heap.size A B.rows) :
    ∃ F, putK V X cn fi v = F ∧ (F.cell? ⟨X, 0, none⟩ = some (.int .i64 cn) ∧ F.cell? ⟨X, 1, none⟩ = some (.int .i64 fi) ∧ F.cell? ⟨X, 2, none⟩ = some v) ∧ Bks w F B A m := by
  refine ⟨_, rfl, (hb.put cn fi v).cells, hr, hl, ?_⟩
  rw [hg]
  exact putK_below hB hgX
theorem RdW.up {w V : World} {g : Nat} {A : Option Addr} {L : List (Nat × Int)} (hg : w.heap.size = g) (h : RdW w w.heap.size A L) (hB : Below g w V) : RdW V V.heap.size A L := h.on (by rw [hg]; exact hB) hB.size
theorem RdW.into {w V : World} {g X : Nat} {cn fi : Int} {v : Value} {A : Option Addr} {L : List (Nat × Int)} (hg : w.heap.size = g) (h : RdW w w.heap.size A L) (hB : Below g w V) (hX : g ≤ X) : RdW (putK V X cn fi v) (putK V X cn fi v).heap.size A L := h.up hg (putK_below hB hX)
end Wi
set_option maxHeartbeats 8000000 in
set_option maxRecDepth 100000 in
theorem xgrow_is (K : Int) (B B' : Bk) (A : Option Addr) (n c id k t : Nat) (w : World) (hn : Hid (B.rows.length = n)) (hnb : n ≤ 999) (hA : Hid (RdW w w.heap.size A B.rows)) (hI : Hid (Inv K B)) (hKb : K ≤ 1000000000000) (hk : k < 4294967296) (hr : Hid (growB B id k = (B', t))) :
    Calls Try.prog 20 #[bkV B A n c, .int .u32 (id : Int), .int .u32 (k : Int)] w fun e w' => ∃ (A2 : Option Addr) (m c2 : Nat), e = .returned (.tuple #[bkV B' A2 m c2, .int .i64 (t : Int)]) ∧ Hid (Bks w w' B' A2 m) := by
  have HOC := Lib.hid (fun (W : World) (o : Option Int) (ho : Hid (ofR B.rows id = o)) (h : Below w.heap.size w W) => xof_is B A n c id o W hn (by omega) (Lib.hid (hA.out.on h h.size)) ho)
  have HPC := Lib.hid (fun (W : World) (v : Int) (h : Below w.heap.size w W) => xput_is B A n c id v W hn hnb (Lib.hid (hA.out.on h h.size)))
  have hc0 := hI.out.c0
  have hc1 := hI.out.c1
  unfold mostW at hc1
  have HV := Lib.hid (fun (v : Int) (h : ofR B.rows id = some v) => (⟨hI.out.low _ (mem_ofR h), hI.out.top _ (mem_ofR h)⟩ : -K ≤ v ∧ v ≤ mostW))
  obtain ⟨cn, fi, L⟩ := B
  have hc0 : 0 ≤ cn := hc0
  have hc1 : cn ≤ 2147483647 := hc1
  obtain ⟨hX, hY, hB2, hs2⟩ := two_boxes w cn fi (.slice A n c)
  obtain ⟨W2, hW2⟩ : ∃ W2, (w.alloc (.cells #[.int .i64 cn, .int .i64 fi, .slice A n c] 28)).alloc (.cells #[.int .i64 0, .int .i64 0, .slice none 0 0] 28) = W2 := ⟨_, rfl⟩
  rw [hW2] at hX hY hB2 hs2
  obtain ⟨g, hg⟩ : ∃ g, w.heap.size = g := ⟨_, rfl⟩
  have HOC2 := Lib.hid (fun o ho => HOC.out W2 o ho hB2)
  have HPC2 := Lib.hid (fun W v (h : Below w.heap.size W2 W) => HPC.out W v (hB2.trans h))
  rw [hg] at hX hY hB2 hs2
  have HX := Lib.hid hX
  have HY := Lib.hid hY
  have HB2 := Lib.hid hB2
  have HS2 := Lib.hid hs2
  have HW2 := Lib.hid hW2
  have G := Lib.hid hg
  have HN := Lib.hid (show L.length = n from hn.out)
  clear hX hY hB2 hs2 hW2 HPC HOC hn
  unfold bkV
  obtain ⟨x0, x1, x2⟩ := HX.out.cells
  have z0 := HX.out.frz 0
  obtain ⟨e0, e1, e2⟩ := HY.out.cells
  have q0 := HY.out.frz 0
  have q1 := HY.out.frz 1
  have q2 := HY.out.frz 2
  go_enter Try.func20, Try.ntmps20
  go_upto_region 1 with fail
  rw [HW2.out]
  clear hg
  by_cases h0 : id = 0
  · have hi0 : ((id : Int) == 0) = true := by rw [h0]; rfl
    have hrr := hr.out
    unfold growB at hrr
    rw [if_pos h0] at hrr
    clear h0
    by_cases hm : mostW < cn + (k : Int)
    · rw [if_pos hm] at hrr
      injection hrr with hrB hrt
      subst hrB hrt
      unfold mostW at hm
      obtain ⟨F, hF, hk3, hE⟩ := laid (B := ⟨cn, fi, L⟩) HY.out G.out (Nat.le_succ g) HB2.out HN.out (RdW.into (X := g + 1) (cn := cn) (fi := fi) (v := .slice A n c) G.out hA.out HB2.out (Nat.le_succ g))
      unfold putK at hF
      have HF := Lib.hid hF
      have HE := Lib.hid hE
      have HK3 := Lib.hid hk3
      clear hF hE hk3
      go_wp2_with fail
      rw [HF.out]
      obtain ⟨k0, k1, k2⟩ := HK3.out
      refine bodyPost_ret (v := .tuple #[.agg #[.int .i64 cn, .int .i64 fi, .slice A n c], .int .i64 3]) (by simp [results, Try.results20, go_sem, k0, k1, k2]) rfl ⟨A, n, ⟨c, rfl⟩, HE⟩
    · rw [if_neg hm] at hrr
      injection hrr with hrB hrt
      subst hrB hrt
      unfold mostW at hm
      have hb : BoxK (W2.setCell ⟨g, 0, none⟩ (.int .i64 (cn + (k : Int)))) (g + 1) 0 0 (.slice none 0 0) := (Below.heap_setCell W2 ⟨g, 0, none⟩ _ (g + 1) (by show g + 1 ≠ g; omega)).trans HY.out
      have hBs := HB2.out.setCell (p := ⟨g, 0, none⟩) (Nat.le_refl _) (.int .i64 (cn + (k : Int)))
      obtain ⟨F, hF, hk3, hE⟩ := laid (B := ⟨cn + k, fi, L⟩) hb G.out (Nat.le_succ g) hBs HN.out (RdW.into (X := g + 1) (cn := cn + k) (fi := fi) (v := .slice A n c) G.out hA.out hBs (Nat.le_succ g))
      unfold putK at hF
      have HF := Lib.hid hF
      have HE := Lib.hid hE
      have HK3 := Lib.hid hk3
      clear hF hE hk3 hb hBs
      go_wp2_with fail
      rw [HF.out]
      obtain ⟨k0, k1, k2⟩ := HK3.out
      refine bodyPost_ret (v := .tuple #[.agg #[.int .i64 (cn + k), .int .i64 fi, .slice A n c], .int .i64 0]) (by simp [results, Try.results20, go_sem, k0, k1, k2]) rfl ⟨A, n, ⟨c, rfl⟩, HE⟩
  · have hi0 : ((id : Int) == 0) = false := beq_eq_false_iff_ne.2 (by omega)
    have hrr := hr.out
    unfold growB at hrr
    rw [if_neg h0] at hrr
    obtain ⟨o, ho⟩ : ∃ o, ofR L id = o := ⟨_, rfl⟩
    have HO1 := Lib.hid (HOC2.out o (Lib.hid ho))
    have ho' : ofR (Bk.mk cn fi L).rows id = o := ho
    rw [ho'] at hrr
    have HRR := Lib.hid hrr
    have HHO := Lib.hid ho
    clear h0 hrr ho ho' hc0 hc1
    go_upto_region 6 with fail
    go_wp2_with fail
    refine HO1.out.mono ?_
    rintro e w3 ⟨rfl, hB3⟩
    have hX3 := HX.out.below hB3
    have hY3 := HY.out.below hB3
    have HB3 := Lib.hid (HB2.out.trans (hB3.mono (by have := HS2.out; omega)))
    have HBP := Lib.hid (show Below w.heap.size W2 w3 from hB3.mono (by have := HS2.out; have := G.out; omega))
    have HX3 := Lib.hid hX3
    have HY3 := Lib.hid hY3
    clear hX3 hY3 hB3 HX HY x0 x1 x2 z0 e0 e1 e2 q0 q1 q2 HO1 HOC2
    obtain ⟨x0, x1, x2⟩ := HX3.out.cells
    obtain ⟨e0, e1, e2⟩ := HY3.out.cells
    have q0 := HY3.out.frz 0
    have q1 := HY3.out.frz 1
    have q2 := HY3.out.frz 2
    have nothing : ∀ t : Nat, ∃ F, putK w3 (g + 1) cn fi (.slice A n c) = F ∧ (F.cell? ⟨g + 1, 0, none⟩ = some (.int .i64 cn) ∧ F.cell? ⟨g + 1, 1, none⟩ = some (.int .i64 fi) ∧ F.cell? ⟨g + 1, 2, none⟩ = some (.slice A n c)) ∧ Bks w F ⟨cn, fi, L⟩ A n := fun _ =>
      laid (B := ⟨cn, fi, L⟩) HY3.out G.out (Nat.le_succ g) HB3.out HN.out (RdW.into (X := g + 1) (cn := cn) (fi := fi) (v := .slice A n c) G.out hA.out HB3.out (Nat.le_succ g))
    have HNO := Lib.hid nothing
    clear nothing
    cases o with
    | none =>
      have hrr := HRR.out
      injection hrr with hrB hrt
      subst hrB hrt
      obtain ⟨F, hF, hk3, hE⟩ := HNO.out 0
      unfold putK at hF
      have HF := Lib.hid hF
      have HE := Lib.hid hE
      have HK3 := Lib.hid hk3
      clear hF hE hk3 HNO
      go_wp2_with fail
      rw [HF.out]
      obtain ⟨k0, k1, k2⟩ := HK3.out
      refine bodyPost_ret (v := .tuple #[.agg #[.int .i64 cn, .int .i64 fi, .slice A n c], .int .i64 0]) (by simp [results, Try.results20, go_sem, k0, k1, k2]) rfl ⟨A, n, ⟨c, rfl⟩, HE⟩
    | some v =>
      obtain ⟨hv0, hv1⟩ := HV.out v HHO.out
      unfold mostW at hv1
      have hrr : (if mostW < v + (k : Int) then ((⟨cn, fi, L⟩ : Bk), 3) else (putB ⟨cn, fi, L⟩ id (v + k), 0)) = (B', t) := HRR.out
      by_cases hm : mostW < v + (k : Int)
      · rw [if_pos hm] at hrr
        injection hrr with hrB hrt
        subst hrB hrt
        unfold mostW at hm
        obtain ⟨F, hF, hk3, hE⟩ := HNO.out 0
        unfold putK at hF
        have HF := Lib.hid hF
        have HE := Lib.hid hE
        have HK3 := Lib.hid hk3
        clear hF hE hk3 HNO
        go_wp2_with fail
        rw [HF.out]
        obtain ⟨k0, k1, k2⟩ := HK3.out
        refine bodyPost_ret (v := .tuple #[.agg #[.int .i64 cn, .int .i64 fi, .slice A n c], .int .i64 3]) (by simp [results, Try.results20, go_sem, k0, k1, k2]) rfl ⟨A, n, ⟨c, rfl⟩, HE⟩
      · rw [if_neg hm] at hrr
        injection hrr with hrB hrt
        subst hrB hrt
        unfold mostW at hm
        have HP1 := Lib.hid (HPC2.out w3 (v + k) HBP.out)
        clear HNO
        go_upto_region 11 with fail
        go_wp2_with fail
        refine HP1.out.mono ?_
        rintro e w4 ⟨A2, m, c2, rfl, hO, hml, hB4⟩
        have hY4 := HY3.out.below hB4
        have hB04 := HB3.out.trans (hB4.mono (by have := HB3.out.size; have := G.out; omega))
        have hE := laid (w := w) (V := w4) (X := g + 1) (v := .slice A2 m c2) (cn := cn) (fi := fi) (B := putB ⟨cn, fi, L⟩ id (v + k)) (A := A2) (m := m) hY4 G.out (Nat.le_succ g) hB04 hml.out (by
          have hlt := HY3.out.lt
          have hOF := own_sets_low (g' := w3.heap.size) (w' := putK w4 (g + 1) cn fi (.slice A2 m c2)) hO.out (Nat.le_refl _) (fun j hj => putK_other (by omega))
          exact rdw_own hOF hml.out)
        obtain ⟨F, hF, hk3, hE⟩ := hE
        unfold putK at hF
        have HF := Lib.hid hF
        have HE := Lib.hid hE
        have HK3 := Lib.hid hk3
        obtain ⟨e0, e1, e2⟩ := hY4.cells
        have q0 := hY4.frz 0
        have q1 := hY4.frz 1
        have q2 := hY4.frz 2
        clear hF hE hk3 hO hml hB4 hY4 hB04 HX3 HY3 HPC2 HP1
        unfold bkV putB
        go_wp2_with fail
        rw [HF.out]
        obtain ⟨k0, k1, k2⟩ := HK3.out
        refine bodyPost_ret (v := .tuple #[.agg #[.int .i64 cn, .int .i64 fi, .slice A2 m c2], .int .i64 0]) (by simp [results, Try.results20, go_sem, k0, k1, k2]) rfl ⟨A2, m, c2, rfl, HE⟩
end Go.Proofs.Ytieicfobhgfonaa
