/- The document's New, Open and Grow of layer 17. For up to 999 streams. -/
import Derived.Test.YtieicfobhgfonaaProg
import Derived.Test.YtieicfobhgfonaaWiMath
import Derived.Test.YtieicfobhgfonaaWiRef
import Derived.Test.YtieicfobhgfonaaWiDrop
import Derived.Test.YtieicfobhgfonaaWiPut
import Derived.WalkKit
import Derived.Lib.Hide
import Derived.OwnWalk
import Derived.Below
import Derived.Laws.Rows
import Derived.Outline
import Derived.IntWalk
import Derived.WalkSpells
import Derived.WalkLawsBesides
import Derived.Deep.CutRange
namespace Go.Proofs.Ytieicfobhgfonaa
open Go Go.RowKit Wi

namespace Wi
theorem rdw_own {w : World} {base n c : Nat} {A : Option Addr} {L : List (Nat × Int)} (h : w.ownsRow base 60 2 (.slice A n c) n (rwCs L)) (hn : L.length = n) : RdW w w.heap.size A L := by
  obtain ⟨A2, c2, e, hR⟩ := own_rdw h hn
  injection e with e1 e2 e3
  subst e1
  exact hR
/-- What a function of books leaves: a book's value, its rows in memory. -/
def Bks (w w' : World) (B : Bk) (A : Option Addr) (m : Nat) : Prop := RdW w' w'.heap.size A B.rows ∧ B.rows.length = m ∧ Below w.heap.size w w'
end Wi
set_option maxHeartbeats 8000000 in
set_option maxRecDepth 100000 in
theorem xnew_is (w : World) : Calls Try.prog 9 #[] w fun e w' => e = .returned (bkV newB none 0 0) ∧ Below w.heap.size w w' := by
  have hX := heap_alloc_new w (.cells #[.int .i64 0, .int .i64 0, .slice none 0 0] 28)
  have hBX := (Below.refl _ w).alloc (Nat.le_refl _) (.cells #[.int .i64 0, .int .i64 0, .slice none 0 0] 28)
  obtain ⟨V, hV⟩ : ∃ V, w.alloc (.cells #[.int .i64 0, .int .i64 0, .slice none 0 0] 28) = V := ⟨_, rfl⟩
  rw [hV] at hX hBX
  have hX : BoxK V w.heap.size 0 0 (.slice none 0 0) := hX
  obtain ⟨g, hg⟩ : ∃ g, w.heap.size = g := ⟨_, rfl⟩
  rw [hg] at hX hBX ⊢
  obtain ⟨F, hF⟩ : ∃ F, putK V g 65535 65535 (.slice none 0 0) = F := ⟨_, rfl⟩
  have hXF := hX.put 65535 65535 (.slice none 0 0)
  have hBF := putK_below (cn := 65535) (fi := 65535) (v := .slice none 0 0) hBX (Nat.le_refl _)
  rw [hF] at hXF hBF
  unfold putK at hF
  obtain ⟨x0, x1, x2⟩ := hX.cells
  have z0 := hX.frz 0
  have z1 := hX.frz 1
  have z2 := hX.frz 2
  have HK := Lib.hid hXF.cells
  have HBF := Lib.hid hBF
  have HV := Lib.hid hV
  have HF := Lib.hid hF
  clear hX hBX hXF hBF hV hF
  go_enter Try.func9, Try.ntmps9
  go_upto_region 1 with fail
  rw [HV.out]
  clear hg
  go_wp2_with fail
  rw [HF.out]
  obtain ⟨k0, k1, k2⟩ := HK.out
  refine bodyPost_ret (v := .agg #[.int .i64 65535, .int .i64 65535, .slice none 0 0]) (by simp [results, Try.results9, go_sem, k0, k1, k2]) rfl ⟨rfl, HBF.out⟩
set_option maxHeartbeats 8000000 in
set_option maxRecDepth 100000 in
theorem xopen_is (B : Bk) (A : Option Addr) (n c id : Nat) (w : World) (hn : Hid (B.rows.length = n)) (hnb : n ≤ 999) (hA : Hid (RdW w w.heap.size A B.rows)) :
    Calls Try.prog 18 #[bkV B A n c, .int .u32 (id : Int)] w fun e w' => ∃ (A2 : Option Addr) (m c2 : Nat), e = .returned (bkV (openB B id) A2 m c2) ∧ Hid (Bks w w' (openB B id) A2 m) := by
  have HPC := Lib.hid (fun (W : World) (h : Below w.heap.size w W) => xput_is B A n c id B.first W hn hnb (Lib.hid (hA.out.on h h.size)))
  obtain ⟨cn, fi, L⟩ := B
  obtain ⟨hX, hY, hB2, hs2⟩ := two_boxes w cn fi (.slice A n c)
  obtain ⟨W2, hW2⟩ : ∃ W2, (w.alloc (.cells #[.int .i64 cn, .int .i64 fi, .slice A n c] 28)).alloc (.cells #[.int .i64 0, .int .i64 0, .slice none 0 0] 28) = W2 := ⟨_, rfl⟩
  rw [hW2] at hX hY hB2 hs2
  obtain ⟨g, hg⟩ : ∃ g, w.heap.size = g := ⟨_, rfl⟩
  have HPC2 := Lib.hid (HPC.out W2 hB2)
  rw [hg] at hX hY hB2 hs2
  have HX := Lib.hid hX
  have HY := Lib.hid hY
  have HB2 := Lib.hid hB2
  have HS2 := Lib.hid hs2
  have HW2 := Lib.hid hW2
  have G := Lib.hid hg
  clear hX hY hB2 hs2 hW2 hA HPC
  unfold bkV
  go_enter Try.func18, Try.ntmps18
  go_upto_region 1 with fail
  rw [HW2.out]
  clear hg
  obtain ⟨x0, x1, x2⟩ := HX.out.cells
  go_wp2_with fail
  refine HPC2.out.mono ?_
  rintro e w3 ⟨A2, m, c2, rfl, hO, hm, hB3⟩
  have hY3 := HY.out.below hB3
  have hR3 := rdw_own hO.out hm.out
  have hB03 := HB2.out.trans (hB3.mono (by have := HS2.out; omega))
  obtain ⟨e0, e1, e2⟩ := hY3.cells
  have q0 := hY3.frz 0
  have q1 := hY3.frz 1
  have q2 := hY3.frz 2
  obtain ⟨F, hF⟩ : ∃ F, putK w3 (g + 1) cn fi (.slice A2 m c2) = F := ⟨_, rfl⟩
  have hYF := hY3.put cn fi (.slice A2 m c2)
  have hBF := putK_below (cn := cn) (fi := fi) (v := .slice A2 m c2) hB03 (Nat.le_succ g)
  have hRF : RdW (putK w3 (g + 1) cn fi (.slice A2 m c2)) (putK w3 (g + 1) cn fi (.slice A2 m c2)).heap.size A2 (openB ⟨cn, fi, L⟩ id).rows := by
    have hOF := own_sets_low (g' := g + 2) (w' := putK w3 (g + 1) cn fi (.slice A2 m c2)) (by have h := hO.out; rw [HS2.out] at h; exact h) (Nat.le_refl _) (fun j hj => putK_other (by omega))
    exact rdw_own hOF hm.out
  rw [hF] at hYF hBF hRF
  unfold putK at hF
  have HK := Lib.hid hYF.cells
  have HF := Lib.hid hF
  have HE : Hid (Bks w F (openB ⟨cn, fi, L⟩ id) A2 m) := Lib.hid ⟨hRF, hm.out, by rw [G.out]; exact hBF⟩
  clear hYF hF hBF hRF hR3 hB03 hY3 hO hm hB3 HPC2 HX HY HB2 HS2
  unfold bkV putB
  go_wp2_with fail
  rw [HF.out]
  obtain ⟨k0, k1, k2⟩ := HK.out
  refine bodyPost_ret (v := .agg #[.int .i64 cn, .int .i64 fi, .slice A2 m c2]) (by simp [results, Try.results18, go_sem, k0, k1, k2]) rfl ⟨A2, m, c2, rfl, HE⟩
end Go.Proofs.Ytieicfobhgfonaa
