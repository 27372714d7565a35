/- The code's New, Open, Drop, Conn, Of of layer 17. No condition. -/
import Derived.Test.YtieicfobhgfonaaProg
import Derived.Test.YtieicfobhgfonaaMpFun
import Derived.Test.YtieicfobhgfonaaWiMath
import Derived.Test.YtieicfobhgfonaaWiAt
import Derived.Test.YtieicfobhgfonaaWiMap
import Derived.WalkKit
import Derived.Lib.Hide
import Derived.Laws.Rows
import Derived.Outline
import Derived.IntWalk
import Derived.WalkSpells
import Derived.WalkLawsBesides
import Derived.LoopTactic
import Derived.Deep.CutRange
namespace Go.Proofs.Ytieicfobhgfonaa
open Go Go.RowKit Go.MapKept Mp Wi
set_option linter.unusedVariables false
section
variable (g b : Nat) (K : Int) (B B' : Bk) (id n c : Nat) (want t : Int) (w : World)
set_option maxHeartbeats 4000000 in
set_option maxRecDepth 100000 in
theorem wnew_is (w : World) : Calls Try.prog 8 #[] w fun e w' => ∃ b, e = .returned (.pointer (some ⟨b, 0, none⟩)) ∧ w.heap.size ≤ b ∧ Hid (BkAt w' w.heap.size b newB) ∧ Below w.heap.size w w' ∧ ∃ bm, mapOf w' b = some bm ∧ w.heap.size ≤ bm := by
  have hmm := @run_makeMap Try.prog
  have hm := mapf_new w (.int .u32)
  obtain ⟨W1, hW1⟩ : ∃ W, w.alloc (.map #[] 0) = W := ⟨_, rfl⟩
  have s1 : W1.heap.size = w.heap.size + 1 := by rw [← hW1]; simp
  have b1 : Below w.heap.size w W1 := by rw [← hW1]; exact (Below.refl _ w).alloc (Nat.le_refl _) _
  rw [hW1] at hm
  obtain ⟨V, hV⟩ : ∃ W, W1.alloc (.cells #[.int .i64 65535, .int .i64 65535, .map (some w.heap.size)] 47) = W := ⟨_, rfl⟩
  have hx : BoxB V (w.heap.size + 1) 65535 65535 w.heap.size := by rw [← hV, ← s1]; exact heap_alloc_new W1 _
  have b2 : Below (w.heap.size + 1) W1 V := by rw [← hV, ← s1]; exact (Below.refl _ W1).alloc (Nat.le_refl _) _
  have hm2 := hm.kept (b2.block w.heap.size (by omega))
  have HR : Hid (∃ b, Ending.returned (.pointer (some ⟨w.heap.size + 1, 0, none⟩)) = Ending.returned (.pointer (some ⟨b, 0, none⟩)) ∧ w.heap.size ≤ b ∧ Hid (BkAt V w.heap.size b newB) ∧ Below w.heap.size w V ∧ ∃ bm, mapOf V b = some bm ∧ w.heap.size ≤ bm) := Lib.hid ⟨w.heap.size + 1, rfl, by omega, Lib.hid ⟨by omega, w.heap.size, Nat.le_refl _, hx, by rw [show newB.rows = [] from rfl, liftR_nil]; exact hm2⟩, b1.trans (b2.mono (by omega)), w.heap.size, mapOf_box hx, Nat.le_refl _⟩
  have HW1 := Lib.hid hW1
  have HV := Lib.hid hV
  have S1 := Lib.hid s1
  clear hm hW1 s1 b1 hV hx b2 hm2
  go_enter Try.func8, Try.ntmps8
  go_wp2_with fail
  rw [HW1.out, HV.out]
  go_ret
  exact HR.out
set_option maxHeartbeats 4000000 in
set_option maxRecDepth 100000 in
theorem wconn_is (hB : Hid (BkAt w g b B)) : Calls Try.prog 17 #[.pointer (some ⟨b, 0, none⟩)] w fun e w' => e = .returned (.int .i64 B.conn) ∧ w = w' := by
  obtain ⟨bm, _, hx, _, _⟩ := hB.out.box
  obtain ⟨c0, c1, c2, _, _⟩ := hx.cells
  clear hx hB
  go_enter Try.func17, Try.ntmps17
  go_wp2_with fail
  go_ret
  exact ⟨rfl, rfl⟩
set_option maxHeartbeats 4000000 in
set_option maxRecDepth 100000 in
theorem wof_is (o : Option Int) (hB : Hid (BkAt w g b B)) (hi : id < 4294967296) (ho : Hid (ofR B.rows id = o)) : Calls Try.prog 16 #[.pointer (some ⟨b, 0, none⟩), .int .u32 (id : Int)] w fun e w' => e = .returned (.tuple #[.int .i64 (o.getD 0), .bool o.isSome]) ∧ Below w.heap.size w w' := by
  obtain ⟨bm, _, hx, hm, _⟩ := hB.out.box
  obtain ⟨c0, c1, c2, _, _⟩ := hx.cells
  have hlk := look_b hm id o ho.out
  obtain ⟨y, hy⟩ : ∃ y, o.getD 0 = y := ⟨_, rfl⟩
  obtain ⟨p, hp⟩ : ∃ p, o.isSome = p := ⟨_, rfl⟩
  rw [hy, hp] at hlk ⊢
  have HR := Lib.hid (Below.refl w.heap.size w)
  clear hx hB hm ho hy hp
  go_enter Try.func16, Try.ntmps16
  go_wp2_with fail
  go_ret2
  exact ⟨rfl, HR.out⟩
set_option maxHeartbeats 4000000 in
set_option maxRecDepth 100000 in
theorem wdrop_is (hB : Hid (BkAt w g b B)) (hI : Hid (Inv K B)) (hi : id < 4294967296) : Calls Try.prog 12 #[.pointer (some ⟨b, 0, none⟩), .int .u32 (id : Int)] w fun e w' => e = .returned (.tuple #[]) ∧ Hid (BkAt w' g b (dropB B id)) ∧ Hid (BkK b w w') := by
  have hg := hB.out.gb
  obtain ⟨bm, hgm, hx, hm, hn⟩ := hB.out.box
  obtain ⟨c0, c1, c2, _, _⟩ := hx.cells
  obtain ⟨w2, hrun, hm2, ht⟩ := del_b hm id (dropB B id).rows (by rw [ofR_drop, if_pos rfl]) (fun j hj => by rw [ofR_drop, if_neg hj])
  have HR := Lib.hid (bk_map hg hgm hx hn hm2 ht)
  clear hx hB hm hm2 ht hI hn hgm
  go_enter Try.func12, Try.ntmps12
  go_wp2_with fail
  go_end0
  exact ⟨rfl, Lib.hid HR.out.1, Lib.hid HR.out.2⟩
set_option maxHeartbeats 4000000 in
set_option maxRecDepth 100000 in
theorem wopen_is (hB : Hid (BkAt w g b B)) (hI : Hid (Inv K B)) (hK : 0 ≤ K ∧ K ≤ 1000000000000) (hi : id < 4294967296) : Calls Try.prog 11 #[.pointer (some ⟨b, 0, none⟩), .int .u32 (id : Int)] w fun e w' => e = .returned (.tuple #[]) ∧ Hid (BkAt w' g b (openB B id)) ∧ Hid (BkK b w w') := by
  have hg := hB.out.gb
  obtain ⟨bm, hgm, hx, hm, hn⟩ := hB.out.box
  obtain ⟨c0, c1, c2, _, _⟩ := hx.cells
  have hm1 : MapF w.drew bm (.int .u32) (liftR B.rows) := hm
  obtain ⟨w2, hrun, hm2, ht⟩ := put_b hm1 id B.first (openB B id).rows (by unfold openB; rw [ofR_put, if_pos rfl]) (fun j hj => by unfold openB; rw [ofR_put, if_neg hj])
  have HR := Lib.hid (bk_map (w := w.drew) hg hgm hx hn hm2 ht)
  clear hx hB hm hm1 hm2 ht hI hn hgm
  go_enter Try.func11, Try.ntmps11
  go_region
  go_end0
  exact ⟨rfl, Lib.hid HR.out.1, Lib.hid ⟨HR.out.2.os, HR.out.2.tape, HR.out.2.output, HR.out.2.size, HR.out.2.block, HR.out.2.same⟩⟩
end
end Go.Proofs.Ytieicfobhgfonaa
