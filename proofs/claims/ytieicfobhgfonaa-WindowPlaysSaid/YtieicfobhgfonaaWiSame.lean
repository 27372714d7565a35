/- The law's own comparison of layer 17: a book and the document's of the same windows are the same. For up to 999 streams. -/
import Derived.Test.YtieicfobhgfonaaProg
import Derived.Test.YtieicfobhgfonaaWiMath
import Derived.Test.YtieicfobhgfonaaWiRef
import Derived.Test.YtieicfobhgfonaaWiDrop
import Derived.Test.YtieicfobhgfonaaWiPut
import Derived.Test.YtieicfobhgfonaaWiOpen
import Derived.Test.YtieicfobhgfonaaWiInit
import Derived.Test.YtieicfobhgfonaaWiCode
import Derived.WalkKit
import Derived.Lib.Hide
import Derived.OwnWalk
import Derived.Below
import Derived.Laws.Rows
import Derived.Outline
import Derived.IntWalk
import Derived.WalkSpells
import Derived.WalkLawsBesides
import Derived.LoopTactic
import Derived.Deep.CutRange
import Derived.Deep.QuietTactic
import Derived.BigQuiet
import Derived.Test.YtieicfobhgfonaaQuiet
namespace Go.Proofs.Ytieicfobhgfonaa
open Go Go.RowKit Wi

namespace Wi
/-- A book and the document's, of the same windows. -/
structure Pl (w : World) (g b : Nat) (K : Int) (N : Nat) (B : Bk) (A : Option Addr) (n : Nat) : Prop where
  bk : BkAt w g b B
  inv : Inv K B
  rd : RdW w w.heap.size A B.rows
  len : B.rows.length = n
  le : n ≤ N
  lo : ∀ x ∈ B.rows, x.1 < 4294967296
theorem Pl.below {w w' : World} {g b n N : Nat} {K : Int} {B : Bk} {A : Option Addr} (h : Pl w g b K N B A n) (hB : Below w.heap.size w w') : Pl w' g b K N B A n :=
  ⟨h.bk.below hB, h.inv, h.rd.on hB hB.size, h.len, h.le, h.lo⟩
theorem Pl.gle {w : World} {g b n N : Nat} {K : Int} {B : Bk} {A : Option Addr} (h : Pl w g b K N B A n) : g ≤ w.heap.size := by have := h.bk.lt; have := h.bk.gb; omega
end Wi
set_option maxHeartbeats 8000000 in
set_option maxRecDepth 100000 in
theorem wsame_is (g b N : Nat) (K : Int) (B : Bk) (A : Option Addr) (n c id : Nat) (w : World) (hP : Hid (Pl w g b K N B A n)) (hN : N ≤ 999) (hid : id < 4294967296) :
    Calls Try.prog 23 #[.pointer (some ⟨b, 0, none⟩), bkV B A n c, .int .u32 (id : Int)] w fun e w' => e = .returned (.bool true) ∧ Below w.heap.size w w' := by
  have hnb : n ≤ 999 := by have := hP.out.le; omega
  have HOI := Lib.hid (fun (W : World) (j : Nat) (o : Option Int) (hj : j < 4294967296) (ho : ofR B.rows j = o) (h : Below w.heap.size w W) => wof_is g b B j W o (Lib.hid (hP.out.bk.below h)) hj (Lib.hid ho))
  have HCI : Hid (∀ W : World, Below w.heap.size w W → Calls Try.prog 17 #[.pointer (some ⟨b, 0, none⟩)] W fun e w' => e = .returned (.int .i64 B.conn) ∧ W = w') := Lib.hid (fun (W : World) (h : Below w.heap.size w W) => wconn_is g b B W (Lib.hid (hP.out.bk.below h)))
  have HXO := Lib.hid (fun (W : World) (j : Nat) (o : Option Int) (ho : ofR B.rows j = o) (h : Below w.heap.size w W) => xof_is B A n c j o W (Lib.hid hP.out.len) (by omega) (Lib.hid (hP.out.rd.on h h.size)) (Lib.hid ho))
  have HRW := Lib.hid hP.out.rd
  have HLN := Lib.hid hP.out.len
  have HAT := Lib.hid (fun k (hk : k < B.rows.length) => (⟨ofR_mem hP.out.inv.keys (rwAt_mem hk), hP.out.lo _ (rwAt_mem hk)⟩ : ofR B.rows (rwAt B.rows k).1 = some (rwAt B.rows k).2 ∧ (rwAt B.rows k).1 < 4294967296))
  clear hP
  obtain ⟨cn, fi, L⟩ := B
  have HLN : Hid (L.length = n) := HLN
  have HRW : Hid (RdW w w.heap.size A L) := HRW
  unfold bkV
  have hX : BoxK (w.alloc (.cells #[.int .i64 cn, .int .i64 fi, .slice A n c] 28)) w.heap.size cn fi (.slice A n c) := heap_alloc_new w _
  have hBX := (Below.refl _ w).alloc (Nat.le_refl _) (.cells #[.int .i64 cn, .int .i64 fi, .slice A n c] 28)
  have hsz : (w.alloc (.cells #[.int .i64 cn, .int .i64 fi, .slice A n c] 28)).heap.size = w.heap.size + 1 := by simp
  obtain ⟨V, hV⟩ : ∃ V, w.alloc (.cells #[.int .i64 cn, .int .i64 fi, .slice A n c] 28) = V := ⟨_, rfl⟩
  rw [hV] at hX hBX hsz
  obtain ⟨X, hXX⟩ : ∃ X, w.heap.size = X := ⟨_, rfl⟩
  have HX := Lib.hid hX
  have HBX := Lib.hid hBX
  have HSZ := Lib.hid hsz
  have HV := Lib.hid hV
  have G := Lib.hid hXX
  obtain ⟨o, ho⟩ : ∃ o, ofR L id = o := ⟨_, rfl⟩
  have HO1 := Lib.hid (HOI.out V id o hid ho hBX)
  have HO2 := Lib.hid (fun (W : World) (h : Below w.heap.size w W) => HXO.out W id o ho h)
  have e1 : (o.getD 0 != o.getD 0) = false := by simp
  have e2 : (o.isSome != o.isSome) = false := by simp
  have e3 : (cn != cn) = false := by simp
  clear hX hBX hsz hV HXO ho
  go_enter Try.func23, Try.ntmps23
  go_upto_region 1 with fail
  rw [HV.out]
  go_wp2_with fail
  refine HO1.out.mono ?_
  rintro e w1 ⟨rfl, hB1⟩
  have HB1 := Lib.hid (HBX.out.trans (hB1.mono (by have := HSZ.out; omega)))
  have HX1 := Lib.hid (HX.out.below hB1)
  clear hB1 HO1
  obtain ⟨x0, x1, x2⟩ := HX1.out.cells
  rw [hXX] at x0 x1 x2
  go_wp2_with fail
  refine (HO2.out w1 HB1.out).mono ?_
  rintro e w2 ⟨rfl, hB2⟩
  have HB2 := Lib.hid (HB1.out.trans (hB2.mono HB1.out.size))
  have HX2 := Lib.hid (HX1.out.below hB2)
  clear hB2 HO2 x0 x1 x2 HX1
  obtain ⟨x0, x1, x2⟩ := HX2.out.cells
  rw [hXX] at x0 x1 x2
  obtain ⟨y, hy⟩ : ∃ y, o.getD 0 = y := ⟨_, rfl⟩
  obtain ⟨p, hp⟩ : ∃ p, o.isSome = p := ⟨_, rfl⟩
  rw [hy] at e1 ⊢
  rw [hp] at e2 ⊢
  have HCC := Lib.hid (fun m : Nat => HCI.out (w2.drewN m) ⟨HB2.out.os, HB2.out.tape, HB2.out.output, HB2.out.size, HB2.out.block⟩)
  go_upto_region 3 with fail
  go_quiet ((go_at_call 17; exact quiet_left (HCC.out _)))
  have HB3 : Hid (Below w.heap.size w (w2.drewN nq)) := Lib.hid ⟨HB2.out.os, HB2.out.tape, HB2.out.output, HB2.out.size, HB2.out.block⟩
  have HX3 : Hid (BoxK (w2.drewN nq) X cn fi (.slice A n c)) := Lib.hid (by have h := HX2.out; rw [G.out] at h; exact h)
  clear HB2 HX2 HCC x0 x1 x2
  generalize w2.drewN nq = w3 at *
  obtain ⟨x0, x1, x2⟩ := HX3.out.cells
  go_wp2_with fail
  go_loopw [11, 12, 13] (fun i _ _ wr => ∃ k : Nat, k ≤ n ∧ i = .int .i64 (k : Int) ∧ Hid (Below w.heap.size w wr) ∧ Hid (BoxK wr X cn fi (.slice A n c))) (fun i _ _ _ => n - (intOf i).toNat)
  case atStart => exact ⟨0, Nat.zero_le _, rfl, HB3, HX3⟩
  case round =>
    obtain ⟨k, hk, rfl, hBw, hXw⟩ := hrel
    clear x0 x1 x2
    obtain ⟨x0, x1, x2⟩ := hXw.out.cells
    by_cases hlt : k < n
    · have hki : (k : Int) < (n : Int) := by omega
      have hk0 : (0 : Int) ≤ (k : Int) := by omega
      have hkl : k < L.length := by rw [HLN.out]; exact hlt
      obtain ⟨b0, off, rfl, hb0, d0, d1⟩ := HRW.out.1 k hkl
      obtain ⟨hat, hlo⟩ := HAT.out k hkl
      have hat : ofR L (rwAt L k).1 = some (rwAt L k).2 := hat
      have hlo : (rwAt L k).1 < 4294967296 := hlo
      obtain ⟨⟨x, y⟩, hxy⟩ : ∃ z, rwAt L k = z := ⟨_, rfl⟩
      rw [hxy] at d0 d1 hat hlo
      have d0 : w.cell? ⟨b0, off + k * 2, none⟩ = some (.int .u32 (x : Int)) := d0
      have d1 : w.cell? ⟨b0, off + k * 2 + 1, none⟩ = some (.int .i64 y) := d1
      have hat : ofR L x = some y := hat
      have hlo : x < 4294967296 := hlo
      have HD1 : Hid (∀ W : World, Below w.heap.size w W → W.cell? ⟨b0, off + k * 2 + 1, none⟩ = some (.int .i64 y)) := Lib.hid (fun W h => (h.cell (p := ⟨b0, off + k * 2 + 1, none⟩) hb0).trans d1)
      have d0 := (hBw.out.cell (p := ⟨b0, off + k * 2, none⟩) hb0).trans d0
      have HO5 := Lib.hid (HOI.out wr x (some y) hlo hat hBw.out)
      have e4 : (y != y) = false := by simp
      clear hxy hkl d1 hat hlo hb0
      go_wp2_with fail
      refine HO5.out.mono ?_
      rintro e w5 ⟨rfl, hB5⟩
      have HB5 := Lib.hid (hBw.out.trans (hB5.mono hBw.out.size))
      have HX5 : Hid (BoxK w5 X cn fi (.slice (some ⟨b0, off, none⟩) n c)) := Lib.hid (hXw.out.below hB5)
      have d1 := HD1.out w5 HB5.out
      clear hB5 HO5 x0 x1 x2 d0
      obtain ⟨x0, x1, x2⟩ := HX5.out.cells
      go_wp2_with fail
      go_roundw
      case rel => exact ⟨k + 1, by omega, by go_num, HB5, HX5⟩
      case measure => simp [intOf]; omega
    · have hnk : ¬ ((k : Int) < (n : Int)) := by omega
      go_wp2_with fail
      go_ret
      exact ⟨rfl, by rw [← G.out]; exact hBw.out⟩
end Go.Proofs.Ytieicfobhgfonaa
