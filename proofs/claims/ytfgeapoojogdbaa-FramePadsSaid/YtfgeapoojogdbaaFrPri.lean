/- The code's Print of layer 14. For payloads of at most 10^6 bytes. -/
import Derived.Test.YtfgeapoojogdbaaProg
import Derived.Test.YtfgeapoojogdbaaBytes
import Derived.Test.YtfgeapoojogdbaaNumBe
import Derived.Test.YtfgeapoojogdbaaNumPut
import Derived.Test.YtfgeapoojogdbaaFrMath
import Derived.Test.YtfgeapoojogdbaaFrRef
import Derived.Test.YtfgeapoojogdbaaFrLow
import Derived.WalkKit
import Derived.Lib.Hide
import Derived.Laws.Rows
import Derived.Outline
import Derived.IntWalk
import Derived.WalkSpells
import Derived.WalkLawsBesides
import Derived.Deep.CutRange
import Derived.Deep.RegionWith
import Derived.Deep.RegionHeld3
namespace Go.Proofs.Ytfgeapoojogdbaa
open Go Go.RowKit Bytes Fr

namespace Fr
theorem lib_cells (l : List UInt8) : Lib.byteCells l = Bytes.byteCells l := rfl
/-- The text of a row that Put laid. -/
theorem conv_row {W : World} {g n : Nat} {l : List UInt8} (h : W.heap[g]? = some (.cells (Lib.byteCells l).toArray 5 (0, 0))) (hn : l.length = n) :
    (convert 52 9 (.slice (some ⟨g, 0, none⟩) n n)).run Try.prog W = .ok (.string (mk l)) W := by
  subst hn
  refine run_convert_bytes_back _ _ _ 5 ⟨g, 0, none⟩ l.length l Try.underlying52 Try.underlying5 Try.underlying9 (fun j hj => ?_)
  rw [show ((⟨g, 0, none⟩ : Addr).add j) = ⟨g, j, none⟩ from by unfold Addr.add; split <;> simp_all]
  rw [Lib.cell_of_heap h, ← Array.getElem?_toList]
  simp [Lib.byteCells, hj]
/-- A row of bytes that came in, of one's own. -/
theorem rdB_row {W : World} {g B : Nat} {l : List UInt8} {cs : Array Value} {fz : Nat × Nat} (h : W.heap[g]? = some (.cells cs 5 fz)) (hc : cs.toList = Lib.byteCells l) (hB : g < B) : RdB W B (some ⟨g, 0, none⟩) l := by
  intro _
  refine ⟨⟨g, 0, none⟩, rfl, hB, fun i v hv => ?_⟩
  rw [show ((⟨g, 0, none⟩ : Addr).add i) = ⟨g, i, none⟩ from by unfold Addr.add; split <;> simp_all]
  rw [Lib.cell_of_heap h, ← Array.getElem?_toList, hc]
  exact hv
end Fr

set_option maxHeartbeats 8000000 in
set_option maxRecDepth 100000 in
theorem cprint_is (f : Frm) (l : List UInt8) (c : Nat) (r : ByteArray) (w : World) (hf : Okf f) (hs : f.data.size ≤ 1000000) (hr : Hid (printF f = (l, c))) (hl : Hid (mk l = r)) :
    Calls Try.prog 11 #[.agg #[.int .u8 (f.ty : Int), .int .u8 (f.fl : Int), .int .u32 (f.st : Int), .string f.data]] w fun e w' => e = .returned (.tuple #[.string r, .int .i64 (c : Int)]) ∧ Below w.heap.size w w' := by
  obtain ⟨hX, hB⟩ := boxF_new w f
  have HX := Lib.hid hX
  have HB := Lib.hid hB
  have hty := hf.ty
  have hfl := hf.fl
  have hst := hf.st
  have hrr := hr.out
  unfold printF at hrr
  clear hX hB hr
  obtain ⟨a0, a1, a2, a3⟩ := HX.out.c
  go_enter Try.func11, Try.ntmps11
  go_upto_region 1 with fail
  generalize w.alloc (.cells #[.int .u8 (f.ty : Int), .int .u8 (f.fl : Int), .int .u32 (f.st : Int), .string f.data] 24) = W at *
  by_cases h1 : 2147483647 < f.st
  · have b1 : (2147483647 : Int) < (f.st : Int) := by omega
    have b2 : decide ((2147483647 : Int) < (f.st : Int)) = true := decide_eq_true b1
    rw [if_pos h1] at hrr
    injection hrr with e1 e2
    subst e1 e2
    have hr0 : r = ⟨#[]⟩ := hl.out.symm
    subst hr0
    clear h1
    go_wp2_with fail
    go_ret2
    exact ⟨rfl, HB.out⟩
  have b1 : ¬ ((2147483647 : Int) < (f.st : Int)) := by omega
  have b2 : decide ((2147483647 : Int) < (f.st : Int)) = false := decide_eq_false b1
  rw [if_neg h1] at hrr
  by_cases h2 : 16384 < f.data.size
  · have d1 : (16384 : Int) < (f.data.size : Int) := by omega
    have d2 : decide ((16384 : Int) < (f.data.size : Int)) = true := decide_eq_true d1
    rw [if_pos h2] at hrr
    injection hrr with e1 e2
    subst e1 e2
    have hr0 : r = ⟨#[]⟩ := hl.out.symm
    subst hr0
    clear h1 h2
    go_wp2_with fail
    go_ret2
    exact ⟨rfl, HB.out⟩
  have d1 : ¬ ((16384 : Int) < (f.data.size : Int)) := by omega
  have d2 : decide ((16384 : Int) < (f.data.size : Int)) = false := decide_eq_false d1
  rw [if_neg h2] at hrr
  injection hrr with e1 e2
  subst e1 e2
  obtain ⟨n, hn⟩ : ∃ n, f.data.size = n := ⟨_, rfl⟩
  clear h1 h2
  have hnb : n ≤ 16384 := by omega
  obtain ⟨H5, hH5⟩ : ∃ l, beTail n 3 ++ [UInt8.ofNat f.ty, UInt8.ofNat f.fl] = l := ⟨_, rfl⟩
  have hlen : H5.length = 5 := by rw [← hH5]; rfl
  have hc5 : (#[.int .u8 ((n : Int) / 65536), .int .u8 ((n : Int) / 256), .int .u8 ((n : Int) % 256), .int .u8 (f.ty : Int), .int .u8 (f.fl : Int)] : Array Value).toList = Lib.byteCells H5 := by
    rw [← hH5]
    simp only [beTail, Lib.byteCells, List.map_cons, List.map_nil, List.cons_append, List.nil_append, UInt8.toNat_ofNat']
    have e1 : (n : Int) / 65536 = ((n / 256 ^ 2 % 2 ^ 8 : Nat) : Int) := by omega
    have e2 : (n : Int) / 256 = ((n / 256 ^ 1 % 2 ^ 8 : Nat) : Int) := by omega
    have e3 : (n : Int) % 256 = ((n / 256 ^ 0 % 2 ^ 8 : Nat) : Int) := by omega
    have e4 : (f.ty : Int) = ((f.ty % 2 ^ 8 : Nat) : Int) := by omega
    have e5 : (f.fl : Int) = ((f.fl % 2 ^ 8 : Nat) : Int) := by omega
    rw [← e1, ← e2, ← e3, ← e4, ← e5]
  have hres : mk (H5 ++ beTail f.st 4) ++ f.data = r := by
    rw [← hl.out]
    apply list_inj
    rw [cat_list, mk_list, mk_list]
    unfold headF
    rw [hn, ← hH5]
    simp only [List.append_assoc]
  have hHl : (mk (H5 ++ beTail f.st 4)).size = 9 := by rw [mk_size, List.length_append, hlen, beTail_length]
  have hXW := HX.out.lt
  go_upto_region 7 with fail
  have hrow := heap_alloc_new W (.cells #[.int .u8 ((n : Int) / 65536), .int .u8 ((n : Int) / 256), .int .u8 ((n : Int) % 256), .int .u8 (f.ty : Int), .int .u8 (f.fl : Int)] 5)
  have hBA := (Below.refl _ W).alloc (Nat.le_refl _) (.cells #[.int .u8 ((n : Int) / 65536), .int .u8 ((n : Int) / 256), .int .u8 ((n : Int) % 256), .int .u8 (f.ty : Int), .int .u8 (f.fl : Int)] 5)
  have HX1 := Lib.hid (HX.out.below hBA)
  have HB1 := Lib.hid (HB.out.trans (hBA.mono HB.out.size))
  have hWs : W.heap.size < (W.alloc (.cells #[.int .u8 ((n : Int) / 65536), .int .u8 ((n : Int) / 256), .int .u8 ((n : Int) % 256), .int .u8 (f.ty : Int), .int .u8 (f.fl : Int)] 5)).heap.size := by simp
  generalize W.alloc (.cells #[.int .u8 ((n : Int) / 65536), .int .u8 ((n : Int) / 256), .int .u8 ((n : Int) % 256), .int .u8 (f.ty : Int), .int .u8 (f.fl : Int)] 5) = W1 at *
  obtain ⟨B, hBd⟩ : ∃ B, W.heap.size = B := ⟨_, rfl⟩
  rw [hBd] at hrow hWs hBA ⊢
  have hX1 := HX1.out
  have hpt : ∀ V : World, V.cell? ⟨w.heap.size, 0, none⟩ = some (.int .u8 (f.ty : Int)) ∧ V.cell? ⟨w.heap.size, 1, none⟩ = some (.int .u8 (f.fl : Int)) ∧ V.cell? ⟨w.heap.size, 2, none⟩ = some (.int .u32 (f.st : Int)) ∧ V.cell? ⟨w.heap.size, 3, none⟩ = some (.string f.data) ∧ Below W1.heap.size W1 V →
      Calls Try.prog 25 #[.slice (some ⟨B, 0, none⟩) 5 5, .int .u64 (f.st : Int), .int .i64 4] V fun e w' => ∃ G, e = .returned (.slice (some ⟨G, 0, none⟩) 9 9) ∧ (convert 52 9 (.slice (some ⟨G, 0, none⟩) 9 9)).run Try.prog w' = .ok (.string (mk (H5 ++ beTail f.st 4))) w' ∧ w'.cell? ⟨w.heap.size, 0, none⟩ = some (.int .u8 (f.ty : Int)) ∧ w'.cell? ⟨w.heap.size, 1, none⟩ = some (.int .u8 (f.fl : Int)) ∧ w'.cell? ⟨w.heap.size, 2, none⟩ = some (.int .u32 (f.st : Int)) ∧ w'.cell? ⟨w.heap.size, 3, none⟩ = some (.string f.data) ∧ Below W1.heap.size W1 w' := by
    rintro V ⟨_, _, _, _, hV⟩
    have hput := put_any (some ⟨B, 0, none⟩) 5 H5 f.st 4 V (by decide) (rdB_row (W := V) ((hV.block B hWs).trans hrow) hc5 (Nat.lt_of_lt_of_le hWs hV.size)) (by rw [hlen]; decide)
    rw [hlen] at hput
    refine hput.mono ?_
    rintro e w' ⟨h1, h2, h3, h4⟩
    have hB := hV.trans (h2.mono hV.size)
    obtain ⟨c0, c1, c2, c3⟩ := (hX1.below hB).c
    exact ⟨_, h1, conv_row (n := 9) h4 (by rw [List.length_append, hlen, beTail_length]), c0, c1, c2, c3, hB⟩
  have HP := Lib.hid hpt
  clear hpt hrow hWs hBA hBd a0 a1 a2 a3 hc5 hH5 HX HB
  obtain ⟨a0, a1, a2, a3⟩ := HX1.out.c
  have hB0 : Below W1.heap.size W1 W1.drew := (Below.refl _ W1).drew
  clear hX1
  have ewst : IntKind.u64.wrap (f.st : Int) = (f.st : Int) := by rw [IntKind.wrap_u64]; omega
  have HP1 := Lib.hid (HP.out W1.drew ⟨a0, a1, a2, a3, hB0⟩)
  clear HP hB0
  go_region_with (go_at_call 25; refine HP1.out.mono ?_; rintro e w2 ⟨G, rfl, hcv, b0, b1, b2, b3, hB2⟩)
  all_goals
    go_wp2_with fail
    go_ret2
    exact ⟨rfl, HB1.out.trans (hB2.mono HB1.out.size)⟩
end Go.Proofs.Ytfgeapoojogdbaa
