/- The code's Settings of layer 14. For up to 2000 settings. -/
import Derived.Test.YteddepmiejlemaaProg
import Derived.Test.YteddepmiejlemaaBytes
import Derived.Test.YteddepmiejlemaaNumBe
import Derived.Test.YteddepmiejlemaaNumPut
import Derived.Test.YteddepmiejlemaaFrMath
import Derived.Test.YteddepmiejlemaaFrVal
import Derived.Test.YteddepmiejlemaaFrFrame
import Derived.Test.YteddepmiejlemaaFrMake
import Derived.Test.YteddepmiejlemaaFrBld
import Derived.Test.YteddepmiejlemaaFrWords
import Derived.Test.YteddepmiejlemaaShelf
import Derived.WalkKit
import Derived.Lib.Hide
import Derived.Laws.Rows
import Derived.Outline
import Derived.IntWalk
import Derived.WalkSpells
import Derived.WalkLawsBesides
import Derived.LoopTactic
namespace Go.Proofs.Yteddepmiejlemaa
open Go Go.RowKit Bytes Fr

namespace Fr
theorem bld_keep {w w' : World} {B b : Nat} {l : List UInt8} (h : Bld B b l w) (hB : Below w.heap.size w w') : Bld B b l w' := by
  have key : ∀ p, Lib.BuilderAt 59 5 B b p (Bytes.byteCells l) w → Lib.BuilderAt 59 5 B b p (Bytes.byteCells l) w' := fun p h => by
    have hlt := h.lt
    obtain ⟨h1, v, hb, hown, hne⟩ := h
    exact ⟨h1, v, (hB.block b hlt).trans hb, own_below hown hB, hne⟩
  rcases h with h | h
  · exact Or.inl (key _ h)
  · exact Or.inr (key _ h)
theorem bld_lt {w : World} {B b : Nat} {l : List UInt8} (h : Bld B b l w) : b < w.heap.size := by
  rcases h with h | h
  · exact h.lt
  · exact h.lt
theorem setB_take {L : List (Nat × Nat)} {k : Nat} (h : k < L.length) : setB (L.take (k + 1)) = setB (L.take k) ++ beTail (setAt L k).1 2 ++ beTail (setAt L k).2 4 := by
  rw [List.take_succ_eq_append_getElem h, setB_cat, List.append_assoc]
  have : setAt L k = L[k] := by
    unfold setAt
    rw [List.getD_eq_getElem?_getD, List.getElem?_eq_getElem h]
    rfl
  rw [this]
/-- Two bytes out of Put, behind nothing. -/
theorem put_two (x : Nat) (W : World) :
    Calls Try.prog 24 #[.slice none 0 0, .int .u64 (x : Int), .int .i64 2] W fun e w' => ∃ G, e = .returned (.slice (some ⟨G, 0, none⟩) 2 2) ∧ W.heap.size ≤ G ∧ Below W.heap.size W w' ∧ w'.heap[G]? = some (.cells (Lib.byteCells (beTail x 2)).toArray 5 (0, 0)) := by
  refine (put_any none 0 [] x 2 W (by decide) (fun h => absurd h (by simp)) (by simp)).mono ?_
  rintro e w' ⟨h1, h2, h3, h4⟩
  exact ⟨_, h1, Nat.le_refl _, h2, h4⟩
end Fr

set_option maxHeartbeats 8000000 in
set_option maxRecDepth 100000 in
theorem cset_is (a : Option Addr) (n cap : Nat) (L : List (Nat × Nat)) (w : World) (hR : Hid (RdSt w w.heap.size a L)) (hL : Hid (L.length = n)) (hn : n ≤ 2000) :
    Calls Try.prog 17 #[.slice a n cap] w fun e w' => e = .returned (frV (setF L)) ∧ Below w.heap.size w w' := by
  have hZ := heap_alloc_new w (.cells #[.int .u8 0, .int .u8 0, .int .u32 0, .string ⟨#[]⟩] 41)
  have hBZ := (Below.refl _ w).alloc (Nat.le_refl _) (.cells #[.int .u8 0, .int .u8 0, .int .u32 0, .string ⟨#[]⟩] 41)
  go_enter Try.func17, Try.ntmps17
  go_upto_region 1 with fail
  obtain ⟨W, hW⟩ : ∃ W, w.alloc (.cells #[.int .u8 0, .int .u8 0, .int .u32 0, .string ⟨#[]⟩] 41) = W := ⟨_, rfl⟩
  rw [hW] at hZ hBZ ⊢
  clear hW
  have hWs : w.heap.size < W.heap.size := by
    rcases Nat.lt_or_ge w.heap.size W.heap.size with h | h
    · exact h
    · rw [Array.getElem?_eq_none h] at hZ; cases hZ
  have hF := Lib.fresh_isBuilder 59 5 W
  have hBF := (Below.refl _ W).alloc (Nat.le_refl _) (.cells #[.pointer none, .slice none 0 0] 59)
  have HF := Lib.hid hF
  have HBF := Lib.hid hBF
  have HZ := Lib.hid hZ
  have HBZ := Lib.hid hBZ
  clear hF hBF hZ hBZ
  go_upto_region 2 with fail
  obtain ⟨V, hV⟩ : ∃ V, W.alloc (.cells #[.pointer none, .slice none 0 0] 59) = V := ⟨_, rfl⟩
  rw [hV] at HF HBF ⊢
  clear hV
  obtain ⟨B, hBB⟩ : ∃ B, W.heap.size = B := ⟨_, rfl⟩
  rw [hBB] at HF HBF hWs ⊢
  go_wp2_with fail
  go_loopw [5, 8] (fun _ i wr => ∃ k : Nat, k ≤ n ∧ i = .int .i64 (k : Int) ∧ Hid (Bld B B (setB (L.take k)) wr) ∧ Hid (Below B W wr)) (fun _ i _ => n - (intOf i).toNat)
  case atStart => exact ⟨0, Nat.zero_le _, rfl, HF, HBF⟩
  case round =>
    obtain ⟨k, hk, rfl, hBd, hBw⟩ := hrel
    by_cases hlt : k < n
    · have hki : (k : Int) < (n : Int) := by omega
      have hkl : k < L.length := by rw [hL.out]; exact hlt
      obtain ⟨b0, off, rfl, hb0, c0, c1, hx1, hx2⟩ := hR.out k hkl
      have hbW : Below w.heap.size w wr := HBZ.out.trans (hBw.out.mono (by omega))
      have d0 : wr.cell? ⟨b0, off + k * 2, none⟩ = some (.int .u16 ((setAt L k).1 : Int)) := (hbW.cell (p := ⟨b0, off + k * 2, none⟩) hb0).trans c0
      have d1 : wr.cell? ⟨b0, off + k * 2 + 1, none⟩ = some (.int .u32 ((setAt L k).2 : Int)) := (hbW.cell (p := ⟨b0, off + k * 2 + 1, none⟩) hb0).trans c1
      have hcat := setB_take hkl
      obtain ⟨x, hx⟩ : ∃ x, (setAt L k).1 = x := ⟨_, rfl⟩
      obtain ⟨y, hy⟩ : ∃ y, (setAt L k).2 = y := ⟨_, rfl⟩
      rw [hx] at d0 hx1 hcat
      rw [hy] at d1 hx2 hcat
      have ewx : IntKind.u64.wrap (x : Int) = (x : Int) := by rw [IntKind.wrap_u64]; omega
      have hml : (setB (L.take k)).length ≤ 12000 := by rw [setB_len, List.length_take]; omega
      have HCAT := Lib.hid hcat
      have HML := Lib.hid hml
      have HPT := Lib.hid (fun W : World => put_two x W)
      have hblt := bld_lt hBd.out
      clear c0 c1 hx hy hcat hml hbW hkl
      go_upto_region 5 with fail
      have hS := heap_alloc_new wr (.cells #[.int .u16 (x : Int), .int .u32 (y : Int)] 48)
      have hBS := (Below.refl _ wr).alloc (Nat.le_refl _) (.cells #[.int .u16 (x : Int), .int .u32 (y : Int)] 48)
      obtain ⟨W5, hW5⟩ : ∃ W5, wr.alloc (.cells #[.int .u16 (x : Int), .int .u32 (y : Int)] 48) = W5 := ⟨_, rfl⟩
      rw [hW5] at hS hBS ⊢
      clear hW5
      obtain ⟨S, hSS⟩ : ∃ S, wr.heap.size = S := ⟨_, rfl⟩
      have hSW : S < W5.heap.size := by
        rcases Nat.lt_or_ge S W5.heap.size with h | h
        · exact h
        · rw [hSS, Array.getElem?_eq_none h] at hS; cases hS
      have HBd5 := Lib.hid (bld_keep hBd.out hBS)
      have HBw5 := Lib.hid (hBw.out.trans (hBS.mono hBw.out.size |> fun h => h.mono (by omega)))
      rw [hSS] at hS hblt ⊢
      have HS := Lib.hid hS
      clear hS hBS hBd hBw hSS
      have e0 : W5.cell? ⟨S, 0, none⟩ = some (.int .u16 (x : Int)) := cell_of_row _ _ 0 _ _ _ HS.out
      go_wp2_with fail
      refine (HPT.out _).mono ?_
      rintro e W6 ⟨G, rfl, hG, hB6, hrow⟩
      have hS6 := (hB6.block S hSW).trans HS.out
      have HBd6 := Lib.hid (bld_keep HBd5.out hB6)
      have HBw6 := Lib.hid (HBw5.out.trans (hB6.mono (by omega)))
      have hsz6 := hB6.size
      have HWR := Lib.hid (write_any B B (setB (L.take k)) (beTail x 2) G 2 2 W6 HBd6.out (beTail_length x 2) (fun j v hj => by rw [Lib.cell_of_heap hrow, ← Array.getElem?_toList]; exact hj) (by omega) (by have := HML.out; omega) (by omega))
      have HS6 := Lib.hid hS6
      clear hB6 hrow hS6 e0 HS HBd5 HBw5
      go_wp2_with fail
      refine HWR.out.mono ?_
      rintro e W7 ⟨rfl, hb7, hB7, hk7⟩
      have hS7 := hk7 S _ HS6.out (by intro h; injection h with h; omega) (by intro c fz h; injection h with _ h; exact absurd h (by decide))
      have HBd7 := Lib.hid hb7
      have HBw7 := Lib.hid (HBw6.out.trans hB7)
      have HS7 := Lib.hid hS7
      have hlt7 := bld_lt HBd7.out
      have e1 : W7.cell? ⟨S, 1, none⟩ = some (.int .u32 (y : Int)) := cell_of_row _ _ 1 _ _ _ HS7.out
      clear hb7 hB7 hk7 hS7 HWR HBd6 HBw6 HS6
      obtain ⟨r, hr⟩ : ∃ r, mk (wordsB [y]) = r := ⟨_, rfl⟩
      have hA := heap_alloc_new W7 (.cells #[.int .u32 (y : Int)] 24)
      have hBA := (Below.refl _ W7).alloc (Nat.le_refl _) (.cells #[.int .u32 (y : Int)] 24)
      have hAs : W7.heap.size < (W7.alloc (.cells #[.int .u32 (y : Int)] 24)).heap.size := by simp
      have hw := cwords_is W7.heap.size 1 1 [y] r (W7.alloc (.cells #[.int .u32 (y : Int)] 24)) (Lib.hid rfl) (by decide) (by decide) (fun j => by match j with | 0 => (show _ < _; simp; try omega) | (k + 1) => (show _ < _; simp)) hAs (Lib.hid hr) (Lib.hid (fun j hj => by rw [Lib.cell_of_heap hA]; match j, hj with | 0, _ => rfl | (k + 1), hk => (exfalso; omega)))
      have HW := Lib.hid hw
      have HBd8 := Lib.hid (bld_keep HBd7.out hBA)
      have HBw8 := Lib.hid (HBw7.out.trans (hBA.mono (Nat.le_of_lt hlt7)))
      have hrl : r.data.toList = beTail y 4 := by rw [← hr, wordsB_one]; rfl
      have hrs : r.size = 4 := by rw [← hr, mk_size, wordsB_one, beTail_length]
      have HRL := Lib.hid hrl
      have HRS := Lib.hid hrs
      clear hw hA hBA hr hAs hrl hrs
      go_wp2_with fail
      refine HW.out.mono ?_
      rintro e W9 ⟨rfl, hB9⟩
      have HBd9 := Lib.hid (bld_keep HBd8.out hB9)
      have HBw9 := Lib.hid (HBw8.out.trans (hB9.mono (by have := bld_lt HBd8.out; omega)))
      have hlt9 := bld_lt HBd9.out
      clear hB9 HBd8 HBw8 HW HBd7 HBw7 HS7
      go_wp2_with fail
      refine (writeString_any B B (setB (L.take k) ++ beTail x 2) r W9 HBd9.out (by rw [List.length_append, beTail_length, HRS.out]; have := HML.out; omega) (by omega)).mono ?_
      rintro e W10 ⟨rfl, hb10, hB10, _⟩
      have HBd10 : Hid (Bld B B (setB (L.take (k + 1))) W10) := Lib.hid (by rw [HCAT.out, ← HRL.out]; exact hb10)
      have HBw10 := Lib.hid (HBw9.out.trans hB10)
      clear hb10 hB10 HBd9 HBw9
      go_wp2_with fail
      go_roundw
      case rel => exact ⟨k + 1, by omega, by go_num, HBd10, HBw10⟩
      case measure => simp [intOf]; omega
    · have hkn : k = n := by omega
      subst hkn
      have ht : L.take k = L := by rw [← hL.out]; exact List.take_length
      have hbd := hBd.out
      rw [ht] at hbd
      have hS := Try.Builder_String_any B B (setB L) wr hbd (by have := hBw.out.size; omega)
      have HS := Lib.hid hS
      clear ht hbd hS hlt
      go_wp2_with fail
      refine HS.out.mono ?_
      rintro e w2 ⟨rfl, hB2⟩
      have hZ2 := ((hBw.out.trans hB2).block w.heap.size hWs).trans HZ.out
      have HB2 := Lib.hid (HBZ.out.trans ((hBw.out.trans hB2).mono (Nat.le_of_lt hWs)))
      have c0 : w2.cell? ⟨w.heap.size, 0, none⟩ = some (.int .u8 0) := cell_of_row _ _ 0 _ _ _ hZ2
      have c1 : w2.cell? ⟨w.heap.size, 1, none⟩ = some (.int .u8 0) := cell_of_row _ _ 1 _ _ _ hZ2
      have c2 : w2.cell? ⟨w.heap.size, 2, none⟩ = some (.int .u32 0) := cell_of_row _ _ 2 _ _ _ hZ2
      have c3 : w2.cell? ⟨w.heap.size, 3, none⟩ = some (.string ⟨#[]⟩) := cell_of_row _ _ 3 _ _ _ hZ2
      have hfz : ∀ i, w2.frozen? ⟨w.heap.size, i, none⟩ = false := fun i => by simp [World.frozen?, hZ2]
      have f0 := hfz 0
      have f1 := hfz 1
      have f2 := hfz 2
      have f3 := hfz 3
      obtain ⟨r, hr⟩ : ∃ r : ByteArray, ⟨(setB L).toArray⟩ = r := ⟨_, rfl⟩
      rw [hr]
      have hres : frV (setF L) = .agg #[.int .u8 4, .int .u8 0, .int .u32 0, .string r] := by
        unfold frV setF
        rw [← hr]
        rfl
      have HRES := Lib.hid hres
      have hset : ∀ v0 v1 v2 v3 : Value, ((((w2.setCell ⟨w.heap.size, 0, none⟩ v0).setCell ⟨w.heap.size, 1, none⟩ v1).setCell ⟨w.heap.size, 2, none⟩ v2).setCell ⟨w.heap.size, 3, none⟩ v3).heap[w.heap.size]? = some (.cells #[v0, v1, v2, v3] 41 (0, 0)) := fun v0 v1 v2 v3 => by
        simp [World.setCell, Array.getElem?_modify, hZ2]
      have hone := hset (.int .u8 4) (.int .u8 0) (.int .u32 0) (.string r)
      have HK := Lib.hid (And.intro (cell_of_row _ _ 0 _ _ _ hone) (And.intro (cell_of_row _ _ 1 _ _ _ hone) (And.intro (cell_of_row _ _ 2 _ _ _ hone) (cell_of_row _ _ 3 _ _ _ hone))))
      have HZZ : Hid (Below w.heap.size w ((((w2.setCell ⟨w.heap.size, 0, none⟩ (.int .u8 4)).setCell ⟨w.heap.size, 1, none⟩ (.int .u8 0)).setCell ⟨w.heap.size, 2, none⟩ (.int .u32 0)).setCell ⟨w.heap.size, 3, none⟩ (.string r))) := Lib.hid ((((HB2.out.setCell (p := ⟨w.heap.size, 0, none⟩) (Nat.le_refl _) _).setCell (p := ⟨w.heap.size, 1, none⟩) (Nat.le_refl _) _).setCell (p := ⟨w.heap.size, 2, none⟩) (Nat.le_refl _) _).setCell (p := ⟨w.heap.size, 3, none⟩) (Nat.le_refl _) _)
      clear hB2 hZ2 hfz hset hone hres HS hBd hBw HF HBF HZ HBZ hr
      go_wp2_with fail
      obtain ⟨k0, k1, k2, k3⟩ := HK.out
      refine bodyPost_ret (v := .agg #[.int .u8 4, .int .u8 0, .int .u32 0, .string r]) (by simp [results, Try.results17, go_sem, k0, k1, k2, k3]) rfl ⟨by rw [HRES.out], HZZ.out⟩
end Go.Proofs.Yteddepmiejlemaa
