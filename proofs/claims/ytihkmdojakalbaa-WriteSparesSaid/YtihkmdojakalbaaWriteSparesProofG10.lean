/- Texts of one proof, one behind the other: WrData, WrRecord. -/
import Derived.Test.YtihkmdojakalbaaProg
import Derived.Test.YtihkmdojakalbaaBytes
import Derived.Test.YtihkmdojakalbaaStrs
import Derived.Test.YtihkmdojakalbaaNums
import Derived.Test.YtihkmdojakalbaaNumBe
import Derived.Test.YtihkmdojakalbaaNameMath
import Derived.Test.YtihkmdojakalbaaWriteSparesProofG1
import Derived.Test.YtihkmdojakalbaaRecMath
import Derived.Test.YtihkmdojakalbaaRecAt
import Derived.Test.YtihkmdojakalbaaWriteSparesProofG9
import Derived.Test.YtihkmdojakalbaaWriteSparesProofG6
import Derived.Test.YtihkmdojakalbaaWriteSparesProofG7
import Derived.WalkKit
import Derived.Lib.Hide
import Derived.Laws.Rows
import Derived.Outline
import Derived.IntWalk
import Derived.WalkSpells
import Derived.WalkLawsBesides
import Derived.RegionTactic
import Derived.Deep.RegionLaw
import Derived.Deep.CutRange
import Derived.Laws.CopyOwn
import Derived.Deep.AppendLies
import Derived.Deep.Cut

/- The contracts of the writer's rows of numbers, and of a record's data. For records that are right. -/

namespace Go.Proofs.Ytihkmdojakalbaa
open Go.RowKit Bytes Strs Nums WrMath NmMath NameMath RecMath

set_option maxHeartbeats 4000000 in
set_option maxRecDepth 100000 in
theorem numbers_w (A : Option Addr) (c n size r bm g : Nat) (L : List Nat) (s : Wr) (v : Value) (w : World) (h : WrAt w r bm g s v) (hg : g ≤ w.heap.size) (hr : Hid (RdN w g A L)) (hn : Hid (L.length = n)) (hn2 : n ≤ 1000) (hu : Hid (∀ k, k < L.length → L.getD k 0 ≤ 4294967295)) (hs1 : 1 ≤ size) (hs : size ≤ 4) (hl : s.1.length ≤ 900000000) :
    Calls Try.prog 99 #[.pointer (some ⟨r, 0, none⟩), .slice A n c, .int .i64 size] w (WrEnd w r bm g (numsW size L s) v) := by
  obtain ⟨S, hS⟩ : ∃ S, numsW size L s = S := ⟨_, rfl⟩
  have HS := Lib.hid hS
  have HW := Lib.hid h
  have HG := Lib.hid hg
  have HL := Lib.hid hl
  rw [hS]
  clear hS h hg hl
  go_enter Try.func99, Try.ntmps99
  go_wp2_with fail
  go_loopw [10] (fun i wr => ∃ (j : Nat) (s' : Wr) (u : Value), i = .int .i64 j ∧ j ≤ n ∧ Hid (WrAt wr r bm g s' u) ∧ Hid (Wrote r bm v w u wr) ∧ Hid (numsW size (L.drop j) s' = S) ∧ Hid (s'.1.length ≤ 900000000 + j * 4)) (fun i _ => n - (intOf i).toNat)
  case atStart => exact ⟨0, s, v, rfl, Nat.zero_le _, HW, Wrote.refl _ _ _ _, HS, by show _ ≤ _; have := HL.out; omega⟩
  case round =>
    obtain ⟨j, s', u, rfl, hj, hW, hF, hR, hB⟩ := hrel
    have HGW : Hid (g ≤ wr.heap.size) := Nat.le_trans HG.out hF.out.size
    by_cases hlt : j < n
    · have hjl : j < L.length := by rw [hn.out]; exact hlt
      obtain ⟨a, rfl, hab, hcell⟩ := hr.out.get hjl
      have hc2 : wr.cell? (a.add j) = some (.int .u32 ((L.getD j 0 : Nat) : Int)) := ((hF.out.to_below HW.out HG.out).cell (by rw [add_block]; exact hab)).trans hcell
      have hux := hu.out j hjl
      have HR2 : Hid (numsW size (L.drop (j + 1)) (numW (L.getD j 0) size s') = S) := by
        show _ = _
        rw [← hR.out, num_drop hjl, numsW_cons]
      generalize L.getD j 0 = x at *
      have HN := Lib.hid (number_any x size r bm g s' u wr hW.out HGW.out (by omega) hs1 hs (by have := hB.out; omega))
      have HB2 : Hid ((numW x size s').1.length ≤ 900000000 + (j + 1) * 4) := by
        show (s'.1 ++ beTail x size).length ≤ _
        rw [List.length_append, beTail_length]
        have := hB.out
        omega
      clear hR hB hjl hcell hux
      go_wp2_with fail
      refine HN.out.mono ?_
      rintro e w2 ⟨v2, rfl, h2, h3⟩
      have H2 := Lib.hid h2
      have H3 := Lib.hid (hF.out.trans h3)
      clear h2 h3 HN hc2 hW hF
      go_wp2_with fail
      go_roundw
      case rel => exact ⟨j + 1, _, _, by go_num, by omega, H2, H3, HR2, HB2⟩
      case measure => simp [intOf]; omega
    · have hjn : ¬ ((j : Int) < (n : Int)) := by omega
      have HE : Hid (s' = S) := by
        show _ = _
        rw [← hR.out, List.drop_eq_nil_of_le (by rw [hn.out]; omega), numsW_nil]
      clear hlt hR
      go_wp2_with fail
      go_end0
      rw [← HE.out]
      exact ⟨_, rfl, hW.out, hF.out⟩
/-- The record in its box, within the writer's calls. -/
structure BxSt (w wr : World) (r bm g B : Nat) (s : Wr) (v u : Value) (cs : Array Value) : Prop where
  wat : WrAt wr r bm g s u
  fr : Wrote r bm v w u wr
  bx : wr.heap[B]? = some (.cells cs 49 (0, 0))
  gl : g ≤ wr.heap.size
theorem BxSt.call {w wr w' : World} {r bm g B : Nat} {s s' : Wr} {v u u' : Value} {cs : Array Value} (h : BxSt w wr r bm g B s v u cs) (hw : WrAt w' r bm g s' u') (hf : Wrote r bm u wr u' w') : BxSt w w' r bm g B s' v u' cs :=
  ⟨hw, h.fr.trans hf, hf.cells h.wat h.bx (by decide) (by decide), Nat.le_trans h.gl hf.size⟩
theorem BxSt.below {w wr w' : World} {r bm g B : Nat} {s : Wr} {v u : Value} {cs : Array Value} (h : BxSt w wr r bm g B s v u cs) (hB : Below wr.heap.size wr w') : BxSt w w' r bm g B s v u cs :=
  ⟨h.wat.below hB, h.fr.below hB, (hB.block B (Array.getElem?_eq_some_iff.1 h.bx).1).trans h.bx, Nat.le_trans h.gl hB.size⟩
theorem bxSt_start {w : World} {r bm g : Nat} {s : Wr} {v : Value} (cs : Array Value) (h : WrAt w r bm g s v) (hg : g ≤ w.heap.size) : BxSt w (w.alloc (.cells cs 49)) r bm g w.heap.size s v v cs :=
  have hB : Below w.heap.size w (w.alloc (.cells cs 49)) := (Below.refl _ _).alloc (Nat.le_refl _) _
  ⟨h.below hB, (Wrote.refl _ _ _ _).below hB, heap_alloc_new w _, by simp; omega⟩
theorem BxSt.bel {w wr : World} {r bm g B : Nat} {s s0 : Wr} {v u : Value} {cs : Array Value} (h : BxSt w wr r bm g B s v u cs) (h0 : WrAt w r bm g s0 v) (hg : g ≤ w.heap.size) : Below g w wr := h.fr.to_below h0 hg
set_option maxHeartbeats 2000000 in
set_option maxRecDepth 100000 in
theorem dataW_2 (R : Rec) (x : ByteArray) (k l t : Nat) (A1 : Option Addr) (n1 c1 : Nat) (A2 : Option Addr) (n2 c2 : Nat) (A3 : Option Addr) (n3 c3 : Nat) (r bm g : Nat) (s : Wr) (v : Value) (w : World) (h : WrAt w r bm g s v) (hg : g ≤ w.heap.size) (hR : Hid (RecAt w g R x k l t A1 n1 A2 n2 A3 n3)) (hE : Hid (checkE R = 0)) (hI : Hid (Inv s)) (hl : s.1.length ≤ 800000000) (hk : k = 2) :
    Calls Try.prog 79 #[.pointer (some ⟨r, 0, none⟩), .agg #[.string x, .int .u16 k, .int .u16 l, .int .u32 t, .slice A1 n1 c1, .slice A2 n2 c2, .slice A3 n3 c3]] w (WrEnd w r bm g (dataW R s) v) := by
  subst hk
  have HWR := Lib.hid h
  have HG := Lib.hid hg
  have hrn := right_names hE.out
  have hrc := right_counts hE.out
  have hkd := hR.out.kind
  rw [hkd] at hrc
  have HB0 := Lib.hid (bxSt_start #[.string x, .int .u16 2, .int .u16 l, .int .u32 t, .slice A1 n1 c1, .slice A2 n2 c2, .slice A3 n3 c3] h hg)
  obtain ⟨B, hB⟩ : ∃ B, w.heap.size = B := ⟨_, rfl⟩
  rw [hB] at HB0
  have h1n : 0 < R.names.length := by rw [hrc.1]; decide
  have hd : dataW R s = nameW (R.names.getD 0 []) s := by unfold dataW; rw [if_pos (by rw [hkd]; decide)]
  rw [hd]
  obtain ⟨ad, rfl, hab, hcell⟩ := (hR.out.rd1.on (HB0.out.bel h hg) (Nat.le_refl _)).get h1n
  rw [show ad.add 0 = ad from by simp [Addr.add]] at hcell
  have hn0 := hrn.2.2 0 h1n
  have hl1 := hR.out.len1
  have hn1 : (0 : Int) < n1 := by omega
  have HN := Lib.hid (fun w u h => name_any (mk (R.names.getD 0 [])) r bm g s u w h)
  have HNR : Hid (Rests (mk (R.names.getD 0 [])).data.toList ∧ (mk (R.names.getD 0 [])).size ≤ 255) := ⟨by rw [mk_list]; exact hn0.1, by rw [mk_size]; exact hn0.2⟩
  have HNL : Hid (nameW (mk (R.names.getD 0 [])).data.toList s = nameW (R.names.getD 0 []) s) := by rw [mk_list]; rfl
  have HIL := Lib.hid (show s.1.length ≤ 900000000 ∧ s.2.length ≤ 900000000 by have := hI.out.2; omega)
  generalize mk (R.names.getD 0 []) = y at *
  have b1 := cell_of_row _ _ 1 _ _ _ HB0.out.bx
  have b4 := cell_of_row _ _ 4 _ _ _ HB0.out.bx
  clear hrn hrc hkd h1n hn0 h hg hd
  go_enter Try.func79, Try.ntmps79
  go_wp2_with fail
  clear hB
  generalize w.alloc (.cells #[.string x, .int .u16 2, .int .u16 l, .int .u32 t, .slice (some ad) n1 c1, .slice A2 n2 c2, .slice A3 n3 c3] 49) = wa at *
  refine (HN.out _ _ HB0.out.wat HB0.out.gl HNR.out.1 HNR.out.2 HIL.out.1 hI.out.1 HIL.out.2).mono ?_
  rintro e w2 ⟨v2, rfl, h2, h3⟩
  have H2 := Lib.hid (HB0.out.call h2 h3)
  clear h2 h3 b1 b4
  go_wp2_with fail
  go_end0
  rw [← HNL.out]
  exact ⟨_, rfl, H2.out.wat, H2.out.fr⟩
set_option maxHeartbeats 2000000 in
set_option maxRecDepth 100000 in
theorem dataW_5 (R : Rec) (x : ByteArray) (k l t : Nat) (A1 : Option Addr) (n1 c1 : Nat) (A2 : Option Addr) (n2 c2 : Nat) (A3 : Option Addr) (n3 c3 : Nat) (r bm g : Nat) (s : Wr) (v : Value) (w : World) (h : WrAt w r bm g s v) (hg : g ≤ w.heap.size) (hR : Hid (RecAt w g R x k l t A1 n1 A2 n2 A3 n3)) (hE : Hid (checkE R = 0)) (hI : Hid (Inv s)) (hl : s.1.length ≤ 800000000) (hk : k = 5) :
    Calls Try.prog 79 #[.pointer (some ⟨r, 0, none⟩), .agg #[.string x, .int .u16 k, .int .u16 l, .int .u32 t, .slice A1 n1 c1, .slice A2 n2 c2, .slice A3 n3 c3]] w (WrEnd w r bm g (dataW R s) v) := by
  subst hk
  have HWR := Lib.hid h
  have HG := Lib.hid hg
  have hrn := right_names hE.out
  have hrc := right_counts hE.out
  have hkd := hR.out.kind
  rw [hkd] at hrc
  have HB0 := Lib.hid (bxSt_start #[.string x, .int .u16 5, .int .u16 l, .int .u32 t, .slice A1 n1 c1, .slice A2 n2 c2, .slice A3 n3 c3] h hg)
  obtain ⟨B, hB⟩ : ∃ B, w.heap.size = B := ⟨_, rfl⟩
  rw [hB] at HB0
  have h1n : 0 < R.names.length := by rw [hrc.1]; decide
  have hd : dataW R s = nameW (R.names.getD 0 []) s := by unfold dataW; rw [if_pos (by rw [hkd]; decide)]
  rw [hd]
  obtain ⟨ad, rfl, hab, hcell⟩ := (hR.out.rd1.on (HB0.out.bel h hg) (Nat.le_refl _)).get h1n
  rw [show ad.add 0 = ad from by simp [Addr.add]] at hcell
  have hn0 := hrn.2.2 0 h1n
  have hl1 := hR.out.len1
  have hn1 : (0 : Int) < n1 := by omega
  have HN := Lib.hid (fun w u h => name_any (mk (R.names.getD 0 [])) r bm g s u w h)
  have HNR : Hid (Rests (mk (R.names.getD 0 [])).data.toList ∧ (mk (R.names.getD 0 [])).size ≤ 255) := ⟨by rw [mk_list]; exact hn0.1, by rw [mk_size]; exact hn0.2⟩
  have HNL : Hid (nameW (mk (R.names.getD 0 [])).data.toList s = nameW (R.names.getD 0 []) s) := by rw [mk_list]; rfl
  have HIL := Lib.hid (show s.1.length ≤ 900000000 ∧ s.2.length ≤ 900000000 by have := hI.out.2; omega)
  generalize mk (R.names.getD 0 []) = y at *
  have b1 := cell_of_row _ _ 1 _ _ _ HB0.out.bx
  have b4 := cell_of_row _ _ 4 _ _ _ HB0.out.bx
  clear hrn hrc hkd h1n hn0 h hg hd
  go_enter Try.func79, Try.ntmps79
  go_wp2_with fail
  clear hB
  generalize w.alloc (.cells #[.string x, .int .u16 5, .int .u16 l, .int .u32 t, .slice (some ad) n1 c1, .slice A2 n2 c2, .slice A3 n3 c3] 49) = wa at *
  refine (HN.out _ _ HB0.out.wat HB0.out.gl HNR.out.1 HNR.out.2 HIL.out.1 hI.out.1 HIL.out.2).mono ?_
  rintro e w2 ⟨v2, rfl, h2, h3⟩
  have H2 := Lib.hid (HB0.out.call h2 h3)
  clear h2 h3 b1 b4
  go_wp2_with fail
  go_end0
  rw [← HNL.out]
  exact ⟨_, rfl, H2.out.wat, H2.out.fr⟩
set_option maxHeartbeats 2000000 in
set_option maxRecDepth 100000 in
theorem dataW_12 (R : Rec) (x : ByteArray) (k l t : Nat) (A1 : Option Addr) (n1 c1 : Nat) (A2 : Option Addr) (n2 c2 : Nat) (A3 : Option Addr) (n3 c3 : Nat) (r bm g : Nat) (s : Wr) (v : Value) (w : World) (h : WrAt w r bm g s v) (hg : g ≤ w.heap.size) (hR : Hid (RecAt w g R x k l t A1 n1 A2 n2 A3 n3)) (hE : Hid (checkE R = 0)) (hI : Hid (Inv s)) (hl : s.1.length ≤ 800000000) (hk : k = 12) :
    Calls Try.prog 79 #[.pointer (some ⟨r, 0, none⟩), .agg #[.string x, .int .u16 k, .int .u16 l, .int .u32 t, .slice A1 n1 c1, .slice A2 n2 c2, .slice A3 n3 c3]] w (WrEnd w r bm g (dataW R s) v) := by
  subst hk
  have HWR := Lib.hid h
  have HG := Lib.hid hg
  have hrn := right_names hE.out
  have hrc := right_counts hE.out
  have hkd := hR.out.kind
  rw [hkd] at hrc
  have HB0 := Lib.hid (bxSt_start #[.string x, .int .u16 12, .int .u16 l, .int .u32 t, .slice A1 n1 c1, .slice A2 n2 c2, .slice A3 n3 c3] h hg)
  obtain ⟨B, hB⟩ : ∃ B, w.heap.size = B := ⟨_, rfl⟩
  rw [hB] at HB0
  have h1n : 0 < R.names.length := by rw [hrc.1]; decide
  have hd : dataW R s = nameW (R.names.getD 0 []) s := by unfold dataW; rw [if_pos (by rw [hkd]; decide)]
  rw [hd]
  obtain ⟨ad, rfl, hab, hcell⟩ := (hR.out.rd1.on (HB0.out.bel h hg) (Nat.le_refl _)).get h1n
  rw [show ad.add 0 = ad from by simp [Addr.add]] at hcell
  have hn0 := hrn.2.2 0 h1n
  have hl1 := hR.out.len1
  have hn1 : (0 : Int) < n1 := by omega
  have HN := Lib.hid (fun w u h => name_any (mk (R.names.getD 0 [])) r bm g s u w h)
  have HNR : Hid (Rests (mk (R.names.getD 0 [])).data.toList ∧ (mk (R.names.getD 0 [])).size ≤ 255) := ⟨by rw [mk_list]; exact hn0.1, by rw [mk_size]; exact hn0.2⟩
  have HNL : Hid (nameW (mk (R.names.getD 0 [])).data.toList s = nameW (R.names.getD 0 []) s) := by rw [mk_list]; rfl
  have HIL := Lib.hid (show s.1.length ≤ 900000000 ∧ s.2.length ≤ 900000000 by have := hI.out.2; omega)
  generalize mk (R.names.getD 0 []) = y at *
  have b1 := cell_of_row _ _ 1 _ _ _ HB0.out.bx
  have b4 := cell_of_row _ _ 4 _ _ _ HB0.out.bx
  clear hrn hrc hkd h1n hn0 h hg hd
  go_enter Try.func79, Try.ntmps79
  go_wp2_with fail
  clear hB
  generalize w.alloc (.cells #[.string x, .int .u16 12, .int .u16 l, .int .u32 t, .slice (some ad) n1 c1, .slice A2 n2 c2, .slice A3 n3 c3] 49) = wa at *
  refine (HN.out _ _ HB0.out.wat HB0.out.gl HNR.out.1 HNR.out.2 HIL.out.1 hI.out.1 HIL.out.2).mono ?_
  rintro e w2 ⟨v2, rfl, h2, h3⟩
  have H2 := Lib.hid (HB0.out.call h2 h3)
  clear h2 h3 b1 b4
  go_wp2_with fail
  go_end0
  rw [← HNL.out]
  exact ⟨_, rfl, H2.out.wat, H2.out.fr⟩
set_option maxHeartbeats 2000000 in
set_option maxRecDepth 100000 in
theorem dataW_6 (R : Rec) (x : ByteArray) (k l t : Nat) (A1 : Option Addr) (n1 c1 : Nat) (A2 : Option Addr) (n2 c2 : Nat) (A3 : Option Addr) (n3 c3 : Nat) (r bm g : Nat) (s : Wr) (v : Value) (w : World) (h : WrAt w r bm g s v) (hg : g ≤ w.heap.size) (hR : Hid (RecAt w g R x k l t A1 n1 A2 n2 A3 n3)) (hE : Hid (checkE R = 0)) (hI : Hid (Inv s)) (hl : s.1.length ≤ 800000000) (hu : Hid (∀ k, k < R.nums.length → R.nums.getD k 0 ≤ 4294967295)) (hk : k = 6) :
    Calls Try.prog 79 #[.pointer (some ⟨r, 0, none⟩), .agg #[.string x, .int .u16 k, .int .u16 l, .int .u32 t, .slice A1 n1 c1, .slice A2 n2 c2, .slice A3 n3 c3]] w (WrEnd w r bm g (dataW R s) v) := by
  subst hk
  have HWR := Lib.hid h
  have HG := Lib.hid hg
  have hrn := right_names hE.out
  have hrc := right_counts hE.out
  have hkd := hR.out.kind
  rw [hkd] at hrc
  have HB0 := Lib.hid (bxSt_start #[.string x, .int .u16 6, .int .u16 l, .int .u32 t, .slice A1 n1 c1, .slice A2 n2 c2, .slice A3 n3 c3] h hg)
  obtain ⟨B, hB⟩ : ∃ B, w.heap.size = B := ⟨_, rfl⟩
  rw [hB] at HB0
  have h1n : 1 < R.names.length := by rw [hrc.1]; decide
  have hd : dataW R s = numsW 4 R.nums (nameW (R.names.getD 1 []) (nameW (R.names.getD 0 []) s)) := by unfold dataW; rw [if_neg (by rw [hkd]; decide), if_pos hkd]
  rw [hd]
  have HRD1 := Lib.hid hR.out.rd1
  have HRD2 := Lib.hid hR.out.rd2
  have HL2 := Lib.hid hR.out.len2
  obtain ⟨ad, rfl, hab, hcell⟩ := (HRD1.out.on (HB0.out.bel h hg) (Nat.le_refl _)).get (k := 0) (by omega)
  rw [show ad.add 0 = ad from by simp [Addr.add]] at hcell
  have hn0 := hrn.2.2 0 (by omega)
  have hnn1 := hrn.2.2 1 h1n
  have hl1 := hR.out.len1
  have hn1 : (1 : Int) < n1 := by omega
  have hn2 : Hid (n2 ≤ 1000) := by have := hR.out.len2; have e := hrc.2.1; rw [show shB 6 = 5 from rfl] at e; show _ ≤ _; omega
  have HI1 := Lib.hid (nameW_longer _ hn0.1 s)
  have HI2 := Lib.hid (nameW_longer _ hnn1.1 (nameW (R.names.getD 0 []) s))
  have HN := Lib.hid (fun y s w u h => name_any y r bm g s u w h)
  have HC1 : Hid (∀ w', Below g w w' → w'.cell? ⟨ad.block, ad.off + 1, none⟩ = some (.string (mk (R.names.getD 1 [])))) := fun w' hb => by
    obtain ⟨a, e, _, hc⟩ := (HRD1.out.on hb (Nat.le_refl _)).get h1n
    injection e with e
    subst e
    rw [show ad.add 1 = ⟨ad.block, ad.off + 1, none⟩ from by simp [Addr.add]] at hc
    exact hc
  obtain ⟨S1, hS1⟩ : ∃ S, nameW (R.names.getD 0 []) s = S := ⟨_, rfl⟩
  obtain ⟨S2, hS2⟩ : ∃ S, nameW (R.names.getD 1 []) S1 = S := ⟨_, rfl⟩
  rw [hS1] at HI1 HI2 ⊢
  rw [hS2] at HI2 ⊢
  have HNR : Hid (Rests (mk (R.names.getD 0 [])).data.toList ∧ (mk (R.names.getD 0 [])).size ≤ 255) := ⟨by rw [mk_list]; exact hn0.1, by rw [mk_size]; exact hn0.2⟩
  have HNL : Hid (nameW (mk (R.names.getD 0 [])).data.toList s = S1) := by rw [mk_list]; exact hS1
  have HNR1 : Hid (Rests (mk (R.names.getD 1 [])).data.toList ∧ (mk (R.names.getD 1 [])).size ≤ 255) := ⟨by rw [mk_list]; exact hnn1.1, by rw [mk_size]; exact hnn1.2⟩
  have HNL1 : Hid (nameW (mk (R.names.getD 1 [])).data.toList S1 = S2) := by rw [mk_list]; exact hS2
  have HV1 : Hid (Inv S1 ∧ S1.1.length ≤ 900000000 ∧ S1.2.length ≤ 900000000) := by
    have a := HI1.out.inv hI.out
    have b := HI1.out.len
    have c := a.2
    have d := hn0.2
    exact ⟨a, by omega, by omega⟩
  have HV2 : Hid (S2.1.length ≤ 900000000) := by
    have b := HI2.out.len
    have c := HI1.out.len
    have d := hn0.2
    have e := hnn1.2
    show _ ≤ _
    omega
  have HIL := Lib.hid (show s.1.length ≤ 900000000 ∧ s.2.length ≤ 900000000 by have := hI.out.2; omega)
  have HBEL := Lib.hid (fun (wr : World) (s' : Wr) (u : Value) (cs : Array Value) (hh : BxSt w wr r bm g B s' v u cs) => hh.bel HWR.out HG.out)
  generalize mk (R.names.getD 0 []) = y at *
  generalize mk (R.names.getD 1 []) = y1 at *
  have b1 := cell_of_row _ _ 1 _ _ _ HB0.out.bx
  have b4 := cell_of_row _ _ 4 _ _ _ HB0.out.bx
  clear hrn hrc hkd h1n hn0 hnn1 h hg hd hS1 hS2
  go_enter Try.func79, Try.ntmps79
  go_wp2_with fail
  clear hB
  generalize w.alloc (.cells #[.string x, .int .u16 6, .int .u16 l, .int .u32 t, .slice (some ad) n1 c1, .slice A2 n2 c2, .slice A3 n3 c3] 49) = wa at *
  refine (HN.out _ _ _ _ HB0.out.wat HB0.out.gl HNR.out.1 HNR.out.2 HIL.out.1 hI.out.1 HIL.out.2).mono ?_
  rintro e w2 ⟨v2, rfl, h2, h3⟩
  rw [HNL.out] at h2
  have H2 := Lib.hid (HB0.out.call h2 h3)
  have d4 := cell_of_row _ _ 4 _ _ _ H2.out.bx
  have hc1 := HC1.out w2 (HBEL.out _ _ _ _ H2.out)
  clear h2 h3 b1 b4 hcell
  go_wp2_with fail
  refine (HN.out _ _ _ _ H2.out.wat H2.out.gl HNR1.out.1 HNR1.out.2 HV1.out.2.1 HV1.out.1.1 HV1.out.2.2).mono ?_
  rintro e w3 ⟨v3, rfl, h2, h3⟩
  rw [HNL1.out] at h2
  have H3 := Lib.hid (H2.out.call h2 h3)
  have e5 := cell_of_row _ _ 5 _ _ _ H3.out.bx
  have HNU := Lib.hid (numbers_w A2 c2 n2 4 r bm g R.nums S2 v3 w3 H3.out.wat H3.out.gl (HRD2.out.on (HBEL.out _ _ _ _ H3.out) (Nat.le_refl _)) HL2.out hn2.out hu (by decide) (by decide) HV2.out)
  clear h2 h3 d4 hc1
  go_wp2_with fail
  refine HNU.out.mono ?_
  rintro e w4 ⟨v4, rfl, h2, h3⟩
  have H4 := Lib.hid (H3.out.call h2 h3)
  clear h2 h3 e5 HNU
  go_wp2_with fail
  go_end0
  exact ⟨_, rfl, H4.out.wat, H4.out.fr⟩
set_option maxHeartbeats 2000000 in
set_option maxRecDepth 100000 in
theorem dataW_15 (R : Rec) (x : ByteArray) (k l t : Nat) (A1 : Option Addr) (n1 c1 : Nat) (A2 : Option Addr) (n2 c2 : Nat) (A3 : Option Addr) (n3 c3 : Nat) (r bm g : Nat) (s : Wr) (v : Value) (w : World) (h : WrAt w r bm g s v) (hg : g ≤ w.heap.size) (hR : Hid (RecAt w g R x k l t A1 n1 A2 n2 A3 n3)) (hE : Hid (checkE R = 0)) (hI : Hid (Inv s)) (hl : s.1.length ≤ 800000000) (hu : Hid (∀ k, k < R.nums.length → R.nums.getD k 0 ≤ 4294967295)) (hk : k = 15) :
    Calls Try.prog 79 #[.pointer (some ⟨r, 0, none⟩), .agg #[.string x, .int .u16 k, .int .u16 l, .int .u32 t, .slice A1 n1 c1, .slice A2 n2 c2, .slice A3 n3 c3]] w (WrEnd w r bm g (dataW R s) v) := by
  subst hk
  have HWR := Lib.hid h
  have HG := Lib.hid hg
  have hrn := right_names hE.out
  have hrc := right_counts hE.out
  have hkd := hR.out.kind
  rw [hkd] at hrc
  have HB0 := Lib.hid (bxSt_start #[.string x, .int .u16 15, .int .u16 l, .int .u32 t, .slice A1 n1 c1, .slice A2 n2 c2, .slice A3 n3 c3] h hg)
  obtain ⟨B, hB⟩ : ∃ B, w.heap.size = B := ⟨_, rfl⟩
  rw [hB] at HB0
  have h1n : 0 < R.names.length := by rw [hrc.1]; decide
  have hd : dataW R s = nameW (R.names.getD 0 []) (numsW 2 R.nums s) := by unfold dataW; rw [if_neg (by rw [hkd]; decide), if_neg (by rw [hkd]; decide), if_pos hkd]
  rw [hd]
  have HRD1 := Lib.hid hR.out.rd1
  have HRD2 := Lib.hid hR.out.rd2
  have HL2 := Lib.hid hR.out.len2
  have hn0 := hrn.2.2 0 (by omega)
  have hl1 := hR.out.len1
  have hn1 : (0 : Int) < n1 := by omega
  have hn2 : Hid (n2 ≤ 1000) := by have := hR.out.len2; have e := hrc.2.1; rw [show shB 15 = 1 from rfl] at e; show _ ≤ _; omega
  have hnl : R.nums.length ≤ 1 := by have e := hrc.2.1; rw [show shB 15 = 1 from rfl] at e; omega
  have HI1 := Lib.hid (numsW_longer 2 R.nums s)
  have HN := Lib.hid (fun y s w u h => name_any y r bm g s u w h)
  obtain ⟨S1, hS1⟩ : ∃ S, numsW 2 R.nums s = S := ⟨_, rfl⟩
  rw [hS1] at HI1 ⊢
  have HS1 := Lib.hid hS1
  have HNR : Hid (Rests (mk (R.names.getD 0 [])).data.toList ∧ (mk (R.names.getD 0 [])).size ≤ 255) := ⟨by rw [mk_list]; exact hn0.1, by rw [mk_size]; exact hn0.2⟩
  have HNL : Hid (nameW (mk (R.names.getD 0 [])).data.toList S1 = nameW (R.names.getD 0 []) S1) := by rw [mk_list]; rfl
  have HV1 : Hid (Inv S1 ∧ S1.1.length ≤ 900000000 ∧ S1.2.length ≤ 900000000) := by
    have a := HI1.out.inv hI.out
    have b := HI1.out.len
    have c := a.2
    exact ⟨a, by omega, by omega⟩
  have HBEL := Lib.hid (fun (wr : World) (s' : Wr) (u : Value) (cs : Array Value) (hh : BxSt w wr r bm g B s' v u cs) => hh.bel HWR.out HG.out)
  have HH1N := Lib.hid h1n
  have b1 := cell_of_row _ _ 1 _ _ _ HB0.out.bx
  have b5 := cell_of_row _ _ 5 _ _ _ HB0.out.bx
  clear hrn hrc hkd h1n hn0 h hg hd hS1 hnl
  go_enter Try.func79, Try.ntmps79
  go_wp2_with fail
  clear hB
  generalize w.alloc (.cells #[.string x, .int .u16 15, .int .u16 l, .int .u32 t, .slice A1 n1 c1, .slice A2 n2 c2, .slice A3 n3 c3] 49) = wa at *
  refine (numbers_w A2 c2 n2 2 r bm g R.nums s v wa HB0.out.wat HB0.out.gl (HRD2.out.on (HBEL.out _ _ _ _ HB0.out) (Nat.le_refl _)) HL2.out hn2.out hu (by decide) (by decide) (by omega)).mono ?_
  rintro e w2 ⟨v2, rfl, h2, h3⟩
  rw [HS1.out] at h2
  have H2 := Lib.hid (HB0.out.call h2 h3)
  have d4 := cell_of_row _ _ 4 _ _ _ H2.out.bx
  obtain ⟨ad, rfl, hab, hcell⟩ := (HRD1.out.on (HBEL.out _ _ _ _ H2.out) (Nat.le_refl _)).get HH1N.out
  rw [show ad.add 0 = ad from by simp [Addr.add]] at hcell
  generalize mk (R.names.getD 0 []) = y at *
  clear h2 h3 b1 b5
  go_wp2_with fail
  refine (HN.out _ _ _ _ H2.out.wat H2.out.gl HNR.out.1 HNR.out.2 HV1.out.2.1 HV1.out.1.1 HV1.out.2.2).mono ?_
  rintro e w3 ⟨v3, rfl, h2, h3⟩
  rw [HNL.out] at h2
  have H3 := Lib.hid (H2.out.call h2 h3)
  clear h2 h3 d4 hcell
  go_wp2_with fail
  go_end0
  exact ⟨_, rfl, H3.out.wat, H3.out.fr⟩
set_option maxHeartbeats 2000000 in
set_option maxRecDepth 100000 in
theorem dataW_other (R : Rec) (x : ByteArray) (k l t : Nat) (A1 : Option Addr) (n1 c1 : Nat) (A2 : Option Addr) (n2 c2 : Nat) (A3 : Option Addr) (n3 c3 : Nat) (r bm g : Nat) (s : Wr) (v : Value) (w : World) (h : WrAt w r bm g s v) (hg : g ≤ w.heap.size) (hR : Hid (RecAt w g R x k l t A1 n1 A2 n2 A3 n3)) (hE : Hid (checkE R = 0)) (hl : s.1.length ≤ 800000000) (hS : Hid (Small R)) (k2 : k ≠ 2) (k5 : k ≠ 5) (k12 : k ≠ 12) (k6 : k ≠ 6) (k15 : k ≠ 15) :
    Calls Try.prog 79 #[.pointer (some ⟨r, 0, none⟩), .agg #[.string x, .int .u16 k, .int .u16 l, .int .u32 t, .slice A1 n1 c1, .slice A2 n2 c2, .slice A3 n3 c3]] w (WrEnd w r bm g (dataW R s) v) := by
  have HWR := Lib.hid h
  have HG := Lib.hid hg
  have hrn := right_names hE.out
  have hrc := right_counts hE.out
  have hkd := hR.out.kind
  rw [hkd] at hrc
  have HB0 := Lib.hid (bxSt_start #[.string x, .int .u16 k, .int .u16 l, .int .u32 t, .slice A1 n1 c1, .slice A2 n2 c2, .slice A3 n3 c3] h hg)
  obtain ⟨B, hB⟩ : ∃ B, w.heap.size = B := ⟨_, rfl⟩
  rw [hB] at HB0
  have hd : dataW R s = (s.1 ++ plainO R, s.2) := by unfold dataW; rw [if_neg (by rw [hkd]; omega), if_neg (by rw [hkd]; exact k6), if_neg (by rw [hkd]; exact k15)]
  rw [hd]
  have f2 : ((k : Int) == 2) = false := beq_eq_false_iff_ne.2 (by omega)
  have f5 : ((k : Int) == 5) = false := beq_eq_false_iff_ne.2 (by omega)
  have f12 : ((k : Int) == 12) = false := beq_eq_false_iff_ne.2 (by omega)
  have f6 : ((k : Int) == 6) = false := beq_eq_false_iff_ne.2 (by omega)
  have f15 : ((k : Int) == 15) = false := beq_eq_false_iff_ne.2 (by omega)
  obtain ⟨A, c, rfl⟩ := h.slice
  obtain ⟨m, hm⟩ : ∃ m, s.1.length = m := ⟨_, rfl⟩
  rw [hm] at hl
  have HM := Lib.hid hm
  obtain ⟨pp, hpp⟩ : ∃ q, mk (plainO R) = q := ⟨_, rfl⟩
  obtain ⟨pn, hpn⟩ : ∃ q, pp.size = q := ⟨_, rfl⟩
  have hpl : pn ≤ 300000 := by rw [← hpn, ← hpp, mk_size, plainO_ok hE.out]; exact plain_bound hE.out
  have HPP : Hid (pp.data.toList = plainO R) := by rw [← hpp]; exact mk_list _
  have hmn : m + pn ≤ 2000000000 := by omega
  have HP2 := Lib.hid (fun w' (hb : Below g w w') (hs : g ≤ w'.heap.size) => plain_is R x k l t A1 n1 c1 A2 n2 c2 A3 n3 c3 pp w' (hR.out.on hb hs) hS hpp)
  have HBEL := Lib.hid (fun (wr : World) (s' : Wr) (u : Value) (cs : Array Value) (hh : BxSt w wr r bm g B s' (.slice A s.1.length c) u cs) => hh.bel HWR.out HG.out)
  rw [hm] at HB0 HWR HBEL ⊢
  have b1 := cell_of_row _ _ 1 _ _ _ HB0.out.bx
  clear hrn hrc hkd h hg hd hpp k2 k5 k12 k6 k15 hm
  go_enter Try.func79, Try.ntmps79
  go_upto_region 2 with fail
  clear hB b1
  generalize w.alloc (.cells #[.string x, .int .u16 k, .int .u16 l, .int .u32 t, .slice A1 n1 c1, .slice A2 n2 c2, .slice A3 n3 c3] 49) = wa at *
  have HBD : Hid (Below wa.heap.size wa wa.drew) := (Below.refl _ _).drew
  have HD := Lib.hid (HB0.out.below HBD.out)
  have HP := Lib.hid (HP2.out wa.drew (HBEL.out _ _ _ _ HD.out) HD.out.gl)
  have w0 := HD.out.wat.c0
  have b0 := cell_of_row _ _ 0 _ _ _ HD.out.bx
  have b1 := cell_of_row _ _ 1 _ _ _ HD.out.bx
  have b2 := cell_of_row _ _ 2 _ _ _ HD.out.bx
  have b3 := cell_of_row _ _ 3 _ _ _ HD.out.bx
  have b4 := cell_of_row _ _ 4 _ _ _ HD.out.bx
  have b5 := cell_of_row _ _ 5 _ _ _ HD.out.bx
  have b6 := cell_of_row _ _ 6 _ _ _ HD.out.bx
  clear HP2
  go_region_law (first | (refine step_append_any (by rfl) (.tmp 10) (.tmp 12) (by rfl) g (.slice A m c) m s.1 (by rfl) HWP.out.2.1 pp (by rfl) pn hpn hmn HWP.out.2.2 ?_; intro A' cap w2 hown hgrow hat; have hown2 : w2.ownsRow g 5 1 (.slice A' (m + pn) cap) (s.1 ++ plainO R).length (Bytes.byteCells (s.1 ++ plainO R)) := (by rw [← HPP.out, List.length_append, HM.out, ← Lib.size_eq, hpn]; exact hown); have hst := HB0.out.wat.stored hown2 HWP.out.1 hgrow (hat.imp id (fun e b hb => Nat.le_trans HWP.out.1.size (e b hb))); have r3 := hst.2.2.1; have rf := hst.2.2.2; have HST := Lib.hid hst; clear hown hown2 hgrow hat hst) | (go_simp; go_at_call 100; refine HP.out.mono ?_; rintro e wd ⟨rfl, hB⟩; have hww := HD.out.wat.below hB; have n0 := hww.c0; have HWP : Hid (Below wa.heap.size wa wd ∧ wd.ownsRow g 5 1 (.slice A m c) m (Bytes.byteCells s.1) ∧ g ≤ wd.heap.size) := ⟨HBD.out.trans hB, (by have := hww.own; rw [HM.out] at this; exact this), Nat.le_trans HD.out.gl hB.size⟩; clear hB hww))
  all_goals
    go_wp2_with fail
    go_end0
    exact ⟨_, rfl, HST.out.1, HB0.out.fr.trans HST.out.2.1⟩
/-- The writer's data of a record that is right. -/
theorem dataW_any (R : Rec) (x : ByteArray) (k l t : Nat) (A1 : Option Addr) (n1 c1 : Nat) (A2 : Option Addr) (n2 c2 : Nat) (A3 : Option Addr) (n3 c3 : Nat) (r bm g : Nat) (s : Wr) (v : Value) (w : World) (h : WrAt w r bm g s v) (hg : g ≤ w.heap.size) (hR : Hid (RecAt w g R x k l t A1 n1 A2 n2 A3 n3)) (hE : Hid (checkE R = 0)) (hI : Hid (Inv s)) (hl : s.1.length ≤ 800000000) (hS : Hid (Small R)) :
    Calls Try.prog 79 #[.pointer (some ⟨r, 0, none⟩), .agg #[.string x, .int .u16 k, .int .u16 l, .int .u32 t, .slice A1 n1 c1, .slice A2 n2 c2, .slice A3 n3 c3]] w (WrEnd w r bm g (dataW R s) v) := by
  have hu : Hid (∀ k, k < R.nums.length → R.nums.getD k 0 ≤ 4294967295) := hS.out.u2
  by_cases h2 : k = 2
  · exact dataW_2 R x k l t A1 n1 c1 A2 n2 c2 A3 n3 c3 r bm g s v w h hg hR hE hI hl h2
  by_cases h5 : k = 5
  · exact dataW_5 R x k l t A1 n1 c1 A2 n2 c2 A3 n3 c3 r bm g s v w h hg hR hE hI hl h5
  by_cases h12 : k = 12
  · exact dataW_12 R x k l t A1 n1 c1 A2 n2 c2 A3 n3 c3 r bm g s v w h hg hR hE hI hl h12
  by_cases h6 : k = 6
  · exact dataW_6 R x k l t A1 n1 c1 A2 n2 c2 A3 n3 c3 r bm g s v w h hg hR hE hI hl hu h6
  by_cases h15 : k = 15
  · exact dataW_15 R x k l t A1 n1 c1 A2 n2 c2 A3 n3 c3 r bm g s v w h hg hR hE hI hl hu h15
  · exact dataW_other R x k l t A1 n1 c1 A2 n2 c2 A3 n3 c3 r bm g s v w h hg hR hE hl hS h2 h5 h12 h6 h15
end Go.Proofs.Ytihkmdojakalbaa

/- The contract of the writer's records. For records that are right. -/
namespace Go.Proofs.Ytihkmdojakalbaa
open Go.RowKit Bytes Strs Nums WrMath NameMath RecMath

theorem cells_oneB (l : List UInt8) : ∀ u ∈ Bytes.byteCells l, u.oneCell' = true := fun u hu => by obtain ⟨b, _, rfl⟩ := List.mem_map.1 hu; rfl
theorem fill_cells {cur : List Value} {out l : List UInt8} {k m : Nat} (h : cur.take m = Bytes.byteCells out) (hm : out.length = m) (hl : l.length = 2) (hk : k + 2 ≤ m) : (cur.take k ++ (Bytes.byteCells l ++ cur.drop (k + 2))).take m = Bytes.byteCells (out.take k ++ l ++ out.drop (k + 2)) := by
  have hcl : m ≤ cur.length := by
    have := congrArg List.length h
    rw [List.length_take, byteCells_len, hm] at this
    omega
  have e1 : cur.take k = Bytes.byteCells (out.take k) := by
    have := congrArg (List.take k) h
    rw [List.take_take, Nat.min_eq_left (by omega)] at this
    rw [this]
    unfold Bytes.byteCells
    rw [List.map_take]
  have e2 : (cur.drop (k + 2)).take (m - (k + 2)) = Bytes.byteCells (out.drop (k + 2)) := by
    have := congrArg (List.drop (k + 2)) h
    rw [List.drop_take] at this
    rw [this]
    unfold Bytes.byteCells
    rw [List.map_drop]
  rw [← List.append_assoc, List.take_append, byteCells_cat, byteCells_cat]
  have hlen : (cur.take k ++ Bytes.byteCells l).length = k + 2 := by rw [List.length_append, List.length_take, byteCells_len, hl]; omega
  rw [hlen, e2, List.take_of_length_le (by rw [hlen]; omega), e1]
/-- Two bytes over others, at a step of a region that draws. -/
theorem step_fill {w : World} {ops : Array Oper} {o : Oper} {a : Act} {K : Act → World → Prop} {Q : Exit → Act → World → Prop} {E : Prop} (hgd : o.guard = none) (d x : Operand)
    (ho : o.op = .call { callee := .builtin .copy, args := #[d, x], argTypes := #[71, 71] })
    (r bm g gb m cap k : Nat) (s : Wr) (hW : WrAt w r bm g s (.slice (some ⟨gb, 0, none⟩) m cap)) (hm : s.1.length = m) (dLen dCap : Nat) (hd : a.eval d = .slice (some ⟨gb, k, none⟩) dLen dCap) (hdl : 2 ≤ dLen) (hk : k + 2 ≤ m)
    (ad : Addr) (sCap : Nat) (hx : a.eval x = .slice (some ad) 2 sCap) (l : List UInt8) (hl : l.length = 2) (hsrc : ∀ j u, (Bytes.byteCells l)[j]? = some u → w.cell? (ad.add j) = some u)
    (h : ∀ w', WrAt w' r bm g (s.1.take k ++ l ++ s.1.drop (k + 2), s.2) (.slice (some ⟨gb, 0, none⟩) m cap) → Wrote r bm (.slice (some ⟨gb, 0, none⟩) m cap) w (.slice (some ⟨gb, 0, none⟩) m cap) w' → K (a.put o.dst (goInt 2)) w') : if Region.wanted o (yielded ops a.tmps) = true then Oper.wp Try.prog o a w K Q else E := by
  have hw : Region.wanted o (yielded ops a.tmps) = true := by simp [Region.wanted, hgd]
  rw [if_pos hw]
  have hown := hW.own
  rw [hm] at hown
  rcases hown.2 with ⟨e, _⟩ | ⟨gb', cap', cur, e, hbg, hgg, hnc, hcm, hcs, htake⟩
  · cases e
  injection e with e1 _ e3
  injection e1 with e1
  injection e1 with e1
  subst e1 e3
  rw [Nat.mul_one] at hcs htake
  have hbl : (Bytes.byteCells l).length = 2 := by rw [byteCells_len, hl]
  have hrun := run_copy_row (P := Try.prog) w 71 71 o.type 5 gb k dLen dCap ad 2 sCap cur 5 (Bytes.byteCells l) Try.underlying71 (by kernel_rfl) hgg (by rw [hbl]; exact (Nat.min_eq_left hdl).symm) hsrc (by rw [hbl]; omega) (cells_oneB l)
  rw [hbl] at hrun
  unfold Oper.wp
  simp [execOp, ho, resolve, invoke, builtin, hd, hx, hrun, Result.andThen]
  have hr : r ≠ gb := fun e => by
    subst e
    have := hW.rd
    rw [hgg] at this
    injection this with this
    injection this with _ this
    exact absurd this (by decide)
  have hb : bm ≠ gb := fun e => by
    subst e
    obtain ⟨es, c, hb⟩ := hW.map.obj
    rw [hgg] at hb
    cases hb
  have hg : w.grownBy (w.setRow gb (cur.toList.take k ++ (Bytes.byteCells l ++ cur.toList.drop (k + 2))).toArray) (some gb) := ⟨rfl, rfl, rfl, by simp [World.setRow], fun i _ hi => setRow_other w gb i _ (fun e => hi (by rw [e]))⟩
  refine h _ ⟨(setRow_other w gb r _ hr).trans hW.rd, ?_, hW.map.kept hg (fun e => by injection e with e; exact hb e), hW.gr, hW.gb⟩ ⟨rfl, rfl, rfl, by simp [World.setRow], fun i _ _ _ hi => setRow_other w gb i _ (fun e => hi (by rw [e]; rfl)), .inl rfl⟩
  have hol : (s.1.take k ++ l ++ s.1.drop (k + 2)).length = m := by rw [List.length_append, List.length_append, List.length_take, List.length_drop, hl]; omega
  show World.ownsRow _ _ _ _ _ (s.1.take k ++ l ++ s.1.drop (k + 2)).length _
  rw [hol]
  refine ⟨by rw [byteCells_len, hol, Nat.mul_one], .inr ⟨gb, cap, _, rfl, hbg, setRow_heap w gb cur _ 5 _ hgg, hnc, hcm, ?_, ?_⟩⟩
  · rw [Nat.mul_one, List.size_toArray, List.length_append, List.length_append, List.length_take, List.length_drop, byteCells_len, hl, Array.length_toList]
    omega
  · rw [Nat.mul_one, List.toList_toArray]
    exact fill_cells htake hm hl hk
theorem WrAt.own_slice {w : World} {r bm g : Nat} {s : Wr} {v : Value} (h : WrAt w r bm g s v) (h0 : 0 < s.1.length) : ∃ gb cap, v = .slice (some ⟨gb, 0, none⟩) s.1.length cap ∧ s.1.length ≤ cap ∧ cap ≤ maxLen := by
  rcases h.own.2 with ⟨_, e⟩ | ⟨gb, cap, cur, e, _, _, h1, h2, _⟩
  · omega
  · exact ⟨gb, cap, e, h1, h2⟩
set_option maxHeartbeats 4000000 in
set_option maxRecDepth 100000 in
theorem recW_any (R : Rec) (x : ByteArray) (k l t : Nat) (A1 : Option Addr) (n1 c1 : Nat) (A2 : Option Addr) (n2 c2 : Nat) (A3 : Option Addr) (n3 c3 : Nat) (r bm g : Nat) (s : Wr) (v : Value) (w : World) (h : WrAt w r bm g s v) (hg : g ≤ w.heap.size) (hR : Hid (RecAt w g R x k l t A1 n1 A2 n2 A3 n3)) (hE : Hid (checkE R = 0)) (hI : Hid (Inv s)) (hl : s.1.length ≤ 700000000) (hS : Hid (Small R)) (hk : k ≤ 65535) (hlk : l ≤ 65535) (ht : t ≤ 4294967295) :
    Calls Try.prog 59 #[.pointer (some ⟨r, 0, none⟩), .agg #[.string x, .int .u16 k, .int .u16 l, .int .u32 t, .slice A1 n1 c1, .slice A2 n2 c2, .slice A3 n3 c3]] w (WrEnd w r bm g (recW R s) v) := by
  have HWR := Lib.hid h
  have HG := Lib.hid hg
  have hrn := right_names hE.out
  have hx := hR.out.name
  obtain ⟨S1, hS1⟩ : ∃ S, nameW x.data.toList s = S := ⟨_, rfl⟩
  obtain ⟨S2, hS2⟩ : ∃ S, numW k 2 S1 = S := ⟨_, rfl⟩
  obtain ⟨S3, hS3⟩ : ∃ S, numW l 2 S2 = S := ⟨_, rfl⟩
  obtain ⟨S4, hS4⟩ : ∃ S, numW t 4 S3 = S := ⟨_, rfl⟩
  obtain ⟨S5, hS5⟩ : ∃ S, numW 0 2 S4 = S := ⟨_, rfl⟩
  obtain ⟨S6, hS6⟩ : ∃ S, dataW R S5 = S := ⟨_, rfl⟩
  have hh : headW R s = S4 := by unfold headW; rw [← hx, hS1, hR.out.kind, hS2, hR.out.cls, hS3, hR.out.ttl, hS4]
  obtain ⟨at_, hat⟩ : ∃ n, S4.1.length = n := ⟨_, rfl⟩
  obtain ⟨b, hb⟩ : ∃ n, at_ + 2 = n := ⟨_, rfl⟩
  obtain ⟨M, hM⟩ : ∃ n, S6.1.length = n := ⟨_, rfl⟩
  have hrec : recW R s = (S6.1.take at_ ++ beTail (M - b) 2 ++ S6.1.drop (at_ + 2), S6.2) := by
    unfold recW
    simp only
    rw [hh, hS5, hS6, hat]
    unfold fillW
    rw [hM, hb]
  rw [hrec]
  have hR1 : Rests x.data.toList ∧ x.size ≤ 255 := ⟨by rw [hx]; exact hrn.1, by rw [Lib.size_eq, hx]; exact hrn.2.1⟩
  have L1 := nameW_longer _ hR1.1 s
  rw [hS1] at L1
  have L2 := numW_longer k 2 S1
  rw [hS2] at L2
  have L3 := numW_longer l 2 S2
  rw [hS3] at L3
  have L4 := numW_longer t 4 S3
  rw [hS4] at L4
  have L5 := numW_longer 0 2 S4
  rw [hS5] at L5
  have L6 := dataW_longer hE.out S5
  rw [hS6] at L6
  have hx255 : x.data.toList.length ≤ 255 := by rw [← Lib.size_eq]; exact hR1.2
  have hpb := plain_bound hE.out
  have hlen5 : S5.1.length = b := by rw [← hb, ← hat, ← hS5]; show (S4.1 ++ beTail 0 2).length = _; rw [List.length_append, beTail_length]
  have hbM : b ≤ M ∧ M ≤ 800000000 := by
    have a1 := L1.len; have a2 := L2.len; have a3 := L3.len; have a4 := L4.len; have a5 := L5.len; have a6 := L6.len
    omega
  have HV : Hid ((s.1.length ≤ 900000000 ∧ s.2.length ≤ 900000000) ∧ S1.1.length ≤ 1000000000 ∧ S2.1.length ≤ 1000000000 ∧ S3.1.length ≤ 1000000000 ∧ S4.1.length ≤ 1000000000 ∧ S5.1.length ≤ 800000000 ∧ Inv S5) := by
    have a1 := L1.len; have a2 := L2.len; have a3 := L3.len; have a4 := L4.len; have a5 := L5.len
    have i := hI.out.2
    exact ⟨⟨by omega, by omega⟩, by omega, by omega, by omega, by omega, by omega, L5.inv (L4.inv (L3.inv (L2.inv (L1.inv hI.out))))⟩
  have HR1 := Lib.hid hR1
  have H1 := Lib.hid hS1
  have H2 := Lib.hid hS2
  have H3 := Lib.hid hS3
  have H4 := Lib.hid hS4
  have H5 := Lib.hid hS5
  have H6 := Lib.hid hS6
  have HL5 := Lib.hid hlen5
  have HM := Lib.hid hM
  have HB0 := Lib.hid (bxSt_start #[.string x, .int .u16 k, .int .u16 l, .int .u32 t, .slice A1 n1 c1, .slice A2 n2 c2, .slice A3 n3 c3] h hg)
  obtain ⟨B, hB⟩ : ∃ B, w.heap.size = B := ⟨_, rfl⟩
  rw [hB] at HB0
  have HBEL := Lib.hid (fun (wr : World) (s' : Wr) (u : Value) (cs : Array Value) (hh : BxSt w wr r bm g B s v u cs) => hh.bel HWR.out HG.out)
  have HBEL2 := Lib.hid (fun (wr : World) (s' : Wr) (u : Value) (cs : Array Value) (hh : BxSt w wr r bm g B s' v u cs) => hh.fr.to_below HWR.out HG.out)
  have hu1 : IntKind.u32.wrap (k : Int) = (k : Int) := by rw [IntKind.wrap_u32]; omega
  have hu2 : IntKind.u32.wrap (l : Int) = (l : Int) := by rw [IntKind.wrap_u32]; omega
  have b0 := cell_of_row _ _ 0 _ _ _ HB0.out.bx
  clear hS1 hS2 hS3 hS4 hS5 hS6 hh hrec hR1 L1 L2 L3 L4 L5 L6 hx hrn hpb hlen5 h hg hx255 hM HBEL
  go_enter Try.func59, Try.ntmps59
  go_wp2_with fail
  clear hB
  generalize w.alloc (.cells #[.string x, .int .u16 k, .int .u16 l, .int .u32 t, .slice A1 n1 c1, .slice A2 n2 c2, .slice A3 n3 c3] 49) = wa at *
  refine (name_any x r bm g s v wa HB0.out.wat HB0.out.gl HR1.out.1 HR1.out.2 HV.out.1.1 hI.out.1 HV.out.1.2).mono ?_
  rintro e w1 ⟨v1, rfl, h2, h3⟩
  rw [H1.out] at h2
  have K1 := Lib.hid (HB0.out.call h2 h3)
  have d1 := cell_of_row _ _ 1 _ _ _ K1.out.bx
  clear h2 h3 b0
  go_wp2_with fail
  refine (number_any k 2 r bm g S1 v1 w1 K1.out.wat K1.out.gl (by omega) (by decide) (by decide) HV.out.2.1).mono ?_
  rintro e w2 ⟨v2, rfl, h2, h3⟩
  rw [H2.out] at h2
  have K2 := Lib.hid (K1.out.call h2 h3)
  have d2 := cell_of_row _ _ 2 _ _ _ K2.out.bx
  clear h2 h3 d1
  go_wp2_with fail
  refine (number_any l 2 r bm g S2 v2 w2 K2.out.wat K2.out.gl (by omega) (by decide) (by decide) HV.out.2.2.1).mono ?_
  rintro e w3 ⟨v3, rfl, h2, h3⟩
  rw [H3.out] at h2
  have K3 := Lib.hid (K2.out.call h2 h3)
  have d3 := cell_of_row _ _ 3 _ _ _ K3.out.bx
  clear h2 h3 d2
  go_wp2_with fail
  refine (number_any t 4 r bm g S3 v3 w3 K3.out.wat K3.out.gl (by omega) (by decide) (by decide) HV.out.2.2.2.1).mono ?_
  rintro e w4 ⟨v4, rfl, h2, h3⟩
  rw [H4.out] at h2
  have K4 := Lib.hid (K3.out.call h2 h3)
  clear h2 h3 d3
  go_wp2_with fail
  refine (number_any 0 2 r bm g S4 v4 w4 K4.out.wat K4.out.gl (by omega) (by decide) (by decide) HV.out.2.2.2.2.1).mono ?_
  rintro e w5 ⟨v5, rfl, h2, h3⟩
  rw [H5.out] at h2
  have K5 := Lib.hid (K4.out.call h2 h3)
  obtain ⟨A5, c5, rfl⟩ := K5.out.wat.slice
  have HDT := Lib.hid (dataW_any R x k l t A1 n1 c1 A2 n2 c2 A3 n3 c3 r bm g S5 (.slice A5 S5.1.length c5) w5 K5.out.wat K5.out.gl (hR.out.on (HBEL2.out _ _ _ _ K5.out) (Nat.le_refl _)) hE HV.out.2.2.2.2.2.2 HV.out.2.2.2.2.2.1 hS)
  rw [HL5.out] at HDT K5
  have w0 := K5.out.wat.c0
  have d0 := cell_of_row _ _ 0 _ _ _ K5.out.bx
  have d1 := cell_of_row _ _ 1 _ _ _ K5.out.bx
  have d2 := cell_of_row _ _ 2 _ _ _ K5.out.bx
  have d3 := cell_of_row _ _ 3 _ _ _ K5.out.bx
  have d4 := cell_of_row _ _ 4 _ _ _ K5.out.bx
  have d5 := cell_of_row _ _ 5 _ _ _ K5.out.bx
  have d6 := cell_of_row _ _ 6 _ _ _ K5.out.bx
  clear h2 h3
  go_wp2_with fail
  refine HDT.out.mono ?_
  rintro e w6 ⟨v6, rfl, h2, h3⟩
  rw [H6.out] at h2
  have K6 := Lib.hid (K5.out.call h2 h3)
  obtain ⟨gb, cap, rfl, hcap, hcm⟩ := K6.out.wat.own_slice (by rw [HM.out]; omega)
  rw [HM.out] at K6 hcap
  clear h2 h3 w0 d0 d1 d2 d3 d4 d5 d6 HDT
  obtain ⟨q, hq⟩ : ∃ q, M - b = q := ⟨_, rfl⟩
  have HBD : Hid (Below w6.heap.size w6 w6.drew) := (Below.refl _ _).drew
  have HD := Lib.hid (K6.out.below HBD.out)
  have HP := Lib.hid (put_any none 0 [] q 2 w6.drew (by decide) (fun hp => absurd hp (by simp)) (by simp))
  have w0 := HD.out.wat.c0
  have hw1 : IntKind.i64.wrap ((b : Int) - 2) = (at_ : Int) := by rw [IntKind.wrap_i64]; omega
  have hw2 : IntKind.i64.wrap ((M : Int) - (b : Int)) = (q : Int) := by rw [IntKind.wrap_i64]; omega
  have hw3 : IntKind.u64.wrap (q : Int) = (q : Int) := by rw [IntKind.wrap_u64]; omega
  have ha1 : (0 : Int) ≤ (at_ : Int) := by omega
  have ha2 : (at_ : Int) ≤ (M : Int) := by omega
  have ha3 : at_ < cap := by omega
  have ha4 : ¬ cap = at_ := by omega
  have ha5 : at_ + 2 ≤ M := by omega
  have ha6 : 2 ≤ M - at_ := by omega
  have HQ := Lib.hid hq
  clear hq hb hat
  go_upto_region 8 with fail
  go_region_law (first | (refine step_fill (by rfl) (.tmp 39) (.tmp 48) (by rfl) r bm g gb M cap at_ S6 HWD.out.1 HM.out (M - at_) (cap - at_) (by rfl) ha6 ha5 ⟨w6.heap.size, 0, none⟩ (0 + 2) (by rfl) (beTail q 2) (by rw [beTail_length]) HWD.out.2.2 ?_; intro w8 hw8 hf8; have HST := Lib.hid (show WrAt w8 r bm g (S6.1.take at_ ++ beTail q 2 ++ S6.1.drop (at_ + 2), S6.2) (.slice (some ⟨gb, 0, none⟩) M cap) ∧ Wrote r bm v w (.slice (some ⟨gb, 0, none⟩) M cap) w8 from ⟨hw8, HWD.out.2.1.trans hf8⟩); clear hw8 hf8) | (go_simp; go_at_call 78; refine HP.out.mono ?_; rintro e wd ⟨rfl, hB, hlt, hblk⟩; have hww := HD.out.below hB; have n0 := hww.wat.c0; have HWD : Hid (WrAt wd r bm g S6 (.slice (some ⟨gb, 0, none⟩) M cap) ∧ Wrote r bm v w (.slice (some ⟨gb, 0, none⟩) M cap) wd ∧ ∀ j u, (Bytes.byteCells (beTail q 2))[j]? = some u → wd.cell? ((⟨w6.heap.size, 0, none⟩ : Addr).add j) = some u) := ⟨hww.wat, hww.fr, World.news_of_block hblk⟩; clear hB hlt hblk hww))
  all_goals
    go_wp2_with fail
    go_end0
    rw [HQ.out]
    exact ⟨_, rfl, HST.out.1, HST.out.2⟩
end Go.Proofs.Ytihkmdojakalbaa
