/- Texts of one proof, one behind the other: WrData, WrRecord, WrMsg, WrWrite, WrAwake. -/
import Derived.Test.YtpmmjmnleoicjaaProg
import Derived.Test.YtpmmjmnleoicjaaBytes
import Derived.Test.YtpmmjmnleoicjaaStrs
import Derived.Test.YtpmmjmnleoicjaaNums
import Derived.Test.YtpmmjmnleoicjaaNumBe
import Derived.Test.YtpmmjmnleoicjaaNameMath
import Derived.Test.YtpmmjmnleoicjaaNmMath
import Derived.Test.YtpmmjmnleoicjaaRecMath
import Derived.Test.YtpmmjmnleoicjaaRecAt
import Derived.Test.YtpmmjmnleoicjaaWriteBytesProofG5
import Derived.Test.YtpmmjmnleoicjaaWriteBytesProofG2
import Derived.Test.YtpmmjmnleoicjaaMsgMath
import Derived.Test.YtpmmjmnleoicjaaOwnRow
import Derived.Test.YtpmmjmnleoicjaaRecRow
import Derived.Test.YtpmmjmnleoicjaaRecAll
import Derived.Test.YtpmmjmnleoicjaaGrown
import Derived.WalkKit
import Derived.Lib.Hide
import Derived.Laws.Rows
import Derived.Outline
import Derived.IntWalk
import Derived.WalkSpells
import Derived.WalkLawsBesides
import Derived.RegionTactic
import Derived.Deep.RegionLaw
import Derived.Deep.CutRange
import Derived.Laws.CopyOwn
import Derived.Deep.AppendLies
import Derived.Deep.Cut

/- The contracts of the writer's rows of numbers, and of a record's data. For records that are right. -/

namespace Go.Proofs.Ytpmmjmnleoicjaa
open Go.RowKit Bytes Strs Nums WrMath NmMath NameMath RecMath

set_option maxHeartbeats 4000000 in
set_option maxRecDepth 100000 in
theorem numbers_w (A : Option Addr) (c n size r bm g : Nat) (L : List Nat) (s : Wr) (v : Value) (w : World) (h : WrAt w r bm g s v) (hg : g ≤ w.heap.size) (hr : Hid (RdN w g A L)) (hn : Hid (L.length = n)) (hn2 : n ≤ 1000) (hu : Hid (∀ k, k < L.length → L.getD k 0 ≤ 4294967295)) (hs1 : 1 ≤ size) (hs : size ≤ 4) (hl : s.1.length ≤ 900000000) :
    Calls Try.prog 128 #[.pointer (some ⟨r, 0, none⟩), .slice A n c, .int .i64 size] w (WrEnd w r bm g (numsW size L s) v) := by
  obtain ⟨S, hS⟩ : ∃ S, numsW size L s = S := ⟨_, rfl⟩
  have HS := Lib.hid hS
  have HW := Lib.hid h
  have HG := Lib.hid hg
  have HL := Lib.hid hl
  rw [hS]
  clear hS h hg hl
  go_enter Try.func128, Try.ntmps128
  go_wp2_with fail
  go_loopw [10] (fun i wr => ∃ (j : Nat) (s' : Wr) (u : Value), i = .int .i64 j ∧ j ≤ n ∧ Hid (WrAt wr r bm g s' u) ∧ Hid (Wrote r bm v w u wr) ∧ Hid (numsW size (L.drop j) s' = S) ∧ Hid (s'.1.length ≤ 900000000 + j * 4)) (fun i _ => n - (intOf i).toNat)
  case atStart => exact ⟨0, s, v, rfl, Nat.zero_le _, HW, Wrote.refl _ _ _ _, HS, by show _ ≤ _; have := HL.out; omega⟩
  case round =>
    obtain ⟨j, s', u, rfl, hj, hW, hF, hR, hB⟩ := hrel
    have HGW : Hid (g ≤ wr.heap.size) := Nat.le_trans HG.out hF.out.size
    by_cases hlt : j < n
    · have hjl : j < L.length := by rw [hn.out]; exact hlt
      obtain ⟨a, rfl, hab, hcell⟩ := hr.out.get hjl
      have hc2 : wr.cell? (a.add j) = some (.int .u32 ((L.getD j 0 : Nat) : Int)) := ((hF.out.to_below HW.out HG.out).cell (by rw [add_block]; exact hab)).trans hcell
      have hux := hu.out j hjl
      have HR2 : Hid (numsW size (L.drop (j + 1)) (numW (L.getD j 0) size s') = S) := by
        show _ = _
        rw [← hR.out, num_drop hjl, numsW_cons]
      generalize L.getD j 0 = x at *
      have HN := Lib.hid (number_any x size r bm g s' u wr hW.out HGW.out (by omega) hs1 hs (by have := hB.out; omega))
      have HB2 : Hid ((numW x size s').1.length ≤ 900000000 + (j + 1) * 4) := by
        show (s'.1 ++ beTail x size).length ≤ _
        rw [List.length_append, beTail_length]
        have := hB.out
        omega
      clear hR hB hjl hcell hux
      go_wp2_with fail
      refine HN.out.mono ?_
      rintro e w2 ⟨v2, rfl, h2, h3⟩
      have H2 := Lib.hid h2
      have H3 := Lib.hid (hF.out.trans h3)
      clear h2 h3 HN hc2 hW hF
      go_wp2_with fail
      go_roundw
      case rel => exact ⟨j + 1, _, _, by go_num, by omega, H2, H3, HR2, HB2⟩
      case measure => simp [intOf]; omega
    · have hjn : ¬ ((j : Int) < (n : Int)) := by omega
      have HE : Hid (s' = S) := by
        show _ = _
        rw [← hR.out, List.drop_eq_nil_of_le (by rw [hn.out]; omega), numsW_nil]
      clear hlt hR
      go_wp2_with fail
      go_end0
      rw [← HE.out]
      exact ⟨_, rfl, hW.out, hF.out⟩
/-- The record in its box, within the writer's calls. -/
structure BxSt (w wr : World) (r bm g B : Nat) (s : Wr) (v u : Value) (cs : Array Value) : Prop where
  wat : WrAt wr r bm g s u
  fr : Wrote r bm v w u wr
  bx : wr.heap[B]? = some (.cells cs 60 (0, 0))
  gl : g ≤ wr.heap.size
theorem BxSt.call {w wr w' : World} {r bm g B : Nat} {s s' : Wr} {v u u' : Value} {cs : Array Value} (h : BxSt w wr r bm g B s v u cs) (hw : WrAt w' r bm g s' u') (hf : Wrote r bm u wr u' w') : BxSt w w' r bm g B s' v u' cs :=
  ⟨hw, h.fr.trans hf, hf.cells h.wat h.bx (by decide) (by decide), Nat.le_trans h.gl hf.size⟩
theorem BxSt.below {w wr w' : World} {r bm g B : Nat} {s : Wr} {v u : Value} {cs : Array Value} (h : BxSt w wr r bm g B s v u cs) (hB : Below wr.heap.size wr w') : BxSt w w' r bm g B s v u cs :=
  ⟨h.wat.below hB, h.fr.below hB, (hB.block B (Array.getElem?_eq_some_iff.1 h.bx).1).trans h.bx, Nat.le_trans h.gl hB.size⟩
theorem bxSt_start {w : World} {r bm g : Nat} {s : Wr} {v : Value} (cs : Array Value) (h : WrAt w r bm g s v) (hg : g ≤ w.heap.size) : BxSt w (w.alloc (.cells cs 60)) r bm g w.heap.size s v v cs :=
  have hB : Below w.heap.size w (w.alloc (.cells cs 60)) := (Below.refl _ _).alloc (Nat.le_refl _) _
  ⟨h.below hB, (Wrote.refl _ _ _ _).below hB, heap_alloc_new w _, by simp; omega⟩
theorem BxSt.bel {w wr : World} {r bm g B : Nat} {s s0 : Wr} {v u : Value} {cs : Array Value} (h : BxSt w wr r bm g B s v u cs) (h0 : WrAt w r bm g s0 v) (hg : g ≤ w.heap.size) : Below g w wr := h.fr.to_below h0 hg
set_option maxHeartbeats 2000000 in
set_option maxRecDepth 100000 in
theorem dataW_2 (R : Rec) (x : ByteArray) (k l t : Nat) (A1 : Option Addr) (n1 c1 : Nat) (A2 : Option Addr) (n2 c2 : Nat) (A3 : Option Addr) (n3 c3 : Nat) (r bm g : Nat) (s : Wr) (v : Value) (w : World) (h : WrAt w r bm g s v) (hg : g ≤ w.heap.size) (hR : Hid (RecAt w g R x k l t A1 n1 A2 n2 A3 n3)) (hE : Hid (checkE R = 0)) (hI : Hid (Inv s)) (hl : s.1.length ≤ 800000000) (hk : k = 2) :
    Calls Try.prog 113 #[.pointer (some ⟨r, 0, none⟩), .agg #[.string x, .int .u16 k, .int .u16 l, .int .u32 t, .slice A1 n1 c1, .slice A2 n2 c2, .slice A3 n3 c3]] w (WrEnd w r bm g (dataW R s) v) := by
  subst hk
  have HWR := Lib.hid h
  have HG := Lib.hid hg
  have hrn := right_names hE.out
  have hrc := right_counts hE.out
  have hkd := hR.out.kind
  rw [hkd] at hrc
  have HB0 := Lib.hid (bxSt_start #[.string x, .int .u16 2, .int .u16 l, .int .u32 t, .slice A1 n1 c1, .slice A2 n2 c2, .slice A3 n3 c3] h hg)
  obtain ⟨B, hB⟩ : ∃ B, w.heap.size = B := ⟨_, rfl⟩
  rw [hB] at HB0
  have h1n : 0 < R.names.length := by rw [hrc.1]; decide
  have hd : dataW R s = nameW (R.names.getD 0 []) s := by unfold dataW; rw [if_pos (by rw [hkd]; decide)]
  rw [hd]
  obtain ⟨ad, rfl, hab, hcell⟩ := (hR.out.rd1.on (HB0.out.bel h hg) (Nat.le_refl _)).get h1n
  rw [show ad.add 0 = ad from by simp [Addr.add]] at hcell
  have hn0 := hrn.2.2 0 h1n
  have hl1 := hR.out.len1
  have hn1 : (0 : Int) < n1 := by omega
  have HN := Lib.hid (fun w u h => name_any (mk (R.names.getD 0 [])) r bm g s u w h)
  have HNR : Hid (Rests (mk (R.names.getD 0 [])).data.toList ∧ (mk (R.names.getD 0 [])).size ≤ 255) := ⟨by rw [mk_list]; exact hn0.1, by rw [mk_size]; exact hn0.2⟩
  have HNL : Hid (nameW (mk (R.names.getD 0 [])).data.toList s = nameW (R.names.getD 0 []) s) := by rw [mk_list]; rfl
  have HIL := Lib.hid (show s.1.length ≤ 900000000 ∧ s.2.length ≤ 900000000 by have := hI.out.2; omega)
  generalize mk (R.names.getD 0 []) = y at *
  have b1 := cell_of_row _ _ 1 _ _ _ HB0.out.bx
  have b4 := cell_of_row _ _ 4 _ _ _ HB0.out.bx
  clear hrn hrc hkd h1n hn0 h hg hd
  go_enter Try.func113, Try.ntmps113
  go_wp2_with fail
  clear hB
  generalize w.alloc (.cells #[.string x, .int .u16 2, .int .u16 l, .int .u32 t, .slice (some ad) n1 c1, .slice A2 n2 c2, .slice A3 n3 c3] 60) = wa at *
  refine (HN.out _ _ HB0.out.wat HB0.out.gl HNR.out.1 HNR.out.2 HIL.out.1 hI.out.1 HIL.out.2).mono ?_
  rintro e w2 ⟨v2, rfl, h2, h3⟩
  have H2 := Lib.hid (HB0.out.call h2 h3)
  clear h2 h3 b1 b4
  go_wp2_with fail
  go_end0
  rw [← HNL.out]
  exact ⟨_, rfl, H2.out.wat, H2.out.fr⟩
set_option maxHeartbeats 2000000 in
set_option maxRecDepth 100000 in
theorem dataW_5 (R : Rec) (x : ByteArray) (k l t : Nat) (A1 : Option Addr) (n1 c1 : Nat) (A2 : Option Addr) (n2 c2 : Nat) (A3 : Option Addr) (n3 c3 : Nat) (r bm g : Nat) (s : Wr) (v : Value) (w : World) (h : WrAt w r bm g s v) (hg : g ≤ w.heap.size) (hR : Hid (RecAt w g R x k l t A1 n1 A2 n2 A3 n3)) (hE : Hid (checkE R = 0)) (hI : Hid (Inv s)) (hl : s.1.length ≤ 800000000) (hk : k = 5) :
    Calls Try.prog 113 #[.pointer (some ⟨r, 0, none⟩), .agg #[.string x, .int .u16 k, .int .u16 l, .int .u32 t, .slice A1 n1 c1, .slice A2 n2 c2, .slice A3 n3 c3]] w (WrEnd w r bm g (dataW R s) v) := by
  subst hk
  have HWR := Lib.hid h
  have HG := Lib.hid hg
  have hrn := right_names hE.out
  have hrc := right_counts hE.out
  have hkd := hR.out.kind
  rw [hkd] at hrc
  have HB0 := Lib.hid (bxSt_start #[.string x, .int .u16 5, .int .u16 l, .int .u32 t, .slice A1 n1 c1, .slice A2 n2 c2, .slice A3 n3 c3] h hg)
  obtain ⟨B, hB⟩ : ∃ B, w.heap.size = B := ⟨_, rfl⟩
  rw [hB] at HB0
  have h1n : 0 < R.names.length := by rw [hrc.1]; decide
  have hd : dataW R s = nameW (R.names.getD 0 []) s := by unfold dataW; rw [if_pos (by rw [hkd]; decide)]
  rw [hd]
  obtain ⟨ad, rfl, hab, hcell⟩ := (hR.out.rd1.on (HB0.out.bel h hg) (Nat.le_refl _)).get h1n
  rw [show ad.add 0 = ad from by simp [Addr.add]] at hcell
  have hn0 := hrn.2.2 0 h1n
  have hl1 := hR.out.len1
  have hn1 : (0 : Int) < n1 := by omega
  have HN := Lib.hid (fun w u h => name_any (mk (R.names.getD 0 [])) r bm g s u w h)
  have HNR : Hid (Rests (mk (R.names.getD 0 [])).data.toList ∧ (mk (R.names.getD 0 [])).size ≤ 255) := ⟨by rw [mk_list]; exact hn0.1, by rw [mk_size]; exact hn0.2⟩
  have HNL : Hid (nameW (mk (R.names.getD 0 [])).data.toList s = nameW (R.names.getD 0 []) s) := by rw [mk_list]; rfl
  have HIL := Lib.hid (show s.1.length ≤ 900000000 ∧ s.2.length ≤ 900000000 by have := hI.out.2; omega)
  generalize mk (R.names.getD 0 []) = y at *
  have b1 := cell_of_row _ _ 1 _ _ _ HB0.out.bx
  have b4 := cell_of_row _ _ 4 _ _ _ HB0.out.bx
  clear hrn hrc hkd h1n hn0 h hg hd
  go_enter Try.func113, Try.ntmps113
  go_wp2_with fail
  clear hB
  generalize w.alloc (.cells #[.string x, .int .u16 5, .int .u16 l, .int .u32 t, .slice (some ad) n1 c1, .slice A2 n2 c2, .slice A3 n3 c3] 60) = wa at *
  refine (HN.out _ _ HB0.out.wat HB0.out.gl HNR.out.1 HNR.out.2 HIL.out.1 hI.out.1 HIL.out.2).mono ?_
  rintro e w2 ⟨v2, rfl, h2, h3⟩
  have H2 := Lib.hid (HB0.out.call h2 h3)
  clear h2 h3 b1 b4
  go_wp2_with fail
  go_end0
  rw [← HNL.out]
  exact ⟨_, rfl, H2.out.wat, H2.out.fr⟩
set_option maxHeartbeats 2000000 in
set_option maxRecDepth 100000 in
theorem dataW_12 (R : Rec) (x : ByteArray) (k l t : Nat) (A1 : Option Addr) (n1 c1 : Nat) (A2 : Option Addr) (n2 c2 : Nat) (A3 : Option Addr) (n3 c3 : Nat) (r bm g : Nat) (s : Wr) (v : Value) (w : World) (h : WrAt w r bm g s v) (hg : g ≤ w.heap.size) (hR : Hid (RecAt w g R x k l t A1 n1 A2 n2 A3 n3)) (hE : Hid (checkE R = 0)) (hI : Hid (Inv s)) (hl : s.1.length ≤ 800000000) (hk : k = 12) :
    Calls Try.prog 113 #[.pointer (some ⟨r, 0, none⟩), .agg #[.string x, .int .u16 k, .int .u16 l, .int .u32 t, .slice A1 n1 c1, .slice A2 n2 c2, .slice A3 n3 c3]] w (WrEnd w r bm g (dataW R s) v) := by
  subst hk
  have HWR := Lib.hid h
  have HG := Lib.hid hg
  have hrn := right_names hE.out
  have hrc := right_counts hE.out
  have hkd := hR.out.kind
  rw [hkd] at hrc
  have HB0 := Lib.hid (bxSt_start #[.string x, .int .u16 12, .int .u16 l, .int .u32 t, .slice A1 n1 c1, .slice A2 n2 c2, .slice A3 n3 c3] h hg)
  obtain ⟨B, hB⟩ : ∃ B, w.heap.size = B := ⟨_, rfl⟩
  rw [hB] at HB0
  have h1n : 0 < R.names.length := by rw [hrc.1]; decide
  have hd : dataW R s = nameW (R.names.getD 0 []) s := by unfold dataW; rw [if_pos (by rw [hkd]; decide)]
  rw [hd]
  obtain ⟨ad, rfl, hab, hcell⟩ := (hR.out.rd1.on (HB0.out.bel h hg) (Nat.le_refl _)).get h1n
  rw [show ad.add 0 = ad from by simp [Addr.add]] at hcell
  have hn0 := hrn.2.2 0 h1n
  have hl1 := hR.out.len1
  have hn1 : (0 : Int) < n1 := by omega
  have HN := Lib.hid (fun w u h => name_any (mk (R.names.getD 0 [])) r bm g s u w h)
  have HNR : Hid (Rests (mk (R.names.getD 0 [])).data.toList ∧ (mk (R.names.getD 0 [])).size ≤ 255) := ⟨by rw [mk_list]; exact hn0.1, by rw [mk_size]; exact hn0.2⟩
  have HNL : Hid (nameW (mk (R.names.getD 0 [])).data.toList s = nameW (R.names.getD 0 []) s) := by rw [mk_list]; rfl
  have HIL := Lib.hid (show s.1.length ≤ 900000000 ∧ s.2.length ≤ 900000000 by have := hI.out.2; omega)
  generalize mk (R.names.getD 0 []) = y at *
  have b1 := cell_of_row _ _ 1 _ _ _ HB0.out.bx
  have b4 := cell_of_row _ _ 4 _ _ _ HB0.out.bx
  clear hrn hrc hkd h1n hn0 h hg hd
  go_enter Try.func113, Try.ntmps113
  go_wp2_with fail
  clear hB
  generalize w.alloc (.cells #[.string x, .int .u16 12, .int .u16 l, .int .u32 t, .slice (some ad) n1 c1, .slice A2 n2 c2, .slice A3 n3 c3] 60) = wa at *
  refine (HN.out _ _ HB0.out.wat HB0.out.gl HNR.out.1 HNR.out.2 HIL.out.1 hI.out.1 HIL.out.2).mono ?_
  rintro e w2 ⟨v2, rfl, h2, h3⟩
  have H2 := Lib.hid (HB0.out.call h2 h3)
  clear h2 h3 b1 b4
  go_wp2_with fail
  go_end0
  rw [← HNL.out]
  exact ⟨_, rfl, H2.out.wat, H2.out.fr⟩
set_option maxHeartbeats 2000000 in
set_option maxRecDepth 100000 in
theorem dataW_6 (R : Rec) (x : ByteArray) (k l t : Nat) (A1 : Option Addr) (n1 c1 : Nat) (A2 : Option Addr) (n2 c2 : Nat) (A3 : Option Addr) (n3 c3 : Nat) (r bm g : Nat) (s : Wr) (v : Value) (w : World) (h : WrAt w r bm g s v) (hg : g ≤ w.heap.size) (hR : Hid (RecAt w g R x k l t A1 n1 A2 n2 A3 n3)) (hE : Hid (checkE R = 0)) (hI : Hid (Inv s)) (hl : s.1.length ≤ 800000000) (hu : Hid (∀ k, k < R.nums.length → R.nums.getD k 0 ≤ 4294967295)) (hk : k = 6) :
    Calls Try.prog 113 #[.pointer (some ⟨r, 0, none⟩), .agg #[.string x, .int .u16 k, .int .u16 l, .int .u32 t, .slice A1 n1 c1, .slice A2 n2 c2, .slice A3 n3 c3]] w (WrEnd w r bm g (dataW R s) v) := by
  subst hk
  have HWR := Lib.hid h
  have HG := Lib.hid hg
  have hrn := right_names hE.out
  have hrc := right_counts hE.out
  have hkd := hR.out.kind
  rw [hkd] at hrc
  have HB0 := Lib.hid (bxSt_start #[.string x, .int .u16 6, .int .u16 l, .int .u32 t, .slice A1 n1 c1, .slice A2 n2 c2, .slice A3 n3 c3] h hg)
  obtain ⟨B, hB⟩ : ∃ B, w.heap.size = B := ⟨_, rfl⟩
  rw [hB] at HB0
  have h1n : 1 < R.names.length := by rw [hrc.1]; decide
  have hd : dataW R s = numsW 4 R.nums (nameW (R.names.getD 1 []) (nameW (R.names.getD 0 []) s)) := by unfold dataW; rw [if_neg (by rw [hkd]; decide), if_pos hkd]
  rw [hd]
  have HRD1 := Lib.hid hR.out.rd1
  have HRD2 := Lib.hid hR.out.rd2
  have HL2 := Lib.hid hR.out.len2
  obtain ⟨ad, rfl, hab, hcell⟩ := (HRD1.out.on (HB0.out.bel h hg) (Nat.le_refl _)).get (k := 0) (by omega)
  rw [show ad.add 0 = ad from by simp [Addr.add]] at hcell
  have hn0 := hrn.2.2 0 (by omega)
  have hnn1 := hrn.2.2 1 h1n
  have hl1 := hR.out.len1
  have hn1 : (1 : Int) < n1 := by omega
  have hn2 : Hid (n2 ≤ 1000) := by have := hR.out.len2; have e := hrc.2.1; rw [show shB 6 = 5 from rfl] at e; show _ ≤ _; omega
  have HI1 := Lib.hid (nameW_longer _ hn0.1 s)
  have HI2 := Lib.hid (nameW_longer _ hnn1.1 (nameW (R.names.getD 0 []) s))
  have HN := Lib.hid (fun y s w u h => name_any y r bm g s u w h)
  have HC1 : Hid (∀ w', Below g w w' → w'.cell? ⟨ad.block, ad.off + 1, none⟩ = some (.string (mk (R.names.getD 1 [])))) := fun w' hb => by
    obtain ⟨a, e, _, hc⟩ := (HRD1.out.on hb (Nat.le_refl _)).get h1n
    injection e with e
    subst e
    rw [show ad.add 1 = ⟨ad.block, ad.off + 1, none⟩ from by simp [Addr.add]] at hc
    exact hc
  obtain ⟨S1, hS1⟩ : ∃ S, nameW (R.names.getD 0 []) s = S := ⟨_, rfl⟩
  obtain ⟨S2, hS2⟩ : ∃ S, nameW (R.names.getD 1 []) S1 = S := ⟨_, rfl⟩
  rw [hS1] at HI1 HI2 ⊢
  rw [hS2] at HI2 ⊢
  have HNR : Hid (Rests (mk (R.names.getD 0 [])).data.toList ∧ (mk (R.names.getD 0 [])).size ≤ 255) := ⟨by rw [mk_list]; exact hn0.1, by rw [mk_size]; exact hn0.2⟩
  have HNL : Hid (nameW (mk (R.names.getD 0 [])).data.toList s = S1) := by rw [mk_list]; exact hS1
  have HNR1 : Hid (Rests (mk (R.names.getD 1 [])).data.toList ∧ (mk (R.names.getD 1 [])).size ≤ 255) := ⟨by rw [mk_list]; exact hnn1.1, by rw [mk_size]; exact hnn1.2⟩
  have HNL1 : Hid (nameW (mk (R.names.getD 1 [])).data.toList S1 = S2) := by rw [mk_list]; exact hS2
  have HV1 : Hid (Inv S1 ∧ S1.1.length ≤ 900000000 ∧ S1.2.length ≤ 900000000) := by
    have a := HI1.out.inv hI.out
    have b := HI1.out.len
    have c := a.2
    have d := hn0.2
    exact ⟨a, by omega, by omega⟩
  have HV2 : Hid (S2.1.length ≤ 900000000) := by
    have b := HI2.out.len
    have c := HI1.out.len
    have d := hn0.2
    have e := hnn1.2
    show _ ≤ _
    omega
  have HIL := Lib.hid (show s.1.length ≤ 900000000 ∧ s.2.length ≤ 900000000 by have := hI.out.2; omega)
  have HBEL := Lib.hid (fun (wr : World) (s' : Wr) (u : Value) (cs : Array Value) (hh : BxSt w wr r bm g B s' v u cs) => hh.bel HWR.out HG.out)
  generalize mk (R.names.getD 0 []) = y at *
  generalize mk (R.names.getD 1 []) = y1 at *
  have b1 := cell_of_row _ _ 1 _ _ _ HB0.out.bx
  have b4 := cell_of_row _ _ 4 _ _ _ HB0.out.bx
  clear hrn hrc hkd h1n hn0 hnn1 h hg hd hS1 hS2
  go_enter Try.func113, Try.ntmps113
  go_wp2_with fail
  clear hB
  generalize w.alloc (.cells #[.string x, .int .u16 6, .int .u16 l, .int .u32 t, .slice (some ad) n1 c1, .slice A2 n2 c2, .slice A3 n3 c3] 60) = wa at *
  refine (HN.out _ _ _ _ HB0.out.wat HB0.out.gl HNR.out.1 HNR.out.2 HIL.out.1 hI.out.1 HIL.out.2).mono ?_
  rintro e w2 ⟨v2, rfl, h2, h3⟩
  rw [HNL.out] at h2
  have H2 := Lib.hid (HB0.out.call h2 h3)
  have d4 := cell_of_row _ _ 4 _ _ _ H2.out.bx
  have hc1 := HC1.out w2 (HBEL.out _ _ _ _ H2.out)
  clear h2 h3 b1 b4 hcell
  go_wp2_with fail
  refine (HN.out _ _ _ _ H2.out.wat H2.out.gl HNR1.out.1 HNR1.out.2 HV1.out.2.1 HV1.out.1.1 HV1.out.2.2).mono ?_
  rintro e w3 ⟨v3, rfl, h2, h3⟩
  rw [HNL1.out] at h2
  have H3 := Lib.hid (H2.out.call h2 h3)
  have e5 := cell_of_row _ _ 5 _ _ _ H3.out.bx
  have HNU := Lib.hid (numbers_w A2 c2 n2 4 r bm g R.nums S2 v3 w3 H3.out.wat H3.out.gl (HRD2.out.on (HBEL.out _ _ _ _ H3.out) (Nat.le_refl _)) HL2.out hn2.out hu (by decide) (by decide) HV2.out)
  clear h2 h3 d4 hc1
  go_wp2_with fail
  refine HNU.out.mono ?_
  rintro e w4 ⟨v4, rfl, h2, h3⟩
  have H4 := Lib.hid (H3.out.call h2 h3)
  clear h2 h3 e5 HNU
  go_wp2_with fail
  go_end0
  exact ⟨_, rfl, H4.out.wat, H4.out.fr⟩
set_option maxHeartbeats 2000000 in
set_option maxRecDepth 100000 in
theorem dataW_15 (R : Rec) (x : ByteArray) (k l t : Nat) (A1 : Option Addr) (n1 c1 : Nat) (A2 : Option Addr) (n2 c2 : Nat) (A3 : Option Addr) (n3 c3 : Nat) (r bm g : Nat) (s : Wr) (v : Value) (w : World) (h : WrAt w r bm g s v) (hg : g ≤ w.heap.size) (hR : Hid (RecAt w g R x k l t A1 n1 A2 n2 A3 n3)) (hE : Hid (checkE R = 0)) (hI : Hid (Inv s)) (hl : s.1.length ≤ 800000000) (hu : Hid (∀ k, k < R.nums.length → R.nums.getD k 0 ≤ 4294967295)) (hk : k = 15) :
    Calls Try.prog 113 #[.pointer (some ⟨r, 0, none⟩), .agg #[.string x, .int .u16 k, .int .u16 l, .int .u32 t, .slice A1 n1 c1, .slice A2 n2 c2, .slice A3 n3 c3]] w (WrEnd w r bm g (dataW R s) v) := by
  subst hk
  have HWR := Lib.hid h
  have HG := Lib.hid hg
  have hrn := right_names hE.out
  have hrc := right_counts hE.out
  have hkd := hR.out.kind
  rw [hkd] at hrc
  have HB0 := Lib.hid (bxSt_start #[.string x, .int .u16 15, .int .u16 l, .int .u32 t, .slice A1 n1 c1, .slice A2 n2 c2, .slice A3 n3 c3] h hg)
  obtain ⟨B, hB⟩ : ∃ B, w.heap.size = B := ⟨_, rfl⟩
  rw [hB] at HB0
  have h1n : 0 < R.names.length := by rw [hrc.1]; decide
  have hd : dataW R s = nameW (R.names.getD 0 []) (numsW 2 R.nums s) := by unfold dataW; rw [if_neg (by rw [hkd]; decide), if_neg (by rw [hkd]; decide), if_pos hkd]
  rw [hd]
  have HRD1 := Lib.hid hR.out.rd1
  have HRD2 := Lib.hid hR.out.rd2
  have HL2 := Lib.hid hR.out.len2
  have hn0 := hrn.2.2 0 (by omega)
  have hl1 := hR.out.len1
  have hn1 : (0 : Int) < n1 := by omega
  have hn2 : Hid (n2 ≤ 1000) := by have := hR.out.len2; have e := hrc.2.1; rw [show shB 15 = 1 from rfl] at e; show _ ≤ _; omega
  have hnl : R.nums.length ≤ 1 := by have e := hrc.2.1; rw [show shB 15 = 1 from rfl] at e; omega
  have HI1 := Lib.hid (numsW_longer 2 R.nums s)
  have HN := Lib.hid (fun y s w u h => name_any y r bm g s u w h)
  obtain ⟨S1, hS1⟩ : ∃ S, numsW 2 R.nums s = S := ⟨_, rfl⟩
  rw [hS1] at HI1 ⊢
  have HS1 := Lib.hid hS1
  have HNR : Hid (Rests (mk (R.names.getD 0 [])).data.toList ∧ (mk (R.names.getD 0 [])).size ≤ 255) := ⟨by rw [mk_list]; exact hn0.1, by rw [mk_size]; exact hn0.2⟩
  have HNL : Hid (nameW (mk (R.names.getD 0 [])).data.toList S1 = nameW (R.names.getD 0 []) S1) := by rw [mk_list]; rfl
  have HV1 : Hid (Inv S1 ∧ S1.1.length ≤ 900000000 ∧ S1.2.length ≤ 900000000) := by
    have a := HI1.out.inv hI.out
    have b := HI1.out.len
    have c := a.2
    exact ⟨a, by omega, by omega⟩
  have HBEL := Lib.hid (fun (wr : World) (s' : Wr) (u : Value) (cs : Array Value) (hh : BxSt w wr r bm g B s' v u cs) => hh.bel HWR.out HG.out)
  have HH1N := Lib.hid h1n
  have b1 := cell_of_row _ _ 1 _ _ _ HB0.out.bx
  have b5 := cell_of_row _ _ 5 _ _ _ HB0.out.bx
  clear hrn hrc hkd h1n hn0 h hg hd hS1 hnl
  go_enter Try.func113, Try.ntmps113
  go_wp2_with fail
  clear hB
  generalize w.alloc (.cells #[.string x, .int .u16 15, .int .u16 l, .int .u32 t, .slice A1 n1 c1, .slice A2 n2 c2, .slice A3 n3 c3] 60) = wa at *
  refine (numbers_w A2 c2 n2 2 r bm g R.nums s v wa HB0.out.wat HB0.out.gl (HRD2.out.on (HBEL.out _ _ _ _ HB0.out) (Nat.le_refl _)) HL2.out hn2.out hu (by decide) (by decide) (by omega)).mono ?_
  rintro e w2 ⟨v2, rfl, h2, h3⟩
  rw [HS1.out] at h2
  have H2 := Lib.hid (HB0.out.call h2 h3)
  have d4 := cell_of_row _ _ 4 _ _ _ H2.out.bx
  obtain ⟨ad, rfl, hab, hcell⟩ := (HRD1.out.on (HBEL.out _ _ _ _ H2.out) (Nat.le_refl _)).get HH1N.out
  rw [show ad.add 0 = ad from by simp [Addr.add]] at hcell
  generalize mk (R.names.getD 0 []) = y at *
  clear h2 h3 b1 b5
  go_wp2_with fail
  refine (HN.out _ _ _ _ H2.out.wat H2.out.gl HNR.out.1 HNR.out.2 HV1.out.2.1 HV1.out.1.1 HV1.out.2.2).mono ?_
  rintro e w3 ⟨v3, rfl, h2, h3⟩
  rw [HNL.out] at h2
  have H3 := Lib.hid (H2.out.call h2 h3)
  clear h2 h3 d4 hcell
  go_wp2_with fail
  go_end0
  exact ⟨_, rfl, H3.out.wat, H3.out.fr⟩
set_option maxHeartbeats 2000000 in
set_option maxRecDepth 100000 in
theorem dataW_other (R : Rec) (x : ByteArray) (k l t : Nat) (A1 : Option Addr) (n1 c1 : Nat) (A2 : Option Addr) (n2 c2 : Nat) (A3 : Option Addr) (n3 c3 : Nat) (r bm g : Nat) (s : Wr) (v : Value) (w : World) (h : WrAt w r bm g s v) (hg : g ≤ w.heap.size) (hR : Hid (RecAt w g R x k l t A1 n1 A2 n2 A3 n3)) (hE : Hid (checkE R = 0)) (hl : s.1.length ≤ 800000000) (hS : Hid (Small R)) (k2 : k ≠ 2) (k5 : k ≠ 5) (k12 : k ≠ 12) (k6 : k ≠ 6) (k15 : k ≠ 15) :
    Calls Try.prog 113 #[.pointer (some ⟨r, 0, none⟩), .agg #[.string x, .int .u16 k, .int .u16 l, .int .u32 t, .slice A1 n1 c1, .slice A2 n2 c2, .slice A3 n3 c3]] w (WrEnd w r bm g (dataW R s) v) := by
  have HWR := Lib.hid h
  have HG := Lib.hid hg
  have hrn := right_names hE.out
  have hrc := right_counts hE.out
  have hkd := hR.out.kind
  rw [hkd] at hrc
  have HB0 := Lib.hid (bxSt_start #[.string x, .int .u16 k, .int .u16 l, .int .u32 t, .slice A1 n1 c1, .slice A2 n2 c2, .slice A3 n3 c3] h hg)
  obtain ⟨B, hB⟩ : ∃ B, w.heap.size = B := ⟨_, rfl⟩
  rw [hB] at HB0
  have hd : dataW R s = (s.1 ++ plainO R, s.2) := by unfold dataW; rw [if_neg (by rw [hkd]; omega), if_neg (by rw [hkd]; exact k6), if_neg (by rw [hkd]; exact k15)]
  rw [hd]
  have f2 : ((k : Int) == 2) = false := beq_eq_false_iff_ne.2 (by omega)
  have f5 : ((k : Int) == 5) = false := beq_eq_false_iff_ne.2 (by omega)
  have f12 : ((k : Int) == 12) = false := beq_eq_false_iff_ne.2 (by omega)
  have f6 : ((k : Int) == 6) = false := beq_eq_false_iff_ne.2 (by omega)
  have f15 : ((k : Int) == 15) = false := beq_eq_false_iff_ne.2 (by omega)
  obtain ⟨A, c, rfl⟩ := h.slice
  obtain ⟨m, hm⟩ : ∃ m, s.1.length = m := ⟨_, rfl⟩
  rw [hm] at hl
  have HM := Lib.hid hm
  obtain ⟨pp, hpp⟩ : ∃ q, mk (plainO R) = q := ⟨_, rfl⟩
  obtain ⟨pn, hpn⟩ : ∃ q, pp.size = q := ⟨_, rfl⟩
  have hpl : pn ≤ 300000 := by rw [← hpn, ← hpp, mk_size, plainO_ok hE.out]; exact plain_bound hE.out
  have HPP : Hid (pp.data.toList = plainO R) := by rw [← hpp]; exact mk_list _
  have hmn : m + pn ≤ 2000000000 := by omega
  have HP2 := Lib.hid (fun w' (hb : Below g w w') (hs : g ≤ w'.heap.size) => plain_is R x k l t A1 n1 c1 A2 n2 c2 A3 n3 c3 pp w' (hR.out.on hb hs) hS hpp)
  have HBEL := Lib.hid (fun (wr : World) (s' : Wr) (u : Value) (cs : Array Value) (hh : BxSt w wr r bm g B s' (.slice A s.1.length c) u cs) => hh.bel HWR.out HG.out)
  rw [hm] at HB0 HWR HBEL ⊢
  have b1 := cell_of_row _ _ 1 _ _ _ HB0.out.bx
  clear hrn hrc hkd h hg hd hpp k2 k5 k12 k6 k15 hm
  go_enter Try.func113, Try.ntmps113
  go_upto_region 2 with fail
  clear hB b1
  generalize w.alloc (.cells #[.string x, .int .u16 k, .int .u16 l, .int .u32 t, .slice A1 n1 c1, .slice A2 n2 c2, .slice A3 n3 c3] 60) = wa at *
  have HBD : Hid (Below wa.heap.size wa wa.drew) := (Below.refl _ _).drew
  have HD := Lib.hid (HB0.out.below HBD.out)
  have HP := Lib.hid (HP2.out wa.drew (HBEL.out _ _ _ _ HD.out) HD.out.gl)
  have w0 := HD.out.wat.c0
  have b0 := cell_of_row _ _ 0 _ _ _ HD.out.bx
  have b1 := cell_of_row _ _ 1 _ _ _ HD.out.bx
  have b2 := cell_of_row _ _ 2 _ _ _ HD.out.bx
  have b3 := cell_of_row _ _ 3 _ _ _ HD.out.bx
  have b4 := cell_of_row _ _ 4 _ _ _ HD.out.bx
  have b5 := cell_of_row _ _ 5 _ _ _ HD.out.bx
  have b6 := cell_of_row _ _ 6 _ _ _ HD.out.bx
  clear HP2
  go_region_law (first | (refine step_append_any (by rfl) (.tmp 10) (.tmp 12) (by rfl) g (.slice A m c) m s.1 (by rfl) HWP.out.2.1 pp (by rfl) pn hpn hmn HWP.out.2.2 ?_; intro A' cap w2 hown hgrow hat; have hown2 : w2.ownsRow g 5 1 (.slice A' (m + pn) cap) (s.1 ++ plainO R).length (Bytes.byteCells (s.1 ++ plainO R)) := (by rw [← HPP.out, List.length_append, HM.out, ← Lib.size_eq, hpn]; exact hown); have hst := HB0.out.wat.stored hown2 HWP.out.1 hgrow (hat.imp id (fun e b hb => Nat.le_trans HWP.out.1.size (e b hb))); have r3 := hst.2.2.1; have rf := hst.2.2.2; have HST := Lib.hid hst; clear hown hown2 hgrow hat hst) | (go_simp; go_at_call 129; refine HP.out.mono ?_; rintro e wd ⟨rfl, hB⟩; have hww := HD.out.wat.below hB; have n0 := hww.c0; have HWP : Hid (Below wa.heap.size wa wd ∧ wd.ownsRow g 5 1 (.slice A m c) m (Bytes.byteCells s.1) ∧ g ≤ wd.heap.size) := ⟨HBD.out.trans hB, (by have := hww.own; rw [HM.out] at this; exact this), Nat.le_trans HD.out.gl hB.size⟩; clear hB hww))
  all_goals
    go_wp2_with fail
    go_end0
    exact ⟨_, rfl, HST.out.1, HB0.out.fr.trans HST.out.2.1⟩
/-- The writer's data of a record that is right. -/
theorem dataW_any (R : Rec) (x : ByteArray) (k l t : Nat) (A1 : Option Addr) (n1 c1 : Nat) (A2 : Option Addr) (n2 c2 : Nat) (A3 : Option Addr) (n3 c3 : Nat) (r bm g : Nat) (s : Wr) (v : Value) (w : World) (h : WrAt w r bm g s v) (hg : g ≤ w.heap.size) (hR : Hid (RecAt w g R x k l t A1 n1 A2 n2 A3 n3)) (hE : Hid (checkE R = 0)) (hI : Hid (Inv s)) (hl : s.1.length ≤ 800000000) (hS : Hid (Small R)) :
    Calls Try.prog 113 #[.pointer (some ⟨r, 0, none⟩), .agg #[.string x, .int .u16 k, .int .u16 l, .int .u32 t, .slice A1 n1 c1, .slice A2 n2 c2, .slice A3 n3 c3]] w (WrEnd w r bm g (dataW R s) v) := by
  have hu : Hid (∀ k, k < R.nums.length → R.nums.getD k 0 ≤ 4294967295) := hS.out.u2
  by_cases h2 : k = 2
  · exact dataW_2 R x k l t A1 n1 c1 A2 n2 c2 A3 n3 c3 r bm g s v w h hg hR hE hI hl h2
  by_cases h5 : k = 5
  · exact dataW_5 R x k l t A1 n1 c1 A2 n2 c2 A3 n3 c3 r bm g s v w h hg hR hE hI hl h5
  by_cases h12 : k = 12
  · exact dataW_12 R x k l t A1 n1 c1 A2 n2 c2 A3 n3 c3 r bm g s v w h hg hR hE hI hl h12
  by_cases h6 : k = 6
  · exact dataW_6 R x k l t A1 n1 c1 A2 n2 c2 A3 n3 c3 r bm g s v w h hg hR hE hI hl hu h6
  by_cases h15 : k = 15
  · exact dataW_15 R x k l t A1 n1 c1 A2 n2 c2 A3 n3 c3 r bm g s v w h hg hR hE hI hl hu h15
  · exact dataW_other R x k l t A1 n1 c1 A2 n2 c2 A3 n3 c3 r bm g s v w h hg hR hE hl hS h2 h5 h12 h6 h15
end Go.Proofs.Ytpmmjmnleoicjaa

/- The contract of the writer's records. For records that are right. -/
namespace Go.Proofs.Ytpmmjmnleoicjaa
open Go.RowKit Bytes Strs Nums WrMath NameMath RecMath

theorem cells_oneB (l : List UInt8) : ∀ u ∈ Bytes.byteCells l, u.oneCell' = true := fun u hu => by obtain ⟨b, _, rfl⟩ := List.mem_map.1 hu; rfl
theorem fill_cells {cur : List Value} {out l : List UInt8} {k m : Nat} (h : cur.take m = Bytes.byteCells out) (hm : out.length = m) (hl : l.length = 2) (hk : k + 2 ≤ m) : (cur.take k ++ (Bytes.byteCells l ++ cur.drop (k + 2))).take m = Bytes.byteCells (out.take k ++ l ++ out.drop (k + 2)) := by
  have hcl : m ≤ cur.length := by
    have := congrArg List.length h
    rw [List.length_take, byteCells_len, hm] at this
    omega
  have e1 : cur.take k = Bytes.byteCells (out.take k) := by
    have := congrArg (List.take k) h
    rw [List.take_take, Nat.min_eq_left (by omega)] at this
    rw [this]
    unfold Bytes.byteCells
    rw [List.map_take]
  have e2 : (cur.drop (k + 2)).take (m - (k + 2)) = Bytes.byteCells (out.drop (k + 2)) := by
    have := congrArg (List.drop (k + 2)) h
    rw [List.drop_take] at this
    rw [this]
    unfold Bytes.byteCells
    rw [List.map_drop]
  rw [← List.append_assoc, List.take_append, byteCells_cat, byteCells_cat]
  have hlen : (cur.take k ++ Bytes.byteCells l).length = k + 2 := by rw [List.length_append, List.length_take, byteCells_len, hl]; omega
  rw [hlen, e2, List.take_of_length_le (by rw [hlen]; omega), e1]
/-- Two bytes over others, at a step of a region that draws. -/
theorem step_fill {w : World} {ops : Array Oper} {o : Oper} {a : Act} {K : Act → World → Prop} {Q : Exit → Act → World → Prop} {E : Prop} (hgd : o.guard = none) (d x : Operand)
    (ho : o.op = .call { callee := .builtin .copy, args := #[d, x], argTypes := #[74, 74] })
    (r bm g gb m cap k : Nat) (s : Wr) (hW : WrAt w r bm g s (.slice (some ⟨gb, 0, none⟩) m cap)) (hm : s.1.length = m) (dLen dCap : Nat) (hd : a.eval d = .slice (some ⟨gb, k, none⟩) dLen dCap) (hdl : 2 ≤ dLen) (hk : k + 2 ≤ m)
    (ad : Addr) (sCap : Nat) (hx : a.eval x = .slice (some ad) 2 sCap) (l : List UInt8) (hl : l.length = 2) (hsrc : ∀ j u, (Bytes.byteCells l)[j]? = some u → w.cell? (ad.add j) = some u)
    (h : ∀ w', WrAt w' r bm g (s.1.take k ++ l ++ s.1.drop (k + 2), s.2) (.slice (some ⟨gb, 0, none⟩) m cap) → Wrote r bm (.slice (some ⟨gb, 0, none⟩) m cap) w (.slice (some ⟨gb, 0, none⟩) m cap) w' → K (a.put o.dst (goInt 2)) w') : if Region.wanted o (yielded ops a.tmps) = true then Oper.wp Try.prog o a w K Q else E := by
  have hw : Region.wanted o (yielded ops a.tmps) = true := by simp [Region.wanted, hgd]
  rw [if_pos hw]
  have hown := hW.own
  rw [hm] at hown
  rcases hown.2 with ⟨e, _⟩ | ⟨gb', cap', cur, e, hbg, hgg, hnc, hcm, hcs, htake⟩
  · cases e
  injection e with e1 _ e3
  injection e1 with e1
  injection e1 with e1
  subst e1 e3
  rw [Nat.mul_one] at hcs htake
  have hbl : (Bytes.byteCells l).length = 2 := by rw [byteCells_len, hl]
  have hrun := run_copy_row (P := Try.prog) w 74 74 o.type 5 gb k dLen dCap ad 2 sCap cur 5 (Bytes.byteCells l) Try.underlying74 (by kernel_rfl) hgg (by rw [hbl]; exact (Nat.min_eq_left hdl).symm) hsrc (by rw [hbl]; omega) (cells_oneB l)
  rw [hbl] at hrun
  unfold Oper.wp
  simp [execOp, ho, resolve, invoke, builtin, hd, hx, hrun, Result.andThen]
  have hr : r ≠ gb := fun e => by
    subst e
    have := hW.rd
    rw [hgg] at this
    injection this with this
    injection this with _ this
    exact absurd this (by decide)
  have hb : bm ≠ gb := fun e => by
    subst e
    obtain ⟨es, c, hb⟩ := hW.map.obj
    rw [hgg] at hb
    cases hb
  have hg : w.grownBy (w.setRow gb (cur.toList.take k ++ (Bytes.byteCells l ++ cur.toList.drop (k + 2))).toArray) (some gb) := ⟨rfl, rfl, rfl, by simp [World.setRow], fun i _ hi => setRow_other w gb i _ (fun e => hi (by rw [e]))⟩
  refine h _ ⟨(setRow_other w gb r _ hr).trans hW.rd, ?_, hW.map.kept hg (fun e => by injection e with e; exact hb e), hW.gr, hW.gb⟩ ⟨rfl, rfl, rfl, by simp [World.setRow], fun i _ _ _ hi => setRow_other w gb i _ (fun e => hi (by rw [e]; rfl)), .inl rfl⟩
  have hol : (s.1.take k ++ l ++ s.1.drop (k + 2)).length = m := by rw [List.length_append, List.length_append, List.length_take, List.length_drop, hl]; omega
  show World.ownsRow _ _ _ _ _ (s.1.take k ++ l ++ s.1.drop (k + 2)).length _
  rw [hol]
  refine ⟨by rw [byteCells_len, hol, Nat.mul_one], .inr ⟨gb, cap, _, rfl, hbg, setRow_heap w gb cur _ 5 _ hgg, hnc, hcm, ?_, ?_⟩⟩
  · rw [Nat.mul_one, List.size_toArray, List.length_append, List.length_append, List.length_take, List.length_drop, byteCells_len, hl, Array.length_toList]
    omega
  · rw [Nat.mul_one, List.toList_toArray]
    exact fill_cells htake hm hl hk
theorem WrAt.own_slice {w : World} {r bm g : Nat} {s : Wr} {v : Value} (h : WrAt w r bm g s v) (h0 : 0 < s.1.length) : ∃ gb cap, v = .slice (some ⟨gb, 0, none⟩) s.1.length cap ∧ s.1.length ≤ cap ∧ cap ≤ maxLen := by
  rcases h.own.2 with ⟨_, e⟩ | ⟨gb, cap, cur, e, _, _, h1, h2, _⟩
  · omega
  · exact ⟨gb, cap, e, h1, h2⟩
set_option maxHeartbeats 4000000 in
set_option maxRecDepth 100000 in
theorem recW_any (R : Rec) (x : ByteArray) (k l t : Nat) (A1 : Option Addr) (n1 c1 : Nat) (A2 : Option Addr) (n2 c2 : Nat) (A3 : Option Addr) (n3 c3 : Nat) (r bm g : Nat) (s : Wr) (v : Value) (w : World) (h : WrAt w r bm g s v) (hg : g ≤ w.heap.size) (hR : Hid (RecAt w g R x k l t A1 n1 A2 n2 A3 n3)) (hE : Hid (checkE R = 0)) (hI : Hid (Inv s)) (hl : s.1.length ≤ 700000000) (hS : Hid (Small R)) (hk : k ≤ 65535) (hlk : l ≤ 65535) (ht : t ≤ 4294967295) :
    Calls Try.prog 86 #[.pointer (some ⟨r, 0, none⟩), .agg #[.string x, .int .u16 k, .int .u16 l, .int .u32 t, .slice A1 n1 c1, .slice A2 n2 c2, .slice A3 n3 c3]] w (WrEnd w r bm g (recW R s) v) := by
  have HWR := Lib.hid h
  have HG := Lib.hid hg
  have hrn := right_names hE.out
  have hx := hR.out.name
  obtain ⟨S1, hS1⟩ : ∃ S, nameW x.data.toList s = S := ⟨_, rfl⟩
  obtain ⟨S2, hS2⟩ : ∃ S, numW k 2 S1 = S := ⟨_, rfl⟩
  obtain ⟨S3, hS3⟩ : ∃ S, numW l 2 S2 = S := ⟨_, rfl⟩
  obtain ⟨S4, hS4⟩ : ∃ S, numW t 4 S3 = S := ⟨_, rfl⟩
  obtain ⟨S5, hS5⟩ : ∃ S, numW 0 2 S4 = S := ⟨_, rfl⟩
  obtain ⟨S6, hS6⟩ : ∃ S, dataW R S5 = S := ⟨_, rfl⟩
  have hh : headW R s = S4 := by unfold headW; rw [← hx, hS1, hR.out.kind, hS2, hR.out.cls, hS3, hR.out.ttl, hS4]
  obtain ⟨at_, hat⟩ : ∃ n, S4.1.length = n := ⟨_, rfl⟩
  obtain ⟨b, hb⟩ : ∃ n, at_ + 2 = n := ⟨_, rfl⟩
  obtain ⟨M, hM⟩ : ∃ n, S6.1.length = n := ⟨_, rfl⟩
  have hrec : recW R s = (S6.1.take at_ ++ beTail (M - b) 2 ++ S6.1.drop (at_ + 2), S6.2) := by
    unfold recW
    simp only
    rw [hh, hS5, hS6, hat]
    unfold fillW
    rw [hM, hb]
  rw [hrec]
  have hR1 : Rests x.data.toList ∧ x.size ≤ 255 := ⟨by rw [hx]; exact hrn.1, by rw [Lib.size_eq, hx]; exact hrn.2.1⟩
  have L1 := nameW_longer _ hR1.1 s
  rw [hS1] at L1
  have L2 := numW_longer k 2 S1
  rw [hS2] at L2
  have L3 := numW_longer l 2 S2
  rw [hS3] at L3
  have L4 := numW_longer t 4 S3
  rw [hS4] at L4
  have L5 := numW_longer 0 2 S4
  rw [hS5] at L5
  have L6 := dataW_longer hE.out S5
  rw [hS6] at L6
  have hx255 : x.data.toList.length ≤ 255 := by rw [← Lib.size_eq]; exact hR1.2
  have hpb := plain_bound hE.out
  have hlen5 : S5.1.length = b := by rw [← hb, ← hat, ← hS5]; show (S4.1 ++ beTail 0 2).length = _; rw [List.length_append, beTail_length]
  have hbM : b ≤ M ∧ M ≤ 800000000 := by
    have a1 := L1.len; have a2 := L2.len; have a3 := L3.len; have a4 := L4.len; have a5 := L5.len; have a6 := L6.len
    omega
  have HV : Hid ((s.1.length ≤ 900000000 ∧ s.2.length ≤ 900000000) ∧ S1.1.length ≤ 1000000000 ∧ S2.1.length ≤ 1000000000 ∧ S3.1.length ≤ 1000000000 ∧ S4.1.length ≤ 1000000000 ∧ S5.1.length ≤ 800000000 ∧ Inv S5) := by
    have a1 := L1.len; have a2 := L2.len; have a3 := L3.len; have a4 := L4.len; have a5 := L5.len
    have i := hI.out.2
    exact ⟨⟨by omega, by omega⟩, by omega, by omega, by omega, by omega, by omega, L5.inv (L4.inv (L3.inv (L2.inv (L1.inv hI.out))))⟩
  have HR1 := Lib.hid hR1
  have H1 := Lib.hid hS1
  have H2 := Lib.hid hS2
  have H3 := Lib.hid hS3
  have H4 := Lib.hid hS4
  have H5 := Lib.hid hS5
  have H6 := Lib.hid hS6
  have HL5 := Lib.hid hlen5
  have HM := Lib.hid hM
  have HB0 := Lib.hid (bxSt_start #[.string x, .int .u16 k, .int .u16 l, .int .u32 t, .slice A1 n1 c1, .slice A2 n2 c2, .slice A3 n3 c3] h hg)
  obtain ⟨B, hB⟩ : ∃ B, w.heap.size = B := ⟨_, rfl⟩
  rw [hB] at HB0
  have HBEL := Lib.hid (fun (wr : World) (s' : Wr) (u : Value) (cs : Array Value) (hh : BxSt w wr r bm g B s v u cs) => hh.bel HWR.out HG.out)
  have HBEL2 := Lib.hid (fun (wr : World) (s' : Wr) (u : Value) (cs : Array Value) (hh : BxSt w wr r bm g B s' v u cs) => hh.fr.to_below HWR.out HG.out)
  have hu1 : IntKind.u32.wrap (k : Int) = (k : Int) := by rw [IntKind.wrap_u32]; omega
  have hu2 : IntKind.u32.wrap (l : Int) = (l : Int) := by rw [IntKind.wrap_u32]; omega
  have b0 := cell_of_row _ _ 0 _ _ _ HB0.out.bx
  clear hS1 hS2 hS3 hS4 hS5 hS6 hh hrec hR1 L1 L2 L3 L4 L5 L6 hx hrn hpb hlen5 h hg hx255 hM HBEL
  go_enter Try.func86, Try.ntmps86
  go_wp2_with fail
  clear hB
  generalize w.alloc (.cells #[.string x, .int .u16 k, .int .u16 l, .int .u32 t, .slice A1 n1 c1, .slice A2 n2 c2, .slice A3 n3 c3] 60) = wa at *
  refine (name_any x r bm g s v wa HB0.out.wat HB0.out.gl HR1.out.1 HR1.out.2 HV.out.1.1 hI.out.1 HV.out.1.2).mono ?_
  rintro e w1 ⟨v1, rfl, h2, h3⟩
  rw [H1.out] at h2
  have K1 := Lib.hid (HB0.out.call h2 h3)
  have d1 := cell_of_row _ _ 1 _ _ _ K1.out.bx
  clear h2 h3 b0
  go_wp2_with fail
  refine (number_any k 2 r bm g S1 v1 w1 K1.out.wat K1.out.gl (by omega) (by decide) (by decide) HV.out.2.1).mono ?_
  rintro e w2 ⟨v2, rfl, h2, h3⟩
  rw [H2.out] at h2
  have K2 := Lib.hid (K1.out.call h2 h3)
  have d2 := cell_of_row _ _ 2 _ _ _ K2.out.bx
  clear h2 h3 d1
  go_wp2_with fail
  refine (number_any l 2 r bm g S2 v2 w2 K2.out.wat K2.out.gl (by omega) (by decide) (by decide) HV.out.2.2.1).mono ?_
  rintro e w3 ⟨v3, rfl, h2, h3⟩
  rw [H3.out] at h2
  have K3 := Lib.hid (K2.out.call h2 h3)
  have d3 := cell_of_row _ _ 3 _ _ _ K3.out.bx
  clear h2 h3 d2
  go_wp2_with fail
  refine (number_any t 4 r bm g S3 v3 w3 K3.out.wat K3.out.gl (by omega) (by decide) (by decide) HV.out.2.2.2.1).mono ?_
  rintro e w4 ⟨v4, rfl, h2, h3⟩
  rw [H4.out] at h2
  have K4 := Lib.hid (K3.out.call h2 h3)
  clear h2 h3 d3
  go_wp2_with fail
  refine (number_any 0 2 r bm g S4 v4 w4 K4.out.wat K4.out.gl (by omega) (by decide) (by decide) HV.out.2.2.2.2.1).mono ?_
  rintro e w5 ⟨v5, rfl, h2, h3⟩
  rw [H5.out] at h2
  have K5 := Lib.hid (K4.out.call h2 h3)
  obtain ⟨A5, c5, rfl⟩ := K5.out.wat.slice
  have HDT := Lib.hid (dataW_any R x k l t A1 n1 c1 A2 n2 c2 A3 n3 c3 r bm g S5 (.slice A5 S5.1.length c5) w5 K5.out.wat K5.out.gl (hR.out.on (HBEL2.out _ _ _ _ K5.out) (Nat.le_refl _)) hE HV.out.2.2.2.2.2.2 HV.out.2.2.2.2.2.1 hS)
  rw [HL5.out] at HDT K5
  have w0 := K5.out.wat.c0
  have d0 := cell_of_row _ _ 0 _ _ _ K5.out.bx
  have d1 := cell_of_row _ _ 1 _ _ _ K5.out.bx
  have d2 := cell_of_row _ _ 2 _ _ _ K5.out.bx
  have d3 := cell_of_row _ _ 3 _ _ _ K5.out.bx
  have d4 := cell_of_row _ _ 4 _ _ _ K5.out.bx
  have d5 := cell_of_row _ _ 5 _ _ _ K5.out.bx
  have d6 := cell_of_row _ _ 6 _ _ _ K5.out.bx
  clear h2 h3
  go_wp2_with fail
  refine HDT.out.mono ?_
  rintro e w6 ⟨v6, rfl, h2, h3⟩
  rw [H6.out] at h2
  have K6 := Lib.hid (K5.out.call h2 h3)
  obtain ⟨gb, cap, rfl, hcap, hcm⟩ := K6.out.wat.own_slice (by rw [HM.out]; omega)
  rw [HM.out] at K6 hcap
  clear h2 h3 w0 d0 d1 d2 d3 d4 d5 d6 HDT
  obtain ⟨q, hq⟩ : ∃ q, M - b = q := ⟨_, rfl⟩
  have HBD : Hid (Below w6.heap.size w6 w6.drew) := (Below.refl _ _).drew
  have HD := Lib.hid (K6.out.below HBD.out)
  have HP := Lib.hid (put_any none 0 [] q 2 w6.drew (by decide) (fun hp => absurd hp (by simp)) (by simp))
  have w0 := HD.out.wat.c0
  have hw1 : IntKind.i64.wrap ((b : Int) - 2) = (at_ : Int) := by rw [IntKind.wrap_i64]; omega
  have hw2 : IntKind.i64.wrap ((M : Int) - (b : Int)) = (q : Int) := by rw [IntKind.wrap_i64]; omega
  have hw3 : IntKind.u64.wrap (q : Int) = (q : Int) := by rw [IntKind.wrap_u64]; omega
  have ha1 : (0 : Int) ≤ (at_ : Int) := by omega
  have ha2 : (at_ : Int) ≤ (M : Int) := by omega
  have ha3 : at_ < cap := by omega
  have ha4 : ¬ cap = at_ := by omega
  have ha5 : at_ + 2 ≤ M := by omega
  have ha6 : 2 ≤ M - at_ := by omega
  have HQ := Lib.hid hq
  clear hq hb hat
  go_upto_region 8 with fail
  go_region_law (first | (refine step_fill (by rfl) (.tmp 39) (.tmp 48) (by rfl) r bm g gb M cap at_ S6 HWD.out.1 HM.out (M - at_) (cap - at_) (by rfl) ha6 ha5 ⟨w6.heap.size, 0, none⟩ (0 + 2) (by rfl) (beTail q 2) (by rw [beTail_length]) HWD.out.2.2 ?_; intro w8 hw8 hf8; have HST := Lib.hid (show WrAt w8 r bm g (S6.1.take at_ ++ beTail q 2 ++ S6.1.drop (at_ + 2), S6.2) (.slice (some ⟨gb, 0, none⟩) M cap) ∧ Wrote r bm v w (.slice (some ⟨gb, 0, none⟩) M cap) w8 from ⟨hw8, HWD.out.2.1.trans hf8⟩); clear hw8 hf8) | (go_simp; go_at_call 112; refine HP.out.mono ?_; rintro e wd ⟨rfl, hB, hlt, hblk⟩; have hww := HD.out.below hB; have n0 := hww.wat.c0; have HWD : Hid (WrAt wd r bm g S6 (.slice (some ⟨gb, 0, none⟩) M cap) ∧ Wrote r bm v w (.slice (some ⟨gb, 0, none⟩) M cap) wd ∧ ∀ j u, (Bytes.byteCells (beTail q 2))[j]? = some u → wd.cell? ((⟨w6.heap.size, 0, none⟩ : Addr).add j) = some u) := ⟨hww.wat, hww.fr, World.news_of_block hblk⟩; clear hB hlt hblk hww))
  all_goals
    go_wp2_with fail
    go_end0
    rw [HQ.out]
    exact ⟨_, rfl, HST.out.1, HST.out.2⟩
end Go.Proofs.Ytpmmjmnleoicjaa

/- The contract of the writer's message. For messages that are right. -/
namespace Go.Proofs.Ytpmmjmnleoicjaa
open Go.RowKit Bytes MsgMath NameMath RecMath WrMath

/-- A block of another kind, within the writer's calls. -/
structure MgSt (w wr : World) (r bm g B : Nat) (s : Wr) (v u : Value) (cs : Array Value) (t : TypeId) : Prop where
  wat : WrAt wr r bm g s u
  fr : Wrote r bm v w u wr
  bx : wr.heap[B]? = some (.cells cs t (0, 0))
  gl : g ≤ wr.heap.size
  t1 : t ≠ 76
  t2 : 5 ≠ t
section
variable {w wr w' : World} {r bm g B : Nat} {s s' s0 : Wr} {v u u' : Value} {cs : Array Value} {t : TypeId}
theorem MgSt.call (h : MgSt w wr r bm g B s v u cs t) (hw : WrAt w' r bm g s' u') (hf : Wrote r bm u wr u' w') : MgSt w w' r bm g B s' v u' cs t :=
  ⟨hw, h.fr.trans hf, hf.cells h.wat h.bx h.t1 h.t2, Nat.le_trans h.gl hf.size, h.t1, h.t2⟩
theorem MgSt.below (h : MgSt w wr r bm g B s v u cs t) (hB : Below wr.heap.size wr w') : MgSt w w' r bm g B s v u cs t :=
  ⟨h.wat.below hB, h.fr.below hB, (hB.block B (Array.getElem?_eq_some_iff.1 h.bx).1).trans h.bx, Nat.le_trans h.gl hB.size, h.t1, h.t2⟩
theorem mgSt_start (cs : Array Value) (h : WrAt w r bm g s v) (hg : g ≤ w.heap.size) (h1 : t ≠ 76) (h2 : 5 ≠ t) : MgSt w (w.alloc (.cells cs t)) r bm g w.heap.size s v v cs t :=
  have hB : Below w.heap.size w (w.alloc (.cells cs t)) := (Below.refl _ _).alloc (Nat.le_refl _) _
  ⟨h.below hB, (Wrote.refl _ _ _ _).below hB, heap_alloc_new w _, by simp; omega, h1, h2⟩
theorem MgSt.bel (h : MgSt w wr r bm g B s v u cs t) (h0 : WrAt w r bm g s0 v) : Below g w wr := h.fr.to_below h0 (by
  have := h0.lt
  have := h0.gr
  omega)
end
theorem cells_own' {w : World} {g size n c : Nat} {e : TypeId} {A : Option Addr} {xs : List Value} (h : w.ownsRow g e size (.slice A n c) n xs) : CellsAt w w.heap.size A xs := by
  obtain ⟨A', c', ev, hc⟩ := cells_own h
  injection ev with e1 _ _
  rw [e1]
  exact hc
/-- How long what is written can be, behind so many things. -/
theorem qnsW_inv {L : List Qn} (h : ∀ q ∈ L, isN q.name = true) (s : Wr) (hI : Inv s) : Inv (qnsW L s) ∧ (qnsW L s).1.length ≤ s.1.length + L.length * 300 := by
  have h1 := qnsW_longer s h
  refine ⟨h1.inv hI, ?_⟩
  have h2 := h1.len.2
  have h3 : (L.map fun q => q.name.length + 4).sum ≤ L.length * 300 := by
    clear h1 h2
    induction L with
    | nil => exact Nat.le_refl _
    | cons q L ih =>
      rw [List.map_cons, List.sum_cons, List.length_cons]
      have := isN_le (h q (by simp))
      have := ih fun q hq => h q (by simp [hq])
      omega
  omega
theorem recsW_inv {L : List Rec} (h : ∀ R ∈ L, checkE R = 0) (s : Wr) (hI : Inv s) : Inv (recsW L s) ∧ (recsW L s).1.length ≤ s.1.length + L.length * 400000 := by
  have h1 := recsW_longer s h
  refine ⟨h1.inv hI, ?_⟩
  have h2 := h1.len.2
  have h3 : (L.map fun R => R.name.length + 10 + (plainO R).length).sum ≤ L.length * 400000 := by
    clear h1 h2
    induction L with
    | nil => exact Nat.le_refl _
    | cons q L ih =>
      rw [List.map_cons, List.sum_cons, List.length_cons]
      have h0 := h q (by simp)
      have := (right_names h0).2.1
      have := plain_bound h0
      rw [← plainO_ok h0] at this
      have := ih fun q hq => h q (by simp [hq])
      omega
  omega
set_option maxHeartbeats 8000000 in
set_option maxRecDepth 100000 in
theorem message_w (M : Msg) (Aq Aa An Ax : Option Addr) (nq na nn nx cq ca cn cx B r bm g : Nat) (Za Zn Zx : List RecZ) (v : Value) (w : World) (h : WrAt w r bm g ([], []) v) (hv : Hid (MsgV w B M Aq Aa An Ax nq na nn nx ca cn cx Za Zn Zx)) (hB : B ≤ g) (hf : Hid (FewM M)) (hE : Hid (checkM M = 0)) :
    Calls Try.prog 44 #[.pointer (some ⟨r, 0, none⟩), .agg (msgA M.id M.flags Aq nq cq Aa na ca An nn cn Ax nx cx)] w (WrEnd w r bm g (msgW M) v) := by
  obtain ⟨hcnt, hqN, hrE⟩ := checkM_ok hE.out
  rw [hv.out.eq, hv.out.ea, hv.out.en, hv.out.ex] at hcnt
  have hgw : g ≤ w.heap.size := by have := h.lt; have := h.gr; omega
  obtain ⟨id, hid⟩ : ∃ n, M.id = n := ⟨_, rfl⟩
  obtain ⟨fl, hfl⟩ : ∃ n, M.flags = n := ⟨_, rfl⟩
  have hid2 : id ≤ 65535 := by rw [← hid]; exact hf.out.id
  have hfl2 : fl ≤ 65535 := by rw [← hfl]; exact hf.out.flags
  obtain ⟨S1, hS1⟩ : ∃ S, numW id 2 (([], []) : Wr) = S := ⟨_, rfl⟩
  obtain ⟨S2, hS2⟩ : ∃ S, numW fl 2 S1 = S := ⟨_, rfl⟩
  obtain ⟨S3, hS3⟩ : ∃ S, numW nq 2 S2 = S := ⟨_, rfl⟩
  obtain ⟨S4, hS4⟩ : ∃ S, numW na 2 S3 = S := ⟨_, rfl⟩
  obtain ⟨S5, hS5⟩ : ∃ S, numW nn 2 S4 = S := ⟨_, rfl⟩
  obtain ⟨S6, hS6⟩ : ∃ S, numW nx 2 S5 = S := ⟨_, rfl⟩
  have hst : startW M = S6 := by unfold startW; rw [hv.out.eq, hv.out.ea, hv.out.en, hv.out.ex, hid, hfl, hS1, hS2, hS3, hS4, hS5, hS6]
  have hi6 := start_inv M
  rw [hst] at hi6
  have L2 := (numW_longer fl 2 S1).of_eq hS2
  have L3 := (numW_longer nq 2 S2).of_eq hS3
  have L4 := (numW_longer na 2 S3).of_eq hS4
  have L5 := (numW_longer nn 2 S4).of_eq hS5
  have L6 := (numW_longer nx 2 S5).of_eq hS6
  have HLN : Hid (S1.1.length ≤ 12 ∧ S2.1.length ≤ 12 ∧ S3.1.length ≤ 12 ∧ S4.1.length ≤ 12 ∧ S5.1.length ≤ 12 ∧ S6.1.length ≤ 12) := by
    have a2 := L2.len; have a3 := L3.len; have a4 := L4.len; have a5 := L5.len; have a6 := L6.len; have a7 := hi6.2
    exact ⟨by omega, by omega, by omega, by omega, by omega, by omega⟩
  obtain ⟨SQ, hSQ⟩ : ∃ S, qnsW M.qs S6 = S := ⟨_, rfl⟩
  have hqi := qnsW_inv hqN S6 hi6.1
  have hmsg : msgW M = recsW (recsM M) SQ := by unfold msgW; rw [hst, hSQ]
  obtain ⟨SM, hSM⟩ : ∃ S, msgW M = S := ⟨_, rfl⟩
  rw [hSM] at hmsg ⊢
  rw [hSQ] at hqi
  have HQI := Lib.hid hqi
  have HI6 := Lib.hid hi6.1
  have HMSG := Lib.hid hmsg
  have HSQ := Lib.hid hSQ
  have H1 := Lib.hid hS1
  have H2 := Lib.hid hS2
  have H3 := Lib.hid hS3
  have H4 := Lib.hid hS4
  have H5 := Lib.hid hS5
  have H6 := Lib.hid hS6
  have HQN := Lib.hid hqN
  have HRE := Lib.hid hrE
  have HW := Lib.hid h
  have HGW := Lib.hid hgw
  obtain ⟨Bx, hBx⟩ : ∃ B, w.heap.size = B := ⟨_, rfl⟩
  have HB0 := Lib.hid (mgSt_start (t := 26) (msgA id fl Aq nq cq Aa na ca An nn cn Ax nx cx) h hgw (by decide) (by decide))
  rw [hBx] at HB0
  rw [hid, hfl]
  have hu1 : IntKind.u32.wrap (id : Int) = (id : Int) := by rw [IntKind.wrap_u32]; omega
  have hu2 : IntKind.u32.wrap (fl : Int) = (fl : Int) := by rw [IntKind.wrap_u32]; omega
  have hu3 : IntKind.u32.wrap (nq : Int) = (nq : Int) := by rw [IntKind.wrap_u32]; omega
  have hu4 : IntKind.u32.wrap (na : Int) = (na : Int) := by rw [IntKind.wrap_u32]; omega
  have hu5 : IntKind.u32.wrap (nn : Int) = (nn : Int) := by rw [IntKind.wrap_u32]; omega
  have hu6 : IntKind.u32.wrap (nx : Int) = (nx : Int) := by rw [IntKind.wrap_u32]; omega
  have HNUM := Lib.hid (fun n s v w h hg hn hl => number_any n 2 r bm g s v w h hg hn (by decide) (by decide) hl)
  have b0 := cell_of_row _ _ 0 _ _ _ HB0.out.bx
  clear hS1 hS2 hS3 hS4 hS5 hS6 hst hi6 L2 L3 L4 L5 L6 hSQ hqi hmsg hSM hqN hrE h hgw hid hfl
  go_enter Try.func44, Try.ntmps44
  go_wp2_with fail
  clear hBx
  generalize w.alloc (.cells #[.int .u16 id, .int .u16 fl, .slice Aq nq cq, .slice Aa na ca, .slice An nn cn, .slice Ax nx cx] 26) = wa at *
  refine (HNUM.out id _ _ wa HB0.out.wat HB0.out.gl (by omega) (by decide)).mono ?_
  rintro e w1 ⟨v1, rfl, h2, h3⟩
  rw [H1.out] at h2
  have K1 := Lib.hid (HB0.out.call h2 h3)
  have d1 := cell_of_row _ _ 1 _ _ _ K1.out.bx
  clear h2 h3 b0
  go_wp2_with fail
  refine (HNUM.out fl _ _ w1 K1.out.wat K1.out.gl (by omega) (by have := HLN.out.1; omega)).mono ?_
  rintro e w2 ⟨v2, rfl, h2, h3⟩
  rw [H2.out] at h2
  have K2 := Lib.hid (K1.out.call h2 h3)
  have d2 := cell_of_row _ _ 2 _ _ _ K2.out.bx
  have d3 := cell_of_row _ _ 3 _ _ _ K2.out.bx
  have d4 := cell_of_row _ _ 4 _ _ _ K2.out.bx
  have d5 := cell_of_row _ _ 5 _ _ _ K2.out.bx
  clear h2 h3 d1
  obtain ⟨Bi, hBi⟩ : ∃ B, w2.heap.size = B := ⟨_, rfl⟩
  have K2a := Lib.hid (K2.out.below ((Below.refl _ _).alloc (Nat.le_refl _) (.cells #[.int .i64 nq, .int .i64 na, .int .i64 nn, .int .i64 nx] 3)))
  have I2 : Hid (MgSt w (w2.alloc (.cells #[.int .i64 nq, .int .i64 na, .int .i64 nn, .int .i64 nx] 3)) r bm g Bi S2 v v2 #[.int .i64 nq, .int .i64 na, .int .i64 nn, .int .i64 nx] 3) := ⟨K2a.out.wat, K2a.out.fr, by rw [← hBi]; exact heap_alloc_new w2 _, K2a.out.gl, by decide, by decide⟩
  go_wp2_with fail
  clear hBi d2 d3 d4 d5
  generalize w2.alloc (.cells #[.int .i64 nq, .int .i64 na, .int .i64 nn, .int .i64 nx] 3) = w3 at *
  go_loopw [34] (fun i wr => ∃ (k : Nat) (s' : Wr) (u : Value), i = .int .i64 k ∧ Hid ((k = 0 ∧ s' = S2) ∨ (k = 1 ∧ s' = S3) ∨ (k = 2 ∧ s' = S4) ∨ (k = 3 ∧ s' = S5) ∨ (k = 4 ∧ s' = S6)) ∧ Hid (MgSt w wr r bm g Bx s' v u (msgA id fl Aq nq cq Aa na ca An nn cn Ax nx cx) 26) ∧ Hid (MgSt w wr r bm g Bi s' v u #[.int .i64 nq, .int .i64 na, .int .i64 nn, .int .i64 nx] 3)) (fun i _ => 4 - (intOf i).toNat)
  case atStart => exact ⟨0, S2, v2, rfl, .inl ⟨rfl, rfl⟩, K2a, I2⟩
  case round =>
    obtain ⟨k, s', u, rfl, hk, hK, hI⟩ := hrel
    have i0 := cell_of_row _ _ 0 _ _ _ hI.out.bx
    have i1 := cell_of_row _ _ 1 _ _ _ hI.out.bx
    have i2 := cell_of_row _ _ 2 _ _ _ hI.out.bx
    have i3 := cell_of_row _ _ 3 _ _ _ hI.out.bx
    rcases hk.out with ⟨rfl, e1⟩ | ⟨rfl, e1⟩ | ⟨rfl, e1⟩ | ⟨rfl, e1⟩ | ⟨rfl, e1⟩
    · subst e1
      have HN := Lib.hid (HNUM.out nq _ _ wr hK.out.wat hK.out.gl (by omega) (by have := HLN.out.2.1; omega))
      rw [H3.out] at HN
      go_wp2_with fail
      refine HN.out.mono ?_
      rintro e w4 ⟨v4, rfl, h2, h3⟩
      have E1 := Lib.hid (hK.out.call h2 h3)
      have E2 := Lib.hid (hI.out.call h2 h3)
      clear h2 h3 HN hK hI i0 i1 i2 i3
      go_wp2_with fail
      go_roundw
      case rel => exact ⟨1, S3, _, by go_num, .inr (.inl ⟨rfl, rfl⟩), E1, E2⟩
      case measure => simp [intOf]
    · subst e1
      have HN := Lib.hid (HNUM.out na _ _ wr hK.out.wat hK.out.gl (by omega) (by have := HLN.out.2.2.1; omega))
      rw [H4.out] at HN
      go_wp2_with fail
      refine HN.out.mono ?_
      rintro e w4 ⟨v4, rfl, h2, h3⟩
      have E1 := Lib.hid (hK.out.call h2 h3)
      have E2 := Lib.hid (hI.out.call h2 h3)
      clear h2 h3 HN hK hI i0 i1 i2 i3
      go_wp2_with fail
      go_roundw
      case rel => exact ⟨2, S4, _, by go_num, .inr (.inr (.inl ⟨rfl, rfl⟩)), E1, E2⟩
      case measure => simp [intOf]
    · subst e1
      have HN := Lib.hid (HNUM.out nn _ _ wr hK.out.wat hK.out.gl (by omega) (by have := HLN.out.2.2.2.1; omega))
      rw [H5.out] at HN
      go_wp2_with fail
      refine HN.out.mono ?_
      rintro e w4 ⟨v4, rfl, h2, h3⟩
      have E1 := Lib.hid (hK.out.call h2 h3)
      have E2 := Lib.hid (hI.out.call h2 h3)
      clear h2 h3 HN hK hI i0 i1 i2 i3
      go_wp2_with fail
      go_roundw
      case rel => exact ⟨3, S5, _, by go_num, .inr (.inr (.inr (.inl ⟨rfl, rfl⟩))), E1, E2⟩
      case measure => simp [intOf]
    · subst e1
      have HN := Lib.hid (HNUM.out nx _ _ wr hK.out.wat hK.out.gl (by omega) (by have := HLN.out.2.2.2.2.1; omega))
      rw [H6.out] at HN
      go_wp2_with fail
      refine HN.out.mono ?_
      rintro e w4 ⟨v4, rfl, h2, h3⟩
      have E1 := Lib.hid (hK.out.call h2 h3)
      have E2 := Lib.hid (hI.out.call h2 h3)
      clear h2 h3 HN hK hI i0 i1 i2 i3
      go_wp2_with fail
      go_roundw
      case rel => exact ⟨4, S6, _, by go_num, .inr (.inr (.inr (.inr ⟨rfl, rfl⟩))), E1, E2⟩
      case measure => simp [intOf]
    · subst e1
      have d2 := cell_of_row _ _ 2 _ _ _ hK.out.bx
      clear hI i0 i1 i2 i3 hk
      go_wp2_with fail
      obtain ⟨wo, rfl⟩ : ∃ wo : World, wo = wr := ⟨_, rfl⟩
      go_loopw [46] (fun i ws => ∃ (j : Nat) (s2 : Wr) (u2 : Value), i = .int .i64 j ∧ j ≤ nq ∧ Hid (MgSt w ws r bm g Bx s2 v u2 (msgA id fl Aq nq cq Aa na ca An nn cn Ax nx cx) 26) ∧ Hid (qnsW (M.qs.drop j) s2 = SQ) ∧ Hid (Inv s2 ∧ s2.1.length ≤ 12 + j * 300)) (fun i _ => nq - (intOf i).toNat)
      case atStart => exact ⟨0, s', u, rfl, Nat.zero_le _, hK, HSQ, HI6.out, by have := HLN.out.2.2.2.2.2; omega⟩
      case round =>
        obtain ⟨j, s2, u2, rfl, hj, hK2, hR, hI2⟩ := hrel
        clear d2 hK
        by_cases hlt : j < nq
        · have hjl : j < M.qs.length := by rw [hv.out.eq]; exact hlt
          obtain ⟨b, off, rfl, hbl, p0, p1, p2⟩ := (hv.out.at_.q.on ((hK2.out.bel HW.out).mono hB) (Nat.le_refl _)).qn hjl
          have hqn := hf.out.qs _ (List.getElem_mem hjl)
          have hqis := HQN.out _ (List.getElem_mem hjl)
          have hRn := hR.out
          rw [qnsW_drop hjl] at hRn
          obtain ⟨QQ, hQQ⟩ : ∃ Q, M.qs[j]'hjl = Q := ⟨_, rfl⟩
          rw [hQQ] at p0 p1 p2 hqn hqis hRn
          have hql := qnW_longer hqis s2
          have hnl := nameW_longer _ (rests_of hqis) s2
          have h255 := isN_le hqis
          obtain ⟨x, hx⟩ : ∃ x, mk QQ.name = x := ⟨_, rfl⟩
          obtain ⟨T1, hT1⟩ : ∃ S, nameW QQ.name s2 = S := ⟨_, rfl⟩
          obtain ⟨T2, hT2⟩ : ∃ S, numW QQ.kind 2 T1 = S := ⟨_, rfl⟩
          obtain ⟨T3, hT3⟩ : ∃ S, numW QQ.cls 2 T2 = S := ⟨_, rfl⟩
          have hq3 : qnW QQ s2 = T3 := by unfold qnW; rw [hT1, hT2, hT3]
          rw [hq3] at hRn hql
          rw [hT1] at hnl
          have N2 := (numW_longer QQ.kind 2 T1).of_eq hT2
          have HRN := Lib.hid hRn
          have hx1 : nameW x.data.toList s2 = T1 := by rw [← hx, mk_list]; exact hT1
          have hxR : Rests x.data.toList ∧ x.size ≤ 255 := ⟨by rw [← hx, mk_list]; exact rests_of hqis, by rw [← hx, mk_size]; exact h255⟩
          have HLEN : Hid ((s2.1.length ≤ 900000000 ∧ s2.2.length ≤ 900000000) ∧ T1.1.length ≤ 1000000000 ∧ T2.1.length ≤ 1000000000 ∧ Inv T3 ∧ T3.1.length ≤ 12 + (j + 1) * 300) := by
            have a1 := hI2.out.1.2; have a2 := hI2.out.2; have a3 := hnl.len; have a4 := hql.len; have a5 := N2.len
            exact ⟨⟨by omega, by omega⟩, by omega, by omega, hql.inv hI2.out.1, by omega⟩
          have HX1 := Lib.hid hx1
          have HXR := Lib.hid hxR
          rw [hx] at p0
          obtain ⟨qk, hqk⟩ : ∃ n, QQ.kind = n := ⟨_, rfl⟩
          obtain ⟨qc, hqc⟩ : ∃ n, QQ.cls = n := ⟨_, rfl⟩
          rw [hqk] at p1 hqn hT2
          rw [hqc] at p2 hqn hT3
          have HT2 := Lib.hid hT2
          have HT3 := Lib.hid hT3
          have hw1 : IntKind.u32.wrap (qk : Int) = (qk : Int) := by rw [IntKind.wrap_u32]; omega
          have hw2 : IntKind.u32.wrap (qc : Int) = (qc : Int) := by rw [IntKind.wrap_u32]; omega
          have hqk2 : qk < 4294967296 := by omega
          have hqc2 : qc < 4294967296 := by omega
          obtain ⟨Bq, hBq⟩ : ∃ n, wr.heap.size = n := ⟨_, rfl⟩
          have d2 := cell_of_row _ _ 2 _ _ _ hK2.out.bx
          have KB := Lib.hid (hK2.out.below ((Below.refl _ _).alloc (Nat.le_refl _) (.cells #[.string x, .int .u16 qk, .int .u16 qc] 62)))
          have QB : Hid (MgSt w (wr.alloc (.cells #[.string x, .int .u16 qk, .int .u16 qc] 62)) r bm g Bq s2 v u2 #[.string x, .int .u16 qk, .int .u16 qc] 62) := ⟨KB.out.wat, KB.out.fr, by rw [← hBq]; exact heap_alloc_new wr _, KB.out.gl, by decide, by decide⟩
          clear hx hT1 hT2 hT3 hq3 hRn hql hnl h255 N2 hx1 hxR hqk hqc hQQ hqis hqn hR
          go_wp2_with fail
          clear hBq p0 p1 p2 d2
          generalize wr.alloc (.cells #[.string x, .int .u16 qk, .int .u16 qc] 62) = wq at *
          refine (name_any x r bm g s2 u2 wq QB.out.wat QB.out.gl HXR.out.1 HXR.out.2 HLEN.out.1.1 hI2.out.1.1 HLEN.out.1.2).mono ?_
          rintro e w5 ⟨v5, rfl, h2, h3⟩
          rw [HX1.out] at h2
          have K5 := Lib.hid (KB.out.call h2 h3)
          have Q5 := Lib.hid (QB.out.call h2 h3)
          have g1 := cell_of_row _ _ 1 _ _ _ Q5.out.bx
          clear h2 h3 KB QB hK2
          go_wp2_with fail
          refine (HNUM.out qk T1 _ w5 K5.out.wat K5.out.gl hqk2 HLEN.out.2.1).mono ?_
          rintro e w6 ⟨v6, rfl, h2, h3⟩
          rw [HT2.out] at h2
          have K6 := Lib.hid (K5.out.call h2 h3)
          have Q6 := Lib.hid (Q5.out.call h2 h3)
          have g2 := cell_of_row _ _ 2 _ _ _ Q6.out.bx
          clear h2 h3 K5 Q5 g1
          go_wp2_with fail
          refine (HNUM.out qc T2 _ w6 K6.out.wat K6.out.gl hqc2 HLEN.out.2.2.1).mono ?_
          rintro e w7 ⟨v7, rfl, h2, h3⟩
          rw [HT3.out] at h2
          have K7 := Lib.hid (K6.out.call h2 h3)
          clear h2 h3 K6 Q6 g2
          go_wp2_with fail
          go_roundw
          case rel =>
            (repeat apply Exists.intro)
            first | exact ⟨by go_num, by omega, K7, HRN, HLEN.out.2.2.2⟩ | exact ⟨⟨j + 1, T3, _, by go_num, by omega, K7, HRN, HLEN.out.2.2.2⟩, rfl⟩
          case measure => simp [intOf]; omega
        · have hs2 : s2 = SQ := by
            have := hR.out
            rw [List.drop_eq_nil_of_le (by rw [hv.out.eq]; omega)] at this
            exact this
          subst hs2
          have e0 := cell_of_row _ _ 0 _ _ _ hK2.out.bx
          have e1 := cell_of_row _ _ 1 _ _ _ hK2.out.bx
          have e2 := cell_of_row _ _ 2 _ _ _ hK2.out.bx
          have e3 := cell_of_row _ _ 3 _ _ _ hK2.out.bx
          have e4 := cell_of_row _ _ 4 _ _ _ hK2.out.bx
          have e5 := cell_of_row _ _ 5 _ _ _ hK2.out.bx
          have hjn : ¬ ((j : Int) < (nq : Int)) := by omega
          have HRC := Lib.hid (records_w M id fl Aq Aa An Ax nq na nn nx cq ca cn cx B Za Zn Zx wr (hv.out.on ((hK2.out.bel HW.out).mono hB) (Nat.le_refl _)) (Nat.le_trans hB hK2.out.gl) hf)
          clear hlt hR
          go_wp2_with fail
          refine HRC.out.mono ?_
          rintro e w5 ⟨v5, rfl, hO, hB5⟩
          have hall := hv.out.all
          obtain ⟨ZZ, hZZ⟩ : ∃ Z, Za ++ Zn ++ Zx = Z := ⟨_, rfl⟩
          obtain ⟨nz, hnz⟩ : ∃ n, na + nn + nx = n := ⟨_, rfl⟩
          rw [hZZ] at hall hO
          rw [hnz] at hall hO
          have K5 := Lib.hid (hK2.out.below hB5)
          obtain ⟨Ar, cr, rfl, _⟩ := cells_own hO
          have HO := Lib.hid hO
          have HALL := Lib.hid hall
          have hnz2 : nz ≤ 256 := by omega
          clear hO hB5 hK2 hall e0 e1 e2 e3 e4 e5 hZZ hnz HRC
          go_wp2_with fail
          go_loopw [68] (fun i ws => ∃ (k : Nat) (s3 : Wr) (u3 : Value), i = .int .i64 k ∧ k ≤ nz ∧ Hid (MgSt w ws r bm g Bx s3 v u3 (msgA id fl Aq nq cq Aa na ca An nn cn Ax nx cx) 26) ∧ Hid (∃ gq, ws.ownsRow gq 60 7 (.slice Ar nz cr) nz (recCs ZZ)) ∧ Hid (recsW ((recsM M).drop k) s3 = SM) ∧ Hid (Inv s3 ∧ s3.1.length ≤ 100000 + k * 400000)) (fun i _ => nz - (intOf i).toNat)
          case atStart => exact ⟨0, s2, u2, rfl, Nat.zero_le _, K5, ⟨_, HO.out⟩, HMSG.out.symm, hI2.out.1, by have := hI2.out.2; omega⟩
          case round =>
            obtain ⟨k, s3, u3, rfl, hk, hK3, hO3, hR3, hI3⟩ := hrel
            by_cases hlk : k < nz
            · have hkz : k < ZZ.length := by rw [HALL.out.2.2]; exact hlk
              obtain ⟨gq, hOq⟩ := hO3.out
              have hcell := cells_own' hOq
              have hz1 : ZAt wr g ZZ := HALL.out.2.1.on ((hK3.out.bel HW.out).mono hB) hB
              obtain ⟨br, off, B1, e1, B2, e2, B3, e3, rfl, hbr, hat, p0, p1, p2, p3, p4, p5, p6⟩ := recs_get hcell (hz1.on (Below.refl _ _) hK3.out.gl) hkz
              obtain ⟨hkM, hkR⟩ := get_map HALL.out.1 hkz
              have hatG : RecAt wr g (ZZ[k]'hkz).1 (mk (ZZ[k]'hkz).1.name) (ZZ[k]'hkz).1.kind (ZZ[k]'hkz).1.cls (ZZ[k]'hkz).1.ttl B1 (ZZ[k]'hkz).1.names.length B2 (ZZ[k]'hkz).1.nums.length B3 (ZZ[k]'hkz).1.texts.length := by
                obtain ⟨C1, f1, C2, f2, C3, f3, q1, q2, q3, hh⟩ := hz1 (ZZ[k]'hkz) (List.getElem_mem hkz)
                have c4 : (recCs ZZ)[k * 7 + 4]? = some (ZZ[k]'hkz).2.1 := recCs_at hkz (by decide)
                have c5 : (recCs ZZ)[k * 7 + 5]? = some (ZZ[k]'hkz).2.2.1 := recCs_at hkz (by decide)
                have c6 : (recCs ZZ)[k * 7 + 6]? = some (ZZ[k]'hkz).2.2.2 := recCs_at hkz (by decide)
                obtain ⟨b9, off9, eA, _, hc9⟩ := hcell.get c4
                injection eA with eA
                injection eA with eA1 eA2
                subst eA1 eA2
                have a4 := hc9 _ _ c4
                have a5 := hc9 _ _ c5
                have a6 := hc9 _ _ c6
                rw [← Nat.add_assoc, p4, q1] at a4
                rw [← Nat.add_assoc, p5, q2] at a5
                rw [← Nat.add_assoc, p6, q3] at a6
                injection a4 with a4
                injection a5 with a5
                injection a6 with a6
                injection a4 with a4 _ _
                injection a5 with a5 _ _
                injection a6 with a6 _ _
                rw [a4, a5, a6]
                exact hh
              have hsm := hf.out.recs HQN.out _ (List.getElem_mem hkM)
              have hck := HRE.out _ (List.getElem_mem hkM)
              have hRn := hR3.out
              rw [recsW_drop hkM] at hRn
              rw [← hkR] at hsm hRn hck
              obtain ⟨RR, hRR⟩ : ∃ R, (ZZ[k]'hkz).1 = R := ⟨_, rfl⟩
              rw [hRR] at hatG p0 p1 p2 p3 p4 p5 p6 hsm hRn hck
              have hlen := recW_longer hck s3
              have hpb := plain_bound hck
              have hnb := (right_names hck).2.1
              obtain ⟨T3, hT3⟩ : ∃ S, recW RR s3 = S := ⟨_, rfl⟩
              rw [hT3] at hRn hlen
              have HT3 := Lib.hid hT3
              have HRN := Lib.hid hRn
              have HLEN : Hid (Inv T3 ∧ T3.1.length ≤ 100000 + (k + 1) * 400000) := by
                have a1 := hlen.len; have a2 := hI3.out.2
                exact ⟨hlen.inv hI3.out.1, by omega⟩
              obtain ⟨xn, hxn⟩ : ∃ x, mk RR.name = x := ⟨_, rfl⟩
              obtain ⟨rk, hrk⟩ : ∃ n, RR.kind = n := ⟨_, rfl⟩
              obtain ⟨rc, hrc⟩ : ∃ n, RR.cls = n := ⟨_, rfl⟩
              obtain ⟨rt, hrt⟩ : ∃ n, RR.ttl = n := ⟨_, rfl⟩
              obtain ⟨l1, hl1⟩ : ∃ n, RR.names.length = n := ⟨_, rfl⟩
              obtain ⟨l2, hl2⟩ : ∃ n, RR.nums.length = n := ⟨_, rfl⟩
              obtain ⟨l3, hl3⟩ : ∃ n, RR.texts.length = n := ⟨_, rfl⟩
              rw [hxn] at p0
              rw [hrk] at p1 hsm
              rw [hrc] at p2 hsm
              rw [hrt] at p3 hsm
              rw [hl1] at p4
              rw [hl2] at p5
              rw [hl3] at p6
              rw [hxn, hrk, hrc, hrt, hl1, hl2, hl3] at hatG
              have KB := Lib.hid (hK3.out.below ((Below.refl _ _).alloc (Nat.le_refl _) (.cells #[.string xn, .int .u16 rk, .int .u16 rc, .int .u32 rt, .slice B1 l1 e1, .slice B2 l2 e2, .slice B3 l3 e3] 60)))
              have HRW := Lib.hid (recW_any RR xn rk rc rt B1 l1 e1 B2 l2 e2 B3 l3 e3 r bm g s3 u3 _ KB.out.wat KB.out.gl (hatG.on ((Below.refl _ _).alloc hK3.out.gl _) (Nat.le_refl _)) hck hI3.out.1 (by have := hI3.out.2; omega) hsm.1 hsm.2.1 hsm.2.2.1 hsm.2.2.2)
              have HO4 := Lib.hid (row_below hOq ((Below.refl _ _).alloc (Nat.le_refl _) (.cells #[.string xn, .int .u16 rk, .int .u16 rc, .int .u32 rt, .slice B1 l1 e1, .slice B2 l2 e2, .slice B3 l3 e3] 60)))
              clear hRR hxn hrk hrc hrt hl1 hl2 hl3 hat hatG hsm hkR hkM hck hz1 hcell hOq hRn hlen hpb hnb hT3 hR3 hK3 hO3
              go_wp2_with fail
              refine HRW.out.mono ?_
              rintro e w6 ⟨v6, rfl, h2, h3⟩
              rw [HT3.out] at h2
              have K6 := Lib.hid (KB.out.call h2 h3)
              have O6 : Hid (∃ gq, w6.ownsRow gq 60 7 (.slice (some ⟨br, off, none⟩) nz cr) nz (recCs ZZ)) := ⟨_, h3.row KB.out.wat HO4.out (by decide) (by decide)⟩
              clear h2 h3 KB HO4 HRW p0 p1 p2 p3 p4 p5 p6
              go_wp2_with fail
              go_roundw
              case rel =>
                (repeat apply Exists.intro)
                first | exact ⟨by go_num, by omega, K6, O6, HRN, HLEN⟩ | exact ⟨⟨k + 1, T3, _, by go_num, by omega, K6, O6, HRN, HLEN⟩, rfl⟩
              case measure => simp [intOf]; omega
            · have hl2 : (recsM M).length = nz := by rw [← HALL.out.1, List.length_map]; exact HALL.out.2.2
              have hs3 : s3 = SM := by
                have := hR3.out
                rw [List.drop_eq_nil_of_le (by omega)] at this
                exact this
              subst hs3
              have hkn : ¬ ((k : Int) < (nz : Int)) := by omega
              clear hlk hR3 hl2
              go_wp2_with fail
              go_end0
              exact ⟨_, rfl, hK3.out.wat, hK3.out.fr⟩
end Go.Proofs.Ytpmmjmnleoicjaa

/- The contract of dnswrite's Write. For messages that can be gone through. -/
namespace Go.Proofs.Ytpmmjmnleoicjaa
open Go.RowKit Bytes MsgMath NameMath RecMath WrMath

set_option maxHeartbeats 4000000 in
set_option maxRecDepth 100000 in
theorem write_w (M : Msg) (Aq Aa An Ax : Option Addr) (nq na nn nx cq ca cn cx B code : Nat) (out : ByteArray) (Za Zn Zx : List RecZ) (w : World) (hv : Hid (MsgV w B M Aq Aa An Ax nq na nn nx ca cn cx Za Zn Zx)) (hB : B ≤ w.heap.size) (hf : Hid (FewM M)) (hW : Hid (writeM M = (out.data.toList, code))) :
    Calls Try.prog 15 #[.agg (msgA M.id M.flags Aq nq cq Aa na ca An nn cn Ax nx cx)] w fun e w' => e = .returned (.tuple #[.string out, .int .i64 code]) ∧ Below w.heap.size w w' := by
  obtain ⟨id, hid⟩ : ∃ n, M.id = n := ⟨_, rfl⟩
  obtain ⟨fl, hfl⟩ : ∃ n, M.flags = n := ⟨_, rfl⟩
  obtain ⟨E, hE⟩ : ∃ E, checkM M = E := ⟨_, rfl⟩
  obtain ⟨g, hg⟩ : ∃ g, w.heap.size = g := ⟨_, rfl⟩
  obtain ⟨wa, hwa⟩ : ∃ wa, w.alloc (.cells (msgA id fl Aq nq cq Aa na ca An nn cn Ax nx cx) 26) = wa := ⟨_, rfl⟩
  have hba : Below g w wa := by rw [← hwa, ← hg]; exact (Below.refl _ _).alloc (Nat.le_refl _) _
  have hbx : wa.heap[g]? = some (.cells (msgA id fl Aq nq cq Aa na ca An nn cn Ax nx cx) 26 (0, 0)) := by rw [← hwa, ← hg]; exact heap_alloc_new w _
  have hsa : wa.heap.size = g + 1 := by rw [← hwa, ← hg]; simp
  rw [hg] at hB
  have HVA := Lib.hid (hv.out.on (hba.mono hB) (Nat.le_refl _))
  have HCK := Lib.hid (check_w M id fl Aq Aa An Ax nq na nn nx cq ca cn cx B E Za Zn Zx wa HVA (by omega) hf hE)
  have HBA := Lib.hid hba
  have HBX := Lib.hid hbx
  have HSA := Lib.hid hsa
  have HE := Lib.hid hE
  have k0 := cell_of_row _ _ 0 _ _ _ hbx
  have k1 := cell_of_row _ _ 1 _ _ _ hbx
  have k2 := cell_of_row _ _ 2 _ _ _ hbx
  have k3 := cell_of_row _ _ 3 _ _ _ hbx
  have k4 := cell_of_row _ _ 4 _ _ _ hbx
  have k5 := cell_of_row _ _ 5 _ _ _ hbx
  have hW2 := hW.out
  unfold writeM at hW2
  rw [hE] at hW2
  have hmm := @run_makeMap Try.prog
  have HID := Lib.hid hid
  have HFL := Lib.hid hfl
  rw [hid, hfl, hg]
  clear hba hbx hsa hE hid hfl
  by_cases hE0 : E = 0
  · subst hE0
    rw [if_pos rfl] at hW2
    have hlen := msgW_len HE.out
    obtain ⟨⟨O, K⟩, hO⟩ : ∃ S, msgW M = S := ⟨_, rfl⟩
    rw [hO] at hW2
    simp only at hW2
    have HO := Lib.hid hO
    have HW2 := Lib.hid hW2
    clear hW2 hO hlen
    go_enter Try.func15, Try.ntmps15
    go_wp2_with fail
    refine HCK.out.mono ?_
    rintro e w1 ⟨rfl, hB1⟩
    have HB1 : Hid (Below (g + 1) wa w1) := by have := hB1; rw [HSA.out] at this; exact this
    obtain ⟨g1, hg1⟩ : ∃ n, w1.heap.size = n := ⟨_, rfl⟩
    have HG1 : Hid (g + 1 ≤ g1) := by have := HB1.out.size; rw [HSA.out, hg1] at this; exact this
    have hbx1 := (HB1.out.block g (Nat.lt_succ_self g)).trans HBX.out
    obtain ⟨w2, hw2⟩ : ∃ w2, w1.alloc (.map #[] 0) = w2 := ⟨_, rfl⟩
    obtain ⟨w3, hw3⟩ : ∃ w3, w2.alloc (.cells #[.slice none 0 0, .map (some g1)] 76) = w3 := ⟨_, rfl⟩
    have hs2 : w2.heap.size = g1 + 1 := by rw [← hw2, ← hg1]; simp
    have hb13 : Below g1 w1 w3 := by rw [← hw3, ← hw2, ← hg1]; exact ((Below.refl _ _).alloc (Nat.le_refl _) _).alloc (by simp) _
    have hwat : WrAt w3 (g1 + 1) g1 g1 ([], []) (.slice none 0 0) := by
      refine ⟨by rw [← hw3, ← hs2]; exact heap_alloc_new w2 _, World.ownsRow_nil _ _ _ _, ?_, by omega, Nat.le_refl _⟩
      have h1 : MapIs w2 g1 [] := by rw [← hw2, ← hg1]; exact mapIs_made w1
      rw [← hw3]
      exact h1.kept (World.grownBy_alloc w2 _ none) (by simp)
    have hbx3 := (hb13.block g (by have := HG1.out; omega)).trans hbx1
    have j0 := cell_of_row _ _ 0 _ _ _ hbx3
    have j1 := cell_of_row _ _ 1 _ _ _ hbx3
    have j2 := cell_of_row _ _ 2 _ _ _ hbx3
    have j3 := cell_of_row _ _ 3 _ _ _ hbx3
    have j4 := cell_of_row _ _ 4 _ _ _ hbx3
    have j5 := cell_of_row _ _ 5 _ _ _ hbx3
    have HB3 : Hid (Below (g + 1) wa w3) := HB1.out.trans (hb13.mono HG1.out)
    have hmsg := message_w M Aq Aa An Ax nq na nn nx cq ca cn cx B (g1 + 1) g1 g1 Za Zn Zx (.slice none 0 0) w3 hwat (HVA.out.on (HB3.out.mono (by omega)) (Nat.le_refl _)) (by have := HG1.out; omega) hf HE.out
    rw [HO.out, HID.out, HFL.out] at hmsg
    have HMSG := Lib.hid hmsg
    have HWAT := Lib.hid hwat
    have HS2 := Lib.hid hs2
    clear hmsg hwat hbx3 hbx1 hB1 hb13
    go_wp2_with fail
    refine HMSG.out.mono ?_
    rintro e w4 ⟨v4, rfl, h2, h3⟩
    have HB4 : Hid (Below g w w4) := HBA.out.trans ((HB3.out.mono (Nat.le_succ _)).trans ((h3.to_below HWAT.out (by have := HWAT.out.lt; omega)).mono (by have := HG1.out; omega)))
    obtain ⟨A4, c4, rfl⟩ := h2.slice
    have n0 := h2.c0
    have hown := h2.own
    simp only at n0 hown
    obtain ⟨m, hm⟩ : ∃ m, O.length = m := ⟨_, rfl⟩
    rw [hm] at n0 hown
    have hconv := (convert_own hown)
    have hres := HW2.out
    rw [hm] at hres
    clear hm HW2 HO hW
    by_cases hl : 65535 < m
    · rw [if_pos hl] at hres
      injection hres with e1 e2
      subst e2
      obtain rfl : out = ⟨#[]⟩ := list_inj e1.symm
      have hli : (65535 : Int) < m := by omega
      clear j0 j1 j2 j3 j4 j5 hconv hown h2 h3 hw2 hw3 hg1 hs2
      go_wp2_with fail
      go_ret2
      exact ⟨rfl, HB4.out⟩
    · rw [if_neg hl] at hres
      injection hres with e1 e2
      subst e2
      have hout : mk O = out := list_inj e1
      clear e1
      have hli : (m : Int) ≤ 65535 := by omega
      have hld : decide ((65535 : Int) < m) = false := decide_eq_false (by omega)
      rw [hout] at hconv
      clear hout
      clear j0 j1 j2 j3 j4 j5 hown h2 h3 hw2 hw3 hg1 hs2
      go_wp2_with fail
      go_ret2
      exact ⟨rfl, HB4.out⟩
  · rw [if_neg hE0] at hW2
    injection hW2 with e1 e2
    subst e2
    obtain rfl : out = ⟨#[]⟩ := list_inj e1.symm
    have hez : ((E : Int) != 0) = true := bne_iff_ne.2 (by omega)
    go_enter Try.func15, Try.ntmps15
    go_wp2_with fail
    refine HCK.out.mono ?_
    rintro e w1 ⟨rfl, hB1⟩
    have HB4 : Hid (Below g w w1) := HBA.out.trans (hB1.mono (by rw [HSA.out]; exact Nat.le_succ _))
    clear hB1
    go_wp2_with fail
    go_ret2
    exact ⟨rfl, HB4.out⟩
end Go.Proofs.Ytpmmjmnleoicjaa

/- The laws' answers that the document fixes: true. No condition. -/
namespace Go.Proofs.Ytpmmjmnleoicjaa
open Go.RowKit Bytes Strs Nums MsgMath NameMath RecMath WrMath

def nmW : List UInt8 := [3, 119, 119, 119, 2, 101, 120, 0]
def nmA : List UInt8 := [1, 97, 2, 101, 120, 0]
def outAw : List UInt8 := [0, 0, 0, 0, 0, 1, 0, 1, 0, 0, 0, 0, 3, 119, 119, 119, 2, 101, 120, 0, 0, 0, 0, 0, 192, 12, 0, 5, 0, 0, 0, 0, 0, 0, 0, 4, 1, 97, 192, 16]
def recAw : Rec := ⟨nmW, 5, 0, 0, [nmA], [], []⟩
def msgAw : Msg := ⟨0, 0, [⟨nmW, 0, 0⟩], [recAw], [], []⟩
def msgNo : Msg := ⟨0, 0, [⟨[], 0, 0⟩], [], [], []⟩
theorem aw_check : checkM msgAw = 0 := by kernel_rfl
theorem aw_write : writeM msgAw = (outAw, 0) := by kernel_rfl
theorem aw_no : checkM msgNo = 40 := by kernel_rfl
theorem small_aw : Small recAw := by
  refine ⟨by decide, by decide, ?_, by decide, fun k hk => (by cases hk), by decide, fun k hk => (by cases hk)⟩
  intro k hk
  match k, hk with
  | 0, _ => decide
theorem few_aw : FewM msgAw := by
  refine ⟨by decide, by decide, by decide, by decide, by decide, by decide, fun q hq => ?_, fun _ R hR => ?_⟩
  · simp only [msgAw, List.mem_singleton] at hq; subst hq; unfold maxLen; decide
  · have : R = recAw := by simpa [recsM, msgAw] using hR
    subst this
    exact ⟨small_aw, by decide, by decide, by decide⟩
theorem few_no : FewM msgNo := by
  refine ⟨by decide, by decide, by decide, by decide, by decide, by decide, fun q hq => ?_, fun _ R hR => ?_⟩
  · simp only [msgNo, List.mem_singleton] at hq; subst hq; unfold maxLen; decide
  · simp [recsM, msgNo] at hR
/-- The message in memory. -/
theorem aw_at (w : World) (b : Nat) (hb : w.heap[b]? = some (.cells #[.string (mk nmW), .int .u16 0, .int .u16 0] 62 (0, 0))) (hb1 : w.heap[b + 1]? = some (.cells #[.string (mk nmA)] 9 (0, 0)))
    (hb2 : w.heap[b + 2]? = some (.cells #[.string (mk nmW), .int .u16 5, .int .u16 0, .int .u32 0, .slice (some ⟨b + 1, 0, none⟩) 1 1, .slice none 0 0, .slice none 0 0] 60 (0, 0))) :
    MsgV w w.heap.size msgAw (some ⟨b, 0, none⟩) (some ⟨b + 2, 0, none⟩) none none 1 1 0 0 1 0 0 [(recAw, .slice (some ⟨b + 1, 0, none⟩) 1 1, .slice none 0 0, .slice none 0 0)] [] [] := by
  have lt : ∀ {k o}, w.heap[k]? = some o → k < w.heap.size := fun h => (Array.getElem?_eq_some_iff.1 h).1
  refine ⟨⟨.inr ⟨b, 0, rfl, lt hb, fun j u hu => ?_⟩, .inr ⟨b + 2, 0, rfl, lt hb2, fun j u hu => ?_⟩, .inl rfl, .inl rfl, fun z hz => ?_, fun z hz => (by cases hz), fun z hz => (by cases hz), rfl, rfl, rfl⟩, rfl, rfl, rfl, rfl, fun e => (by cases e), fun _ => rfl, fun _ => rfl⟩
  · rw [cell_of_row _ _ _ _ _ _ hb, Nat.zero_add]
    simpa [qnCs, qnV, msgAw] using hu
  · rw [cell_of_row _ _ _ _ _ _ hb2, Nat.zero_add]
    simpa [recCs, recV, recAw] using hu
  · rw [List.mem_singleton] at hz
    subst hz
    refine ⟨some ⟨b + 1, 0, none⟩, 1, none, 0, none, 0, rfl, rfl, rfl, ⟨rfl, rfl, rfl, rfl, rfl, rfl, rfl, fun _ => ⟨_, rfl, lt hb1, fun k hk => ?_⟩, RdN.void _ _ _, RdS.void _ _ _⟩⟩
    match k, hk with
    | 0, _ => exact cell_of_row _ _ 0 _ _ _ hb1
theorem no_at (w : World) (b : Nat) (hb : w.heap[b]? = some (.cells #[.string ⟨#[]⟩, .int .u16 0, .int .u16 0] 62 (0, 0))) :
    MsgV w w.heap.size msgNo (some ⟨b, 0, none⟩) none none none 1 0 0 0 0 0 0 [] [] [] := by
  refine ⟨⟨.inr ⟨b, 0, rfl, (Array.getElem?_eq_some_iff.1 hb).1, fun j u hu => ?_⟩, .inl rfl, .inl rfl, .inl rfl, fun z hz => (by cases hz), fun z hz => (by cases hz), fun z hz => (by cases hz), rfl, rfl, rfl⟩, rfl, rfl, rfl, rfl, fun _ => rfl, fun _ => rfl, fun _ => rfl⟩
  rw [cell_of_row _ _ _ _ _ _ hb, Nat.zero_add]
  simpa [qnCs, qnV, msgNo, mk] using hu
set_option maxHeartbeats 4000000 in
set_option maxRecDepth 100000 in
theorem awakeW_any (w : World) : Calls Try.prog 12 #[] w fun e w' => e = .returned (.bool true) ∧ Below w.heap.size w w' := by
  obtain ⟨b, hb⟩ : ∃ b, w.heap.size = b := ⟨_, rfl⟩
  obtain ⟨w1, hw1⟩ : ∃ w1, w.alloc (.cells #[.string (mk nmW), .int .u16 0, .int .u16 0] 62) = w1 := ⟨_, rfl⟩
  obtain ⟨w2, hw2⟩ : ∃ w2, w1.alloc (.cells #[.string (mk nmA)] 9) = w2 := ⟨_, rfl⟩
  obtain ⟨w3, hw3⟩ : ∃ w3, w2.alloc (.cells #[.string (mk nmW), .int .u16 5, .int .u16 0, .int .u32 0, .slice (some ⟨b + 1, 0, none⟩) 1 1, .slice none 0 0, .slice none 0 0] 60) = w3 := ⟨_, rfl⟩
  obtain ⟨w4, hw4⟩ : ∃ w4, w3.alloc (.cells (msgA 0 0 (some ⟨b, 0, none⟩) 1 1 (some ⟨b + 2, 0, none⟩) 1 1 none 0 0 none 0 0) 26) = w4 := ⟨_, rfl⟩
  have s1 : w1.heap.size = b + 1 := by rw [← hw1, ← hb]; simp
  have s2 : w2.heap.size = b + 2 := by rw [← hw2]; simp [s1]
  have s3 : w3.heap.size = b + 3 := by rw [← hw3]; simp [s2]
  have s4 : w4.heap.size = b + 4 := by rw [← hw4]; simp [s3]
  have c0 : w4.heap[b]? = some (.cells #[.string (mk nmW), .int .u16 0, .int .u16 0] 62 (0, 0)) := by rw [← hw4, ← hw3, ← hw2, ← hw1]; exact old_at (old_at (old_at (new_at _ _ _ hb.symm)))
  have c1 : w4.heap[b + 1]? = some (.cells #[.string (mk nmA)] 9 (0, 0)) := by rw [← hw4, ← hw3, ← hw2]; exact old_at (old_at (new_at _ _ _ s1.symm))
  have c2 : w4.heap[b + 2]? = some (.cells #[.string (mk nmW), .int .u16 5, .int .u16 0, .int .u32 0, .slice (some ⟨b + 1, 0, none⟩) 1 1, .slice none 0 0, .slice none 0 0] 60 (0, 0)) := by rw [← hw4, ← hw3]; exact old_at (new_at _ _ _ s2.symm)
  have c3 : w4.heap[b + 3]? = some (.cells (msgA 0 0 (some ⟨b, 0, none⟩) 1 1 (some ⟨b + 2, 0, none⟩) 1 1 none 0 0 none 0 0) 26 (0, 0)) := by rw [← hw4]; exact new_at _ _ _ s3.symm
  have hb4 : Below b w w4 := by
    have e1 : Below b w w1 := by rw [← hw1]; exact (Below.refl _ _).alloc (by omega) _
    have e2 : Below b w w2 := by rw [← hw2]; exact e1.alloc (by omega) _
    have e3 : Below b w w3 := by rw [← hw3]; exact e2.alloc (by omega) _
    rw [← hw4]; exact e3.alloc (by omega) _
  obtain ⟨out, hout⟩ : ∃ o, mk outAw = o := ⟨_, rfl⟩
  have HV4 := Lib.hid (aw_at w4 b c0 c1 c2)
  have HWR : Hid (Calls Try.prog 15 #[.agg #[.int .u16 0, .int .u16 0, .slice (some ⟨b, 0, none⟩) 1 1, .slice (some ⟨b + 2, 0, none⟩) 1 1, .slice none 0 0, .slice none 0 0]] w4 fun e w' => e = .returned (.tuple #[.string out, .int .i64 0]) ∧ Below w4.heap.size w4 w') := (write_w msgAw _ _ _ _ 1 1 0 0 1 1 0 0 _ 0 out _ _ _ w4 HV4 (Nat.le_refl _) few_aw (by (show _ = _; rw [← hout]; exact aw_write)))
  have HCK : Hid (∀ W, Below w4.heap.size w4 W → Calls Try.prog 17 #[.agg #[.int .u16 0, .int .u16 0, .slice (some ⟨b, 0, none⟩) 1 1, .slice (some ⟨b + 2, 0, none⟩) 1 1, .slice none 0 0, .slice none 0 0]] W fun e w' => e = .returned (.int .i64 0) ∧ Below W.heap.size W w') := (fun W (h : Below w4.heap.size w4 W) => check_w msgAw 0 0 _ _ _ _ 1 1 0 0 1 1 0 0 _ 0 _ _ _ W (HV4.out.on h h.size) (Nat.le_refl _) few_aw aw_check)
  have HNO : Hid (∀ (W : World) (b : Nat), W.heap[b]? = some (.cells #[.string ⟨#[]⟩, .int .u16 0, .int .u16 0] 62 (0, 0)) → Calls Try.prog 17 #[.agg #[.int .u16 0, .int .u16 0, .slice (some ⟨b, 0, none⟩) 1 1, .slice none 0 0, .slice none 0 0, .slice none 0 0]] W fun e w' => e = .returned (.int .i64 40) ∧ Below W.heap.size W w') := (fun W b h => check_w msgNo 0 0 _ _ _ _ 1 0 0 0 1 0 0 0 _ 40 _ _ _ W (no_at W b h) (Nat.le_refl _) few_no aw_no)
  have hsz : out.size = 40 := by rw [← hout]; rfl
  have q1 : ((out.extract 24 26).toList == [192, 12]) = true := by rw [← hout]; kernel_rfl
  have q2 : ((out.extract 36 40).toList == [1, 97, 192, 16]) = true := by rw [← hout]; kernel_rfl
  have HB4 := Lib.hid hb4
  have HC3 := Lib.hid c3
  have HS4 := Lib.hid s4
  have k0 := cell_of_row _ _ 0 _ _ _ c3
  have k1 := cell_of_row _ _ 1 _ _ _ c3
  have k2 := cell_of_row _ _ 2 _ _ _ c3
  have k3 := cell_of_row _ _ 3 _ _ _ c3
  have k4 := cell_of_row _ _ 4 _ _ _ c3
  have k5 := cell_of_row _ _ 5 _ _ _ c3
  have hw1' : w.alloc (.cells #[.string ⟨#[3, 119, 119, 119, 2, 101, 120, 0]⟩, .int .u16 0, .int .u16 0] 62) = w1 := hw1
  have hw2' : w1.alloc (.cells #[.string ⟨#[1, 97, 2, 101, 120, 0]⟩] 9) = w2 := hw2
  have hw3' : w2.alloc (.cells #[.string ⟨#[3, 119, 119, 119, 2, 101, 120, 0]⟩, .int .u16 5, .int .u16 0, .int .u32 0, .slice (some ⟨b + 1, 0, none⟩) 1 1, .slice none 0 0, .slice none 0 0] 60) = w3 := hw3
  have HW4 : Hid (w3.alloc (.cells #[.int .u16 0, .int .u16 0, .slice (some ⟨b, 0, none⟩) 1 1, .slice (some ⟨b + 2, 0, none⟩) 1 1, .slice none 0 0, .slice none 0 0] 26) = w4) := hw4
  have HB := Lib.hid hb
  clear hw1 hw2 hw3 hw4 c0 c1 c2 c3 hb4 hout
  rw [hb]
  go_enter Try.func12, Try.ntmps12
  go_wp2_with fail
  rw [HW4.out]
  refine HWR.out.mono ?_
  rintro e w5 ⟨rfl, hB5⟩
  have c5 := (hB5.block (b + 3) (by rw [HS4.out]; omega)).trans HC3.out
  have j0 := cell_of_row _ _ 0 _ _ _ c5
  have j1 := cell_of_row _ _ 1 _ _ _ c5
  have j2 := cell_of_row _ _ 2 _ _ _ c5
  have j3 := cell_of_row _ _ 3 _ _ _ c5
  have j4 := cell_of_row _ _ 4 _ _ _ c5
  have j5 := cell_of_row _ _ 5 _ _ _ c5
  have HB5 := Lib.hid hB5
  clear hB5 c5 k0 k1 k2 k3 k4 k5 hw1' hw2' hw3' s1 s2 s3 s4
  go_wp2_with fail
  refine (HCK.out w5 HB5.out).mono ?_
  rintro e w6 ⟨rfl, hB6⟩
  have HB6 : Hid (Below b w w6) := HB4.out.trans ((HB5.out.trans (hB6.mono HB5.out.size)).mono (by rw [HS4.out]; omega))
  clear hB6 j0 j1 j2 j3 j4 j5
  have HN6 := Lib.hid (HNO.out _ _ (heap_alloc_new w6 (.cells #[.string ⟨#[]⟩, .int .u16 0, .int .u16 0] 62)))
  have HB7 : Hid (Below b w (w6.alloc (.cells #[.string ⟨#[]⟩, .int .u16 0, .int .u16 0] 62))) := HB6.out.alloc (by have := HB6.out.size; rw [HB.out] at this; exact this) _
  go_wp2_with fail
  refine HN6.out.mono ?_
  rintro e w7 ⟨rfl, hB7⟩
  have HB8 : Hid (Below b w w7) := HB7.out.trans (hB7.mono (by have := HB7.out.size; rw [HB.out] at this; exact this))
  clear hB7
  go_wp2_with fail
  go_ret
  exact ⟨rfl, HB8.out⟩
end Go.Proofs.Ytpmmjmnleoicjaa
