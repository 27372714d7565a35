/- Proves UnpackReads: any row of blocks is read as just the document's fields, up to the first that is refused, with its error; so is the table left. No condition. -/
import Derived.Test.YtaoomjbkfcbfpaaRows
import Derived.Test.YtaoomjbkfcbfpaaStrs
import Derived.Test.YtaoomjbkfcbfpaaUpMath
import Derived.Test.YtaoomjbkfcbfpaaUnpackReadsProofG1
import Derived.Test.YtaoomjbkfcbfpaaUpFew
import Derived.Test.YtaoomjbkfcbfpaaUpRefR
import Derived.Deep.RegionHeld3
import Derived.Deep.RegionLaw
import Derived.Deep.CutRange
import Derived.Deep.QuietTactic
import Derived.BigQuiet
import Derived.WalkKit
import Derived.ProofKit
import Derived.OpenShut
import Derived.ShutString
import Derived.ChangeOld
import Derived.Below
namespace Go.Proofs.Ytaoomjbkfcbfpaa.unpackReads
open Go.ChangeShapes Go.WideShapes Go.ChangeAt Go.RowKit Tb Up Bytes
open Go.ChangeMaps (open_string shut_string)
set_option linter.unusedVariables false

theorem own : ownKnob Try.prog.godebug = none := by kernel_rfl
theorem laidOut : laidOutB Try.prog = true := by kernel_rfl

/-- The document's reading, asked beside its decoder and a block. -/
theorem refRead_keep (w wr : World) (d g b M : Nat) (D D' : Dec) (A : Option Addr) (c : Nat) (p : Addr) (s : ByteArray) (Dn : Dec) (out : List Fld) (x : Nat) (h : LH w wr d g b M D D' A c) (hp : wr.cell? p = some (.string s)) (h4 : Up.Ok4 D.1) (hs : s.size ≤ 10000) (hR : Hid (Up.read D s = (Dn, out, x))) :
    Calls Try.prog 11 #[.agg #[.int .i64 (D.1.1 : Int), .slice A D.1.2.length c, .bool D.2], .string s] wr fun e w' => ∃ A' c' v2 c2, e = .returned (.tuple #[.agg #[.int .i64 (Dn.1.1 : Int), .slice A' Dn.1.2.length c', .bool Dn.2], .slice v2 out.length c2, .int .i64 (x : Int)]) ∧ w'.cell? ⟨M, 0, none⟩ = some (.int .i64 (D.1.1 : Int)) ∧ w'.cell? ⟨M, 1, none⟩ = some (.slice A D.1.2.length c) ∧ w'.cell? ⟨M, 2, none⟩ = some (.bool D.2) ∧ w'.cell? p = some (.string s) ∧
      Hid (TabE w' w'.heap.size A' Dn.1.2.length c' Dn.1.2 ∧ w'.ownsRow wr.heap.size 47 3 (.slice v2 out.length c2) out.length (fldCs out) ∧ Below wr.heap.size wr w' ∧ (A' = A ∨ ∀ bb o, A' = some ⟨bb, o, none⟩ → wr.heap.size ≤ bb)) :=
  (refRead_any D s A c (Dn, out, x) wr h.tab h4 hs hR).mono fun e w' ⟨A', c', v, he, hT, hO, hB, hA⟩ => by
    obtain ⟨v2, c2, rfl⟩ := own_sl hO
    obtain ⟨i1, i2, i3, _, _, _⟩ := three_cells ((hB.block M (world_lt h.cell)).trans h.cell)
    exact ⟨A', c', v2, c2, he, i1, i2, i3, (hB.cell (World.block_lt_of_cell? _ _ hp)).trans hp, hT, hO, hB, hA⟩
/-- The document has read: what it told lies in block N. -/
def Lf (w6 wx : World) (N : Nat) (D' : Dec) (A A' : Option Addr) (c' : Nat) (v2 : Option Addr) (c2 : Nat) (out : List Fld) : Prop :=
  wx.heap[N]? = some (.cells #[.int .i64 (D'.1.1 : Int), .slice A' D'.1.2.length c', .bool D'.2] 31 (0, 0)) ∧ TabE wx wx.heap.size A' D'.1.2.length c' D'.1.2 ∧ wx.ownsRow w6.heap.size 47 3 (.slice v2 out.length c2) out.length (fldCs out) ∧ Below w6.heap.size w6 wx ∧ (A' = A ∨ ∀ bb o, A' = some ⟨bb, o, none⟩ → w6.heap.size ≤ bb) ∧ w6.heap.size ≤ N ∧ ∀ bb o, A' = some ⟨bb, o, none⟩ → bb ≠ N
section
variable {w6 X w7 : World} {D' : Dec} {A A' : Option Addr} {c' c2 : Nat} {v2 : Option Addr} {out : List Fld}
theorem leafA (hX : Below w6.heap.size w6 X) (hs : X.heap.size = w6.heap.size) (hR : TabE w7 w7.heap.size A' D'.1.2.length c' D'.1.2 ∧ w7.ownsRow X.heap.size 47 3 (.slice v2 out.length c2) out.length (fldCs out) ∧ Below X.heap.size X w7 ∧ (A' = A ∨ ∀ bb o, A' = some ⟨bb, o, none⟩ → X.heap.size ≤ bb)) :
    Lf w6 (w7.alloc (.cells #[.int .i64 (D'.1.1 : Int), .slice A' D'.1.2.length c', .bool D'.2] 31)) w7.heap.size D' A A' c' v2 c2 out := by
  obtain ⟨hT, hO, hB, hA⟩ := hR
  rw [hs] at hO hB hA
  have hBA := (Below.refl _ w7).alloc (Nat.le_refl _) (.cells #[.int .i64 (D'.1.1 : Int), .slice A' D'.1.2.length c', .bool D'.2] 31)
  have h67 := hX.trans hB
  exact ⟨new_at w7 _ _ rfl, hT.on hBA hBA.size, own_same hO (fun k hk => hBA.block k (hO.lt k hk).2), h67.trans (hBA.mono h67.size), hA, h67.size, fun bb o e => by have := tabE_lt hT bb o e; omega⟩
theorem leafB {n c : Nat} {L : List Ent} (hX : Below w6.heap.size w6 X) (hs : X.heap.size = w6.heap.size + 1) (hZ : X.heap[w6.heap.size]? = some (.cells #[.int .i64 0, .slice none 0 0, .bool false] 31 (0, 0))) (h6 : TabE w6 w6.heap.size A n c L) (hR : TabE w7 w7.heap.size A' D'.1.2.length c' D'.1.2 ∧ w7.ownsRow X.heap.size 47 3 (.slice v2 out.length c2) out.length (fldCs out) ∧ Below X.heap.size X w7 ∧ (A' = A ∨ ∀ bb o, A' = some ⟨bb, o, none⟩ → X.heap.size ≤ bb)) :
    Lf w6 (((w7.setCell ⟨w6.heap.size, 0, none⟩ (.int .i64 (D'.1.1 : Int))).setCell ⟨w6.heap.size, 1, none⟩ (.slice A' D'.1.2.length c')).setCell ⟨w6.heap.size, 2, none⟩ (.bool D'.2)) w6.heap.size D' A A' c' v2 c2 out := by
  obtain ⟨hT, hO, hB, hA⟩ := hR
  have hz := (hB.block w6.heap.size (by omega)).trans hZ
  have h67 := hX.trans (hB.mono (by omega))
  have hA2 : ∀ bb o, A' = some ⟨bb, o, none⟩ → bb ≠ w6.heap.size := fun bb o e => by
    rcases hA with rfl | hA
    · have := tabE_lt h6 bb o e; omega
    · have := hA bb o e; omega
  exact ⟨set_three hz, tabE_same hT (by simp) (fun bb o e => set_other w7 _ bb _ _ _ (hA2 bb o e)), own_lower (own_same hO (fun k hk => set_other w7 _ k _ _ _ (by have := (hO.lt k hk).1; omega))) (by omega), ((h67.setCell (p := ⟨w6.heap.size, 0, none⟩) (Nat.le_refl _) _).setCell (p := ⟨w6.heap.size, 1, none⟩) (Nat.le_refl _) _).setCell (p := ⟨w6.heap.size, 2, none⟩) (Nat.le_refl _) _,
    hA.imp id (fun h bb o e => by have := h bb o e; omega), Nat.le_refl _, hA2⟩
end
set_option maxRecDepth 100000 in
set_option maxHeartbeats 8000000 in
theorem walk (a0 : Option Addr) (len0 cap0 : Nat) (L : List (List UInt8)) (w : World) (hl : len0 ≤ maxLen) (hL : L.length = len0) (hR : Strs.RdS w w.heap.size a0 L) :
    Calls Try.prog 3 #[.slice a0 len0 cap0] w fun e w' => e = .returned (.bool true) ∧ Below w.heap.size w w' := by
  have hI := Lib.hid hR
  have HL := Lib.hid hL
  clear hR
  have hnb : len0 ≤ 9223372036854775807 := by unfold maxLen at hl; omega
  by_cases h2 : (40 : Int) < len0
  · go_enter Try.func3, Try.ntmps3
    go_wp2_with fail
    refine (awake_is _).mono ?_
    rintro e w1 ⟨rfl, hB⟩
    go_wp2_with fail
    refine (few_is a0 len0 cap0 L w1 (Lib.hid (hI.out.on hB hB.size)) HL hl).mono ?_
    rintro e w2 (⟨rfl, rfl, _⟩ | ⟨rfl, rfl⟩)
    · go_wp2_with fail
      go_ret
      exact ⟨rfl, hB⟩
    · go_wp2_with fail
      go_ret
      exact ⟨rfl, hB⟩
  have hle : len0 ≤ 40 := by omega
  go_enter Try.func3, Try.ntmps3
  go_wp2_with fail
  refine (awake_is _).mono ?_
  rintro e w1 ⟨rfl, hB⟩
  go_wp2_with fail
  refine (few_is a0 len0 cap0 L w1 (Lib.hid (hI.out.on hB hB.size)) HL hl).mono ?_
  rintro e w2 (⟨rfl, rfl, HF⟩ | ⟨rfl, rfl⟩)
  rotate_left
  · go_wp2_with fail
    go_ret
    exact ⟨rfl, hB⟩
  have H2 := Lib.hid hB
  clear hB
  go_wp2_with fail
  refine (unew_is w2).mono ?_
  rintro e w3 ⟨d, g, b, rfl, hD, hB3, l1, l2, l3⟩
  have hs2 := H2.out.size
  have HS := Lib.hid (show DL w w3 d g b (newT 4096, false) from ⟨hD, H2.out.trans (hB3.mono hs2), by omega⟩)
  clear hD hB3 l1 l2 l3 hs2
  go_wp2_with fail
  refine (xnew_is w3).mono ?_
  rintro e w4 ⟨rfl, hB4⟩
  have HS4 := Lib.hid (HS.out.below hB4)
  obtain ⟨M, hM⟩ : ∃ M, w4.heap.size = M := ⟨_, rfl⟩
  have hBA := (Below.refl _ w4).alloc (Nat.le_refl _) (.cells #[.int .i64 4096, .slice none 0 0, .bool false] 31)
  have HL0 := Lib.hid (show LR w (w4.alloc (.cells #[.int .i64 4096, .slice none 0 0, .bool false] 31)) d g b M (newT 4096, false) none 0 from by
    have hlt := HS4.out.dec.lt
    have hsz := HS4.out.fr.size
    exact ⟨HS4.out.below hBA, new_at w4 _ _ hM.symm, .inl ⟨rfl, rfl, rfl, rfl⟩, by omega, by omega, fun bb o h => by cases h⟩)
  clear hB4 hBA
  go_wp2_with fail
  generalize w4.alloc (.cells #[.int .i64 4096, .slice none 0 0, .bool false] 31) = w5 at *
  go_loopw [5, 6, 7, 8, 9, 10] (fun i _ _ _ _ _ wr => ∃ (k b : Nat) (D : Dec) (A : Option Addr) (c : Nat), k ≤ len0 ∧ i = .int .i64 (k : Int) ∧ Hid (LR w wr d g b M D A c)) (fun i _ _ _ _ _ _ => len0 - (intOf i).toNat)
  case atStart => exact ⟨0, b, _, _, _, Nat.zero_le _, rfl, HL0⟩
  case round =>
    obtain ⟨k, b, D, A, c, hk, rfl, hS⟩ := hrel
    by_cases hlt : k < len0
    · have hli : (k : Int) < (len0 : Int) := by omega
      have hk0 : (0 : Int) ≤ (k : Int) := by omega
      obtain ⟨ad, rfl, hab, hcell⟩ := hI.out.get (k := k) (by rw [HL.out]; exact hlt)
      have hsz := HF.out k hlt
      obtain ⟨s, hs⟩ : ∃ s, blkAt L k = s := ⟨_, rfl⟩
      have hcell2 : w.cell? (ad.add k) = some (.string s) := by rw [hcell, ← hs]; rfl
      rw [hs] at hsz
      have e1 : IntKind.i64.wrap ((k : Int) + 1) = ((k + 1 : Nat) : Int) := by rw [IntKind.wrap_i64]; omega
      have HC := Lib.hid (show ∀ W, Below w.heap.size w W → W.cell? (ad.add k) = some (.string s) from fun W hB => (hB.cell (by rw [Strs.add_block]; exact hab)).trans hcell2)
      obtain ⟨⟨D', out, x⟩, hRR⟩ : ∃ R, Up.read D s = R := ⟨_, rfl⟩
      have HRR := Lib.hid hRR
      have HOL := Lib.hid (show out.length ≤ 64 from by have := read_len D s; rw [hRR] at this; exact this)
      have HMW := Lib.hid hS.out.lt
      have c5 := HC.out wr hS.out.dl.fr
      have HO4 := Lib.hid hS.out.dl.dec.ok4
      clear hcell hcell2 hs hRR
      go_wp2_with fail
      refine (read_any d g b D s (D', out, x) wr hS.out.dl.dec (by omega) HRR).mono ?_
      rintro e w6 ⟨v, rfl, hO, b3, hD6, hK6, hb3, _⟩
      have HS6 := Lib.hid (hS.out.read hD6 hK6 hb3)
      obtain ⟨v1, c1, rfl⟩ := own_sl hO
      have HO1 := Lib.hid hO
      have c6 := HC.out w6 HS6.out.dl.fr
      obtain ⟨i1, i2, i3, i4, i5, i6⟩ := three_cells HS6.out.cell
      have j1 : w6.drew.cell? ⟨M, 0, none⟩ = some (.int .i64 (D.1.1 : Int)) := i1
      have j2 : w6.drew.cell? ⟨M, 1, none⟩ = some (.slice A D.1.2.length c) := i2
      have j3 : w6.drew.cell? ⟨M, 2, none⟩ = some (.bool D.2) := i3
      have j4 : w6.drew.cell? (ad.add k) = some (.string s) := c6
      have HX1 := Lib.hid (HS6.out.below ((Below.refl _ w6).drew))
      have hBZ := (Below.refl _ w6).alloc (Nat.le_refl _) (.cells #[.int .i64 0, .slice none 0 0, .bool false] 31)
      have HX2 := Lib.hid (HS6.out.below (hBZ.drew))
      have HZ := Lib.hid (show (w6.alloc (.cells #[.int .i64 0, .slice none 0 0, .bool false] 31)).drew.heap[w6.heap.size]? = some (.cells #[.int .i64 0, .slice none 0 0, .bool false] 31 (0, 0)) from new_at w6 _ w6.heap.size rfl)
      have HZL := Lib.hid (show w6.heap.size < (w6.alloc (.cells #[.int .i64 0, .slice none 0 0, .bool false] 31)).drew.heap.size from by show w6.heap.size < (w6.alloc _).heap.size; simp)
      have j4' : (w6.alloc (.cells #[.int .i64 0, .slice none 0 0, .bool false] 31)).drew.cell? (ad.add k) = some (.string s) := HC.out _ HX2.out.dl.fr
      obtain ⟨o1, o2, o3, _, _, _⟩ := three_cells HX2.out.cell
      have HKE := Lib.hid (fun X hX hp => refRead_keep w X d g b3 M D D' A c (ad.add k) s D' out x hX hp HO4.out (by omega) HRR)
      clear hO hD6 hK6 hb3 c5 hBZ
      go_upto_region 11 with fail
      have HB61 := Lib.hid ((Below.refl w6.heap.size w6).drew)
      have HB62 := Lib.hid (((Below.refl w6.heap.size w6).alloc (Nat.le_refl _) (.cells #[.int .i64 0, .slice none 0 0, .bool false] 31)).drew)
      have HSD := Lib.hid (show w6.drew.heap.size = w6.heap.size from rfl)
      have HSX := Lib.hid (show (w6.alloc (.cells #[.int .i64 0, .slice none 0 0, .bool false] 31)).drew.heap.size = w6.heap.size + 1 from by show (w6.alloc _).heap.size = _; simp)
      go_cut [8, 9, 10] from 23 to 72 (fun q v z wx => ∃ N A' c' v2 c2, q = .pointer (some ⟨N, 0, none⟩) ∧ v = .slice v2 out.length c2 ∧ z = .int .i64 (x : Int) ∧ Hid (Lf w6 wx N D' A A' c' v2 c2 out))
      case first =>
        go_region_with (first | (go_at_call 11; first | (refine (HKE.out _ HX1.out j4).mono ?_; rintro e w7 ⟨A', c', v2, c2, rfl, k1, k2, k3, k4, hRf⟩) | (refine (HKE.out _ HX2.out j4').mono ?_; rintro e w7 ⟨A', c', v2, c2, rfl, k1, k2, k3, k4, hRf⟩; obtain ⟨z1, z2, z3, z4, z5, z6⟩ := three_cells ((hRf.out.2.2.1.block w6.heap.size HZL.out).trans HZ.out))))
        all_goals
          go_wp2_with fail
          go_meet
          refine ⟨_, A', c', v2, c2, rfl, rfl, rfl, Lib.hid ?_⟩
          first
            | (with_reducible exact leafA HB61.out HSD.out hRf.out)
            | (with_reducible exact leafB HB62.out HSX.out HZ.out HS6.out.tab hRf.out)
      case rest =>
        obtain ⟨N, A', c', v2, c2, rfl, rfl, rfl, hLf⟩ := hcut
        obtain ⟨hN, hT7, hO7, hB7, hA7, hge, hAN⟩ := hLf.out
        obtain ⟨n, hn⟩ : ∃ n, out.length = n := ⟨_, rfl⟩
        have HNN := Lib.hid hn
        have HR9 := Lib.hid (HS6.out.read hB7 hT7 hA7)
        have hMl := world_lt HS6.out.cell
        have hMr := HMW.out
        have HO91 := Lib.hid (own_same (w' := ((wc.setCell ⟨M, 0, none⟩ (.int .i64 (D'.1.1 : Int))).setCell ⟨M, 1, none⟩ (.slice A' D'.1.2.length c')).setCell ⟨M, 2, none⟩ (.bool D'.2)) HO1.out (fun k hk => by
          have hk2 := HO1.out.lt k hk
          exact (set_other wc M k _ _ _ (by omega)).trans (hB7.block k hk2.2)))
        have HO92 := Lib.hid (own_same (w' := ((wc.setCell ⟨M, 0, none⟩ (.int .i64 (D'.1.1 : Int))).setCell ⟨M, 1, none⟩ (.slice A' D'.1.2.length c')).setCell ⟨M, 2, none⟩ (.bool D'.2)) hO7 (fun k hk => by
          have hk2 := (hO7.lt k hk).1
          exact set_other wc M k _ _ _ (by omega)))
        obtain ⟨z1, z2, z3, z4, z5, z6⟩ := three_cells hN
        obtain ⟨y1, y2, y3, y4, y5, y6⟩ := three_cells ((hB7.block M hMl).trans HS6.out.cell)
        clear hN hT7 hO7 hB7 hA7 hAN hLf i1 i2 i3 i4 i5 i6 j1 j2 j3 j4 j4' o1 o2 o3 HKE HX1 HX2 hn
        rw [HNN.out] at HO91 HO92 ⊢
        go_upto_region 13 with fail
        generalize ((wc.setCell ⟨M, 0, none⟩ (.int .i64 (D'.1.1 : Int))).setCell ⟨M, 1, none⟩ (.slice A' D'.1.2.length c')).setCell ⟨M, 2, none⟩ (.bool D'.2) = W9 at *
        clear z1 z2 z3 z4 z5 z6 y1 y2 y3 y4 y5 y6
        have hkeep : ∀ X, Below W9.heap.size W9 X → X.cell? ⟨M, 0, none⟩ = some (.int .i64 (D'.1.1 : Int)) ∧ X.cell? ⟨M, 1, none⟩ = some (.slice A' D'.1.2.length c') ∧ X.cell? ⟨M, 2, none⟩ = some (.bool D'.2) := fun X hX => by
          obtain ⟨q1, q2, q3, _, _, _⟩ := three_cells (HR9.out.below hX).cell
          exact ⟨q1, q2, q3⟩
        have HKP := Lib.hid hkeep
        have HSame := Lib.hid (fun X (hX : Below W9.heap.size W9 X) => (fsame_is wr.heap.size w6.heap.size n (.slice v1 n c1) (.slice v2 n c2) out X (own_same HO91.out (fun k hk => hX.block k (HO91.out.lt k hk).2)) (own_same HO92.out (fun k hk => hX.block k (HO92.out.lt k hk).2)) HNN.out (by have := HOL.out; have := HNN.out; omega)).mono (fun e w' (h : e = .returned (.bool true) ∧ Below X.heap.size X w') => show e = .returned (.bool true) ∧ w'.cell? ⟨M, 0, none⟩ = some (.int .i64 (D'.1.1 : Int)) ∧ w'.cell? ⟨M, 1, none⟩ = some (.slice A' D'.1.2.length c') ∧ w'.cell? ⟨M, 2, none⟩ = some (.bool D'.2) ∧ Below W9.heap.size W9 w' from by
          have hB := hX.trans (h.2.mono hX.size)
          obtain ⟨q1, q2, q3⟩ := HKP.out w' hB
          exact ⟨h.1, q1, q2, q3, hB⟩))
        have HDown := Lib.hid (fun X (hX : Below W9.heap.size W9 X) => down_any d g b3 D' X (HR9.out.below hX).dl.dec)
        have HTable := Lib.hid (fun X (hX : Below W9.heap.size W9 X) => (table_any d g b3 D' X (HR9.out.below hX).dl.dec).mono (fun e w' (h : ∃ g2, e = .returned (.pointer (some ⟨g2, 0, none⟩)) ∧ X.heap.size ≤ g2 ∧ Below X.heap.size X w' ∧ ∃ b2, TAt w' g2 b2 D'.1 ∧ X.heap.size ≤ b2) => show ∃ g2 b2, e = .returned (.pointer (some ⟨g2, 0, none⟩)) ∧ w'.cell? ⟨M, 0, none⟩ = some (.int .i64 (D'.1.1 : Int)) ∧ w'.cell? ⟨M, 1, none⟩ = some (.slice A' D'.1.2.length c') ∧ w'.cell? ⟨M, 2, none⟩ = some (.bool D'.2) ∧ Below W9.heap.size W9 w' ∧ TAt w' g2 b2 D'.1 from by
          obtain ⟨g2, he, _, hB0, b2, hT2, _⟩ := h
          have hB := hX.trans (hB0.mono hX.size)
          obtain ⟨q1, q2, q3⟩ := HKP.out w' hB
          exact ⟨g2, b2, he, q1, q2, q3, hB, hT2⟩))
        have HTells := Lib.hid (fun X g2 b2 (hX : Below W9.heap.size W9 X) (hT : TAt X g2 b2 D'.1) => (tells_is g2 b2 D'.1 A' c' X (Lib.hid hT) (Lib.hid (Ok4.fit HR9.out.dl.dec.ok4)) (Lib.hid (HR9.out.below hX).tab)).mono (fun e w' (h : e = .returned (.bool true) ∧ Below X.heap.size X w') => show e = .returned (.bool true) ∧ w'.cell? ⟨M, 0, none⟩ = some (.int .i64 (D'.1.1 : Int)) ∧ w'.cell? ⟨M, 1, none⟩ = some (.slice A' D'.1.2.length c') ∧ w'.cell? ⟨M, 2, none⟩ = some (.bool D'.2) ∧ Below W9.heap.size W9 w' from by
          have hB := hX.trans (h.2.mono hX.size)
          obtain ⟨q1, q2, q3⟩ := HKP.out w' hB
          exact ⟨h.1, q1, q2, q3, hB⟩))
        have hd0 : Below W9.heap.size W9 W9 := Below.refl _ _
        have hd1 : Below W9.heap.size W9 W9.drew := (Below.refl _ _).drew
        obtain ⟨a1, a2, a3⟩ := HKP.out W9 hd0
        obtain ⟨b1, b2, b4⟩ := HKP.out W9.drew hd1
        have fx : ((x : Int) != (x : Int)) = false := by simp
        have fx2 : ((x : Int) == (x : Int)) = true := by simp
        have fd : (D'.2 != D'.2) = false := by simp
        have fd2 : (D'.2 == D'.2) = true := by simp
        generalize D'.2 = dn at *
        go_region_held3 (fun W => W.cell? ⟨M, 0, none⟩ = some (.int .i64 (D'.1.1 : Int)) ∧ W.cell? ⟨M, 1, none⟩ = some (.slice A' D'.1.2.length c') ∧ W.cell? ⟨M, 2, none⟩ = some (.bool dn) ∧ Below W9.heap.size W9 W) (first | go_keep | exact ⟨a1, a2, a3, hd0⟩ | exact ⟨b1, b2, b4, hd1⟩) (first | (go_at_call 12; (with_reducible refine (HSame.out _ ?_).mono ?_); (first | assumption | (simp [*])); rintro e w10 ⟨rfl, f0, f1, f2, hF⟩) | (go_at_call 13; (with_reducible refine (HDown.out _ ?_).mono ?_); (first | assumption | (simp [*])); rintro e w11 ⟨rfl, rfl⟩) | (go_at_call 15; (with_reducible refine (HTable.out _ ?_).mono ?_); (first | assumption | (simp [*])); rintro e w12 ⟨g2, b5, rfl, f3, f4, f5, hF2, hT2⟩) | (go_at_call 14; (with_reducible refine (HTells.out _ _ b5 hF2 hT2).mono ?_); rintro e w13 ⟨rfl, f6, f7, f8, hF3⟩))
        have HR13 := Lib.hid (HR9.out.below hF3)
        go_wp2_with fail
        go_roundw
        case rel => exact ⟨k + 1, b3, D', A', c', by omega, rfl, HR13⟩
        case measure => simp [intOf] <;> omega
    · have hli : ¬ ((k : Int) < (len0 : Int)) := by omega
      go_wp2_with fail
      go_ret
      exact ⟨rfl, hS.out.dl.fr⟩
set_option maxRecDepth 100000 in
theorem lifted (os : Os) (started : os.Started) (H : Type) (enc : TypeId × Value → H) :
    ReturnsInHanded {} Try.checked os 3 .any (Rows.unpackReadsSpec.pre6 enc Try.prog Try.f3 Rows.unpackReadsRow.domain false) (Rows.unpackReadsSpec.post enc Try.prog Try.f3 false true false false) := by
  refine returnsInHanded_of_change (C := Try.checked) own started (by kernel_rfl) Try.func3
    (ChangeSpec.witness6 (enc := enc) (C := Try.checked) false ⟨#[], #[.slice none 0 0], []⟩ 8 (by kernel_rfl) (by kernel_rfl) (by kernel_rfl) (by kernel_rfl)) ?_
  intro W base args ds gs before hval0 hW hcnd _
  have hval : ∀ (j : Nat) t v, Try.f3.params[j]? = some t → args[j]? = some v → Value.okWide Try.prog W .any base t v := hval0
  have hW' := hW
  obtain ⟨p, q, hA0, hV, rfl, hfz, hnd⟩ := hW
  have hA : DataW.TrodAll enc Try.prog W 0 (fun _ => true) true Try.f3.params.toList args.toList ds p := hA0
  rw [Try.params3] at hA hval
  obtain ⟨v0, vs0, d0, ds0, p0, q0, hargs, rfl, rfl, h0, r0⟩ := trodAll_cons hA
  obtain ⟨rfl, rfl, rfl⟩ := trodAll_nil r0
  obtain rfl : args = #[v0] := by cases args; simp_all
  obtain ⟨rfl, rfl⟩ := trodVars_none hV
  obtain ⟨a0, len0, cap0, rfl⟩ := okWide_slice Try.underlying22 (hval 0 22 v0 rfl rfl)
  have k0 := h0
  have lt0 : ∀ x ∈ p0, x.block < W.heap.size := by obtain ⟨m, hm⟩ := k0; exact DataW.trod_lt m _ _ _ hm
  obtain ⟨hl0, L0, hN0, hR0⟩ : len0 ≤ maxLen ∧ ∃ L : List (List UInt8), L.length = len0 ∧ Strs.RdS W W.heap.size a0 L := by
    obtain ⟨fuel, hf⟩ := h0
    exact rds_of_trod hf
  clear hA0 hval0
  refine (walk a0 len0 cap0 L0 W   hl0 hN0 hR0).mono fun e W' ⟨he, bel⟩ => ?_
  subst he
  exact ⟨_, rfl, _, _, _, [], _, [], hW', trodAll_mk1 (shut_bool Try.underlying4 _), (trodAll_cons_mk (Below.trod laidOut (by kernel_rfl) (of_decide_eq_true (by kernel_rfl)) k0 bel lt0) trodAll_mk0), rfl, bel.frame _, fun h => by cases h⟩

theorem over : Rows.unpackReadsRow.holds Try.pinned (OpenSpec.ofChange Rows.unpackReadsSpec) :=
  OpenClaim.holds_of_wide 3 Try.f3 rfl rfl rfl rfl rfl rfl rfl ⟨rfl, rfl, rfl, rfl, rfl⟩ rfl rfl rfl rfl rfl (by kernel_rfl) Try.func3 (by kernel_rfl)
    (of_decide_eq_true (by kernel_rfl)) (by unfold Func.isWrapper; first | (rw [if_pos (by decide +kernel)]; kernel_rfl) | (rw [if_neg (by decide +kernel)]; exact ⟨rfl, rfl⟩))
    (fun os started H enc _ => lifted os started H enc)

theorem proved : Rows.UnpackReadsSaid := over
#print axioms proved
end Go.Proofs.Ytaoomjbkfcbfpaa.unpackReads
