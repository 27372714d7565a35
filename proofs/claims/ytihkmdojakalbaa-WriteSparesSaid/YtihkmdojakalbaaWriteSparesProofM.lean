/- Proves WriteSpares: each further record of the question's name takes two bytes for its name. No condition. -/
import Derived.Test.YtihkmdojakalbaaRows
import Derived.Test.YtihkmdojakalbaaWriteSparesProofG5
import Derived.Test.YtihkmdojakalbaaWriteSparesProofG6
import Derived.Test.YtihkmdojakalbaaWriteSparesProofG11
import Derived.Test.YtihkmdojakalbaaWriteSparesProofG12
import Derived.WalkKit
import Derived.ProofKit
import Derived.OpenShut
import Derived.ShutString
import Derived.ChangeOld
import Derived.Below
import Derived.Lib.Hide
import Derived.Laws.Rows
import Derived.Laws.AppendOwn
import Derived.Deep.AppendLies
import Derived.Outline
import Derived.IntWalk
import Derived.WalkSpells
import Derived.WalkLawsBesides
import Derived.Deep.CutBlock
namespace Go.Proofs.Ytihkmdojakalbaa.writeSpares
open Go.ChangeShapes Go.WideShapes Go.ChangeAt Go.RowKit
open Bytes Strs Nums MsgMath NameMath RecMath WrMath
set_option linter.unusedVariables false

theorem own : ownKnob Try.prog.godebug = none := by kernel_rfl
theorem laidOut : laidOutB Try.prog = true := by kernel_rfl
/-- The further record's cells. -/
def spareZ (n : List UInt8) (b : Nat) : RecZ := (spare n, .slice none 0 0, .slice none 0 0, .slice (some ⟨b, 0, none⟩) 1 1)
theorem recCs_rep (Z : List RecZ) (z : RecZ) (j : Nat) : recCs (Z ++ List.replicate (j + 1) z) = recCs (Z ++ List.replicate j z) ++ recV z.1 z.2.1 z.2.2.1 z.2.2.2 := by
  rw [List.replicate_succ', ← List.append_assoc, recCs_app]
  congr 1
/-- Where the law's own things lie: the string, the record's box, the message's box, the row. -/
structure SpSt (w wr : World) (g b : Nat) (M : Msg) (x : ByteArray) (Aq : Option Addr) (nq cq : Nat) (Aa : Option Addr) (na ca : Nat) (An : Option Addr) (nn cn : Nat) (A : Option Addr) (m c : Nat) (Z : List RecZ) : Prop where
  bl : Below g w wr
  gb : g ≤ b
  bs : wr.heap[b]? = some (.cells #[.string ⟨#[97, 98, 99, 100]⟩] 9 (0, 0))
  br : wr.heap[b + 1]? = some (.cells #[.string x, .int .u16 1, .int .u16 1, .int .u32 0, .slice none 0 0, .slice none 0 0, .slice (some ⟨b, 0, none⟩) 1 1] 49 (0, 0))
  bm : wr.heap[b + 2]? = some (.cells (msgA M.id M.flags Aq nq cq Aa na ca An nn cn A m c) 27 (0, 0))
  own : wr.ownsRow (b + 3) 49 7 (.slice A m c) m (recCs Z)
  sz : b + 3 ≤ wr.heap.size
set_option maxHeartbeats 8000000 in
set_option maxRecDepth 100000 in
theorem walk (M : Msg) (Aq Aa An Ax : Option Addr) (nq na nn nx cq ca cn cx n : Nat) (Za Zn Zx : List RecZ) (w : World) (hv : Hid (MsgV w w.heap.size M Aq Aa An Ax nq na nn nx ca cn cx Za Zn Zx)) (hbig : Hid (BigM M)) (hn : n ≤ 255) :
    Calls Try.prog 8 #[.agg (msgA M.id M.flags Aq nq cq Aa na ca An nn cn Ax nx cx), .int .u8 n] w fun e w' => e = .returned (.bool true) ∧ Below w.heap.size w w' := by
  obtain ⟨id, hid⟩ : ∃ n, M.id = n := ⟨_, rfl⟩
  obtain ⟨fl, hfl⟩ : ∃ n, M.flags = n := ⟨_, rfl⟩
  obtain ⟨g, hg⟩ : ∃ g, w.heap.size = g := ⟨_, rfl⟩
  obtain ⟨wa, hwa⟩ : ∃ wa, w.alloc (.cells (msgA id fl Aq nq cq Aa na ca An nn cn Ax nx cx) 27) = wa := ⟨_, rfl⟩
  have hba : Below g w wa := by rw [← hwa, ← hg]; exact (Below.refl _ _).alloc (Nat.le_refl _) _
  have hbx : wa.heap[g]? = some (.cells (msgA id fl Aq nq cq Aa na ca An nn cn Ax nx cx) 27 (0, 0)) := by rw [← hwa, ← hg]; exact heap_alloc_new w _
  have hsa : wa.heap.size = g + 1 := by rw [← hwa, ← hg]; simp
  have hv0 := hv.out
  rw [hg] at hv0
  have HV := Lib.hid hv0
  have HG := Lib.hid hg
  have HID := Lib.hid hid
  have HFL := Lib.hid hfl
  have HBA := Lib.hid hba
  have HBX := Lib.hid hbx
  have HSA := Lib.hid hsa
  rw [hid, hfl, hg]
  clear hba hbx hsa hid hfl hv0 hv
  go_enter Try.func8, Try.ntmps8
  go_wp2_with fail
  refine (awakeW_any _).mono ?_
  rintro e w1 ⟨rfl, hB1⟩
  have HB1 : Hid (Below (g + 1) wa w1) := by have := hB1; rw [HSA.out] at this; exact this
  have hx1 := (HB1.out.block g (Nat.lt_succ_self g)).trans HBX.out
  have HX1 := Lib.hid hx1
  have HW1 : Hid (Below g w w1) := HBA.out.trans (HB1.out.mono (Nat.le_succ _))
  have HS1 : Hid (g + 1 ≤ w1.heap.size) := by have := HB1.out.size; rw [HSA.out] at this; exact this
  have HFW := Lib.hid (fewM_any M Aq Aa An Ax nq na nn nx cq ca cn cx g Za Zn Zx w1 (HV.out.on HW1.out (Nat.le_refl _)) (by have := HS1.out; omega) hbig)
  rw [HID.out, HFL.out] at HFW
  have k0 := cell_of_row _ _ 0 _ _ _ hx1
  have k1 := cell_of_row _ _ 1 _ _ _ hx1
  have k2 := cell_of_row _ _ 2 _ _ _ hx1
  have k3 := cell_of_row _ _ 3 _ _ _ hx1
  have k4 := cell_of_row _ _ 4 _ _ _ hx1
  have k5 := cell_of_row _ _ 5 _ _ _ hx1
  clear hB1 hx1 hwa hg
  go_wp2_with fail
  refine HFW.out.mono ?_
  rintro e w2 ⟨bb, rfl, hbb, hB2⟩
  have HB2 : Hid (Below (g + 1) wa w2) := HB1.out.trans (hB2.mono HS1.out)
  have HW2 : Hid (Below g w w2) := HBA.out.trans (HB2.out.mono (Nat.le_succ _))
  have hx2 := (HB2.out.block g (Nat.lt_succ_self g)).trans HBX.out
  have HX2 := Lib.hid hx2
  have HS2 : Hid (g + 1 ≤ w2.heap.size) := by have := HB2.out.size; rw [HSA.out] at this; exact this
  have HBB := Lib.hid hbb
  clear hB2 hbb k0 k1 k2 k3 k4 k5
  cases bb with
  | false =>
    go_wp2_with fail
    go_ret
    exact ⟨rfl, HW2.out⟩
  | true =>
  have k0 := cell_of_row _ _ 0 _ _ _ hx2
  have k1 := cell_of_row _ _ 1 _ _ _ hx2
  have k2 := cell_of_row _ _ 2 _ _ _ hx2
  have k3 := cell_of_row _ _ 3 _ _ _ hx2
  have k4 := cell_of_row _ _ 4 _ _ _ hx2
  have k5 := cell_of_row _ _ 5 _ _ _ hx2
  have HFM := Lib.hid (HBB.out rfl).1
  have HAD := Lib.hid (HBB.out rfl).2
  clear hx2 HBB
  by_cases hq1 : nq = 1
  · obtain ⟨q, hq⟩ : ∃ q, M.qs = [q] := by
      have := HV.out.eq
      rw [hq1] at this
      match hM : M.qs, this with
      | [q], _ => exact ⟨q, rfl⟩
    subst hq1
    have hqc := HV.out.at_.q.on HW2.out (Nat.le_refl _)
    rw [hq] at hqc
    obtain ⟨bq, off, hAq, hbq, p0, p1, p2⟩ := hqc.qn (k := 0) (by simp)
    simp only [List.getElem_cons_zero, Nat.zero_mul, Nat.add_zero] at p0 p1 p2
    subst hAq
    obtain ⟨x, hx⟩ : ∃ x, mk q.name = x := ⟨_, rfl⟩
    rw [hx] at p0
    have HQ := Lib.hid hq
    have HX := Lib.hid hx
    have hqi : ((1 : Nat) : Int) = 1 := rfl
    by_cases hx2 : x.size < 2
    · have hxi : (x.size : Int) < 2 := by omega
      clear hx hq hqc
      go_wp2_with fail
      go_ret
      exact ⟨rfl, HW2.out⟩
    · have hxi : ¬ ((x.size : Int) < 2) := by omega
      have HX3 := Lib.hid hx2
      obtain ⟨⟨o, code⟩, hwm⟩ : ∃ S, writeM M = S := ⟨_, rfl⟩
      obtain ⟨out, hout⟩ : ∃ s, mk o = s := ⟨_, rfl⟩
      have HWM : Hid (writeM M = (out.data.toList, code)) := by show _ = _; rw [← hout, mk_list]; exact hwm
      have HWR := Lib.hid (write_w M _ Aa An Ax 1 na nn nx cq ca cn cx g code out Za Zn Zx w2 (HV.out.on HW2.out (Nat.le_refl _)) (by have := HS2.out; omega) HFM.out HWM)
      rw [HID.out, HFL.out] at HWR
      clear hx hq hqc hout hwm hx2
      go_wp2_with fail
      refine HWR.out.mono ?_
      rintro e w3 ⟨rfl, hB3⟩
      have HB3 : Hid (Below (g + 1) wa w3) := HB2.out.trans (hB3.mono HS2.out)
      have HW3 : Hid (Below g w w3) := HBA.out.trans (HB3.out.mono (Nat.le_succ _))
      have hx3 := (HB3.out.block g (Nat.lt_succ_self g)).trans HBX.out
      have HS3 : Hid (g + 1 ≤ w3.heap.size) := by have := HB3.out.size; rw [HSA.out] at this; exact this
      have r0 := (hB3.cell (p := ⟨bq, off, none⟩) (by have := HS2.out; simp only; omega)).trans p0
      have j0 := cell_of_row _ _ 0 _ _ _ hx3
      have j1 := cell_of_row _ _ 1 _ _ _ hx3
      have j2 := cell_of_row _ _ 2 _ _ _ hx3
      have j3 := cell_of_row _ _ 3 _ _ _ hx3
      have j4 := cell_of_row _ _ 4 _ _ _ hx3
      have j5 := cell_of_row _ _ 5 _ _ _ hx3
      obtain ⟨b, hb⟩ : ∃ b, w3.heap.size = b := ⟨_, rfl⟩
      obtain ⟨wb, hwb⟩ : ∃ wb, (w3.alloc (.cells #[.string ⟨#[97, 98, 99, 100]⟩] 9)).alloc (.cells #[.string x, .int .u16 1, .int .u16 1, .int .u32 0, .slice none 0 0, .slice none 0 0, .slice (some ⟨b, 0, none⟩) 1 1] 49) = wb := ⟨_, rfl⟩
      obtain ⟨w4, hw4⟩ : ∃ w4, wb.alloc (.cells #[.int .u16 id, .int .u16 fl, .slice (some ⟨bq, off, none⟩) 1 cq, .slice Aa na ca, .slice An nn cn, .slice Ax nx cx] 27) = w4 := ⟨_, rfl⟩
      have hsb : wb.heap.size = b + 2 := by rw [← hwb, ← hb]; simp
      have hs4 : w4.heap.size = b + 3 := by rw [← hw4]; simp [hsb]
      have hb3b : Below b w3 wb := by rw [← hwb, ← hb]; exact ((Below.refl _ _).alloc (Nat.le_refl _) _).alloc (by simp) _
      have hb34 : Below b w3 w4 := by rw [← hw4]; exact hb3b.alloc (by omega) _
      have d0 : wb.heap[b]? = some (.cells #[.string ⟨#[97, 98, 99, 100]⟩] 9 (0, 0)) := by rw [← hwb]; exact old_at (new_at _ _ _ hb.symm)
      have d1 : wb.heap[b + 1]? = some (.cells #[.string x, .int .u16 1, .int .u16 1, .int .u32 0, .slice none 0 0, .slice none 0 0, .slice (some ⟨b, 0, none⟩) 1 1] 49 (0, 0)) := by rw [← hwb]; exact new_at _ _ _ (by simp [hb])
      have c0 : w4.heap[b]? = some (.cells #[.string ⟨#[97, 98, 99, 100]⟩] 9 (0, 0)) := by rw [← hw4]; exact old_at d0
      have c1 : w4.heap[b + 1]? = some (.cells #[.string x, .int .u16 1, .int .u16 1, .int .u32 0, .slice none 0 0, .slice none 0 0, .slice (some ⟨b, 0, none⟩) 1 1] 49 (0, 0)) := by rw [← hw4]; exact old_at d1
      have c2 : w4.heap[b + 2]? = some (.cells (msgA id fl (some ⟨bq, off, none⟩) 1 cq Aa na ca An nn cn Ax nx cx) 27 (0, 0)) := by rw [← hw4]; exact new_at _ _ _ hsb.symm
      have hxb := (hb3b.block g (by have := HS3.out; omega)).trans hx3
      have hx4 := (hb34.block g (by have := HS3.out; omega)).trans hx3
      have b0 := cell_of_row _ _ 0 _ _ _ hxb
      have b1 := cell_of_row _ _ 1 _ _ _ hxb
      have b2 := cell_of_row _ _ 2 _ _ _ hxb
      have b3 := cell_of_row _ _ 3 _ _ _ hxb
      have b4 := cell_of_row _ _ 4 _ _ _ hxb
      have b5 := cell_of_row _ _ 5 _ _ _ hxb
      have HC0 := Lib.hid c0
      have HC1 := Lib.hid c1
      have HC2 := Lib.hid c2
      have HX4 := Lib.hid hx4
      have HS4 := Lib.hid hs4
      have HSB := Lib.hid hsb
      have HW4 : Hid (Below g w w4) := HW3.out.trans (hb34.mono (by have := HS3.out; omega))
      have HGB : Hid (g ≤ b) := by have := HS3.out; show _ ≤ _; omega
      have HE1 := Lib.hid hwb
      have HE2 := Lib.hid hw4
      clear hB3 p0 p1 p2 k0 k1 k2 k3 k4 k5 hx3 hb34 c0 c1 c2 hx4 hw4 hs4 hwb hxb d0 d1 hsb hb3b
      go_upto_region 7 with fail
      rw [HE1.out]
      clear hb j0 j1 j2 j3 j4 j5 r0
      have hsb := HSB.out
      go_upto_region 8 with fail
      rw [HE2.out]
      clear hsb b0 b1 b2 b3 b4 b5
      have hs4 := HS4.out
      have HB5 : Hid (Below (b + 3) w4 (w4.alloc (.cells #[] 49))) := (Below.refl _ _).alloc (by rw [hs4]; exact Nat.le_refl _) _
      have hx5 := (HB5.out.block g (by have := HGB.out; omega)).trans HX4.out
      have i5 := cell_of_row _ _ 5 _ _ _ HX4.out
      have i5' := cell_of_row _ _ 5 _ _ _ hx5
      have HO4 : Hid ((w4.alloc (.cells #[] 49)).ownsRow (b + 3) 49 7 (.slice (some ⟨b + 3, 0, none⟩) 0 0) 0 (recCs [])) := ⟨rfl, Or.inr ⟨b + 3, 0, #[], rfl, Nat.le_refl _, by rw [← HS4.out]; exact heap_alloc_new w4 _, Nat.le_refl _, by unfold maxLen; decide, rfl, rfl⟩⟩
      have HRX := Lib.hid HV.out.rows.2.2
      have hsrc := HRX.out.1.on (HW4.out.trans (HB5.out.mono (by have := HGB.out; omega))) (Nat.le_refl _)
      have HSRC := Lib.hid hsrc
      have HNX : Hid (nx ≤ 1000) := by have := HFM.out.nx; have := HV.out.ex; show _ ≤ _; omega
      clear hx5 hsrc
      go_wp2_with (at_builtin; refine wpList_append_recsA rfl _ _ rfl (b + 3) (.slice (some ⟨b + 3, 0, none⟩) 0 0) 0 [] rfl HO4.out g Ax nx cx Zx rfl HRX.out.2.1 HRX.out.2.2.1 HSRC.out HRX.out.2.2.2 (by have := HNX.out; omega) (by simp [HS4.out]) w4 HB5.out Zx rfl nx (Nat.zero_add _) ?_)
      intro v6 w6 hown6 hbel6
      obtain ⟨A6, c6, rfl, _⟩ := cells_own hown6
      have e0 := (hbel6.block b (by omega)).trans HC0.out
      have e1 := (hbel6.block (b + 1) (by omega)).trans HC1.out
      have e2 := (hbel6.block (b + 2) (by omega)).trans HC2.out
      have f5 := cell_of_row _ _ 5 _ _ _ e2
      have ff : ∀ i, w6.frozen? ⟨b + 2, i, none⟩ = false := fun i => by simp [World.frozen?, e2]
      have hg6 := only_setCell (grown_refl w6 (some (b + 2))) (p := ⟨b + 2, 5, none⟩) (.inl rfl) (.slice A6 nx c6)
      have HST : Hid (SpSt w (w6.setCell ⟨b + 2, 5, none⟩ (.slice A6 nx c6)) g b M x (some ⟨bq, off, none⟩) 1 cq Aa na ca An nn cn A6 (nx + 0) c6 (Zx ++ List.replicate 0 (spareZ q.name b))) := by
        refine ⟨?_, HGB.out, (grown_block hg6 (by have := hbel6.size; rw [HS4.out] at this; omega) (by omega)).trans e0, (grown_block hg6 (by have := hbel6.size; rw [HS4.out] at this; omega) (by omega)).trans e1, ?_, ?_, ?_⟩
        · exact (HW4.out.trans (hbel6.mono (by have := HGB.out; omega))).setCell (by have := HGB.out; simp only; omega) _
        · rw [HID.out, HFL.out]; exact set_row e2 rfl
        · rw [List.replicate_zero, List.append_nil, Nat.add_zero]; exact hown6.kept hg6 (row_ne e2 hown6 (by decide))
        · have := hbel6.size; rw [HS4.out] at this; simpa [World.setCell] using this
      clear hown6 hbel6 e0 e1 e2 hg6
      go_wp2_with fail
      clear f5 ff i5 i5' hs4
      generalize w6.setCell ⟨b + 2, 5, none⟩ (.slice A6 nx c6) = w7 at HST ⊢
      obtain ⟨k, hk⟩ : ∃ k, n % 9 = k := ⟨_, rfl⟩
      have hk9 : k ≤ 8 := by omega
      have hkm : (n : Int).tmod 9 = (k : Int) := by rw [Int.tmod_eq_emod_of_nonneg (by omega)]; omega
      have hkm2 : (n : Int) % 9 = (k : Int) := by omega
      have HK := Lib.hid hk
      obtain ⟨i0, hi, hz0, hz1, hz2⟩ := info_parts info_rec
      have HI := Lib.hid hi; clear hi
      have HZ0 := Lib.hid hz0; clear hz0
      have HZ1 := Lib.hid hz1; clear hz1
      have HZ2 := Lib.hid hz2; clear hz2
      clear hk
      go_loopw [9] (fun i wr => ∃ (j : Nat) (A : Option Addr) (c : Nat), i = .int .i64 j ∧ j ≤ k ∧ Hid (SpSt w wr g b M x (some ⟨bq, off, none⟩) 1 cq Aa na ca An nn cn A (nx + j) c (Zx ++ List.replicate j (spareZ q.name b)))) (fun i _ => k - (intOf i).toNat)
      case atStart => exact ⟨0, A6, c6, rfl, Nat.zero_le _, HST⟩
      case round =>
        obtain ⟨j, A, c, rfl, hj, hT⟩ := hrel
        clear HST
        by_cases hlt : j < k
        · have f5 := cell_of_row _ _ 5 _ _ _ hT.out.bm
          have g0 := cell_of_row _ _ 0 _ _ _ hT.out.br
          have g1 := cell_of_row _ _ 1 _ _ _ hT.out.br
          have g2 := cell_of_row _ _ 2 _ _ _ hT.out.br
          have g3 := cell_of_row _ _ 3 _ _ _ hT.out.br
          have g4 := cell_of_row _ _ 4 _ _ _ hT.out.br
          have g5 := cell_of_row _ _ 5 _ _ _ hT.out.br
          have g6 := cell_of_row _ _ 6 _ _ _ hT.out.br
          obtain ⟨m, hm⟩ : ∃ m, nx + j = m := ⟨_, rfl⟩
          rw [hm] at hT f5
          have HM := Lib.hid hm
          have hmb : m ≤ 2000 := by have := HNX.out; omega
          obtain ⟨ZJ, hZJ⟩ : ∃ Z, Zx ++ List.replicate j (spareZ q.name b) = Z := ⟨_, rfl⟩
          have HZJ := Lib.hid hZJ
          rw [hZJ] at hT
          clear hm hZJ
          go_wp2_with (at_builtin; refine wpList_append_lies _ rfl _ _ 25 rfl (b + 3) 49 i0 (.agg #[.string ⟨#[]⟩, .int .u16 0, .int .u16 0, .int .u32 0, .slice none 0 0, .slice none 0 0, .slice none 0 0]) 7 96 Try.underlying25 HI.out HZ0.out HZ1.out HZ2.out rfl (by decide) (.slice A m c) m (recCs ZJ) rfl (hT.out.own.alloc _) ⟨wr.heap.size, 0, none⟩ 1 1 [.string x, .int .u16 1, .int .u16 1, .int .u32 0, .slice none 0 0, .slice none 0 0, .slice (some ⟨b, 0, none⟩) 1 1] rfl rfl ?c1 ?c2 (by decide) ?c3 ?c4 ?c5 _ rfl ?_)
          case c1 =>
            intro j u hj
            match j, hj with
            | 0, hj => simp at hj; subst hj; simp [Addr.add]
            | 1, hj => simp at hj; subst hj; simp [Addr.add]
            | 2, hj => simp at hj; subst hj; simp [Addr.add]
            | 3, hj => simp at hj; subst hj; simp [Addr.add]
            | 4, hj => simp at hj; subst hj; simp [Addr.add]
            | 5, hj => simp at hj; subst hj; simp [Addr.add]
            | 6, hj => simp at hj; subst hj; simp [Addr.add]
          case c2 => intro u hu; simp at hu; rcases hu with rfl | rfl | rfl | rfl | rfl | rfl | rfl <;> rfl
          case c3 => unfold maxLen; omega
          case c4 => omega
          case c5 => have := hT.out.sz; simp; omega
          intro gg cap w8 hown hgrow hat hlt8
          have hBA : Below wr.heap.size wr (wr.alloc (.cells #[.string x, .int .u16 1, .int .u16 1, .int .u32 0, .slice none 0 0, .slice none 0 0, .slice (some ⟨b, 0, none⟩) 1 1] 49)) := (Below.refl _ _).alloc (Nat.le_refl _) _
          have hall : Below (b + 3) wr w8 := (hBA.mono hT.out.sz).grown hgrow (Nat.le_trans hT.out.sz hBA.size) (fun k hk => (hT.out.own.lt k hk).1)
          have e0 := (hall.block b (by omega)).trans hT.out.bs
          have e1 := (hall.block (b + 1) (by omega)).trans hT.out.br
          have e2 := (hall.block (b + 2) (by omega)).trans hT.out.bm
          have q5 := cell_of_row _ _ 5 _ _ _ e2
          have qf : ∀ i, w8.frozen? ⟨b + 2, i, none⟩ = false := fun i => by simp [World.frozen?, e2]
          have hg8 := only_setCell (grown_refl w8 (some (b + 2))) (p := ⟨b + 2, 5, none⟩) (.inl rfl) (.slice (some ⟨gg, 0, none⟩) (m + 1) cap)
          have hsz8 : b + 3 ≤ w8.heap.size := Nat.le_trans hT.out.sz (Nat.le_trans hBA.size hgrow.size)
          have HN : Hid (SpSt w (w8.setCell ⟨b + 2, 5, none⟩ (.slice (some ⟨gg, 0, none⟩) (m + 1) cap)) g b M x (some ⟨bq, off, none⟩) 1 cq Aa na ca An nn cn (some ⟨gg, 0, none⟩) (nx + (j + 1)) cap (Zx ++ List.replicate (j + 1) (spareZ q.name b))) := by
            rw [show nx + (j + 1) = m + 1 by have := HM.out; omega]
            refine ⟨(hT.out.bl.trans (hall.mono (by have := hT.out.gb; omega))).setCell (by have := hT.out.gb; simp only; omega) _, hT.out.gb, (grown_block hg8 (by omega) (by omega)).trans e0, (grown_block hg8 (by omega) (by omega)).trans e1, set_row e2 rfl, ?_, by simpa [World.setCell] using hsz8⟩
            rw [recCs_rep, HZJ.out]
            have hv1 : recV (spareZ q.name b).1 (spareZ q.name b).2.1 (spareZ q.name b).2.2.1 (spareZ q.name b).2.2.2 = [.string x, .int .u16 1, .int .u16 1, .int .u32 0, .slice none 0 0, .slice none 0 0, .slice (some ⟨b, 0, none⟩) 1 1] := by
              show [Value.string (mk q.name), _, _, _, _, _, _] = _
              rw [HX.out]
              rfl
            rw [hv1]
            exact hown.kept hg8 (row_ne e2 hown (by decide))
          clear hown hgrow hat hlt8 hBA hall e0 e1 e2 hg8 hsz8 hT f5 g0 g1 g2 g3 g4 g5 g6
          go_wp2_with fail
          go_roundw
          case rel =>
            (repeat apply Exists.intro)
            first | exact ⟨by go_num, by omega, HN⟩ | exact ⟨⟨j + 1, _, _, by go_num, by omega, HN⟩, rfl⟩
          case measure => simp [intOf]; omega
        · have hjk : j = k := by omega
          subst hjk
          have m0 := cell_of_row _ _ 0 _ _ _ hT.out.bm
          have m1 := cell_of_row _ _ 1 _ _ _ hT.out.bm
          have m2 := cell_of_row _ _ 2 _ _ _ hT.out.bm
          have m3 := cell_of_row _ _ 3 _ _ _ hT.out.bm
          have m4 := cell_of_row _ _ 4 _ _ _ hT.out.bm
          have m5 := cell_of_row _ _ 5 _ _ _ hT.out.bm
          have hjn : ¬ ((j : Int) < (j : Int)) := by omega
          have hv9 : MsgV wr wr.heap.size (withSpares M q.name j) (some ⟨bq, off, none⟩) Aa An A 1 na nn (nx + j) ca cn c Za Zn (Zx ++ List.replicate j (spareZ q.name b)) := by
            have hm := HV.out.on hT.out.bl (show g ≤ wr.heap.size by have := hT.out.sz; have := hT.out.gb; omega)
            refine ⟨⟨hm.at_.q, hm.at_.a, hm.at_.n, cells_own' hT.out.own, hm.at_.za, hm.at_.zn, hm.at_.zx.app fun z hz => ?_, hm.at_.ea, hm.at_.en, ?_⟩, hm.eq, hm.ea, hm.en, ?_, hm.ha, hm.hn, fun e => ?_⟩
            · obtain rfl := (List.mem_replicate.1 hz).2
              refine ⟨none, 0, none, 0, some ⟨b, 0, none⟩, 1, rfl, rfl, rfl, ⟨rfl, rfl, rfl, rfl, rfl, rfl, rfl, RdS.void _ _ _, RdN.void _ _ _, fun _ => ⟨_, rfl, by have := hT.out.sz; simp only; omega, fun k hk => ?_⟩⟩⟩
              match k, hk with
              | 0, _ => exact cell_of_row _ _ 0 _ _ _ hT.out.bs
            · rw [List.map_append, hm.at_.ex, List.map_replicate]; rfl
            · show (M.ad ++ List.replicate j (spare q.name)).length = _
              rw [List.length_append, hm.ex, List.length_replicate]
            · subst e
              rcases hT.out.own.2 with ⟨e, _⟩ | ⟨b9, cap9, cur9, e, _⟩
              · injection e
              · injection e with e; cases e
          have hf9 : FewM (withSpares M q.name j) := by
            have h := HFM.out
            refine ⟨h.id, h.flags, h.nq, h.na, h.nn, ?_, h.qs, fun hN R hR => ?_⟩
            · show (M.ad ++ List.replicate j (spare q.name)).length ≤ 1000
              rw [List.length_append, List.length_replicate]
              have := HAD.out
              omega
            · have : recsM (withSpares M q.name j) = recsM M ++ List.replicate j (spare q.name) := by unfold recsM withSpares; simp only [List.append_assoc]
              rw [this] at hR
              rcases List.mem_append.1 hR with hR | hR
              · exact h.recs hN R hR
              · obtain rfl := (List.mem_replicate.1 hR).2
                have hl := isN_le (hN q (by show q ∈ M.qs; rw [HQ.out]; simp))
                exact ⟨⟨Nat.le_trans hl (by decide), by show (0 : Nat) ≤ _; omega, fun k hk => (by cases hk), by show (0 : Nat) ≤ _; omega, fun k hk => (by cases hk), by show (1 : Nat) ≤ _; omega, fun k hk => (by match k, hk with | 0, _ => (show (4 : Nat) ≤ 100000; omega))⟩, by show (1 : Nat) ≤ _; omega, by show (1 : Nat) ≤ _; omega, by show (0 : Nat) ≤ _; omega⟩
          obtain ⟨⟨o2, code2⟩, hwm2⟩ : ∃ S, writeM (withSpares M q.name j) = S := ⟨_, rfl⟩
          obtain ⟨out2, hout2⟩ : ∃ s, mk o2 = s := ⟨_, rfl⟩
          have HWM2 : Hid (writeM (withSpares M q.name j) = (out2.data.toList, code2)) := by show _ = _; rw [← hout2, mk_list]; exact hwm2
          have HWR2 := Lib.hid (write_w (withSpares M q.name j) _ Aa An A 1 na nn (nx + j) cq ca cn c wr.heap.size code2 out2 Za Zn _ wr hv9 (Nat.le_refl _) hf9 HWM2)
          have HWRX : Hid (Calls Try.prog 16 #[.agg #[.int .u16 M.id, .int .u16 M.flags, .slice (some ⟨bq, off, none⟩) 1 cq, .slice Aa na ca, .slice An nn cn, .slice A ((nx + j : Nat)) c]] wr fun e w' => e = .returned (.tuple #[.string out2, .int .i64 code2]) ∧ Below wr.heap.size wr w') := HWR2.out
          have HBE : Hid (Below g w wr ∧ g ≤ wr.heap.size) := ⟨hT.out.bl, by have := hT.out.sz; have := hT.out.gb; omega⟩
          rw [HID.out, HFL.out] at m0 m1 HWRX
          clear hT hv9 hf9 hwm2 hout2 hlt HWR2
          go_wp2_with fail
          refine HWRX.out.mono ?_
          rintro e w9 ⟨rfl, hB9⟩
          have HE9 : Hid (Below g w w9) := HBE.out.1.trans (hB9.mono HBE.out.2)
          clear hB9 m0 m1 m2 m3 m4 m5
          by_cases hc1 : code = 0
          · by_cases hc2 : code2 = 0
            · subst hc1 hc2
              have hsz : out2.size = out.size + 16 * j := by
                rw [Lib.size_eq, Lib.size_eq]
                exact spares_len HQ.out (by have := HX3.out; rw [← HX.out, mk_size] at this; omega) HWM.out HWM2.out
              have hszi : (out2.size : Int) = (out.size : Int) + 16 * j := by omega
              have hle : out.size ≤ 65535 := by
                have h := HWM.out
                unfold writeM at h
                by_cases hc : checkM M = 0
                · rw [if_pos hc] at h
                  by_cases hl : 65535 < (msgW M).1.length
                  · rw [if_pos hl] at h
                    injection h with _ h
                    cases h
                  · rw [if_neg hl] at h
                    injection h with h _
                    rw [Lib.size_eq, ← h]
                    omega
                · rw [if_neg hc] at h
                  injection h with _ h
                  exact absurd h hc
              have hwr : Hid ((out.size : Int) + 16 * j = RowKit.wrap64 ((out.size : Int) + 16 * j)) := by show _ = _; unfold RowKit.wrap64; omega
              clear hsz
              go_wp2_with fail
              go_ret
              exact ⟨by first | rfl | (simp [hszi]; exact hwr.out) | (simp [hszi, ← hwr.out]) | simp [hszi], HE9.out⟩
            · have hz2 : ((code2 : Int) != 0) = true := bne_iff_ne.2 (by omega)
              subst hc1
              go_wp2_with fail
              go_ret
              exact ⟨rfl, HE9.out⟩
          · have hz1 : ((code : Int) != 0) = true := bne_iff_ne.2 (by omega)
            go_wp2_with fail
            go_ret
            exact ⟨rfl, HE9.out⟩
  · have hqi : ((nq : Int) != 1) = true := bne_iff_ne.2 (by omega)
    go_wp2_with fail
    go_ret
    exact ⟨rfl, HW2.out⟩

theorem wf_u8' {z : Int} (h : (Lit.int .u8 z).wf = true) : ∃ k : Nat, z = (k : Int) ∧ k ≤ 255 := by
  have h' : 0 ≤ z ∧ z ≤ 255 := by
    have h2 : IntKind.u8.min ≤ z ∧ z ≤ IntKind.u8.max := by simpa [Lit.wf] using h
    exact h2
  exact ⟨z.toNat, by omega, by omega⟩
/-- A message that came in is one as may come in. -/
theorem came_v {w : World} {v : Value} {M : Msg} {Aq Aa An Ax : Option Addr} {cq ca cn cx : Nat} {Za Zn Zx : List RecZ} (h : CameMsg w v M Aq Aa An Ax cq ca cn cx Za Zn Zx) : MsgV w w.heap.size M Aq Aa An Ax M.qs.length M.an.length M.ns.length M.ad.length ca cn cx Za Zn Zx ∧ BigM M :=
  ⟨⟨h.at_, rfl, rfl, rfl, rfl, h.nils.1, h.nils.2.1, h.nils.2.2⟩, ⟨h.id, h.flags, h.lens.1, h.lens.2.1, h.lens.2.2.1, h.lens.2.2.2, h.qs, h.recs⟩⟩

set_option maxRecDepth 100000 in
theorem lifted (os : Os) (started : os.Started) (H : Type) (enc : TypeId × Value → H) :
    ReturnsInHanded {} Try.checked os 8 .any (Rows.writeSparesSpec.pre6 enc Try.prog Try.f8 Rows.writeSparesRow.domain false) (Rows.writeSparesSpec.post enc Try.prog Try.f8 false true false false) := by
  refine returnsInHanded_of_change (C := Try.checked) own started (by kernel_rfl) Try.func8
    (ChangeSpec.witness6 (enc := enc) (C := Try.checked) false ⟨#[], #[.agg #[.int .u16 0, .int .u16 0, .slice none 0 0, .slice none 0 0, .slice none 0 0, .slice none 0 0], .int .u8 0], []⟩ 8 (by kernel_rfl) (by kernel_rfl) (by kernel_rfl) (by kernel_rfl)) ?_
  intro W base args ds gs before hval0 hW hcnd _
  have hval : ∀ (j : Nat) t v, Try.f8.params[j]? = some t → args[j]? = some v → Value.okWide Try.prog W .any base t v := hval0
  have hW' := hW
  obtain ⟨p, q, hA0, hV, rfl, hfz, hnd⟩ := hW
  have hA : DataW.TrodAll enc Try.prog W 0 (fun _ => true) true Try.f8.params.toList args.toList ds p := hA0
  rw [Try.params8] at hA hval
  obtain ⟨v0, vs0, d0, ds0, p0, q0, hargs, rfl, rfl, h0, r0⟩ := trodAll_cons hA
  obtain ⟨v1, vs1, d1, ds1, p1, q1, rfl, rfl, rfl, h1, r1⟩ := trodAll_cons r0
  obtain ⟨rfl, rfl, rfl⟩ := trodAll_nil r1
  obtain rfl : args = #[v0, v1] := by cases args; simp_all
  obtain ⟨rfl, rfl⟩ := trodVars_none hV
  have k00 := h0
  have lt0 : ∀ x ∈ p0, x.block < W.heap.size := by obtain ⟨m, hm⟩ := k00; exact DataW.trod_lt m _ _ _ hm
  obtain ⟨M, Aq, Aa, An, Ax, cq, ca, cn, cx, Za, Zn, Zx, hc0⟩ := came_msg (hval 0 27 v0 rfl rfl) h0
  obtain ⟨hmv, hbg⟩ := came_v hc0
  obtain rfl := hc0.val
  obtain ⟨z1, rfl, rfl, rfl, wf1⟩ := open_int Try.underlying5 (hval 1 5 v1 rfl rfl) h1
  have wf10 := wf1
  obtain ⟨m1, rfl, hm1⟩ := wf_u8' wf1
  clear hA0 hval0
  refine (walk M Aq Aa An Ax _ _ _ _ cq ca cn cx m1 Za Zn Zx W hmv hbg hm1).mono fun e W' ⟨he, bel⟩ => ?_
  subst he
  exact ⟨_, rfl, _, _, _, [], _, [], hW', trodAll_mk1 (shut_bool Try.underlying4 _), (trodAll_cons_mk (Below.trod laidOut (by kernel_rfl) (of_decide_eq_true (by kernel_rfl)) k00 bel lt0) (trodAll_cons_mk (shut_int Try.underlying5 wf10) trodAll_mk0)), rfl, bel.frame _, fun h => by cases h⟩

theorem over : Rows.writeSparesRow.holds Try.pinned (OpenSpec.ofChange Rows.writeSparesSpec) :=
  OpenClaim.holds_of_wide 8 Try.f8 rfl rfl rfl rfl rfl rfl rfl ⟨rfl, rfl, rfl, rfl, rfl⟩ rfl rfl rfl rfl rfl (by kernel_rfl) Try.func8 (by kernel_rfl)
    (of_decide_eq_true (by kernel_rfl)) (by unfold Func.isWrapper; first | (rw [if_pos (by decide +kernel)]; kernel_rfl) | (rw [if_neg (by decide +kernel)]; exact ⟨rfl, rfl⟩))
    (fun os started H enc _ => lifted os started H enc)

theorem proved : Rows.WriteSparesSaid := over
#print axioms proved
end Go.Proofs.Ytihkmdojakalbaa.writeSpares
