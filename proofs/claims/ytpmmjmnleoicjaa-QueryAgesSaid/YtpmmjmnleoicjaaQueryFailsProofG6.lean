/- Texts of one proof, one behind the other: QrFits, QrCopied, QrFail. -/
import Derived.Test.YtpmmjmnleoicjaaProg
import Derived.Test.YtpmmjmnleoicjaaBytes
import Derived.Test.YtpmmjmnleoicjaaStrs
import Derived.Test.YtpmmjmnleoicjaaNums
import Derived.Test.YtpmmjmnleoicjaaNameMath
import Derived.Test.YtpmmjmnleoicjaaMsgMath
import Derived.Test.YtpmmjmnleoicjaaRecMath
import Derived.Test.YtpmmjmnleoicjaaQueryFailsProofG1
import Derived.Test.YtpmmjmnleoicjaaQueryFailsProofG2
import Derived.Test.YtpmmjmnleoicjaaQueryFailsProofG3
import Derived.Test.YtpmmjmnleoicjaaRdrAsk
import Derived.Test.YtpmmjmnleoicjaaRecsRow
import Derived.Test.YtpmmjmnleoicjaaClone
import Derived.WalkKit
import Derived.Lib.Hide
import Derived.Outline
import Derived.IntWalk
import Derived.WalkSpells
import Derived.WalkLawsBesides
import Derived.Deep.RegionHeld3
import Derived.Deep.Draws
import Derived.Deep.Heap
import Derived.Laws.Rows
import Derived.Laws.AppendOwn
import Derived.Laws.MakeOwn
import Derived.Lib.OthersKept

/- The contract of query's Fits. For messages that can be gone through. -/
namespace Go.Proofs.Ytpmmjmnleoicjaa
open Go.RowKit Bytes Strs Nums NameMath MsgMath RecMath WrMath QrMath QrBits

theorem qof_held (x : ByteArray) (k l : Nat) (d : Bool) (a0 a1 a2 a3 a4 a5 a6 : Addr) (v0 v1 v2 v3 v4 v5 v6 : Value) (g : Nat) (w0 w : World) (hg : g ≤ w.heap.size) (hc : w.cell? a0 = some v0 ∧ w.cell? a1 = some v1 ∧ w.cell? a2 = some v2 ∧ w.cell? a3 = some v3 ∧ w.cell? a4 = some v4 ∧ w.cell? a5 = some v5 ∧ w.cell? a6 = some v6 ∧ Below g w0 w) :
    Calls Try.prog 64 #[.agg (kyA x k l d)] w fun e w' => e = .returned (.agg #[.string x, .int .u16 k, .int .u16 l]) ∧ w'.cell? a0 = some v0 ∧ w'.cell? a1 = some v1 ∧ w'.cell? a2 = some v2 ∧ w'.cell? a3 = some v3 ∧ w'.cell? a4 = some v4 ∧ w'.cell? a5 = some v5 ∧ w'.cell? a6 = some v6 ∧ Below g w0 w' := by
  obtain ⟨c0, c1, c2, c3, c4, c5, c6, hH⟩ := hc
  refine (qof_any x k l d w).mono ?_
  rintro e w' ⟨rfl, hB⟩
  have far : ∀ {a : Addr} {v : Value}, w.cell? a = some v → w'.cell? a = some v := fun h => (hB.cell (World.block_lt_of_cell? w _ h)).trans h
  exact ⟨rfl, far c0, far c1, far c2, far c3, far c4, far c5, far c6, hH.trans (hB.mono hg)⟩
theorem fitsM_no {k : Ky} {id : Nat} {M : Msg} (h : ¬ (M.id = id ∧ 32768 ≤ M.flags ∧ M.flags / 512 % 2 = 0 ∧ opc M.flags = 0)) : fitsM k id M = false := by
  unfold fitsM
  rw [decide_eq_false h]
  rfl
theorem fitsM_not {k : Ky} {id : Nat} {M : Msg} (h : M.qs.length ≠ 1) : fitsM k id M = false := by
  unfold fitsM
  split
  · next e => rw [e] at h; exact absurd rfl h
  · exact Bool.and_false _
theorem fitsM_one {k : Ky} {id : Nat} {M : Msg} {q : Qn} (h : M.id = id ∧ 32768 ≤ M.flags ∧ M.flags / 512 % 2 = 0 ∧ opc M.flags = 0) (hq : M.qs = [q]) : fitsM k id M = decide (foldN q.name = k.name ∧ q.kind = k.kind ∧ q.cls = k.cls) := by
  unfold fitsM
  rw [decide_eq_true h, hq]
  exact Bool.true_and _
set_option maxHeartbeats 8000000 in
set_option maxRecDepth 100000 in
theorem fits_w (x : ByteArray) (k l : Nat) (d : Bool) (no : Nat) (M : Msg) (Aq Aa An Ax : Option Addr) (nq na nn nx cq ca cn cx B : Nat) (Za Zn Zx : List RecZ) (q : Bool) (w : World) (hv : Hid (MsgV w B M Aq Aa An Ax nq na nn nx ca cn cx Za Zn Zx)) (hB : B ≤ w.heap.size) (hf : Hid (FewM M)) (hq : Hid (fitsM ⟨x.data.toList, k, l, d⟩ no M = q)) :
    Calls Try.prog 27 #[.agg (kyA x k l d), .int .u16 no, .agg (msgA M.id M.flags Aq nq cq Aa na ca An nn cn Ax nx cx)] w fun e w' => e = .returned (.bool q) ∧ Below w.heap.size w w' := by
  obtain ⟨id, hid⟩ : ∃ n, M.id = n := ⟨_, rfl⟩
  obtain ⟨fl, hfl⟩ : ∃ n, M.flags = n := ⟨_, rfl⟩
  obtain ⟨g, hg⟩ : ∃ g, w.heap.size = g := ⟨_, rfl⟩
  have hfb := hf.out.flags
  rw [hfl] at hfb
  rw [hid, hfl, hg]
  rw [hg] at hB
  obtain ⟨wa, hwa⟩ : ∃ wa, w.alloc (.cells (kyA x k l d) 42) = wa := ⟨_, rfl⟩
  obtain ⟨wb, hwb⟩ : ∃ wb, wa.alloc (.cells (msgA id fl Aq nq cq Aa na ca An nn cn Ax nx cx) 26) = wb := ⟨_, rfl⟩
  have hsa : wa.heap.size = g + 1 := by rw [← hwa, ← hg]; simp
  have hsb : wb.heap.size = g + 2 := by rw [← hwb]; simp [hsa]
  have hba : Below g w wa := by rw [← hwa, ← hg]; exact (Below.refl _ _).alloc (Nat.le_refl _) _
  have HBB : Hid (Below g w wb) := by rw [← hwb]; exact hba.alloc (by omega) _
  have hx0 : wa.heap[g]? = some (.cells (kyA x k l d) 42 (0, 0)) := by rw [← hwa, ← hg]; exact heap_alloc_new w _
  have HX : Hid (wb.heap[g]? = some (.cells (kyA x k l d) 42 (0, 0))) := by rw [← hwb]; exact old_at hx0
  have hy : wb.heap[g + 1]? = some (.cells (msgA id fl Aq nq cq Aa na ca An nn cn Ax nx cx) 26 (0, 0)) := by rw [← hwb, ← hsa]; exact heap_alloc_new wa _
  have HY := Lib.hid hy
  have k0 := cell_of_row _ _ 0 _ _ _ hy
  have k1 := cell_of_row _ _ 1 _ _ _ hy
  have k2 := cell_of_row _ _ 2 _ _ _ hy
  have k3 := cell_of_row _ _ 3 _ _ _ hy
  have k4 := cell_of_row _ _ 4 _ _ _ hy
  have k5 := cell_of_row _ _ 5 _ _ _ hy
  have hq' := hq.out
  clear hba hx0 hy hq
  obtain ⟨z, hz⟩ : ∃ b, (!decide (32768 ≤ fl ∧ fl / 512 % 2 = 0)) = b := ⟨_, rfl⟩
  have f1 : (bits .and .u16 (fl : Int) 33280 != 32768) = z := by rw [qrtc_ne hfb]; exact hz
  obtain ⟨E, hE⟩ : ∃ E, opc fl = E := ⟨_, rfl⟩
  have HOP := Lib.hid (fun w => opcode_any id fl Aq Aa An Ax nq cq na ca nn cn nx cx E w hfb hE)
  go_enter Try.func27, Try.ntmps27
  by_cases hi : id = no
  case neg =>
    obtain rfl : q = false := by rw [← hq']; exact fitsM_no (fun h => hi (hid.symm.trans h.1))
    have f2 : ((id : Int) != (no : Int)) = true := bne_iff_ne.2 (by omega)
    clear hq' hz hE hi hid hfl HOP
    go_wp2_with fail
    go_ret
    exact ⟨rfl, HBB.out⟩
  subst hi
  have f2 : ((id : Int) != (id : Int)) = false := bne_eq_false_iff_eq.2 rfl
  cases z with
  | true =>
    have hzz : ¬ (32768 ≤ fl ∧ fl / 512 % 2 = 0) := by intro h; rw [decide_eq_true h] at hz; cases hz
    obtain rfl : q = false := by rw [← hq']; exact fitsM_no (fun h => hzz ⟨by rw [← hfl]; exact h.2.1, by rw [← hfl]; exact h.2.2.1⟩)
    clear hq' hz hE hid hfl HOP hzz
    go_wp2_with fail
    go_ret
    exact ⟨rfl, HBB.out⟩
  | false =>
  have hzz : 32768 ≤ fl ∧ fl / 512 % 2 = 0 := by simpa using hz
  go_wp2_with fail
  refine (HOP.out _).mono ?_
  rintro e w1 ⟨rfl, n1⟩
  have K1 : Hid (Below (g + 2) wb w1) := by have h := n1; rw [hsb] at h; exact h
  have S1 : Hid (g + 2 ≤ w1.heap.size) := by have h := n1.size; rw [hsb] at h; exact h
  have V1 : Hid (Below g w w1) := HBB.out.trans (K1.out.mono (by omega))
  have hy1 := (K1.out.block (g + 1) (by omega)).trans HY.out
  clear n1 k0 k1 k2 k3 k4 k5 hz HOP f1 hwa hwb
  have k0 := cell_of_row _ _ 0 _ _ _ hy1
  have k1 := cell_of_row _ _ 1 _ _ _ hy1
  have k2 := cell_of_row _ _ 2 _ _ _ hy1
  have k3 := cell_of_row _ _ 3 _ _ _ hy1
  have k4 := cell_of_row _ _ 4 _ _ _ hy1
  have k5 := cell_of_row _ _ 5 _ _ _ hy1
  clear hy1
  by_cases hE0 : E = 0
  case neg =>
    obtain rfl : q = false := by rw [← hq']; exact fitsM_no (fun h => by have := h.2.2.2; rw [hfl] at this; omega)
    have f3 : ((E : Int) != 0) = true := bne_iff_ne.2 (by omega)
    clear hq' hE hE0 hid hfl hzz
    go_wp2_with fail
    go_ret
    exact ⟨rfl, V1.out⟩
  subst hE0
  by_cases hq1 : nq = 1
  case neg =>
    obtain rfl : q = false := by rw [← hq']; exact fitsM_not (by rw [hv.out.eq]; exact hq1)
    have f3 : ((nq : Int) != 1) = true := bne_iff_ne.2 (by omega)
    clear hq' hE hq1 hid hfl hzz
    go_wp2_with fail
    go_ret
    exact ⟨rfl, V1.out⟩
  subst hq1
  obtain ⟨qn, hqs⟩ : ∃ q, M.qs = [q] := List.length_eq_one_iff.1 hv.out.eq
  have hfit := fitsM_one (k := ⟨x.data.toList, k, l, d⟩) (id := id) ⟨hid, by rw [hfl]; exact hzz.1, by rw [hfl]; exact hzz.2, by rw [hfl]; exact hE⟩ hqs
  rw [hq'] at hfit
  have hl0 : 0 < M.qs.length := by rw [hqs]; exact Nat.zero_lt_one
  obtain ⟨bq, off, rfl, hbq, p0, p1, p2⟩ := (hv.out.at_.q.on (V1.out.mono hB) (Nat.le_refl _)).qn hl0
  have hgq : M.qs[0] = qn := by simp [hqs]
  rw [hgq] at p0 p1 p2
  simp only [Nat.zero_mul, Nat.add_zero] at p0 p1 p2
  have hqb := hf.out.qs qn (by rw [hqs]; exact List.mem_singleton_self _)
  obtain ⟨xq, hx⟩ : ∃ x, mk qn.name = x := ⟨_, rfl⟩
  obtain ⟨qk, hqk⟩ : ∃ k, qn.kind = k := ⟨_, rfl⟩
  obtain ⟨qc, hqc⟩ : ∃ k, qn.cls = k := ⟨_, rfl⟩
  rw [hx] at p0
  rw [hqk] at p1
  rw [hqc] at p2
  have hxl : xq.data.toList = qn.name := by rw [← hx, mk_list]
  have hxs : xq.size ≤ maxLen := by rw [Lib.size_eq, hxl]; exact hqb.1
  obtain ⟨t, ht⟩ : ∃ t, mk (foldN qn.name) = t := ⟨_, rfl⟩
  have htl : t.data.toList = foldN qn.name := by rw [← ht, mk_list]
  have htx : mk (foldN xq.data.toList) = t := by rw [hxl]; exact ht
  have HFO := Lib.hid (fun w => fold_w xq t w hxs htx)
  rw [← htl, hqk, hqc] at hfit
  have HFIT := Lib.hid hfit
  obtain ⟨b2, hb2⟩ : ∃ b, w1.heap.size = b := ⟨_, rfl⟩
  obtain ⟨w2, hw2⟩ : ∃ w2, w1.alloc (.cells #[.string xq, .int .u16 qk, .int .u16 qc] 62) = w2 := ⟨_, rfl⟩
  have n2 : Below b2 w1 w2 := by rw [← hw2, ← hb2]; exact (Below.refl _ _).alloc (Nat.le_refl _) _
  have HZ : Hid (w2.heap[b2]? = some (.cells #[.string xq, .int .u16 qk, .int .u16 qc] 62 (0, 0))) := by rw [← hw2, ← hb2]; exact heap_alloc_new w1 _
  have hb2g : g + 2 ≤ b2 := by rw [← hb2]; exact S1.out
  have S2 : Hid (w2.heap.size = b2 + 1) := by show _ = _; rw [← hw2, ← hb2]; simp
  have K2 : Hid (Below (g + 2) wb w2) := K1.out.trans (n2.mono hb2g)
  have HW2 := Lib.hid hw2
  clear n2 hgq hl0 hfit hw2 hqb hx ht htx hxl htl hqk hqc hqs hid hfl hzz hE hq'
  go_upto_region 4 with fail
  rw [HW2.out]
  clear hb2 k0 k1 k2 k3 k4 k5 p0 p1 p2
  have m0 := cell_of_row _ _ 0 _ _ _ HZ.out
  have m1 := cell_of_row _ _ 1 _ _ _ HZ.out
  have m2 := cell_of_row _ _ 2 _ _ _ HZ.out
  go_wp2_with fail
  refine (HFO.out _).mono ?_
  rintro e w3 ⟨rfl, n3⟩
  have n3' : Below (b2 + 1) w2 w3 := by have h := n3; rw [S2.out] at h; exact h
  have HZ3 : Hid (w3.heap[b2]? = some (.cells #[.string xq, .int .u16 qk, .int .u16 qc] 62 (0, 0))) := (n3'.block b2 (Nat.lt_succ_self b2)).trans HZ.out
  have K3 : Hid (Below (g + 2) wb w3) := K2.out.trans (n3'.mono (by omega))
  have s3 : b2 + 1 ≤ w3.heap.size := by have h := n3'.size; rw [S2.out] at h; exact h
  obtain ⟨w4, hw4⟩ : ∃ v, w3.setCell ⟨b2, 0, none⟩ (.string t) = v := ⟨_, rfl⟩
  have HZ4 : Hid (w4.heap[b2]? = some (.cells #[.string t, .int .u16 qk, .int .u16 qc] 62 (0, 0))) := by rw [← hw4]; exact set_at HZ3.out rfl
  have K4 : Hid (Below (g + 2) wb w4) := by rw [← hw4]; exact K3.out.setCell (p := ⟨b2, 0, none⟩) hb2g _
  have HW4 := Lib.hid hw4
  clear n3 n3' hw4 m0 m1 m2 s3 HFO
  have m0 := cell_of_row _ _ 0 _ _ _ HZ3.out
  have mf : ∀ i, w3.frozen? ⟨b2, i, none⟩ = false := Lib.frozen_of_heap HZ3.out
  go_upto_region 5 with fail
  rw [HW4.out]
  clear m0 mf
  have hx4 := (K4.out.block g (by omega)).trans HX.out
  have m0 := cell_of_row _ _ 0 _ _ _ HZ4.out
  have m1 := cell_of_row _ _ 1 _ _ _ HZ4.out
  have m2 := cell_of_row _ _ 2 _ _ _ HZ4.out
  have y0 := cell_of_row _ _ 0 _ _ _ hx4
  have y1 := cell_of_row _ _ 1 _ _ _ hx4
  have y2 := cell_of_row _ _ 2 _ _ _ hx4
  have y3 := cell_of_row _ _ 3 _ _ _ hx4
  have V4 : Hid (Below g w w4) := HBB.out.trans (K4.out.mono (by omega))
  have h0 : Below g w w4.drew := V4.out.drew
  have HQO := Lib.hid (fun W hs h => qof_held x k l d ⟨b2, 0, none⟩ ⟨b2, 1, none⟩ ⟨b2, 2, none⟩ ⟨g, 0, none⟩ ⟨g, 1, none⟩ ⟨g, 2, none⟩ ⟨g, 3, none⟩ (.string t) (.int .u16 qk) (.int .u16 qc) (.string x) (.int .u16 k) (.int .u16 l) (.bool d) g w W hs h)
  have HGW : Hid (∀ W : World, W.cell? ⟨b2, 0, none⟩ = some (.string t) → g ≤ W.heap.size) := fun W h => by have h2 : b2 < W.heap.size := World.block_lt_of_cell? W _ h; omega
  clear hx4
  by_cases e1 : t = x
  case neg =>
    obtain rfl : q = false := by rw [HFIT.out]; exact decide_eq_false (fun h => e1 (list_inj h.1))
    have f4 : (t.toList == x.toList) = false := ne_toList e1
    go_region_held3 (fun w' => w'.cell? ⟨b2, 0, none⟩ = some (.string t) ∧ w'.cell? ⟨b2, 1, none⟩ = some (.int .u16 qk) ∧ w'.cell? ⟨b2, 2, none⟩ = some (.int .u16 qc) ∧ w'.cell? ⟨g, 0, none⟩ = some (.string x) ∧ w'.cell? ⟨g, 1, none⟩ = some (.int .u16 k) ∧ w'.cell? ⟨g, 2, none⟩ = some (.int .u16 l) ∧ w'.cell? ⟨g, 3, none⟩ = some (.bool d) ∧ Below g w w') (go_keep) (first | (go_at_call 64; (with_reducible refine (HQO.out _ (HGW.out _ ?_) ?_).mono ?_); (simp [*]); (simp [*]); rintro e w5 ⟨rfl, c0, c1, c2, c3, c4, c5, c6, hG5⟩))
    go_wp2_with fail
    go_ret
    exact ⟨rfl, hG5⟩
  subst e1
  have f4 : (t.toList == t.toList) = true := beq_self_eq_true _
  by_cases e2 : qk = k
  case neg =>
    obtain rfl : q = false := by rw [HFIT.out]; exact decide_eq_false (fun h => e2 h.2.1)
    have f5 : ((qk : Int) == (k : Int)) = false := beq_eq_false_iff_ne.2 (by omega)
    go_region_held3 (fun w' => w'.cell? ⟨b2, 0, none⟩ = some (.string t) ∧ w'.cell? ⟨b2, 1, none⟩ = some (.int .u16 qk) ∧ w'.cell? ⟨b2, 2, none⟩ = some (.int .u16 qc) ∧ w'.cell? ⟨g, 0, none⟩ = some (.string t) ∧ w'.cell? ⟨g, 1, none⟩ = some (.int .u16 k) ∧ w'.cell? ⟨g, 2, none⟩ = some (.int .u16 l) ∧ w'.cell? ⟨g, 3, none⟩ = some (.bool d) ∧ Below g w w') (go_keep) (first | (go_at_call 64; (with_reducible refine (HQO.out _ (HGW.out _ ?_) ?_).mono ?_); (simp [*]); (simp [*]); rintro e w5 ⟨rfl, c0, c1, c2, c3, c4, c5, c6, hG5⟩))
    go_wp2_with fail
    go_ret
    exact ⟨rfl, hG5⟩
  subst e2
  have f5 : ((qk : Int) == (qk : Int)) = true := beq_self_eq_true _
  by_cases e3 : qc = l
  case neg =>
    obtain rfl : q = false := by rw [HFIT.out]; exact decide_eq_false (fun h => e3 h.2.2)
    have f6 : ((qc : Int) == (l : Int)) = false := beq_eq_false_iff_ne.2 (by omega)
    go_region_held3 (fun w' => w'.cell? ⟨b2, 0, none⟩ = some (.string t) ∧ w'.cell? ⟨b2, 1, none⟩ = some (.int .u16 qk) ∧ w'.cell? ⟨b2, 2, none⟩ = some (.int .u16 qc) ∧ w'.cell? ⟨g, 0, none⟩ = some (.string t) ∧ w'.cell? ⟨g, 1, none⟩ = some (.int .u16 qk) ∧ w'.cell? ⟨g, 2, none⟩ = some (.int .u16 l) ∧ w'.cell? ⟨g, 3, none⟩ = some (.bool d) ∧ Below g w w') (go_keep) (first | (go_at_call 64; (with_reducible refine (HQO.out _ (HGW.out _ ?_) ?_).mono ?_); (simp [*]); (simp [*]); rintro e w5 ⟨rfl, c0, c1, c2, c3, c4, c5, c6, hG5⟩))
    go_wp2_with fail
    go_ret
    exact ⟨rfl, hG5⟩
  subst e3
  have f6 : ((qc : Int) == (qc : Int)) = true := beq_self_eq_true _
  obtain rfl : q = true := by rw [HFIT.out]; exact decide_eq_true ⟨rfl, rfl, rfl⟩
  go_region_held3 (fun w' => w'.cell? ⟨b2, 0, none⟩ = some (.string t) ∧ w'.cell? ⟨b2, 1, none⟩ = some (.int .u16 qk) ∧ w'.cell? ⟨b2, 2, none⟩ = some (.int .u16 qc) ∧ w'.cell? ⟨g, 0, none⟩ = some (.string t) ∧ w'.cell? ⟨g, 1, none⟩ = some (.int .u16 qk) ∧ w'.cell? ⟨g, 2, none⟩ = some (.int .u16 qc) ∧ w'.cell? ⟨g, 3, none⟩ = some (.bool d) ∧ Below g w w') (go_keep) (first | (go_at_call 64; (with_reducible refine (HQO.out _ (HGW.out _ ?_) ?_).mono ?_); (simp [*]); (simp [*]); rintro e w5 ⟨rfl, c0, c1, c2, c3, c4, c5, c6, hG5⟩))
  go_wp2_with fail
  go_ret
  exact ⟨rfl, hG5⟩
end Go.Proofs.Ytpmmjmnleoicjaa

/- The contracts of slices.Clone over questions and of query's copied. For lists of at most 1000 questions, whose names are no longer than a text may be that is copied. -/
namespace Go.Proofs.Ytpmmjmnleoicjaa
open Go.RowKit Bytes MsgMath NameMath RecMath QrMath

/-- A text no longer than the library copies. -/
def cloneMost : Nat := 281474976710656
theorem clone_w (s : ByteArray) (w : World) (hs : s.size ≤ cloneMost) :
    Calls Try.prog 65 #[.string s] w fun e w' => e = .returned (.string s) ∧ Below w.heap.size w w' := by
  go_enter Try.func65, Try.ntmps65
  go_wp2_with fail
  refine (Try.stringslite_Clone s _ hs).mono ?_
  rintro e w1 ⟨rfl, hB⟩
  go_wp2_with fail
  go_ret
  exact ⟨rfl, hB⟩
theorem qnCs_len (L : List Qn) : (qnCs L).length = L.length * 3 := by
  unfold qnCs
  rw [List.length_flatMap]
  induction L with
  | nil => rfl
  | cons q L ih => simp only [List.map_cons, List.sum_cons, List.length_cons, ih]; unfold qnV; simp; omega
theorem qnCs_one (L : List Qn) : ∀ u ∈ qnCs L, u.oneCell' = true := by
  intro u hu
  unfold qnCs at hu
  obtain ⟨q, _, hu⟩ := List.mem_flatMap.1 hu
  unfold qnV at hu
  simp only [List.mem_cons, List.not_mem_nil, or_false] at hu
  rcases hu with rfl | rfl | rfl <;> rfl
set_option maxRecDepth 100000 in
theorem run_append_qns (w : World) (ty : TypeId) (g : Nat) (v : Value) (m : Nat) (xs : List Value) (hown : w.ownsRow g 62 3 v m xs) (B : Nat) (ad : Addr) (n c : Nat) (L : List Qn) (hn : L.length = n) (hsrc : CellsAt w B (some ad) (qnCs L)) (hmn : m + n ≤ 1000000) (hg : g ≤ w.heap.size) :
    ∃ v' w', (Builtin.append_ #[23, 23] ty #[v, .slice (some ad) n c]).run Try.prog w = .ok v' w' ∧ w'.ownsRow g 62 3 v' (m + n) (xs ++ qnCs L) ∧ w.grownBy w' v.ownBlock := by
  obtain ⟨i0, hi, hz0, hz1, hz2⟩ := info_parts info_qn
  obtain ⟨v', w', hr, h2, h3, _⟩ := run_append_own (P := Try.prog) w g 23 ty 62 i0 (.agg #[.string ⟨#[]⟩, .int .u16 0, .int .u16 0]) 3 24 Try.underlying23 hi hz0 hz1 hz2 rfl (by decide) v m xs hown ad n c (qnCs L) (by rw [qnCs_len, hn]) (fun j u hj => by
      obtain ⟨b, off, e, _, hc⟩ := hsrc.get hj
      injection e with e
      subst e
      rw [Go.WideShapes.add_plain]
      exact hc j u hj) (qnCs_one L) (by unfold maxLen; omega) (by omega) hg
  exact ⟨v', w', hr, h2, h3⟩
/-- A row of questions of the call's own. -/
def RowQ (w : World) (L : List Qn) (e : Ending) (w' : World) : Prop := ∃ v, e = .returned v ∧ w'.ownsRow w.heap.size 62 3 v L.length (qnCs L) ∧ Below w.heap.size w w'
set_option maxHeartbeats 1000000 in
set_option maxRecDepth 100000 in
theorem cloneQ_is (A : Option Addr) (c n : Nat) (L : List Qn) (w : World) (hr : CellsAt w w.heap.size A (qnCs L)) (hn0 : Hid (L.length = n)) (hn : n ≤ 1000) :
    Calls Try.prog 109 #[.slice A n c] w (RowQ w L) := by
  have HSRC := Lib.hid hr
  have heq : ∀ W : World, (binOp .eql 23 (.slice A n c) (.slice none 0 0)).run Try.prog W = .ok (.bool A.isNone) W := fun W => Lib.run_eql_slice_nil W 23 62 A n c 0 0 Try.underlying23
  clear hr
  cases A with
  | none =>
    have h0 : L = [] := by
      rcases HSRC.out with h | ⟨b, off, e, _⟩
      · have := congrArg List.length h
        rw [qnCs_len, List.length_nil] at this
        exact List.length_eq_zero_iff.1 (by omega)
      · cases e
    subst h0
    have heq0 : ∀ W : World, (binOp .eql 23 (.slice none n c) (.slice none 0 0)).run Try.prog W = .ok (.bool true) W := heq
    clear heq
    go_enter Try.func109, Try.ntmps109
    go_wp2_with fail
    go_ret
    exact ⟨_, rfl, World.ownsRow_nil _ _ _ _, Below.refl _ _⟩
  | some ad =>
    have heq0 : ∀ W : World, (binOp .eql 23 (.slice (some ad) n c) (.slice none 0 0)).run Try.prog W = .ok (.bool false) W := heq
    clear heq
    have hown : (w.alloc (.cells #[] 62)).ownsRow w.heap.size 62 3 (.slice (some ⟨w.heap.size, 0, none⟩) 0 0) 0 [] := World.ownsRow_made w #[] 0 (Nat.le_refl _) (by decide) rfl
    have HB := Lib.hid ((Below.refl w.heap.size w).alloc (Nat.le_refl _) (.cells #[] 62))
    have HOWN := Lib.hid hown
    obtain ⟨wa, hwa⟩ : ∃ v, w.alloc (.cells #[] 62) = v := ⟨_, rfl⟩
    rw [hwa] at HOWN HB
    obtain ⟨v', w2, hrun, hown2, hgrow⟩ := run_append_qns wa 23 w.heap.size _ 0 [] HOWN.out wa.heap.size ad n c L hn0.out (HSRC.out.on HB.out HB.out.size) (by omega) HB.out.size
    rw [Nat.zero_add, List.nil_append] at hown2
    have HO := Lib.hid hown2
    have HB2 := Lib.hid (HB.out.grown hgrow HB.out.size (fun k hk => (HOWN.out.lt k hk).1))
    clear hown hown2 hgrow
    go_enter Try.func109, Try.ntmps109
    go_wp2_with (at_builtin; refine wpList_append_run rfl _ _ 23 23 rfl _ _ rfl rfl _ _ hrun ?_)
    go_ret
    exact ⟨_, rfl, by rw [hn0.out]; exact HO.out, HB2.out⟩
theorem ownsQ_cases {w : World} {base n : Nat} {v : Value} {xs : List Value} (h : w.ownsRow base 62 3 v n xs) : ∃ A c, v = .slice A n c ∧ CellsAt w w.heap.size A xs := cells_own h
theorem set_same {cur : Array Value} {k : Nat} {v : Value} (h : cur[k]? = some v) : cur.setIfInBounds k v = cur := by
  apply Array.ext_getElem?
  intro u
  rw [Array.getElem?_setIfInBounds]
  by_cases e : k = u
  · subst e
    rw [if_pos rfl, if_pos (Array.getElem?_eq_some_iff.1 h).1, h]
  · rw [if_neg e]
set_option maxHeartbeats 4000000 in
set_option maxRecDepth 100000 in
theorem copiedQ_is (A : Option Addr) (c n : Nat) (L : List Qn) (w : World) (hr : CellsAt w w.heap.size A (qnCs L)) (hn0 : Hid (L.length = n)) (hn : n ≤ 1000) (hs : Hid (∀ q ∈ L, q.name.length ≤ cloneMost)) :
    Calls Try.prog 77 #[.slice A n c] w (RowQ w L) := by
  have HR := Lib.hid hr
  have HCL := Lib.hid (cloneQ_is A c n L w hr hn0 hn)
  obtain ⟨g, hg⟩ : ∃ g, w.heap.size = g := ⟨_, rfl⟩
  have HG := Lib.hid hg
  clear hr
  go_enter Try.func77, Try.ntmps77
  go_wp2_with fail
  refine HCL.out.mono ?_
  rintro e w1 ⟨v, rfl, hO, n1⟩
  have n1' : Below g w w1 := by rw [← hg]; exact n1
  rw [hg] at hO
  have HV1 := Lib.hid n1'
  have HS1 : Hid (g ≤ w1.heap.size) := by have h := n1.size; rw [hg] at h; exact h
  obtain ⟨B, d, rfl, hcb⟩ := cells_own hO
  have HO := Lib.hid hO
  clear n1 n1' hO hcb HCL
  rw [hn0.out] at HO ⊢
  go_wp2_with fail
  go_loopw [10] (fun v wr => ∃ j : Nat, j ≤ n ∧ v = .int .i64 j ∧ Hid (wr.ownsRow g 62 3 (.slice B n d) n (qnCs L)) ∧ Hid (Below g w wr)) (fun v _ => n - (intOf v).toNat)
  case atStart => exact ⟨0, Nat.zero_le _, rfl, HO, HV1⟩
  case round =>
    obtain ⟨j, hj, rfl, hO, hV⟩ := hrel
    have HS : Hid (g ≤ wr.heap.size) := by have h := hV.out.size; rw [HG.out] at h; exact h
    by_cases hlt : j < n
    · have hjl : j < L.length := by rw [hn0.out]; exact hlt
      obtain ⟨b, off, rfl, hb, p0, p1, p2⟩ := (HR.out.on (by rw [HG.out]; exact hV.out) (Nat.le_refl _)).qn hjl
      have hcs := hs.out _ (List.getElem_mem hjl)
      rw [← mk_size] at hcs
      rcases hO.out with ⟨hl, ⟨e, h0⟩ | ⟨bb, cap, cur, e, hbb, hh, hc1, hc2, hc3, hc4⟩⟩
      · omega
      · injection e with e1 e2 e3
        subst e1 e3
        have hq0 : cur[j * 3]? = some (.string (mk (L[j]).name)) := by
          have h1 := qnCs_at hjl
          rw [← hc4, List.getElem?_take_of_lt (by omega), Array.getElem?_toList] at h1
          exact h1
        have HSAME := Lib.hid (set_same hq0)
        obtain ⟨x, hx⟩ : ∃ x, mk (L[j]).name = x := ⟨_, rfl⟩
        obtain ⟨qk, hqk⟩ : ∃ k, (L[j]).kind = k := ⟨_, rfl⟩
        obtain ⟨qc, hqc⟩ : ∃ k, (L[j]).cls = k := ⟨_, rfl⟩
        rw [hx] at p0 hcs hq0 HSAME
        rw [hqk] at p1
        rw [hqc] at p2
        obtain ⟨d2, hd2⟩ : ∃ d, wr.heap.size = d := ⟨_, rfl⟩
        obtain ⟨w2, hw2⟩ : ∃ v, wr.alloc (.cells #[.string x, .int .u16 qk, .int .u16 qc] 62) = v := ⟨_, rfl⟩
        have n2 : Below wr.heap.size wr w2 := by rw [← hw2]; exact (Below.refl _ _).alloc (Nat.le_refl _) _
        have hy : w2.heap[d2]? = some (.cells #[.string x, .int .u16 qk, .int .u16 qc] 62 (0, 0)) := by rw [← hw2, ← hd2]; exact heap_alloc_new wr _
        have y0 := cell_of_row _ _ 0 _ _ _ hy
        have hbb2 := (n2.block bb (Array.getElem?_eq_some_iff.1 hh).1).trans hh
        have HBB2 := Lib.hid hbb2
        have HV2 : Hid (Below g w w2) := hV.out.trans (n2.mono HS.out)
        have HS2 : Hid (g ≤ w2.heap.size) := Nat.le_trans HS.out n2.size
        have HW2 := Lib.hid hw2
        have HC2 := Lib.hid hc2
        have HCS := Lib.hid hcs
        clear hqk hqc hx hcs n2 hy hbb2 hw2 hO hV hh
        go_upto_region 5 with fail
        rw [HW2.out]
        clear hd2 p0 p1 p2
        go_wp2_with fail
        refine (clone_w x w2 HCS.out).mono ?_
        rintro e w3 ⟨rfl, n3⟩
        have hbb3 := (n3.block bb (Array.getElem?_eq_some_iff.1 HBB2.out).1).trans HBB2.out
        have HV3 : Hid (Below g w w3) := HV2.out.trans (n3.mono HS2.out)
        have hbn := set_at (i := j * 3) (v := .string x) hbb3 HSAME.out
        have HON : Hid ((w3.setCell ⟨bb, j * 3, none⟩ (.string x)).ownsRow g 62 3 (.slice (some ⟨bb, 0, none⟩) n d) n (qnCs L)) := ⟨hl, .inr ⟨bb, d, cur, rfl, hbb, hbn, hc1, HC2.out, hc3, hc4⟩⟩
        have z0 : w3.cell? ⟨bb, j * 3, none⟩ = some (.string x) := (cell_of_row _ _ _ _ _ _ hbb3).trans hq0
        have zf : ∀ i, w3.frozen? ⟨bb, i, none⟩ = false := Lib.frozen_of_heap hbb3
        have HVN : Hid (Below g w (w3.setCell ⟨bb, j * 3, none⟩ (.string x))) := HV3.out.setCell (p := ⟨bb, j * 3, none⟩) hbb _
        clear n3 hbb3 hbn y0 hq0 hl hc4
        go_wp2_with fail
        go_roundw
        case rel => exact ⟨j + 1, by omega, by go_num, HON, HVN⟩
        case measure => simp [intOf]; omega
    · have hjn : ¬ ((j : Int) < (n : Int)) := by omega
      clear hlt
      go_wp2_with fail
      go_ret
      exact ⟨_, rfl, by rw [hn0.out, HG.out]; exact hO.out, by rw [HG.out]; exact hV.out⟩
end Go.Proofs.Ytpmmjmnleoicjaa

/- The contract of query's Fail. For messages that can be gone through, whose names are no longer than a text may be that is copied. -/
namespace Go.Proofs.Ytpmmjmnleoicjaa
open Go.RowKit Bytes MsgMath NameMath RecMath WrMath QrMath QrBits

theorem own_low' {w : World} {base b n k : Nat} {e : TypeId} {v : Value} {xs : List Value} (h : w.ownsRow base e k v n xs) (hb : b ≤ base) : w.ownsRow b e k v n xs := by
  obtain ⟨hl, h | ⟨bb, cap, cur, e1, hbb, h2⟩⟩ := h
  · exact ⟨hl, .inl h⟩
  · exact ⟨hl, .inr ⟨bb, cap, cur, e1, Nat.le_trans hb hbb, h2⟩⟩
theorem own_six {w : World} {base b n k : Nat} {e : TypeId} {v : Value} {xs : List Value} {v0 v1 v2 v3 v4 v5 : Value} (h : w.ownsRow base e k v n xs) (hb : b < base) : ((((((w.setCell ⟨b, 0, none⟩ v0).setCell ⟨b, 1, none⟩ v1).setCell ⟨b, 2, none⟩ v2).setCell ⟨b, 3, none⟩ v3).setCell ⟨b, 4, none⟩ v4).setCell ⟨b, 5, none⟩ v5).ownsRow base e k v n xs := by
  obtain ⟨hl, h | ⟨bb, cap, cur, e1, hbb, hh, h2⟩⟩ := h
  · exact ⟨hl, .inl h⟩
  · exact ⟨hl, .inr ⟨bb, cap, cur, e1, hbb, far_six hh (by omega), h2⟩⟩
theorem far_six_cell {w : World} {a : Addr} {b : Nat} {v u0 u1 u2 u3 u4 u5 : Value} (h : w.cell? a = some v) (hb : a.block ≠ b) : ((((((w.setCell ⟨b, 0, none⟩ u0).setCell ⟨b, 1, none⟩ u1).setCell ⟨b, 2, none⟩ u2).setCell ⟨b, 3, none⟩ u3).setCell ⟨b, 4, none⟩ u4).setCell ⟨b, 5, none⟩ u5).cell? a = some v := by
  have ne : ∀ i, (⟨b, i, none⟩ : Addr) ≠ a := fun i e => hb (by rw [← e])
  rw [World.cell?_setCell_other _ _ _ _ (ne 5), World.cell?_setCell_other _ _ _ _ (ne 4), World.cell?_setCell_other _ _ _ _ (ne 3), World.cell?_setCell_other _ _ _ _ (ne 2), World.cell?_setCell_other _ _ _ _ (ne 1), World.cell?_setCell_other _ _ _ _ (ne 0)]
  exact h
theorem ResAt.six {w : World} {b : Nat} (h : ResAt w b 6) : (∃ v0, w.cell? ⟨b, 0, none⟩ = some v0) ∧ (∃ v1, w.cell? ⟨b, 1, none⟩ = some v1) ∧ (∃ v2, w.cell? ⟨b, 2, none⟩ = some v2) ∧ (∃ v3, w.cell? ⟨b, 3, none⟩ = some v3) ∧ (∃ v4, w.cell? ⟨b, 4, none⟩ = some v4) ∧ (∃ v5, w.cell? ⟨b, 5, none⟩ = some v5) ∧ ∀ i, w.frozen? ⟨b, i, none⟩ = false := by
  obtain ⟨c, t, hb, hn⟩ := h
  exact ⟨⟨c[0]'(by omega), (cell_of_row _ _ 0 _ _ _ hb).trans (Array.getElem?_eq_getElem (by omega))⟩, ⟨c[1]'(by omega), (cell_of_row _ _ 1 _ _ _ hb).trans (Array.getElem?_eq_getElem (by omega))⟩, ⟨c[2]'(by omega), (cell_of_row _ _ 2 _ _ _ hb).trans (Array.getElem?_eq_getElem (by omega))⟩, ⟨c[3]'(by omega), (cell_of_row _ _ 3 _ _ _ hb).trans (Array.getElem?_eq_getElem (by omega))⟩, ⟨c[4]'(by omega), (cell_of_row _ _ 4 _ _ _ hb).trans (Array.getElem?_eq_getElem (by omega))⟩, ⟨c[5]'(by omega), (cell_of_row _ _ 5 _ _ _ hb).trans (Array.getElem?_eq_getElem (by omega))⟩, Lib.frozen_of_heap hb⟩
theorem copiedQ_held (A : Option Addr) (c n : Nat) (L : List Qn) (B : Nat) (a0 a1 : Addr) (v0 v1 : Value) (g b : Nat) (w0 w : World) (hr : CellsAt w0 B A (qnCs L)) (hBg : B ≤ g) (hn0 : Hid (L.length = n)) (hn : n ≤ 1000) (hs : Hid (∀ q ∈ L, q.name.length ≤ cloneMost)) (h : Nat) (hgh : g ≤ h) (hh : h ≤ w.heap.size) (hc : w.cell? a0 = some v0 ∧ w.cell? a1 = some v1 ∧ Below g w0 w ∧ ResAt w b 6) :
    Calls Try.prog 77 #[.slice A n c] w fun e w' => ∃ A' c', e = .returned (.slice A' n c') ∧ w'.ownsRow h 62 3 (.slice A' n c') n (qnCs L) ∧ w'.cell? a0 = some v0 ∧ w'.cell? a1 = some v1 ∧ Below g w0 w' ∧ ResAt w' b 6 := by
  obtain ⟨c0, c1, hH, cc, ty, hrr, hnn⟩ := hc
  have hg : g ≤ w.heap.size := Nat.le_trans hgh hh
  have hr' : CellsAt w w.heap.size A (qnCs L) := hr.on (hH.mono hBg) (by omega)
  refine (copiedQ_is A c n L w hr' hn0 hn hs).mono ?_
  rintro e w' ⟨v, rfl, hO, hB⟩
  obtain ⟨A', c', rfl, _⟩ := cells_own hO
  rw [hn0.out] at hO ⊢
  exact ⟨A', c', rfl, own_low' hO hh, (hB.cell (World.block_lt_of_cell? w _ c0)).trans c0, (hB.cell (World.block_lt_of_cell? w _ c1)).trans c1, hH.trans (hB.mono hg), cc, ty, (hB.block b (Array.getElem?_eq_some_iff.1 hrr).1).trans hrr, hnn⟩
theorem fail_keep {w w0 : World} {a0 a1 : Addr} {v0 v1 : Value} {g b : Nat} (c0 : w.cell? a0 = some v0) (c1 : w.cell? a1 = some v1) (hG : Below g w0 w) (hR : ResAt w b 6) (n0 : a0.block ≠ b) (n1 : a1.block ≠ b) (hb : g ≤ b) (u0 u1 u2 u3 u4 u5 : Value) :
    ((((((w.setCell ⟨b, 0, none⟩ u0).setCell ⟨b, 1, none⟩ u1).setCell ⟨b, 2, none⟩ u2).setCell ⟨b, 3, none⟩ u3).setCell ⟨b, 4, none⟩ u4).setCell ⟨b, 5, none⟩ u5).cell? a0 = some v0 ∧ ((((((w.setCell ⟨b, 0, none⟩ u0).setCell ⟨b, 1, none⟩ u1).setCell ⟨b, 2, none⟩ u2).setCell ⟨b, 3, none⟩ u3).setCell ⟨b, 4, none⟩ u4).setCell ⟨b, 5, none⟩ u5).cell? a1 = some v1 ∧ Below g w0 ((((((w.setCell ⟨b, 0, none⟩ u0).setCell ⟨b, 1, none⟩ u1).setCell ⟨b, 2, none⟩ u2).setCell ⟨b, 3, none⟩ u3).setCell ⟨b, 4, none⟩ u4).setCell ⟨b, 5, none⟩ u5) ∧ ResAt ((((((w.setCell ⟨b, 0, none⟩ u0).setCell ⟨b, 1, none⟩ u1).setCell ⟨b, 2, none⟩ u2).setCell ⟨b, 3, none⟩ u3).setCell ⟨b, 4, none⟩ u4).setCell ⟨b, 5, none⟩ u5) b 6 :=
  ⟨far_six_cell c0 n0, far_six_cell c1 n1, below_set6 hG hb _ _ _ _ _ _, (((((hR.set _).set _).set _).set _).set _).set _⟩
/-- A failure that was made. -/
def FailRet (no : Nat) (M : Msg) (nq : Nat) (w : World) (e : Ending) (w' : World) : Prop :=
  ∃ A c, e = .returned (.agg (msgA no (failF M.flags) A nq c none 0 0 none 0 0 none 0 0)) ∧ w'.ownsRow w.heap.size 62 3 (.slice A nq c) nq (qnCs M.qs) ∧ Below w.heap.size w w'
set_option maxHeartbeats 4000000 in
set_option maxRecDepth 100000 in
theorem fail_w (no : Nat) (M : Msg) (Aq Aa An Ax : Option Addr) (nq na nn nx cq ca cn cx B : Nat) (Za Zn Zx : List RecZ) (w : World) (hv : Hid (MsgV w B M Aq Aa An Ax nq na nn nx ca cn cx Za Zn Zx)) (hB : B ≤ w.heap.size) (hf : Hid (FewM M)) (hs : Hid (∀ q ∈ M.qs, q.name.length ≤ cloneMost)) :
    Calls Try.prog 34 #[.int .u16 no, .agg (msgA M.id M.flags Aq nq cq Aa na ca An nn cn Ax nx cx)] w (FailRet no M nq w) := by
  obtain ⟨id, hid⟩ : ∃ n, M.id = n := ⟨_, rfl⟩
  obtain ⟨fl, hfl⟩ : ∃ n, M.flags = n := ⟨_, rfl⟩
  obtain ⟨g, hg⟩ : ∃ g, w.heap.size = g := ⟨_, rfl⟩
  have hfb := hf.out.flags
  rw [hfl] at hfb
  unfold FailRet
  rw [hid, hfl, hg]
  rw [hg] at hB
  obtain ⟨wa, hwa⟩ : ∃ wa, w.alloc (.cells (msgA id fl Aq nq cq Aa na ca An nn cn Ax nx cx) 26) = wa := ⟨_, rfl⟩
  obtain ⟨wb, hwb⟩ : ∃ wb, wa.alloc (.cells #[.int .u16 0, .int .u16 0, .slice none 0 0, .slice none 0 0, .slice none 0 0, .slice none 0 0] 26) = wb := ⟨_, rfl⟩
  have hsa : wa.heap.size = g + 1 := by rw [← hwa, ← hg]; simp
  have hsb : wb.heap.size = g + 2 := by rw [← hwb]; simp [hsa]
  have hba : Below g w wa := by rw [← hwa, ← hg]; exact (Below.refl _ _).alloc (Nat.le_refl _) _
  have HBB : Hid (Below g w wb) := by rw [← hwb]; exact hba.alloc (by omega) _
  have hx0 : wa.heap[g]? = some (.cells (msgA id fl Aq nq cq Aa na ca An nn cn Ax nx cx) 26 (0, 0)) := by rw [← hwa, ← hg]; exact heap_alloc_new w _
  have hx : wb.heap[g]? = some (.cells (msgA id fl Aq nq cq Aa na ca An nn cn Ax nx cx) 26 (0, 0)) := by rw [← hwb]; exact old_at hx0
  have hy : wb.heap[g + 1]? = some (.cells #[.int .u16 0, .int .u16 0, .slice none 0 0, .slice none 0 0, .slice none 0 0, .slice none 0 0] 26 (0, 0)) := by rw [← hwb, ← hsa]; exact heap_alloc_new wa _
  have k1 := cell_of_row _ _ 1 _ _ _ hx
  have k2 := cell_of_row _ _ 2 _ _ _ hx
  obtain ⟨F, hF⟩ : ∃ F, failF fl = F := ⟨_, rfl⟩
  have ff := fail_flags hfb
  rw [hF] at ff
  have HFF := Lib.hid hF
  have h0 : Below g w wb.drew := HBB.out.drew
  have h1 : ResAt wb.drew (g + 1) 6 := ⟨_, _, hy, rfl⟩
  have n0 : g ≠ g + 1 := by omega
  have HCO := Lib.hid (fun W hs' h => copiedQ_held Aq cq nq M.qs B ⟨g, 1, none⟩ ⟨g, 2, none⟩ (.int .u16 fl) (.slice Aq nq cq) g (g + 1) w W hv.out.at_.q hB hv.out.eq (by have := hf.out.nq; have := hv.out.eq; omega) hs (g + 2) (by omega) hs' h)
  have HGR : Hid (∀ W : World, ResAt W (g + 1) 6 → g + 2 ≤ W.heap.size) := fun W h => by
    obtain ⟨_, _, hh, _⟩ := h
    have h2 : g + 1 < W.heap.size := (Array.getElem?_eq_some_iff.1 hh).1
    omega
  have HY := Lib.hid hy
  clear hba hx0 hx hy hF
  go_enter Try.func34, Try.ntmps34
  go_wp2_with fail
  go_region_held3 (fun w' => w'.cell? ⟨g, 1, none⟩ = some (.int .u16 fl) ∧ w'.cell? ⟨g, 2, none⟩ = some (.slice Aq nq cq) ∧ Below g w w' ∧ ResAt w' (g + 1) 6) (first | (go_keep; done) | exact fail_keep c0 c1 hG5 hR5 n0 n0 (Nat.le_succ g) _ _ _ _ _ _) (first | (go_at_call 77; (with_reducible refine (HCO.out _ (HGR.out _ ?_) ?_).mono ?_); (simp [*]); (simp [*]); rintro e w5 ⟨A', c', rfl, hO5, c0, c1, hG5, hR5⟩; obtain ⟨⟨y0, j0⟩, ⟨y1, j1⟩, ⟨y2, j2⟩, ⟨y3, j3⟩, ⟨y4, j4⟩, ⟨y5, j5⟩, jf⟩ := hR5.six))
  go_wp2_with fail
  refine bodyPost_ret (v := .agg (msgA no F A' nq c' none 0 0 none 0 0 none 0 0)) (by simp [results, Try.results34, go_sem, j0, j1, j2, j3, j4, j5]) rfl ⟨A', c', by rw [HFF.out], own_low' (own_six hO5 (by omega)) (by omega), below_set6 hG5 (Nat.le_succ _) _ _ _ _ _ _⟩
end Go.Proofs.Ytpmmjmnleoicjaa
