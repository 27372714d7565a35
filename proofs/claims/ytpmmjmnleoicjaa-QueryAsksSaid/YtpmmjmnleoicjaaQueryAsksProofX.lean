/- Texts of one proof, one behind the other: MsgFrame, QrRefAsk, QrRefFits. -/
import Derived.Test.YtpmmjmnleoicjaaProg
import Derived.Test.YtpmmjmnleoicjaaQueryFailsProofG1
import Derived.Test.YtpmmjmnleoicjaaBytes
import Derived.Test.YtpmmjmnleoicjaaStrs
import Derived.Test.YtpmmjmnleoicjaaNums
import Derived.Test.YtpmmjmnleoicjaaNameMath
import Derived.Test.YtpmmjmnleoicjaaMsgMath
import Derived.Test.YtpmmjmnleoicjaaRecMath
import Derived.Test.YtpmmjmnleoicjaaRecAt
import Derived.Test.YtpmmjmnleoicjaaQueryFailsProofG2
import Derived.Test.YtpmmjmnleoicjaaQueryFailsProofG3
import Derived.Test.YtpmmjmnleoicjaaQueryFailsProofG6
import Derived.Deep.Slices
import Derived.Deep.Fields
import Derived.ChangeSame
import Derived.ChangeSlices
import Derived.SliceStrings
import Derived.ProofKit
import Derived.OpenShut
import Derived.ShutString
import Derived.WalkKit
import Derived.Lib.Hide
import Derived.Outline
import Derived.IntWalk
import Derived.WalkSpells
import Derived.WalkLawsBesides
import Derived.Deep.RegionHeld3
import Derived.Deep.Draws
import Derived.Deep.Heap

/- How a message that came in reads. No condition. -/
namespace Go.Proofs.Ytpmmjmnleoicjaa
open Go.ChangeShapes Go.WideShapes Go.Deep Go.RowKit
open Bytes Strs Nums MsgMath RecMath

section
variable {H : Type} {enc : TypeId × Value → H} {P : Program} {w : World} {base : Nat} {spare : Nat → Bool} {held : Bool}
theorem open_row_fields {t e : TypeId} {fs : Array Field} {fuel : Nat} {cs : List Value} {x : DataW H × List MemPlace} (ht : P.underlying t = some (.slice e)) (he : P.underlying e = some (.struct fs))
    (hone : oneCellFields P fs = true) (hC : P.cellsOf e = fs.size) (h : DataW.trod enc P w base spare held fuel t cs = some x) :
    cs = [.slice none 0 0] ∨
    ∃ (a : Addr) (len cap : Nat), cs = [.slice (some a) len cap] ∧ len ≤ maxLen ∧
      ∀ i, i < len → ∃ n : Nat, ∀ (j : Nat) (f : Field), fs[j]? = some f → ∃ (v : Value) (y : DataW H × List MemPlace), w.cell? (a.add (i * fs.size + j)) = some v ∧ DataW.trod enc P w base spare held n f.type [v] = some y := by
  rcases open_slice ht h with h0 | ⟨a, len, cap, m, n, D, Pl, hcs, hb, hl, hm, hmm, hx, hi⟩
  · exact .inl h0.1
  · refine .inr ⟨a, len, cap, hcs, by omega, fun i him => ?_⟩
    obtain ⟨cs', hc, ht'⟩ := hi i (by rw [hmm]; split <;> omega)
    rw [hC] at hc
    obtain ⟨ys, n', hn', hy, hlen, hyl, hf⟩ := DataW.trod_struct he ht'
    obtain ⟨_, hcl, hat⟩ := World.cells?_some hc
    refine ⟨n', fun j f hj => ?_⟩
    obtain ⟨ho, hk⟩ := hone_of hone j f hj
    have hjl : j < fs.size := (Array.getElem?_eq_some_iff.1 hj).1
    have hcell := hat j hjl
    have hv : cs'[j]? = some (cs'[j]'(by omega)) := List.getElem?_eq_getElem (by omega)
    have h1 := hf j f hj
    rw [ho, hk] at h1
    have hone' : (cs'.drop j).take 1 = [cs'[j]'(by omega)] := by
      rw [List.drop_eq_getElem_cons (by omega)]
      rfl
    rw [hone'] at h1
    have hys : ys[j]? = some (ys[j]'(by omega)) := List.getElem?_eq_getElem (by omega)
    refine ⟨_, _, ?_, h1.trans hys⟩
    rw [← Go.Deep.add_add, hcell, hv]
end
section
variable {H : Type} {enc : TypeId × Value → H} {w : World} {base : Nat} {spare : Nat → Bool} {held : Bool} {fuel : Nat}
set_option maxRecDepth 100000 in
theorem came_qns {v : Value} {x : DataW H × List MemPlace} (h : DataW.trod enc Try.prog w base spare held fuel 23 [v] = some x) :
    ∃ A n c L, v = .slice A n c ∧ L.length = n ∧ n ≤ maxLen ∧ CellsAt w w.heap.size A (qnCs L) ∧ ∀ q ∈ L, q.name.length ≤ maxLen ∧ q.kind ≤ 65535 ∧ q.cls ≤ 65535 := by
  rcases open_row_fields Try.underlying23 Try.underlying62 (by kernel_rfl) (by kernel_rfl) h with hcs | ⟨a, len, cap, hcs, hl, hf⟩
  · injection hcs with hv
    exact ⟨none, 0, 0, [], hv, rfl, Nat.zero_le _, .inl rfl, fun q hq => by cases hq⟩
  · injection hcs with hv
    have hone : ∀ k, k < len → ∃ q : Qn, (w.cell? (a.add (k * 3)) = some (.string (mk q.name)) ∧ w.cell? (a.add (k * 3 + 1)) = some (.int .u16 q.kind) ∧ w.cell? (a.add (k * 3 + 2)) = some (.int .u16 q.cls)) ∧ q.name.length ≤ maxLen ∧ q.kind ≤ 65535 ∧ q.cls ≤ 65535 := by
      intro k hk
      obtain ⟨n, hfj⟩ := hf k hk
      obtain ⟨v0, y0, hc0, ht0⟩ := hfj 0 _ rfl
      obtain ⟨v1, y1, hc1, ht1⟩ := hfj 1 _ rfl
      obtain ⟨v2, y2, hc2, ht2⟩ := hfj 2 _ rfl
      obtain ⟨s, e0, _, hs⟩ := DataW.trod_string Try.underlying9 ht0
      obtain ⟨z1, e1, _, hz1⟩ := DataW.trod_int Try.underlying22 ht1
      obtain ⟨z2, e2, _, hz2⟩ := DataW.trod_int Try.underlying22 ht2
      injection e0 with e0
      injection e1 with e1
      injection e2 with e2
      subst e0 e1 e2
      obtain ⟨k1, rfl, hk1⟩ := wf_u16 hz1
      obtain ⟨k2, rfl, hk2⟩ := wf_u16 hz2
      refine ⟨⟨s.data.toList, k1, k2⟩, ⟨?_, hc1, hc2⟩, by rw [← Lib.size_eq]; exact hs, hk1, hk2⟩
      rw [mk_data]
      exact hc0
    obtain ⟨L, hL, hP⟩ := list_of len hone
    refine ⟨some a, len, cap, L, hv, hL, hl, ?_, fun q hq => ?_⟩
    · rcases Nat.eq_zero_or_pos len with h0 | hp
      · exact .inl (by rw [List.length_eq_zero_iff.1 (hL.trans h0)]; rfl)
      · obtain ⟨b, off, spot⟩ := a
        have hspot : spot = none := by
          have := (hP 0 (by omega)).1.1
          simpa [Addr.add] using World.cell?_spot this
        subst hspot
        refine .inr ⟨b, off, rfl, ?_, cells_of (m := 3) (by decide) (fun _ => rfl) (C := fun j => w.cell? ⟨b, off + j, none⟩) fun k hk j hj => ?_⟩
        · have := World.block_lt_of_cell? _ _ (hP 0 (by omega)).1.1
          rwa [Strs.add_block] at this
        · obtain ⟨⟨p0, p1, p2⟩, _⟩ := hP k hk
          rw [add_plain] at p0 p1 p2
          match j, hj with
          | 0, _ => exact p0
          | 1, _ => exact p1
          | 2, _ => exact p2
    · obtain ⟨k, hk, rfl⟩ := List.getElem_of_mem hq
      exact (hP k hk).2
set_option maxRecDepth 100000 in
theorem came_recs {v : Value} {x : DataW H × List MemPlace} (h : DataW.trod enc Try.prog w base spare held fuel 24 [v] = some x) :
    ∃ A n c Z, v = .slice A n c ∧ Z.length = n ∧ n ≤ maxLen ∧ CellsAt w w.heap.size A (recCs Z) ∧ ZAt w w.heap.size Z ∧ (A = none → c = 0) ∧ ∀ z ∈ Z, (z.1.name.length ≤ maxLen ∧ z.1.names.length ≤ maxLen ∧ z.1.nums.length ≤ maxLen ∧ z.1.texts.length ≤ maxLen ∧ z.1.kind ≤ 65535 ∧ z.1.cls ≤ 65535 ∧ z.1.ttl ≤ 4294967295) ∧ ∀ k, k < z.1.nums.length → z.1.nums.getD k 0 ≤ 4294967295 := by
  rcases open_row_fields Try.underlying24 Try.underlying60 (by kernel_rfl) (by kernel_rfl) h with hcs | ⟨a, len, cap, hcs, hl, hf⟩
  · injection hcs with hv
    exact ⟨none, 0, 0, [], hv, rfl, Nat.zero_le _, .inl rfl, fun q hq => (by cases hq), fun _ => rfl, fun q hq => by cases hq⟩
  · injection hcs with hv
    have hone : ∀ k, k < len → ∃ z : RecZ, (w.cell? (a.add (k * 7)) = some (.string (mk z.1.name)) ∧ w.cell? (a.add (k * 7 + 1)) = some (.int .u16 z.1.kind) ∧ w.cell? (a.add (k * 7 + 2)) = some (.int .u16 z.1.cls) ∧ w.cell? (a.add (k * 7 + 3)) = some (.int .u32 z.1.ttl) ∧ w.cell? (a.add (k * 7 + 4)) = some z.2.1 ∧ w.cell? (a.add (k * 7 + 5)) = some z.2.2.1 ∧ w.cell? (a.add (k * 7 + 6)) = some z.2.2.2) ∧ (∃ A1 c1 A2 c2 A3 c3, z.2.1 = .slice A1 z.1.names.length c1 ∧ z.2.2.1 = .slice A2 z.1.nums.length c2 ∧ z.2.2.2 = .slice A3 z.1.texts.length c3 ∧ RecAt w w.heap.size z.1 (mk z.1.name) z.1.kind z.1.cls z.1.ttl A1 z.1.names.length A2 z.1.nums.length A3 z.1.texts.length) ∧ (z.1.name.length ≤ maxLen ∧ z.1.names.length ≤ maxLen ∧ z.1.nums.length ≤ maxLen ∧ z.1.texts.length ≤ maxLen ∧ z.1.kind ≤ 65535 ∧ z.1.cls ≤ 65535 ∧ z.1.ttl ≤ 4294967295) ∧ ∀ k, k < z.1.nums.length → z.1.nums.getD k 0 ≤ 4294967295 := by
      intro k hk
      obtain ⟨n, hfj⟩ := hf k hk
      obtain ⟨v0, y0, hc0, ht0⟩ := hfj 0 _ rfl
      obtain ⟨v1, y1, hc1, ht1⟩ := hfj 1 _ rfl
      obtain ⟨v2, y2, hc2, ht2⟩ := hfj 2 _ rfl
      obtain ⟨v3, y3, hc3, ht3⟩ := hfj 3 _ rfl
      obtain ⟨v4, y4, hc4, ht4⟩ := hfj 4 _ rfl
      obtain ⟨v5, y5, hc5, ht5⟩ := hfj 5 _ rfl
      obtain ⟨v6, y6, hc6, ht6⟩ := hfj 6 _ rfl
      obtain ⟨s, e0, _, hs⟩ := DataW.trod_string Try.underlying9 ht0
      obtain ⟨z1, e1, _, hz1⟩ := DataW.trod_int Try.underlying22 ht1
      obtain ⟨z2, e2, _, hz2⟩ := DataW.trod_int Try.underlying22 ht2
      obtain ⟨z3, e3, _, hz3⟩ := DataW.trod_int Try.underlying50 ht3
      obtain ⟨A1, n1, c1, L1, rfl, hl1, hr1, hm1, _⟩ := came_texts ht4
      obtain ⟨A2, n2, c2, L2, rfl, hl2, hr2, hm2, _, hu2⟩ := came_nums ht5
      obtain ⟨A3, n3, c3, L3, rfl, hl3, hr3, hm3, _⟩ := came_texts ht6
      injection e0 with e0
      injection e1 with e1
      injection e2 with e2
      injection e3 with e3
      subst e0 e1 e2 e3
      obtain ⟨k1, rfl, hk1⟩ := wf_u16 hz1
      obtain ⟨k2, rfl, hk2⟩ := wf_u16 hz2
      obtain ⟨k3, rfl, hk3⟩ := wf_u32 hz3
      subst hl1 hl2 hl3
      refine ⟨(⟨s.data.toList, k1, k2, k3, L1, L2, L3⟩, .slice A1 L1.length c1, .slice A2 L2.length c2, .slice A3 L3.length c3), ⟨?_, hc1, hc2, hc3, hc4, hc5, hc6⟩, ⟨A1, c1, A2, c2, A3, c3, rfl, rfl, rfl, ⟨rfl, rfl, rfl, rfl, rfl, rfl, rfl, hr1, hr2, hr3⟩⟩, ⟨by simp only; rw [← Lib.size_eq]; exact hs, hm1, hm2, hm3, hk1, hk2, hk3⟩, hu2⟩
      simp only
      rw [mk_data]
      exact hc0
    obtain ⟨Z, hZ, hP⟩ := list_of len hone
    refine ⟨some a, len, cap, Z, hv, hZ, hl, ?_, fun z hz => ?_, fun e => (by cases e), fun z hz => ?_⟩
    · rcases Nat.eq_zero_or_pos len with h0 | hp
      · exact .inl (by rw [List.length_eq_zero_iff.1 (hZ.trans h0)]; rfl)
      · obtain ⟨b, off, spot⟩ := a
        have hspot : spot = none := by
          have := (hP 0 (by omega)).1.1
          simpa [Addr.add] using World.cell?_spot this
        subst hspot
        refine .inr ⟨b, off, rfl, ?_, cells_of (m := 7) (f := fun z : RecZ => recV z.1 z.2.1 z.2.2.1 z.2.2.2) (by decide) (fun _ => rfl) (C := fun j => w.cell? ⟨b, off + j, none⟩) fun k hk j hj => ?_⟩
        · have := World.block_lt_of_cell? _ _ (hP 0 (by omega)).1.1
          rwa [Strs.add_block] at this
        · obtain ⟨⟨p0, p1, p2, p3, p4, p5, p6⟩, _⟩ := hP k hk
          rw [add_plain] at p0 p1 p2 p3 p4 p5 p6
          match j, hj with
          | 0, _ => exact p0
          | 1, _ => exact p1
          | 2, _ => exact p2
          | 3, _ => exact p3
          | 4, _ => exact p4
          | 5, _ => exact p5
          | 6, _ => exact p6
    · obtain ⟨k, hk, rfl⟩ := List.getElem_of_mem hz
      exact (hP k hk).2.1
    · obtain ⟨k, hk, rfl⟩ := List.getElem_of_mem hz
      exact (hP k hk).2.2
/-- What is known of a message that came in. -/
structure CameMsg (w : World) (v : Value) (M : Msg) (Aq Aa An Ax : Option Addr) (cq ca cn cx : Nat) (Za Zn Zx : List RecZ) : Prop where
  val : v = .agg #[.int .u16 M.id, .int .u16 M.flags, .slice Aq M.qs.length cq, .slice Aa M.an.length ca, .slice An M.ns.length cn, .slice Ax M.ad.length cx]
  at_ : MsgAt w w.heap.size M Aq Aa An Ax Za Zn Zx
  nils : (Aa = none → ca = 0) ∧ (An = none → cn = 0) ∧ (Ax = none → cx = 0)
  id : M.id ≤ 65535
  flags : M.flags ≤ 65535
  lens : M.qs.length ≤ maxLen ∧ M.an.length ≤ maxLen ∧ M.ns.length ≤ maxLen ∧ M.ad.length ≤ maxLen
  qs : ∀ q ∈ M.qs, q.name.length ≤ maxLen ∧ q.kind ≤ 65535 ∧ q.cls ≤ 65535
  recs : ∀ R ∈ M.an ++ M.ns ++ M.ad, (R.name.length ≤ maxLen ∧ R.names.length ≤ maxLen ∧ R.nums.length ≤ maxLen ∧ R.texts.length ≤ maxLen ∧ R.kind ≤ 65535 ∧ R.cls ≤ 65535 ∧ R.ttl ≤ 4294967295) ∧ ∀ k, k < R.nums.length → R.nums.getD k 0 ≤ 4294967295
set_option maxRecDepth 100000 in
theorem came_msg {r : Reach} {b0 : Nat} {v : Value} {d : DataW H} {p : List MemPlace} (hv : Value.okWide Try.prog w r b0 26 v) (h : DataW.Trod enc Try.prog w base spare held 26 v d p) :
    ∃ M Aq Aa An Ax cq ca cn cx Za Zn Zx, CameMsg w v M Aq Aa An Ax cq ca cn cx Za Zn Zx := by
  obtain ⟨cs, rfl, hsz⟩ := okWide_struct Try.underlying26 hv
  obtain ⟨lst⟩ := cs
  match lst, hsz.trans (show Try.prog.cellsOf 26 = 6 by kernel_rfl) with
  | [a0, a1, a2, a3, a4, a5], _ =>
    obtain ⟨fuel, hf⟩ := h
    obtain ⟨xs, n, _, hx, _, hlen, hg⟩ := DataW.trod_struct Try.underlying26 hf
    match xs, hlen with
    | [y0, y1, y2, y3, y4, y5], _ =>
      have cs2 : Try.prog.cellsOf 22 = 1 := by kernel_rfl
      have cs4 : Try.prog.cellsOf 23 = 1 := by kernel_rfl
      have cs5 : Try.prog.cellsOf 24 = 1 := by kernel_rfl
      have g0 : DataW.trod enc Try.prog w base spare held n 22 [a0] = some y0 := by simpa [Value.cells, cs2] using hg 0 _ rfl
      have g1 : DataW.trod enc Try.prog w base spare held n 22 [a1] = some y1 := by simpa [Value.cells, cs2] using hg 1 _ rfl
      have g2 : DataW.trod enc Try.prog w base spare held n 23 [a2] = some y2 := by simpa [Value.cells, cs4] using hg 2 _ rfl
      have g3 : DataW.trod enc Try.prog w base spare held n 24 [a3] = some y3 := by simpa [Value.cells, cs5] using hg 3 _ rfl
      have g4 : DataW.trod enc Try.prog w base spare held n 24 [a4] = some y4 := by simpa [Value.cells, cs5] using hg 4 _ rfl
      have g5 : DataW.trod enc Try.prog w base spare held n 24 [a5] = some y5 := by simpa [Value.cells, cs5] using hg 5 _ rfl
      obtain ⟨z0, e0, _, hz0⟩ := DataW.trod_int Try.underlying22 g0
      obtain ⟨z1, e1, _, hz1⟩ := DataW.trod_int Try.underlying22 g1
      obtain ⟨Aq, nq, cq, L, rfl, hq1, hq2, hq3, hq4⟩ := came_qns g2
      obtain ⟨Aa, na, ca, Za, rfl, ha1, ha2, ha3, ha4, ha6, ha5⟩ := came_recs g3
      obtain ⟨An, nn, cn, Zn, rfl, hn1, hn2, hn3, hn4, hn6, hn5⟩ := came_recs g4
      obtain ⟨Ax, nx, cx, Zx, rfl, hx1, hx2, hx3, hx4, hx6, hx5⟩ := came_recs g5
      injection e0 with e0
      injection e1 with e1
      subst e0 e1
      obtain ⟨k0, rfl, hk0⟩ := wf_u16 hz0
      obtain ⟨k1, rfl, hk1⟩ := wf_u16 hz1
      subst hq1 ha1 hn1 hx1
      refine ⟨⟨k0, k1, L, Za.map (·.1), Zn.map (·.1), Zx.map (·.1)⟩, Aq, Aa, An, Ax, cq, ca, cn, cx, Za, Zn, Zx, by simp only [List.length_map], ⟨hq3, ha3, hn3, hx3, ha4, hn4, hx4, rfl, rfl, rfl⟩, ⟨ha6, hn6, hx6⟩, hk0, hk1, by simp only [List.length_map]; exact ⟨hq2, ha2, hn2, hx2⟩, hq4, fun R hR => ?_⟩
      simp only [List.mem_append, List.mem_map] at hR
      rcases hR with (⟨z, hz, rfl⟩ | ⟨z, hz, rfl⟩) | ⟨z, hz, rfl⟩
      · exact ha5 z hz
      · exact hn5 z hz
      · exact hx5 z hz
end
end Go.Proofs.Ytpmmjmnleoicjaa

/- The contracts of the document's DO, Ask, Make, Fits. For messages that can be gone through. -/
namespace Go.Proofs.Ytpmmjmnleoicjaa
open Go.RowKit Bytes Strs Nums NameMath MsgMath RecMath WrMath QrMath
set_option linter.unusedVariables false
set_option linter.unusedSimpArgs false

theorem firstR_dropq {k j : Nat} {L : List Rec} (hj : j < L.length) : firstR k (L.drop j) = if (L[j]).kind = k then L[j] else firstR k (L.drop (j + 1)) := by
  rw [List.drop_eq_getElem_cons hj]; rfl
set_option maxHeartbeats 2000000 in
set_option maxRecDepth 100000 in
theorem refDO_w (M : Msg) (Aq Aa An Ax : Option Addr) (nq na nn nx cq ca cn cx B : Nat) (Za Zn Zx : List RecZ) (q : Bool) (w : World) (hv : Hid (MsgV w B M Aq Aa An Ax nq na nn nx ca cn cx Za Zn Zx)) (hB : B ≤ w.heap.size) (hf : Hid (QM M)) (hq : Hid (doM M = q)) :
    Calls Try.prog 63 #[.agg (msgA M.id M.flags Aq nq cq Aa na ca An nn cn Ax nx cx)] w fun e w' => e = .returned (.bool q) ∧ Below w.heap.size w w' := by
  obtain ⟨id, hid⟩ : ∃ n, M.id = n := ⟨_, rfl⟩
  obtain ⟨fl, hfl⟩ : ∃ n, M.flags = n := ⟨_, rfl⟩
  obtain ⟨g, hg⟩ : ∃ g, w.heap.size = g := ⟨_, rfl⟩
  have hfb := hf.out.few.flags
  rw [hfl] at hfb
  rw [hid, hfl, hg]
  rw [hg] at hB
  obtain ⟨wa, hwa⟩ : ∃ wa, w.alloc (.cells (msgA id fl Aq nq cq Aa na ca An nn cn Ax nx cx) 26) = wa := ⟨_, rfl⟩
  have HA : Hid (Below g w wa) := by rw [← hwa, ← hg]; exact (Below.refl _ _).alloc (Nat.le_refl _) _
  have hx : wa.heap[g]? = some (.cells (msgA id fl Aq nq cq Aa na ca An nn cn Ax nx cx) 26 (0, 0)) := by rw [← hwa, ← hg]; exact heap_alloc_new w _
  have k5 := cell_of_row _ _ 5 _ _ _ hx
  have HVA := Lib.hid (hv.out.on (HA.out.mono hB) (Nat.le_refl B))
  have hnx : nx ≤ 1000 := by rw [← hv.out.ex]; exact hf.out.few.nx
  have HST : Hid (doB (firstR 41 (M.ad.drop 0)).ttl = q) := by rw [List.drop_zero]; exact hq.out
  clear hx hid hfl hq
  go_enter Try.func63, Try.ntmps63
  go_wp2_with fail
  go_loopw [3] (fun v wr => ∃ j : Nat, j ≤ nx ∧ v = .int .i64 j ∧ wr = wa ∧ Hid (doB (firstR 41 (M.ad.drop j)).ttl = q)) (fun v _ => nx - (intOf v).toNat)
  case atStart => exact ⟨0, Nat.zero_le _, rfl, (by first | rfl | trivial), HST⟩
  case round =>
    obtain ⟨j, hj, rfl, rfl, hH⟩ := hrel
    by_cases hlt : j < nx
    · have hkz : j < Zx.length := by rw [hv.out.rows.2.2.2.1]; exact hlt
      obtain ⟨br, ofr, A1, c1, A2, c2, A3, c3, rfl, hbr, hat, r0, r1, r2, r3, r4, r5, r6⟩ := recs_get HVA.out.at_.x HVA.out.at_.zx hkz
      obtain ⟨hkL, hkR⟩ := zmap hv.out.at_.ex hkz
      have hd := hH.out
      rw [firstR_dropq hkL, hkR] at hd
      have htb := (hf.out.recs _ (by unfold recsM; exact List.mem_append_right _ (List.getElem_mem hkL))).2.2.2
      rw [hkR] at htb
      obtain ⟨R, hR⟩ : ∃ R, (Zx[j]'hkz).1 = R := ⟨_, rfl⟩
      rw [hR] at r1 r3 hd htb
      obtain ⟨rk, hrk⟩ : ∃ k, R.kind = k := ⟨_, rfl⟩
      obtain ⟨rt, hrt⟩ : ∃ k, R.ttl = k := ⟨_, rfl⟩
      rw [hrk] at r1 hd
      rw [hrt] at r3 htb
      have HD := Lib.hid hd
      have HRT := Lib.hid hrt
      clear r0 r2 r4 r5 r6 hat hR hkR hkL hkz hd hH hrk hrt
      by_cases e1 : rk = 41
      · have hd := HD.out
        rw [if_pos e1, HRT.out] at hd
        have f3 : ((rt : Int) / 32768 % 2 == 1) = q := by
          rw [← hd]; unfold doB
          by_cases h : rt / 32768 % 2 = 1
          · rw [decide_eq_true h]; exact beq_iff_eq.2 (by omega)
          · rw [decide_eq_false h]; exact beq_eq_false_iff_ne.2 (by omega)
        have f2 : ((rk : Int) == 41) = true := beq_iff_eq.2 (by omega)
        clear e1 HD HRT hd
        go_wp2_with fail
        go_ret
        exact ⟨rfl, HA.out⟩
      · have hd := HD.out
        rw [if_neg e1] at hd
        have HD2 := Lib.hid hd
        have f2 : ((rk : Int) == 41) = false := beq_eq_false_iff_ne.2 (by omega)
        clear e1 HD HRT hd
        go_wp2_with fail
        go_roundw
        case rel => exact ⟨j + 1, by omega, by go_num, (by first | rfl | trivial), HD2.out⟩
        case measure => simp [intOf]; omega
    · have hd := hH.out
      rw [List.drop_of_length_le (by rw [hv.out.ex]; omega)] at hd
      obtain rfl : q = false := hd.symm
      have hjn : ¬ ((j : Int) < (nx : Int)) := by omega
      clear hlt hH hd
      go_wp2_with fail
      go_ret
      exact ⟨rfl, HA.out⟩
theorem held9r {f : FuncId} {args : Array Value} {ret : Value} (a0 a1 a2 a3 a4 a5 a6 a7 a8 : Addr) (v0 v1 v2 v3 v4 v5 v6 v7 v8 : Value) (g b : Nat) (w0 : World) (C : ∀ W, Below g w0 W → g ≤ W.heap.size → Calls Try.prog f args W fun e w' => e = .returned ret ∧ Below W.heap.size W w') (w : World) (hg : g ≤ w.heap.size) (hc : w.cell? a0 = some v0 ∧ w.cell? a1 = some v1 ∧ w.cell? a2 = some v2 ∧ w.cell? a3 = some v3 ∧ w.cell? a4 = some v4 ∧ w.cell? a5 = some v5 ∧ w.cell? a6 = some v6 ∧ w.cell? a7 = some v7 ∧ w.cell? a8 = some v8 ∧ Below g w0 w ∧ ResAt w b 4) :
    Calls Try.prog f args w fun e w' => e = .returned ret ∧ w'.cell? a0 = some v0 ∧ w'.cell? a1 = some v1 ∧ w'.cell? a2 = some v2 ∧ w'.cell? a3 = some v3 ∧ w'.cell? a4 = some v4 ∧ w'.cell? a5 = some v5 ∧ w'.cell? a6 = some v6 ∧ w'.cell? a7 = some v7 ∧ w'.cell? a8 = some v8 ∧ Below g w0 w' ∧ ResAt w' b 4 := by
  obtain ⟨h0, h1, h2, h3, h4, h5, h6, h7, h8, hH, cc, ty, hr, hn⟩ := hc
  refine (C w hH hg).mono ?_
  rintro e w' ⟨rfl, hB⟩
  have far : ∀ {a : Addr} {v : Value}, w.cell? a = some v → w'.cell? a = some v := fun h => (hB.cell (World.block_lt_of_cell? w _ h)).trans h
  exact ⟨rfl, far h0, far h1, far h2, far h3, far h4, far h5, far h6, far h7, far h8, hH.trans (hB.mono hg), cc, ty, (hB.block b (Array.getElem?_eq_some_iff.1 hr).1).trans hr, hn⟩
theorem ask_keep9 {w w0 : World} {a0 a1 a2 a3 a4 a5 a6 a7 a8 : Addr} {v0 v1 v2 v3 v4 v5 v6 v7 v8 : Value} {g b : Nat} (c0 : w.cell? a0 = some v0) (c1 : w.cell? a1 = some v1) (c2 : w.cell? a2 = some v2) (c3 : w.cell? a3 = some v3) (c4 : w.cell? a4 = some v4) (c5 : w.cell? a5 = some v5) (c6 : w.cell? a6 = some v6) (c7 : w.cell? a7 = some v7) (c8 : w.cell? a8 = some v8) (hG : Below g w0 w) (hR : ResAt w b 4) (n0 : a0.block ≠ b) (n1 : a1.block ≠ b) (n2 : a2.block ≠ b) (n3 : a3.block ≠ b) (n4 : a4.block ≠ b) (n5 : a5.block ≠ b) (n6 : a6.block ≠ b) (n7 : a7.block ≠ b) (n8 : a8.block ≠ b) (hb : g ≤ b) (u0 u1 u2 u3 : Value) :
    ((((w.setCell ⟨b, 0, none⟩ u0).setCell ⟨b, 1, none⟩ u1).setCell ⟨b, 2, none⟩ u2).setCell ⟨b, 3, none⟩ u3).cell? a0 = some v0 ∧ ((((w.setCell ⟨b, 0, none⟩ u0).setCell ⟨b, 1, none⟩ u1).setCell ⟨b, 2, none⟩ u2).setCell ⟨b, 3, none⟩ u3).cell? a1 = some v1 ∧ ((((w.setCell ⟨b, 0, none⟩ u0).setCell ⟨b, 1, none⟩ u1).setCell ⟨b, 2, none⟩ u2).setCell ⟨b, 3, none⟩ u3).cell? a2 = some v2 ∧ ((((w.setCell ⟨b, 0, none⟩ u0).setCell ⟨b, 1, none⟩ u1).setCell ⟨b, 2, none⟩ u2).setCell ⟨b, 3, none⟩ u3).cell? a3 = some v3 ∧ ((((w.setCell ⟨b, 0, none⟩ u0).setCell ⟨b, 1, none⟩ u1).setCell ⟨b, 2, none⟩ u2).setCell ⟨b, 3, none⟩ u3).cell? a4 = some v4 ∧ ((((w.setCell ⟨b, 0, none⟩ u0).setCell ⟨b, 1, none⟩ u1).setCell ⟨b, 2, none⟩ u2).setCell ⟨b, 3, none⟩ u3).cell? a5 = some v5 ∧ ((((w.setCell ⟨b, 0, none⟩ u0).setCell ⟨b, 1, none⟩ u1).setCell ⟨b, 2, none⟩ u2).setCell ⟨b, 3, none⟩ u3).cell? a6 = some v6 ∧ ((((w.setCell ⟨b, 0, none⟩ u0).setCell ⟨b, 1, none⟩ u1).setCell ⟨b, 2, none⟩ u2).setCell ⟨b, 3, none⟩ u3).cell? a7 = some v7 ∧ ((((w.setCell ⟨b, 0, none⟩ u0).setCell ⟨b, 1, none⟩ u1).setCell ⟨b, 2, none⟩ u2).setCell ⟨b, 3, none⟩ u3).cell? a8 = some v8 ∧ Below g w0 ((((w.setCell ⟨b, 0, none⟩ u0).setCell ⟨b, 1, none⟩ u1).setCell ⟨b, 2, none⟩ u2).setCell ⟨b, 3, none⟩ u3) ∧ ResAt ((((w.setCell ⟨b, 0, none⟩ u0).setCell ⟨b, 1, none⟩ u1).setCell ⟨b, 2, none⟩ u2).setCell ⟨b, 3, none⟩ u3) b 4 :=
  ⟨far_four c0 n0, far_four c1 n1, far_four c2 n2, far_four c3 n3, far_four c4 n4, far_four c5 n5, far_four c6 n6, far_four c7 n7, far_four c8 n8, below_set4 hG hb _ _ _ _, (((hR.set _).set _).set _).set _⟩
set_option maxHeartbeats 8000000 in
set_option maxRecDepth 100000 in
theorem refAsk_w (M : Msg) (Aq Aa An Ax : Option Addr) (nq na nn nx cq ca cn cx B : Nat) (Za Zn Zx : List RecZ) (O : Option Ky) (w : World) (hv : Hid (MsgV w B M Aq Aa An Ax nq na nn nx ca cn cx Za Zn Zx)) (hB : B ≤ w.heap.size) (hf : Hid (QM M)) (hO : Hid (askM M = O)) :
    Calls Try.prog 24 #[.agg (msgA M.id M.flags Aq nq cq Aa na ca An nn cn Ax nx cx)] w fun e w' => AskRet O e ∧ Below w.heap.size w w' := by
  obtain ⟨id, hid⟩ : ∃ n, M.id = n := ⟨_, rfl⟩
  obtain ⟨fl, hfl⟩ : ∃ n, M.flags = n := ⟨_, rfl⟩
  obtain ⟨g, hg⟩ : ∃ g, w.heap.size = g := ⟨_, rfl⟩
  have hfb := hf.out.few.flags
  rw [hfl] at hfb
  rw [hid, hfl, hg]
  rw [hg] at hB
  obtain ⟨wa, hwa⟩ : ∃ wa, w.alloc (.cells (msgA id fl Aq nq cq Aa na ca An nn cn Ax nx cx) 26) = wa := ⟨_, rfl⟩
  obtain ⟨wb, hwb⟩ : ∃ wb, wa.alloc (.cells #[.string ⟨#[]⟩, .int .u16 0, .int .u16 0, .bool false] 42) = wb := ⟨_, rfl⟩
  have hsa : wa.heap.size = g + 1 := by rw [← hwa, ← hg]; simp
  have hsb : wb.heap.size = g + 2 := by rw [← hwb]; simp [hsa]
  have hba : Below g w wa := by rw [← hwa, ← hg]; exact (Below.refl _ _).alloc (Nat.le_refl _) _
  have HBB : Hid (Below g w wb) := by rw [← hwb]; exact hba.alloc (by omega) _
  have hx0 : wa.heap[g]? = some (.cells (msgA id fl Aq nq cq Aa na ca An nn cn Ax nx cx) 26 (0, 0)) := by rw [← hwa, ← hg]; exact heap_alloc_new w _
  have hx : wb.heap[g]? = some (.cells (msgA id fl Aq nq cq Aa na ca An nn cn Ax nx cx) 26 (0, 0)) := by rw [← hwb]; exact old_at hx0
  have hy : wb.heap[g + 1]? = some (.cells #[.string ⟨#[]⟩, .int .u16 0, .int .u16 0, .bool false] 42 (0, 0)) := by rw [← hwb, ← hsa]; exact heap_alloc_new wa _
  have HX := Lib.hid hx
  have HY := Lib.hid hy
  have HSB := Lib.hid hsb
  have HV := Lib.hid (hv.out.on (HBB.out.mono hB) (Nat.le_refl B))
  have k0 := cell_of_row _ _ 0 _ _ _ hx
  have k1 := cell_of_row _ _ 1 _ _ _ hx
  have k2 := cell_of_row _ _ 2 _ _ _ hx
  have k3 := cell_of_row _ _ 3 _ _ _ hx
  have k4 := cell_of_row _ _ 4 _ _ _ hx
  have k5 := cell_of_row _ _ 5 _ _ _ hx
  have hO' := hO.out
  have HID := Lib.hid hid
  have HFL := Lib.hid hfl
  clear hba hx0 hx hy hO hid
  obtain ⟨b1, hb1⟩ : ∃ b, decide (32768 ≤ fl) = b := ⟨_, rfl⟩
  have HQR := Lib.hid (fun w => refQr_any fl b1 w hb1)
  obtain ⟨E, hE⟩ : ∃ E, opc fl = E := ⟨_, rfl⟩
  have HOP := Lib.hid (fun w => refOpcode_any fl E w hfb hE)
  go_enter Try.func24, Try.ntmps24
  go_wp2_with fail
  refine (HQR.out _).mono ?_
  rintro e w' ⟨rfl, rfl⟩
  cases b1 with
  | true =>
    have HON : Hid (O = none) := by show _ = _; rw [← hO']; exact askM_no (fun h => by have := of_decide_eq_true hb1; have := h.1; omega)
    clear hb1 HOP hO' hfl HQR
    have hyw := HY.out
    have j0 := cell_of_row _ _ 0 _ _ _ hyw
    have j1 := cell_of_row _ _ 1 _ _ _ hyw
    have j2 := cell_of_row _ _ 2 _ _ _ hyw
    have j3 := cell_of_row _ _ 3 _ _ _ hyw
    have jf : ∀ i, wb.frozen? ⟨g + 1, i, none⟩ = false := fun i => by simp [World.frozen?, hyw]
    clear hyw
    go_wp2_with fail
    refine bodyPost_ret (v := .tuple #[.agg #[.string ⟨#[]⟩, .int .u16 0, .int .u16 0, .bool false], .int .i64 107]) (by simp [results, Try.results24, go_sem, j0, j1, j2, j3]) rfl ⟨by rw [HON.out]; rfl, below_set4 HBB.out (Nat.le_succ _) _ _ _ _⟩
  | false =>
    have hb1' := of_decide_eq_false hb1
    go_wp2_with fail
    refine (HOP.out _).mono ?_
    rintro e w' ⟨rfl, rfl⟩
    clear HOP HQR hb1
    by_cases hE0 : E = 0
    case neg =>
      have HON : Hid (O = none) := by show _ = _; rw [← hO']; exact askM_no (fun h => by have := h.2.1; rw [hfl] at this; omega)
      have f2 : ((E : Int) != 0) = true := bne_iff_ne.2 (by omega)
      clear hO' hfl hE hE0
      have hyw := HY.out
      have j0 := cell_of_row _ _ 0 _ _ _ hyw
      have j1 := cell_of_row _ _ 1 _ _ _ hyw
      have j2 := cell_of_row _ _ 2 _ _ _ hyw
      have j3 := cell_of_row _ _ 3 _ _ _ hyw
      have jf : ∀ i, wb.frozen? ⟨g + 1, i, none⟩ = false := fun i => by simp [World.frozen?, hyw]
      clear hyw
      go_wp2_with fail
      refine bodyPost_ret (v := .tuple #[.agg #[.string ⟨#[]⟩, .int .u16 0, .int .u16 0, .bool false], .int .i64 107]) (by simp [results, Try.results24, go_sem, j0, j1, j2, j3]) rfl ⟨by rw [HON.out]; rfl, below_set4 HBB.out (Nat.le_succ _) _ _ _ _⟩
    subst hE0
    by_cases hq1 : nq = 1
    case neg =>
      have HON : Hid (O = none) := by show _ = _; rw [← hO']; exact askM_no (fun h => by have := h.2.2.1; have := hv.out.eq; omega)
      have f2 : ((nq : Int) != 1) = true := bne_iff_ne.2 (by omega)
      clear hO' hfl hE hq1
      have hyw := HY.out
      have j0 := cell_of_row _ _ 0 _ _ _ hyw
      have j1 := cell_of_row _ _ 1 _ _ _ hyw
      have j2 := cell_of_row _ _ 2 _ _ _ hyw
      have j3 := cell_of_row _ _ 3 _ _ _ hyw
      have jf : ∀ i, wb.frozen? ⟨g + 1, i, none⟩ = false := fun i => by simp [World.frozen?, hyw]
      clear hyw
      go_wp2_with fail
      refine bodyPost_ret (v := .tuple #[.agg #[.string ⟨#[]⟩, .int .u16 0, .int .u16 0, .bool false], .int .i64 107]) (by simp [results, Try.results24, go_sem, j0, j1, j2, j3]) rfl ⟨by rw [HON.out]; rfl, below_set4 HBB.out (Nat.le_succ _) _ _ _ _⟩
    subst hq1
    by_cases ha1 : na = 0
    case neg =>
      have HON : Hid (O = none) := by show _ = _; rw [← hO']; exact askM_no (fun h => by have := h.2.2.2.1; have := hv.out.ea; omega)
      have f2 : (0 : Int) < (na : Int) := by omega
      clear hO' hfl hE ha1
      have hyw := HY.out
      have j0 := cell_of_row _ _ 0 _ _ _ hyw
      have j1 := cell_of_row _ _ 1 _ _ _ hyw
      have j2 := cell_of_row _ _ 2 _ _ _ hyw
      have j3 := cell_of_row _ _ 3 _ _ _ hyw
      have jf : ∀ i, wb.frozen? ⟨g + 1, i, none⟩ = false := fun i => by simp [World.frozen?, hyw]
      clear hyw
      go_wp2_with fail
      refine bodyPost_ret (v := .tuple #[.agg #[.string ⟨#[]⟩, .int .u16 0, .int .u16 0, .bool false], .int .i64 107]) (by simp [results, Try.results24, go_sem, j0, j1, j2, j3]) rfl ⟨by rw [HON.out]; rfl, below_set4 HBB.out (Nat.le_succ _) _ _ _ _⟩
    subst ha1
    by_cases hn1 : nn = 0
    case neg =>
      have HON : Hid (O = none) := by show _ = _; rw [← hO']; exact askM_no (fun h => by have := h.2.2.2.2; have := hv.out.en; omega)
      have f2 : (0 : Int) < (nn : Int) := by omega
      clear hO' hfl hE hn1
      have hyw := HY.out
      have j0 := cell_of_row _ _ 0 _ _ _ hyw
      have j1 := cell_of_row _ _ 1 _ _ _ hyw
      have j2 := cell_of_row _ _ 2 _ _ _ hyw
      have j3 := cell_of_row _ _ 3 _ _ _ hyw
      have jf : ∀ i, wb.frozen? ⟨g + 1, i, none⟩ = false := fun i => by simp [World.frozen?, hyw]
      clear hyw
      go_wp2_with fail
      refine bodyPost_ret (v := .tuple #[.agg #[.string ⟨#[]⟩, .int .u16 0, .int .u16 0, .bool false], .int .i64 107]) (by simp [results, Try.results24, go_sem, j0, j1, j2, j3]) rfl ⟨by rw [HON.out]; rfl, below_set4 HBB.out (Nat.le_succ _) _ _ _ _⟩
    subst hn1
    obtain ⟨q, hqs⟩ : ∃ q, M.qs = [q] := List.length_eq_one_iff.1 hv.out.eq
    have hpl : plainQ M = true := decide_eq_true ⟨by rw [hfl]; omega, by rw [hfl]; exact hE, hv.out.eq, hv.out.ea, hv.out.en⟩
    have hask := askM_one hpl hqs
    rw [hO'] at hask
    have hl0 : 0 < M.qs.length := by rw [hqs]; exact Nat.zero_lt_one
    obtain ⟨bq, off, rfl, hbq, p0, p1, p2⟩ := HV.out.at_.q.qn hl0
    have hgq : M.qs[0] = q := by simp [hqs]
    rw [hgq] at p0 p1 p2
    simp only [Nat.zero_mul, Nat.add_zero] at p0 p1 p2
    have hqb := hf.out.few.qs q (by rw [hqs]; exact List.mem_singleton_self _)
    have HASK := Lib.hid hask
    obtain ⟨x, hx⟩ : ∃ x, mk q.name = x := ⟨_, rfl⟩
    obtain ⟨qk, hqk⟩ : ∃ k, q.kind = k := ⟨_, rfl⟩
    obtain ⟨qc, hqc⟩ : ∃ k, q.cls = k := ⟨_, rfl⟩
    rw [hx] at p0
    rw [hqk] at p1
    rw [hqc] at p2
    have hxl : x.data.toList = q.name := by rw [← hx, mk_list]
    have hxs : x.size ≤ maxLen := by rw [Lib.size_eq, hxl]; exact hqb.1
    obtain ⟨w2, hw2⟩ : ∃ w2, wb.alloc (.cells #[.string x, .int .u16 qk, .int .u16 qc] 62) = w2 := ⟨_, rfl⟩
    have n2 : Below (g + 2) wb w2 := by rw [← hw2, ← hsb]; exact (Below.refl _ _).alloc (Nat.le_refl _) _
    have HZ : Hid (w2.heap[g + 2]? = some (.cells #[.string x, .int .u16 qk, .int .u16 qc] 62 (0, 0))) := by rw [← hw2, ← hsb]; exact heap_alloc_new wb _
    have S2 : Hid (w2.heap.size = g + 3) := by show _ = _; rw [← hw2]; simp [hsb]
    have K2 : Hid (Below (g + 2) wb w2) := n2
    have V2 : Hid (Below g w w2) := HBB.out.trans (K2.out.mono (by omega))
    have HW2 := Lib.hid hw2
    have i0 : (0 : Int) < ((1 : Nat) : Int) := by decide
    clear n2 hgq hl0 hask hw2
    go_upto_region 4 with fail
    rw [HW2.out]
    clear hwa hwb hsa hsb
    have m0 := cell_of_row _ _ 0 _ _ _ HZ.out
    have m1 := cell_of_row _ _ 1 _ _ _ HZ.out
    have m2 := cell_of_row _ _ 2 _ _ _ HZ.out
    by_cases hk41 : qk = 41
    case pos =>
      have HON : Hid (O = none) := by show _ = _; rw [HASK.out, if_pos (.inl (hqk.trans hk41))]
      have f2 : ((qk : Int) == 41) = true := beq_iff_eq.2 (by omega)
      clear hk41 hqk hqc p0 p1 p2 k0 k1 k2 k3 k4 k5
      have hyw := (K2.out.block (g + 1) (by omega)).trans HY.out
      have j0 := cell_of_row _ _ 0 _ _ _ hyw
      have j1 := cell_of_row _ _ 1 _ _ _ hyw
      have j2 := cell_of_row _ _ 2 _ _ _ hyw
      have j3 := cell_of_row _ _ 3 _ _ _ hyw
      have jf : ∀ i, w2.frozen? ⟨g + 1, i, none⟩ = false := fun i => by simp [World.frozen?, hyw]
      clear hyw
      go_wp2_with fail
      refine bodyPost_ret (v := .tuple #[.agg #[.string ⟨#[]⟩, .int .u16 0, .int .u16 0, .bool false], .int .i64 107]) (by simp [results, Try.results24, go_sem, j0, j1, j2, j3]) rfl ⟨by rw [HON.out]; rfl, below_set4 V2.out (Nat.le_succ _) _ _ _ _⟩
    have f2 : ((qk : Int) == 41) = false := beq_eq_false_iff_ne.2 (by omega)
    obtain ⟨bn, hbn⟩ : ∃ b, isN q.name = b := ⟨_, rfl⟩
    have hbx : isN x.data.toList = bn := by rw [hxl]; exact hbn
    have HIS := Lib.hid (fun w => refIs_w x bn w hxs hbx)
    clear k0 k1 k2 k3 k4 k5 p0 p1 p2
    go_wp2_with fail
    refine (HIS.out _).mono ?_
    rintro e w3 ⟨rfl, n3⟩
    rw [S2.out] at n3
    have K3 : Hid (Below (g + 2) wb w3) := K2.out.trans (n3.mono (Nat.le_succ _))
    have V3 : Hid (Below g w w3) := HBB.out.trans (K3.out.mono (by omega))
    have HZ3 := Lib.hid ((n3.block (g + 2) (Nat.lt_succ_self _)).trans HZ.out)
    clear n3 m0 m1 m2
    cases bn with
    | false =>
      have HON : Hid (O = none) := by show _ = _; rw [HASK.out, if_pos (.inr hbn)]
      clear hqk hqc hbn hbx HIS
      have hyw := (K3.out.block (g + 1) (by omega)).trans HY.out
      have j0 := cell_of_row _ _ 0 _ _ _ hyw
      have j1 := cell_of_row _ _ 1 _ _ _ hyw
      have j2 := cell_of_row _ _ 2 _ _ _ hyw
      have j3 := cell_of_row _ _ 3 _ _ _ hyw
      have jf : ∀ i, w3.frozen? ⟨g + 1, i, none⟩ = false := fun i => by simp [World.frozen?, hyw]
      clear hyw
      go_wp2_with fail
      refine bodyPost_ret (v := .tuple #[.agg #[.string ⟨#[]⟩, .int .u16 0, .int .u16 0, .bool false], .int .i64 107]) (by simp [results, Try.results24, go_sem, j0, j1, j2, j3]) rfl ⟨by rw [HON.out]; rfl, below_set4 V3.out (Nat.le_succ _) _ _ _ _⟩
    | true =>
    have hx3 := (K3.out.block g (by omega)).trans HX.out
    clear HIS hbx
    obtain ⟨z, hz⟩ : ∃ z, doM M = z := ⟨_, rfl⟩
    have HON : Hid (O = some ⟨foldN q.name, qk, qc, z⟩) := by
      show _ = _
      rw [HASK.out, if_neg (by rw [hqk, hbn]; simp; omega), hqk, hqc, hz]
    obtain ⟨t, ht⟩ : ∃ t, mk (foldN q.name) = t := ⟨_, rfl⟩
    have htx : mk (foldN x.data.toList) = t := by rw [hxl]; exact ht
    have HMD := fun W (h : Below g w W) (hs : g ≤ W.heap.size) => refDO_w M (some ⟨bq, off, none⟩) Aa An Ax 1 0 0 nx cq ca cn cx B Za Zn Zx z W (hv.out.on (h.mono hB) (Nat.le_refl _)) (by omega) hf hz
    rw [HID.out, HFL.out] at HMD
    have q0 := cell_of_row _ _ 0 _ _ _ HZ3.out
    have q1 := cell_of_row _ _ 1 _ _ _ HZ3.out
    have q2 := cell_of_row _ _ 2 _ _ _ HZ3.out
    have k0 := cell_of_row _ _ 0 _ _ _ hx3
    have k1 := cell_of_row _ _ 1 _ _ _ hx3
    have k2 := cell_of_row _ _ 2 _ _ _ hx3
    have k3 := cell_of_row _ _ 3 _ _ _ hx3
    have k4 := cell_of_row _ _ 4 _ _ _ hx3
    have k5 := cell_of_row _ _ 5 _ _ _ hx3
    have h0 : Below g w w3.drew := V3.out.drew
    have h1 : ResAt w3.drew (g + 1) 4 := ⟨_, _, (K3.out.block (g + 1) (by omega)).trans HY.out, rfl⟩
    have HFO := Lib.hid (fun W hs h => held9r ⟨g + 2, 0, none⟩ ⟨g + 2, 1, none⟩ ⟨g + 2, 2, none⟩ ⟨g, 0, none⟩ ⟨g, 1, none⟩ ⟨g, 2, none⟩ ⟨g, 3, none⟩ ⟨g, 4, none⟩ ⟨g, 5, none⟩ (.string x) (.int .u16 qk) (.int .u16 qc) (.int .u16 id) (.int .u16 fl) (.slice (some ⟨bq, off, none⟩) 1 cq) (.slice Aa 0 ca) (.slice An 0 cn) (.slice Ax nx cx) g (g + 1) w (fun W hb hs => refFold_w x t W hxs htx) W hs h)
    have HDO := Lib.hid (fun W hs h => held9r ⟨g + 2, 0, none⟩ ⟨g + 2, 1, none⟩ ⟨g + 2, 2, none⟩ ⟨g, 0, none⟩ ⟨g, 1, none⟩ ⟨g, 2, none⟩ ⟨g, 3, none⟩ ⟨g, 4, none⟩ ⟨g, 5, none⟩ (.string x) (.int .u16 qk) (.int .u16 qc) (.int .u16 id) (.int .u16 fl) (.slice (some ⟨bq, off, none⟩) 1 cq) (.slice Aa 0 ca) (.slice An 0 cn) (.slice Ax nx cx) g (g + 1) w HMD W hs h)
    have HGW : Hid (∀ W : World, W.cell? ⟨g + 2, 0, none⟩ = some (.string x) → g ≤ W.heap.size) := fun W h => by have h2 : g + 2 < W.heap.size := World.block_lt_of_cell? W _ h; omega
    have HT := Lib.hid ht
    have ne1 : g + 2 ≠ g + 1 := by omega
    have ne2 : g ≠ g + 1 := by omega
    clear hx3 hqk hqc hbn ht htx hz HMD
    go_wp2_with fail
    go_region_held3 (fun w' => w'.cell? ⟨g + 2, 0, none⟩ = some (.string x) ∧ w'.cell? ⟨g + 2, 1, none⟩ = some (.int .u16 qk) ∧ w'.cell? ⟨g + 2, 2, none⟩ = some (.int .u16 qc) ∧ w'.cell? ⟨g, 0, none⟩ = some (.int .u16 id) ∧ w'.cell? ⟨g, 1, none⟩ = some (.int .u16 fl) ∧ w'.cell? ⟨g, 2, none⟩ = some (.slice (some ⟨bq, off, none⟩) 1 cq) ∧ w'.cell? ⟨g, 3, none⟩ = some (.slice Aa 0 ca) ∧ w'.cell? ⟨g, 4, none⟩ = some (.slice An 0 cn) ∧ w'.cell? ⟨g, 5, none⟩ = some (.slice Ax nx cx) ∧ Below g w w' ∧ ResAt w' (g + 1) 4) (first | (go_keep; done) | exact ask_keep9 c0 c1 c2 c3 c4 c5 c6 c7 c8 hGG hRR ne1 ne1 ne1 ne2 ne2 ne2 ne2 ne2 ne2 (Nat.le_succ g) _ _ _ _) (first | (go_at_call 40; (with_reducible refine (HFO.out _ (HGW.out _ ?_) ?_).mono ?_); (simp [*]); (simp [*]); rintro e w5 ⟨rfl, c0, c1, c2, c3, c4, c5, c6, c7, c8, hGG, hRR⟩; obtain ⟨⟨y0, j0⟩, ⟨y1, j1⟩, ⟨y2, j2⟩, ⟨y3, j3⟩, jf⟩ := hRR.four) | (go_at_call 63; (with_reducible refine (HDO.out _ (HGW.out _ ?_) ?_).mono ?_); (simp [*]); (simp [*]); rintro e w5 ⟨rfl, c0, c1, c2, c3, c4, c5, c6, c7, c8, hGG, hRR⟩; obtain ⟨⟨y0, j0⟩, ⟨y1, j1⟩, ⟨y2, j2⟩, ⟨y3, j3⟩, jf⟩ := hRR.four))
    go_wp2_with fail
    refine bodyPost_ret (v := .tuple #[.agg #[.string t, .int .u16 qk, .int .u16 qc, .bool z], .int .i64 0]) (by simp [results, Try.results24, go_sem, j0, j1, j2, j3]) rfl ⟨by rw [HON.out]; show _ = _; rw [HT.out], below_set4 hGG (Nat.le_succ _) _ _ _ _⟩
end Go.Proofs.Ytpmmjmnleoicjaa

/- The contracts of the document's Make, Fits. For messages that can be gone through. -/
namespace Go.Proofs.Ytpmmjmnleoicjaa
open Go.RowKit Bytes Strs Nums NameMath MsgMath RecMath WrMath QrMath
set_option linter.unusedVariables false
set_option linter.unusedSimpArgs false

set_option maxHeartbeats 8000000 in
set_option maxRecDepth 100000 in
theorem refMake_is (id : Nat) (x : ByteArray) (k l : Nat) (d : Bool) (w : World) (hs : x.size ≤ 1000000) :
    Calls Try.prog 26 #[.int .u16 id, .agg (kyA x k l d)] w (MadeQ (makeM id ⟨x.data.toList, k, l, d⟩) w.heap.size w) := by
  obtain ⟨g, hg⟩ : ∃ g, w.heap.size = g := ⟨_, rfl⟩
  rw [hg]
  obtain ⟨wa, hwa⟩ : ∃ wa, w.alloc (.cells (kyA x k l d) 42) = wa := ⟨_, rfl⟩
  obtain ⟨wb, hwb⟩ : ∃ wb, wa.alloc (.cells #[.int .u16 0, .int .u16 0, .slice none 0 0, .slice none 0 0, .slice none 0 0, .slice none 0 0] 26) = wb := ⟨_, rfl⟩
  have hsa : wa.heap.size = g + 1 := by rw [← hwa, ← hg]; simp
  have hsb : wb.heap.size = g + 2 := by rw [← hwb]; simp [hsa]
  have hba : Below g w wa := by rw [← hwa, ← hg]; exact (Below.refl _ _).alloc (Nat.le_refl _) _
  have HBB : Hid (Below g w wb) := by rw [← hwb]; exact hba.alloc (by omega) _
  have hx0 : wa.heap[g]? = some (.cells (kyA x k l d) 42 (0, 0)) := by rw [← hwa, ← hg]; exact heap_alloc_new w _
  have HX : Hid (wb.heap[g]? = some (.cells (kyA x k l d) 42 (0, 0))) := by rw [← hwb]; exact old_at hx0
  have HY : Hid (wb.heap[g + 1]? = some (.cells #[.int .u16 0, .int .u16 0, .slice none 0 0, .slice none 0 0, .slice none 0 0, .slice none 0 0] 26 (0, 0))) := by rw [← hwb, ← hsa]; exact heap_alloc_new wa _
  have k0 := cell_of_row _ _ 0 _ _ _ HX.out
  have k1 := cell_of_row _ _ 1 _ _ _ HX.out
  have k2 := cell_of_row _ _ 2 _ _ _ HX.out
  have k3 := cell_of_row _ _ 3 _ _ _ HX.out
  clear hba hx0
  have HSB := Lib.hid hsb
  go_enter Try.func26, Try.ntmps26
  have K4 : Hid (Below (g + 2) wb wb) := Below.refl _ _
  go_upto_region 1 with fail
  clear hwa hwb hsa hsb
  obtain ⟨b2, hb2⟩ : ∃ b, wb.heap.size = b := ⟨_, rfl⟩
  obtain ⟨w5, hw5⟩ : ∃ v, wb.alloc (.cells #[.string x, .int .u16 k, .int .u16 l] 62) = v := ⟨_, rfl⟩
  have S5 : w5.heap.size = b2 + 1 := by rw [← hw5, ← hb2]; simp
  have n5 : Below b2 wb w5 := by rw [← hw5, ← hb2]; exact (Below.refl _ _).alloc (Nat.le_refl _) _
  have HN5 : Hid (w5.heap[b2]? = some (.cells #[.string x, .int .u16 k, .int .u16 l] 62 (0, 0))) := by rw [← hw5, ← hb2]; exact heap_alloc_new wb _
  obtain ⟨w6, hw6⟩ : ∃ v, w5.alloc (.cells #[.int .u16 id, .int .u16 256, .slice (some ⟨b2, 0, none⟩) 1 1, .slice none 0 0, .slice none 0 0, .slice none 0 0] 26) = v := ⟨_, rfl⟩
  have S6 : w6.heap.size = b2 + 2 := by rw [← hw6]; simp [S5]
  have n6 : Below (b2 + 1) w5 w6 := by rw [← hw6, ← S5]; exact (Below.refl _ _).alloc (Nat.le_refl _) _
  have HM6 : Hid (w6.heap[b2 + 1]? = some (.cells #[.int .u16 id, .int .u16 256, .slice (some ⟨b2, 0, none⟩) 1 1, .slice none 0 0, .slice none 0 0, .slice none 0 0] 26 (0, 0))) := by rw [← hw6, ← S5]; exact heap_alloc_new w5 _
  have G12 : Hid (g + 2 ≤ b2) := by rw [← hb2, HSB.out]; exact Nat.le_refl _
  have HN6 : Hid (w6.heap[b2]? = some (.cells #[.string x, .int .u16 k, .int .u16 l] 62 (0, 0))) := (n6.block b2 (Nat.lt_succ_self b2)).trans HN5.out
  have K6 : Hid (Below (g + 2) wb w6) := (K4.out.trans (n5.mono (by have := G12.out; omega))).trans (n6.mono (by have := G12.out; omega))
  have HW5 := Lib.hid hw5
  have HW6 := Lib.hid hw6
  have SS6 := Lib.hid S6
  have HX6 := Lib.hid ((K6.out.block g (by omega)).trans HX.out)
  have HY6 := Lib.hid ((K6.out.block (g + 1) (by omega)).trans HY.out)
  clear n5 n6 hw6
  go_upto_region 2 with fail
  rw [HW6.out]
  clear hb2 hw5 S5 S6 k0 k1 k2 k3
  have k3 := cell_of_row _ _ 3 _ _ _ HX6.out
  cases d with
  | false =>
    have e0 := cell_of_row _ _ 0 _ _ _ HM6.out
    have e1 := cell_of_row _ _ 1 _ _ _ HM6.out
    have e2 := cell_of_row _ _ 2 _ _ _ HM6.out
    have e3 := cell_of_row _ _ 3 _ _ _ HM6.out
    have e4 := cell_of_row _ _ 4 _ _ _ HM6.out
    have e5 := cell_of_row _ _ 5 _ _ _ HM6.out
    have j0 := cell_of_row _ _ 0 _ _ _ HY6.out
    have j1 := cell_of_row _ _ 1 _ _ _ HY6.out
    have j2 := cell_of_row _ _ 2 _ _ _ HY6.out
    have j3 := cell_of_row _ _ 3 _ _ _ HY6.out
    have j4 := cell_of_row _ _ 4 _ _ _ HY6.out
    have j5 := cell_of_row _ _ 5 _ _ _ HY6.out
    have jf : ∀ i, w6.frozen? ⟨g + 1, i, none⟩ = false := Lib.frozen_of_heap HY6.out
    go_wp2_with fail
    have hN := far_six (g := g + 1) (v0 := .int .u16 id) (v1 := .int .u16 256) (v2 := .slice (some ⟨b2, 0, none⟩) 1 1) (v3 := .slice none 0 0) (v4 := .slice none 0 0) (v5 := .slice none 0 0) HN6.out (by have := G12.out; omega)
    refine bodyPost_ret (v := .agg (msgA id 256 (some ⟨b2, 0, none⟩) 1 1 none 0 0 none 0 0 none 0 0)) (by simp [results, Try.results26, go_sem, j0, j1, j2, j3, j4, j5]) rfl ⟨_, none, 0, 0, [], rfl, makeV_none rfl (by rw [mk_data]; exact hN) (by rw [size_six, SS6.out]; omega), by decide, below_set6 (HBB.out.trans (K6.out.mono (by omega))) (Nat.le_succ _) _ _ _ _ _ _⟩
  | true =>
    obtain ⟨w7, hw7⟩ : ∃ v, w6.alloc (.cells #[.string ⟨#[]⟩] 9) = v := ⟨_, rfl⟩
    have S7 : w7.heap.size = b2 + 3 := by rw [← hw7]; simp [SS6.out]
    have n7 : Below (b2 + 2) w6 w7 := by rw [← hw7, ← SS6.out]; exact (Below.refl _ _).alloc (Nat.le_refl _) _
    have hs7 : w7.heap[b2 + 2]? = some (.cells #[.string ⟨#[]⟩] 9 (0, 0)) := by rw [← hw7, ← SS6.out]; exact heap_alloc_new w6 _
    obtain ⟨w8, hw8⟩ : ∃ v, w7.alloc (.cells #[.string ⟨#[0]⟩, .int .u16 41, .int .u16 65535, .int .u32 32768, .slice none 0 0, .slice none 0 0, .slice (some ⟨b2 + 2, 0, none⟩) 1 1] 60) = v := ⟨_, rfl⟩
    have S8 : w8.heap.size = b2 + 4 := by rw [← hw8]; simp [S7]
    have n8 : Below (b2 + 3) w7 w8 := by rw [← hw8, ← S7]; exact (Below.refl _ _).alloc (Nat.le_refl _) _
    have hr8 : w8.heap[b2 + 3]? = some (.cells #[.string ⟨#[0]⟩, .int .u16 41, .int .u16 65535, .int .u32 32768, .slice none 0 0, .slice none 0 0, .slice (some ⟨b2 + 2, 0, none⟩) 1 1] 60 (0, 0)) := by rw [← hw8, ← S7]; exact heap_alloc_new w7 _
    have hs8 := (n8.block (b2 + 2) (by omega)).trans hs7
    have n68 : Below (b2 + 2) w6 w8 := n7.trans (n8.mono (by omega))
    have HN8 := Lib.hid ((n68.block b2 (by omega)).trans HN6.out)
    have HM8 := Lib.hid ((n68.block (b2 + 1) (by omega)).trans HM6.out)
    have HY8 := Lib.hid ((n68.block (g + 1) (by have := G12.out; omega)).trans HY6.out)
    have K8 : Hid (Below (g + 2) wb w8) := K6.out.trans (n68.mono (by have := G12.out; omega))
    obtain ⟨w9, hw9⟩ : ∃ v, w8.setCell ⟨b2 + 1, 5, none⟩ (.slice (some ⟨b2 + 3, 0, none⟩) 1 1) = v := ⟨_, rfl⟩
    have HM9 : Hid (w9.heap[b2 + 1]? = some (.cells #[.int .u16 id, .int .u16 256, .slice (some ⟨b2, 0, none⟩) 1 1, .slice none 0 0, .slice none 0 0, .slice (some ⟨b2 + 3, 0, none⟩) 1 1] 26 (0, 0))) := by rw [← hw9]; exact set_at HM8.out rfl
    have HN9 : Hid (w9.heap[b2]? = some (.cells #[.string x, .int .u16 k, .int .u16 l] 62 (0, 0))) := by rw [← hw9]; exact set_far HN8.out (by omega)
    have HS9 : Hid (w9.heap[b2 + 2]? = some (.cells #[.string ⟨#[]⟩] 9 (0, 0))) := by rw [← hw9]; exact set_far hs8 (by omega)
    have HR9 : Hid (w9.heap[b2 + 3]? = some (.cells #[.string ⟨#[0]⟩, .int .u16 41, .int .u16 65535, .int .u32 32768, .slice none 0 0, .slice none 0 0, .slice (some ⟨b2 + 2, 0, none⟩) 1 1] 60 (0, 0))) := by rw [← hw9]; exact set_far hr8 (by omega)
    have HY9 : Hid (w9.heap[g + 1]? = some (.cells #[.int .u16 0, .int .u16 0, .slice none 0 0, .slice none 0 0, .slice none 0 0, .slice none 0 0] 26 (0, 0))) := by rw [← hw9]; exact set_far HY8.out (by have := G12.out; omega)
    have S9 : Hid (w9.heap.size = b2 + 4) := by show _ = _; rw [← hw9, Go.Deep.nblk_setCell]; exact S8
    have K9 : Hid (Below (g + 2) wb w9) := by rw [← hw9]; exact K8.out.setCell (p := ⟨b2 + 1, 5, none⟩) (by show g + 2 ≤ b2 + 1; have := G12.out; omega) _
    have HW9 := Lib.hid hw9
    have ss6 := SS6.out
    have e5 := cell_of_row _ _ 5 _ _ _ HM8.out
    have ef : ∀ i, w8.frozen? ⟨b2 + 1, i, none⟩ = false := Lib.frozen_of_heap HM8.out
    clear n7 n8 n68 hs7 hs8 hr8 hw9 S8
    go_upto_region 4 with fail
    rw [HW9.out]
    clear hw7 hw8 ss6 S7 e5 ef k3
    have e0 := cell_of_row _ _ 0 _ _ _ HM9.out
    have e1 := cell_of_row _ _ 1 _ _ _ HM9.out
    have e2 := cell_of_row _ _ 2 _ _ _ HM9.out
    have e3 := cell_of_row _ _ 3 _ _ _ HM9.out
    have e4 := cell_of_row _ _ 4 _ _ _ HM9.out
    have e5 := cell_of_row _ _ 5 _ _ _ HM9.out
    have j0 := cell_of_row _ _ 0 _ _ _ HY9.out
    have j1 := cell_of_row _ _ 1 _ _ _ HY9.out
    have j2 := cell_of_row _ _ 2 _ _ _ HY9.out
    have j3 := cell_of_row _ _ 3 _ _ _ HY9.out
    have j4 := cell_of_row _ _ 4 _ _ _ HY9.out
    have j5 := cell_of_row _ _ 5 _ _ _ HY9.out
    have jf : ∀ i, w9.frozen? ⟨g + 1, i, none⟩ = false := Lib.frozen_of_heap HY9.out
    go_wp2_with fail
    have hg2 : ∀ j, j < 4 → b2 + j ≠ g + 1 := fun j hj => by have := G12.out; omega
    have hN := far_six (g := g + 1) (v0 := .int .u16 id) (v1 := .int .u16 256) (v2 := .slice (some ⟨b2, 0, none⟩) 1 1) (v3 := .slice none 0 0) (v4 := .slice none 0 0) (v5 := .slice (some ⟨b2 + 3, 0, none⟩) 1 1) HN9.out (hg2 0 (by omega))
    have hS := far_six (g := g + 1) (v0 := .int .u16 id) (v1 := .int .u16 256) (v2 := .slice (some ⟨b2, 0, none⟩) 1 1) (v3 := .slice none 0 0) (v4 := .slice none 0 0) (v5 := .slice (some ⟨b2 + 3, 0, none⟩) 1 1) HS9.out (hg2 2 (by omega))
    have hR := far_six (g := g + 1) (v0 := .int .u16 id) (v1 := .int .u16 256) (v2 := .slice (some ⟨b2, 0, none⟩) 1 1) (v3 := .slice none 0 0) (v4 := .slice none 0 0) (v5 := .slice (some ⟨b2 + 3, 0, none⟩) 1 1) HR9.out (hg2 3 (by omega))
    refine bodyPost_ret (v := .agg (msgA id 256 (some ⟨b2, 0, none⟩) 1 1 none 0 0 none 0 0 (some ⟨b2 + 3, 0, none⟩) 1 1)) (by simp [results, Try.results26, go_sem, j0, j1, j2, j3, j4, j5]) rfl ⟨_, some ⟨b2 + 3, 0, none⟩, 1, 1, optZ (b2 + 2), rfl, makeV_some rfl (by rw [mk_data]; exact hN) (by rw [size_six, S9.out]; omega) hS (by rw [size_six, S9.out]; omega) hR (by rw [size_six, S9.out]; omega), by decide, below_set6 (HBB.out.trans (K9.out.mono (by omega))) (Nat.le_succ _) _ _ _ _ _ _⟩
theorem held7f {f : FuncId} {args : Array Value} {ret : Value} (a0 a1 a2 a3 a4 a5 a6 : Addr) (v0 v1 v2 v3 v4 v5 v6 : Value) (g : Nat) (w0 : World) (C : ∀ W, Below g w0 W → g ≤ W.heap.size → Calls Try.prog f args W fun e w' => e = .returned ret ∧ Below W.heap.size W w') (w : World) (hg : g ≤ w.heap.size) (hc : w.cell? a0 = some v0 ∧ w.cell? a1 = some v1 ∧ w.cell? a2 = some v2 ∧ w.cell? a3 = some v3 ∧ w.cell? a4 = some v4 ∧ w.cell? a5 = some v5 ∧ w.cell? a6 = some v6 ∧ Below g w0 w) :
    Calls Try.prog f args w fun e w' => e = .returned ret ∧ w'.cell? a0 = some v0 ∧ w'.cell? a1 = some v1 ∧ w'.cell? a2 = some v2 ∧ w'.cell? a3 = some v3 ∧ w'.cell? a4 = some v4 ∧ w'.cell? a5 = some v5 ∧ w'.cell? a6 = some v6 ∧ Below g w0 w' := by
  obtain ⟨h0, h1, h2, h3, h4, h5, h6, hH⟩ := hc
  refine (C w hH hg).mono ?_
  rintro e w' ⟨rfl, hB⟩
  have far : ∀ {a : Addr} {v : Value}, w.cell? a = some v → w'.cell? a = some v := fun h => (hB.cell (World.block_lt_of_cell? w _ h)).trans h
  exact ⟨rfl, far h0, far h1, far h2, far h3, far h4, far h5, far h6, hH.trans (hB.mono hg)⟩
set_option maxHeartbeats 8000000 in
set_option maxRecDepth 100000 in
theorem refFits_w (x : ByteArray) (k l : Nat) (d : Bool) (no : Nat) (M : Msg) (Aq Aa An Ax : Option Addr) (nq na nn nx cq ca cn cx B : Nat) (Za Zn Zx : List RecZ) (q : Bool) (w : World) (hv : Hid (MsgV w B M Aq Aa An Ax nq na nn nx ca cn cx Za Zn Zx)) (hB : B ≤ w.heap.size) (hf : Hid (FewM M)) (hq : Hid (fitsM ⟨x.data.toList, k, l, d⟩ no M = q)) :
    Calls Try.prog 28 #[.agg (kyA x k l d), .int .u16 no, .agg (msgA M.id M.flags Aq nq cq Aa na ca An nn cn Ax nx cx)] w fun e w' => e = .returned (.bool q) ∧ Below w.heap.size w w' := by
  obtain ⟨id, hid⟩ : ∃ n, M.id = n := ⟨_, rfl⟩
  obtain ⟨fl, hfl⟩ : ∃ n, M.flags = n := ⟨_, rfl⟩
  obtain ⟨g, hg⟩ : ∃ g, w.heap.size = g := ⟨_, rfl⟩
  have hfb := hf.out.flags
  rw [hfl] at hfb
  rw [hid, hfl, hg]
  rw [hg] at hB
  obtain ⟨wa, hwa⟩ : ∃ wa, w.alloc (.cells (kyA x k l d) 42) = wa := ⟨_, rfl⟩
  obtain ⟨wb, hwb⟩ : ∃ wb, wa.alloc (.cells (msgA id fl Aq nq cq Aa na ca An nn cn Ax nx cx) 26) = wb := ⟨_, rfl⟩
  have hsa : wa.heap.size = g + 1 := by rw [← hwa, ← hg]; simp
  have hsb : wb.heap.size = g + 2 := by rw [← hwb]; simp [hsa]
  have hba : Below g w wa := by rw [← hwa, ← hg]; exact (Below.refl _ _).alloc (Nat.le_refl _) _
  have HBB : Hid (Below g w wb) := by rw [← hwb]; exact hba.alloc (by omega) _
  have hx0 : wa.heap[g]? = some (.cells (kyA x k l d) 42 (0, 0)) := by rw [← hwa, ← hg]; exact heap_alloc_new w _
  have HX : Hid (wb.heap[g]? = some (.cells (kyA x k l d) 42 (0, 0))) := by rw [← hwb]; exact old_at hx0
  have hy : wb.heap[g + 1]? = some (.cells (msgA id fl Aq nq cq Aa na ca An nn cn Ax nx cx) 26 (0, 0)) := by rw [← hwb, ← hsa]; exact heap_alloc_new wa _
  have k0 := cell_of_row _ _ 0 _ _ _ hy
  have k1 := cell_of_row _ _ 1 _ _ _ hy
  have k2 := cell_of_row _ _ 2 _ _ _ hy
  have k3 := cell_of_row _ _ 3 _ _ _ hy
  have k4 := cell_of_row _ _ 4 _ _ _ hy
  have k5 := cell_of_row _ _ 5 _ _ _ hy
  have hq' := hq.out
  clear hba hx0 hy hq
  obtain ⟨z, hz⟩ : ∃ b, decide (32768 ≤ fl) = b := ⟨_, rfl⟩
  have HQR := Lib.hid (fun w => refQr_any fl z w hz)
  obtain ⟨E, hE⟩ : ∃ E, opc fl = E := ⟨_, rfl⟩
  have HOP := Lib.hid (fun w => refOpcode_any fl E w hfb hE)
  go_enter Try.func28, Try.ntmps28
  by_cases hi : id = no
  case neg =>
    obtain rfl : q = false := by rw [← hq']; exact fitsM_no (fun h => hi (hid.symm.trans h.1))
    have f2 : ((id : Int) != (no : Int)) = true := bne_iff_ne.2 (by omega)
    clear hq' hz hE hi hid hfl HOP HQR
    go_wp2_with fail
    go_ret
    exact ⟨rfl, HBB.out⟩
  subst hi
  have f2 : ((id : Int) != (id : Int)) = false := bne_eq_false_iff_eq.2 rfl
  go_wp2_with fail
  refine (HQR.out _).mono ?_
  rintro e w' ⟨rfl, rfl⟩
  clear HQR
  cases z with
  | false =>
    have hzz := of_decide_eq_false hz
    obtain rfl : q = false := by rw [← hq']; exact fitsM_no (fun h => hzz (by rw [← hfl]; exact h.2.1))
    clear hq' hz hE hid hfl HOP hzz
    go_wp2_with fail
    go_ret
    exact ⟨rfl, HBB.out⟩
  | true =>
  have hzz := of_decide_eq_true hz
  by_cases h5 : fl / 512 % 2 = 1
  · obtain rfl : q = false := by rw [← hq']; exact fitsM_no (fun h => by have := h.2.2.1; rw [hfl] at this; omega)
    have f3 : ((fl : Int) / 512 % 2 == 1) = true := beq_iff_eq.2 (by omega)
    clear hq' hz hE hid hfl HOP hzz h5
    go_wp2_with fail
    go_ret
    exact ⟨rfl, HBB.out⟩
  have f3 : ((fl : Int) / 512 % 2 == 1) = false := beq_eq_false_iff_ne.2 (by omega)
  have H5 := Lib.hid h5
  clear h5
  go_wp2_with fail
  refine (HOP.out _).mono ?_
  rintro e w' ⟨rfl, rfl⟩
  clear HOP
  by_cases hE0 : E = 0
  case neg =>
    obtain rfl : q = false := by rw [← hq']; exact fitsM_no (fun h => by have := h.2.2.2; rw [hfl] at this; omega)
    have f4 : ((E : Int) != 0) = true := bne_iff_ne.2 (by omega)
    clear hq' hE hE0 hid hfl hzz
    go_wp2_with fail
    go_ret
    exact ⟨rfl, HBB.out⟩
  subst hE0
  by_cases hq1 : nq = 1
  case neg =>
    obtain rfl : q = false := by rw [← hq']; exact fitsM_not (by rw [hv.out.eq]; exact hq1)
    have f4 : ((nq : Int) != 1) = true := bne_iff_ne.2 (by omega)
    clear hq' hE hq1 hid hfl hzz
    go_wp2_with fail
    go_ret
    exact ⟨rfl, HBB.out⟩
  subst hq1
  obtain ⟨qn, hqs⟩ : ∃ q, M.qs = [q] := List.length_eq_one_iff.1 hv.out.eq
  have hfit := fitsM_one (k := ⟨x.data.toList, k, l, d⟩) (id := id) ⟨hid, by rw [hfl]; exact hzz, by rw [hfl]; have := H5.out; omega, by rw [hfl]; exact hE⟩ hqs
  rw [hq'] at hfit
  have hl0 : 0 < M.qs.length := by rw [hqs]; exact Nat.zero_lt_one
  obtain ⟨bq, off, rfl, hbq, p0, p1, p2⟩ := (hv.out.at_.q.on (HBB.out.mono hB) (Nat.le_refl _)).qn hl0
  have hgq : M.qs[0] = qn := by simp [hqs]
  rw [hgq] at p0 p1 p2
  simp only [Nat.zero_mul, Nat.add_zero] at p0 p1 p2
  have hqb := hf.out.qs qn (by rw [hqs]; exact List.mem_singleton_self _)
  obtain ⟨xq, hx⟩ : ∃ x, mk qn.name = x := ⟨_, rfl⟩
  obtain ⟨qk, hqk⟩ : ∃ k, qn.kind = k := ⟨_, rfl⟩
  obtain ⟨qc, hqc⟩ : ∃ k, qn.cls = k := ⟨_, rfl⟩
  rw [hx] at p0
  rw [hqk] at p1
  rw [hqc] at p2
  have hxl : xq.data.toList = qn.name := by rw [← hx, mk_list]
  have hxs : xq.size ≤ maxLen := by rw [Lib.size_eq, hxl]; exact hqb.1
  obtain ⟨t, ht⟩ : ∃ t, mk (foldN qn.name) = t := ⟨_, rfl⟩
  have htl : t.data.toList = foldN qn.name := by rw [← ht, mk_list]
  have htx : mk (foldN xq.data.toList) = t := by rw [hxl]; exact ht
  rw [← htl, hqk, hqc] at hfit
  have HFIT := Lib.hid hfit
  obtain ⟨w2, hw2⟩ : ∃ w2, wb.alloc (.cells #[.string xq, .int .u16 qk, .int .u16 qc] 62) = w2 := ⟨_, rfl⟩
  have HZ : Hid (w2.heap[g + 2]? = some (.cells #[.string xq, .int .u16 qk, .int .u16 qc] 62 (0, 0))) := by rw [← hw2, ← hsb]; exact heap_alloc_new wb _
  have K2 : Hid (Below (g + 2) wb w2) := by rw [← hw2, ← hsb]; exact (Below.refl _ _).alloc (Nat.le_refl _) _
  have HSB := Lib.hid hsb
  have HW2 := Lib.hid hw2
  clear hgq hl0 hfit hw2 hqb hx ht hxl htl hqk hqc hqs hid hfl hzz hE hq' hz
  go_upto_region 4 with fail
  rw [HW2.out]
  clear k0 k1 k2 k3 k4 k5 p0 p1 p2 hwa hwb hsa hsb
  have hx2 := (K2.out.block g (by have := HSB.out; omega)).trans HX.out
  have q0 := cell_of_row _ _ 0 _ _ _ HZ.out
  have q1 := cell_of_row _ _ 1 _ _ _ HZ.out
  have q2 := cell_of_row _ _ 2 _ _ _ HZ.out
  have y0 := cell_of_row _ _ 0 _ _ _ hx2
  have y1 := cell_of_row _ _ 1 _ _ _ hx2
  have y2 := cell_of_row _ _ 2 _ _ _ hx2
  have y3 := cell_of_row _ _ 3 _ _ _ hx2
  have V2 : Hid (Below g w w2) := HBB.out.trans (K2.out.mono (by omega))
  have h0 : Below g w w2.drew := V2.out.drew
  have HFO := Lib.hid (fun W hs h => held7f ⟨g + 2, 0, none⟩ ⟨g + 2, 1, none⟩ ⟨g + 2, 2, none⟩ ⟨g, 0, none⟩ ⟨g, 1, none⟩ ⟨g, 2, none⟩ ⟨g, 3, none⟩ (.string xq) (.int .u16 qk) (.int .u16 qc) (.string x) (.int .u16 k) (.int .u16 l) (.bool d) g w (fun W (_ : Below g w W) (_ : g ≤ W.heap.size) => refFold_w xq t W hxs htx) W hs h)
  have HGW : Hid (∀ W : World, W.cell? ⟨g + 2, 0, none⟩ = some (.string xq) → g ≤ W.heap.size) := fun W h => by have h2 : g + 2 < W.heap.size := World.block_lt_of_cell? W _ h; omega
  clear hx2 htx
  by_cases e1 : t = x
  case neg =>
    obtain rfl : q = false := by rw [HFIT.out]; exact decide_eq_false (fun h => e1 (list_inj h.1))
    have f4 : (t.toList == x.toList) = false := ne_toList e1
    clear e1
    refine wp_region_held_drew (S := (fun w' => w'.cell? ⟨g + 2, 0, none⟩ = some (.string xq) ∧ w'.cell? ⟨g + 2, 1, none⟩ = some (.int .u16 qk) ∧ w'.cell? ⟨g + 2, 2, none⟩ = some (.int .u16 qc) ∧ w'.cell? ⟨g, 0, none⟩ = some (.string x) ∧ w'.cell? ⟨g, 1, none⟩ = some (.int .u16 k) ∧ w'.cell? ⟨g, 2, none⟩ = some (.int .u16 l) ∧ w'.cell? ⟨g, 3, none⟩ = some (.bool d) ∧ Below g w w')) (by kernel_rfl) ?_ (fun hHeld => ?_)
    · exact ⟨q0, q1, q2, y0, y1, y2, y3, h0⟩
    refine wpAnyH_take (i := 0) (v := ?_) rfl (by kernel_rfl) (by kernel_rfl) (by kernel_rfl) (fun _ _ _ h => h) (Or.inl ⟨by rfl, ?_⟩) (by assumption) ?_
    rotate_left
    · intro w hSw; (try dsimp only at hSw); first | (go_simp; done) | (go_simp; with_reducible rfl)
    try simp only [Act.put, List.getElem_toArray, List.getElem_cons_succ, List.getElem_cons_zero, List.setIfInBounds_toArray, List.set_cons_zero, List.set_cons_succ]
    refine wpAnyH_take (i := 1) (v := ?_) rfl (by kernel_rfl) (by kernel_rfl) (by kernel_rfl) (fun _ _ _ h => h) (Or.inl ⟨by rfl, ?_⟩) (by assumption) ?_
    rotate_left
    · intro w hSw; (try dsimp only at hSw); first | (go_simp; done) | (go_simp; with_reducible rfl)
    try simp only [Act.put, List.getElem_toArray, List.getElem_cons_succ, List.getElem_cons_zero, List.setIfInBounds_toArray, List.set_cons_zero, List.set_cons_succ]
    refine wpAnyH_take (i := 3) (v := ?_) rfl (by kernel_rfl) (by kernel_rfl) (by kernel_rfl) (fun _ _ _ h => h) (Or.inl ⟨by rfl, ?_⟩) (by assumption) ?_
    rotate_left
    · intro w hSw; (try dsimp only at hSw); first | (go_simp; done) | (go_simp; with_reducible rfl)
    try simp only [Act.put, List.getElem_toArray, List.getElem_cons_succ, List.getElem_cons_zero, List.setIfInBounds_toArray, List.set_cons_zero, List.set_cons_succ]
    refine wpAnyH_take (i := 4) (v := ?_) rfl (by kernel_rfl) (by kernel_rfl) (by kernel_rfl) (fun _ _ _ h => h) (Or.inl ⟨by rfl, ?_⟩) (by assumption) ?_
    rotate_left
    · intro w hSw; (try dsimp only at hSw); first | (go_simp; done) | (go_simp; with_reducible rfl)
    try simp only [Act.put, List.getElem_toArray, List.getElem_cons_succ, List.getElem_cons_zero, List.setIfInBounds_toArray, List.set_cons_zero, List.set_cons_succ]
    refine wpAnyH_ready (rs := [2]) (by kernel_rfl) (by simp) ?_
    refine AllReadyH.cons rfl (fun K hK => ?_) AllReadyH.nil
    rw [if_pos (by rfl)]
    (go_simp; go_at_call 40; (with_reducible refine (HFO.out _ (HGW.out _ ?_) ?_).mono ?_); (simp [*]); (simp [*]); rintro e w5 ⟨rfl, c0, c1, c2, c3, c4, c5, c6, hG5⟩)
    refine hK.out _ _ ?_ (fun hHeld => ?_)
    · first | assumption | (try dsimp only); go_keep
    clear hK K
    try simp only [Act.put, List.getElem_toArray, List.getElem_cons_succ, List.getElem_cons_zero, List.setIfInBounds_toArray, List.set_cons_zero, List.set_cons_succ]
    refine wpAnyH_take (i := 5) (v := ?_) rfl (by kernel_rfl) (by kernel_rfl) (by kernel_rfl) (fun _ _ _ h => h) (Or.inl ⟨by rfl, ?_⟩) (by assumption) ?_
    rotate_left
    · intro w hSw; (try dsimp only at hSw); first | (go_simp; done) | (go_simp; with_reducible rfl)
    try simp only [Act.put, List.getElem_toArray, List.getElem_cons_succ, List.getElem_cons_zero, List.setIfInBounds_toArray, List.set_cons_zero, List.set_cons_succ]
    refine wpAnyH_take (i := 6) (v := ?_) rfl (by kernel_rfl) (by kernel_rfl) (by kernel_rfl) (fun _ _ _ h => h) (Or.inl ⟨by rfl, ?_⟩) (by assumption) ?_
    rotate_left
    · intro w hSw; (try dsimp only at hSw); first | (go_simp; done) | (go_simp; with_reducible rfl)
    try simp only [Act.put, List.getElem_toArray, List.getElem_cons_succ, List.getElem_cons_zero, List.setIfInBounds_toArray, List.set_cons_zero, List.set_cons_succ]
    refine wpAnyH_take (i := 7) (v := undef) rfl (by kernel_rfl) (by kernel_rfl) (by kernel_rfl) (fun _ _ _ h => h) (Or.inr ⟨by rfl, rfl⟩) (by assumption) ?_
    try simp only [Act.put, List.getElem_toArray, List.getElem_cons_succ, List.getElem_cons_zero, List.setIfInBounds_toArray, List.set_cons_zero, List.set_cons_succ]
    refine wpAnyH_take (i := 8) (v := undef) rfl (by kernel_rfl) (by kernel_rfl) (by kernel_rfl) (fun _ _ _ h => h) (Or.inr ⟨by rfl, rfl⟩) (by assumption) ?_
    try simp only [Act.put, List.getElem_toArray, List.getElem_cons_succ, List.getElem_cons_zero, List.setIfInBounds_toArray, List.set_cons_zero, List.set_cons_succ]
    refine wpAnyH_take (i := 9) (v := undef) rfl (by kernel_rfl) (by kernel_rfl) (by kernel_rfl) (fun _ _ _ h => h) (Or.inr ⟨by rfl, rfl⟩) (by assumption) ?_
    try simp only [Act.put, List.getElem_toArray, List.getElem_cons_succ, List.getElem_cons_zero, List.setIfInBounds_toArray, List.set_cons_zero, List.set_cons_succ]
    refine wpAnyH_take (i := 10) (v := undef) rfl (by kernel_rfl) (by kernel_rfl) (by kernel_rfl) (fun _ _ _ h => h) (Or.inr ⟨by rfl, rfl⟩) (by assumption) ?_
    try simp only [Act.put, List.getElem_toArray, List.getElem_cons_succ, List.getElem_cons_zero, List.setIfInBounds_toArray, List.set_cons_zero, List.set_cons_succ]
    refine wpAnyH_take (i := 11) (v := undef) rfl (by kernel_rfl) (by kernel_rfl) (by kernel_rfl) (fun _ _ _ h => h) (Or.inr ⟨by rfl, rfl⟩) (by assumption) ?_
    try simp only [Act.put, List.getElem_toArray, List.getElem_cons_succ, List.getElem_cons_zero, List.setIfInBounds_toArray, List.set_cons_zero, List.set_cons_succ]
    refine wpAnyH_take (i := 12) (v := ?_) rfl (by kernel_rfl) (by kernel_rfl) (by kernel_rfl) (fun _ _ _ h => h) (Or.inl ⟨by rfl, ?_⟩) (by assumption) ?_
    rotate_left
    · intro w hSw; (try dsimp only at hSw); first | (go_simp; done) | (go_simp; with_reducible rfl)
    try simp only [Act.put, List.getElem_toArray, List.getElem_cons_succ, List.getElem_cons_zero, List.setIfInBounds_toArray, List.set_cons_zero, List.set_cons_succ]
    refine wpAnyH_take (i := 13) (v := ?_) rfl (by kernel_rfl) (by kernel_rfl) (by kernel_rfl) (fun _ _ _ h => h) (Or.inl ⟨by rfl, ?_⟩) (by assumption) ?_
    rotate_left
    · intro w hSw; (try dsimp only at hSw); first | (go_simp; done) | (go_simp; with_reducible rfl)
    try simp only [Act.put, List.getElem_toArray, List.getElem_cons_succ, List.getElem_cons_zero, List.setIfInBounds_toArray, List.set_cons_zero, List.set_cons_succ]
    refine wpAnyH_take (i := 14) (v := undef) rfl (by kernel_rfl) (by kernel_rfl) (by kernel_rfl) (fun _ _ _ h => h) (Or.inr ⟨by rfl, rfl⟩) (by assumption) ?_
    try simp only [Act.put, List.getElem_toArray, List.getElem_cons_succ, List.getElem_cons_zero, List.setIfInBounds_toArray, List.set_cons_zero, List.set_cons_succ]
    refine wpAnyH_take (i := 15) (v := undef) rfl (by kernel_rfl) (by kernel_rfl) (by kernel_rfl) (fun _ _ _ h => h) (Or.inr ⟨by rfl, rfl⟩) (by assumption) ?_
    try simp only [Act.put, List.getElem_toArray, List.getElem_cons_succ, List.getElem_cons_zero, List.setIfInBounds_toArray, List.set_cons_zero, List.set_cons_succ]
    refine wpAnyH_take (i := 16) (v := undef) rfl (by kernel_rfl) (by kernel_rfl) (by kernel_rfl) (fun _ _ _ h => h) (Or.inr ⟨by rfl, rfl⟩) (by assumption) ?_
    try simp only [Act.put, List.getElem_toArray, List.getElem_cons_succ, List.getElem_cons_zero, List.setIfInBounds_toArray, List.set_cons_zero, List.set_cons_succ]
    refine wpAnyH_take (i := 17) (v := undef) rfl (by kernel_rfl) (by kernel_rfl) (by kernel_rfl) (fun _ _ _ h => h) (Or.inr ⟨by rfl, rfl⟩) (by assumption) ?_
    try simp only [Act.put, List.getElem_toArray, List.getElem_cons_succ, List.getElem_cons_zero, List.setIfInBounds_toArray, List.set_cons_zero, List.set_cons_succ]
    refine wpAnyH_take (i := 18) (v := undef) rfl (by kernel_rfl) (by kernel_rfl) (by kernel_rfl) (fun _ _ _ h => h) (Or.inr ⟨by rfl, rfl⟩) (by assumption) ?_
    try simp only [Act.put, List.getElem_toArray, List.getElem_cons_succ, List.getElem_cons_zero, List.setIfInBounds_toArray, List.set_cons_zero, List.set_cons_succ]
    refine wpAnyH_take (i := 19) (v := ?_) rfl (by kernel_rfl) (by kernel_rfl) (by kernel_rfl) (fun _ _ _ h => h) (Or.inl ⟨by rfl, ?_⟩) (by assumption) ?_
    rotate_left
    · intro w hSw; (try dsimp only at hSw); first | (go_simp; done) | (go_simp; with_reducible rfl)
    try simp only [Act.put, List.getElem_toArray, List.getElem_cons_succ, List.getElem_cons_zero, List.setIfInBounds_toArray, List.set_cons_zero, List.set_cons_succ]
    refine wpAnyH_take (i := 20) (v := ?_) rfl (by kernel_rfl) (by kernel_rfl) (by kernel_rfl) (fun _ _ _ h => h) (Or.inl ⟨by rfl, ?_⟩) (by assumption) ?_
    rotate_left
    · intro w hSw; (try dsimp only at hSw); first | (go_simp; done) | (go_simp; with_reducible rfl)
    try simp only [Act.put, List.getElem_toArray, List.getElem_cons_succ, List.getElem_cons_zero, List.setIfInBounds_toArray, List.set_cons_zero, List.set_cons_succ]
    refine wpAnyH_done (by kernel_rfl) ?_ _
    go_wp2_with fail
    go_ret
    exact ⟨rfl, hG5⟩
  have f4 : (t.toList == x.toList) = true := by rw [e1]; exact beq_self_eq_true _
  by_cases e2 : qk = k
  case neg =>
    obtain rfl : q = false := by rw [HFIT.out]; exact decide_eq_false (fun h => e2 h.2.1)
    have f5 : ((qk : Int) == (k : Int)) = false := beq_eq_false_iff_ne.2 (by omega)
    clear e1 e2
    refine wp_region_held_drew (S := (fun w' => w'.cell? ⟨g + 2, 0, none⟩ = some (.string xq) ∧ w'.cell? ⟨g + 2, 1, none⟩ = some (.int .u16 qk) ∧ w'.cell? ⟨g + 2, 2, none⟩ = some (.int .u16 qc) ∧ w'.cell? ⟨g, 0, none⟩ = some (.string x) ∧ w'.cell? ⟨g, 1, none⟩ = some (.int .u16 k) ∧ w'.cell? ⟨g, 2, none⟩ = some (.int .u16 l) ∧ w'.cell? ⟨g, 3, none⟩ = some (.bool d) ∧ Below g w w')) (by kernel_rfl) ?_ (fun hHeld => ?_)
    · exact ⟨q0, q1, q2, y0, y1, y2, y3, h0⟩
    refine wpAnyH_take (i := 0) (v := ?_) rfl (by kernel_rfl) (by kernel_rfl) (by kernel_rfl) (fun _ _ _ h => h) (Or.inl ⟨by rfl, ?_⟩) (by assumption) ?_
    rotate_left
    · intro w hSw; (try dsimp only at hSw); first | (go_simp; done) | (go_simp; with_reducible rfl)
    try simp only [Act.put, List.getElem_toArray, List.getElem_cons_succ, List.getElem_cons_zero, List.setIfInBounds_toArray, List.set_cons_zero, List.set_cons_succ]
    refine wpAnyH_take (i := 1) (v := ?_) rfl (by kernel_rfl) (by kernel_rfl) (by kernel_rfl) (fun _ _ _ h => h) (Or.inl ⟨by rfl, ?_⟩) (by assumption) ?_
    rotate_left
    · intro w hSw; (try dsimp only at hSw); first | (go_simp; done) | (go_simp; with_reducible rfl)
    try simp only [Act.put, List.getElem_toArray, List.getElem_cons_succ, List.getElem_cons_zero, List.setIfInBounds_toArray, List.set_cons_zero, List.set_cons_succ]
    refine wpAnyH_take (i := 3) (v := ?_) rfl (by kernel_rfl) (by kernel_rfl) (by kernel_rfl) (fun _ _ _ h => h) (Or.inl ⟨by rfl, ?_⟩) (by assumption) ?_
    rotate_left
    · intro w hSw; (try dsimp only at hSw); first | (go_simp; done) | (go_simp; with_reducible rfl)
    try simp only [Act.put, List.getElem_toArray, List.getElem_cons_succ, List.getElem_cons_zero, List.setIfInBounds_toArray, List.set_cons_zero, List.set_cons_succ]
    refine wpAnyH_take (i := 4) (v := ?_) rfl (by kernel_rfl) (by kernel_rfl) (by kernel_rfl) (fun _ _ _ h => h) (Or.inl ⟨by rfl, ?_⟩) (by assumption) ?_
    rotate_left
    · intro w hSw; (try dsimp only at hSw); first | (go_simp; done) | (go_simp; with_reducible rfl)
    try simp only [Act.put, List.getElem_toArray, List.getElem_cons_succ, List.getElem_cons_zero, List.setIfInBounds_toArray, List.set_cons_zero, List.set_cons_succ]
    refine wpAnyH_ready (rs := [2]) (by kernel_rfl) (by simp) ?_
    refine AllReadyH.cons rfl (fun K hK => ?_) AllReadyH.nil
    rw [if_pos (by rfl)]
    (go_simp; go_at_call 40; (with_reducible refine (HFO.out _ (HGW.out _ ?_) ?_).mono ?_); (simp [*]); (simp [*]); rintro e w5 ⟨rfl, c0, c1, c2, c3, c4, c5, c6, hG5⟩)
    refine hK.out _ _ ?_ (fun hHeld => ?_)
    · first | assumption | (try dsimp only); go_keep
    clear hK K
    try simp only [Act.put, List.getElem_toArray, List.getElem_cons_succ, List.getElem_cons_zero, List.setIfInBounds_toArray, List.set_cons_zero, List.set_cons_succ]
    refine wpAnyH_take (i := 5) (v := ?_) rfl (by kernel_rfl) (by kernel_rfl) (by kernel_rfl) (fun _ _ _ h => h) (Or.inl ⟨by rfl, ?_⟩) (by assumption) ?_
    rotate_left
    · intro w hSw; (try dsimp only at hSw); first | (go_simp; done) | (go_simp; with_reducible rfl)
    try simp only [Act.put, List.getElem_toArray, List.getElem_cons_succ, List.getElem_cons_zero, List.setIfInBounds_toArray, List.set_cons_zero, List.set_cons_succ]
    refine wpAnyH_take (i := 6) (v := ?_) rfl (by kernel_rfl) (by kernel_rfl) (by kernel_rfl) (fun _ _ _ h => h) (Or.inl ⟨by rfl, ?_⟩) (by assumption) ?_
    rotate_left
    · intro w hSw; (try dsimp only at hSw); first | (go_simp; done) | (go_simp; with_reducible rfl)
    try simp only [Act.put, List.getElem_toArray, List.getElem_cons_succ, List.getElem_cons_zero, List.setIfInBounds_toArray, List.set_cons_zero, List.set_cons_succ]
    refine wpAnyH_take (i := 7) (v := ?_) rfl (by kernel_rfl) (by kernel_rfl) (by kernel_rfl) (fun _ _ _ h => h) (Or.inl ⟨by rfl, ?_⟩) (by assumption) ?_
    rotate_left
    · intro w hSw; (try dsimp only at hSw); first | (go_simp; done) | (go_simp; with_reducible rfl)
    try simp only [Act.put, List.getElem_toArray, List.getElem_cons_succ, List.getElem_cons_zero, List.setIfInBounds_toArray, List.set_cons_zero, List.set_cons_succ]
    refine wpAnyH_take (i := 8) (v := ?_) rfl (by kernel_rfl) (by kernel_rfl) (by kernel_rfl) (fun _ _ _ h => h) (Or.inl ⟨by rfl, ?_⟩) (by assumption) ?_
    rotate_left
    · intro w hSw; (try dsimp only at hSw); first | (go_simp; done) | (go_simp; with_reducible rfl)
    try simp only [Act.put, List.getElem_toArray, List.getElem_cons_succ, List.getElem_cons_zero, List.setIfInBounds_toArray, List.set_cons_zero, List.set_cons_succ]
    refine wpAnyH_take (i := 9) (v := ?_) rfl (by kernel_rfl) (by kernel_rfl) (by kernel_rfl) (fun _ _ _ h => h) (Or.inl ⟨by rfl, ?_⟩) (by assumption) ?_
    rotate_left
    · intro w hSw; (try dsimp only at hSw); first | (go_simp; done) | (go_simp; with_reducible rfl)
    try simp only [Act.put, List.getElem_toArray, List.getElem_cons_succ, List.getElem_cons_zero, List.setIfInBounds_toArray, List.set_cons_zero, List.set_cons_succ]
    refine wpAnyH_take (i := 10) (v := ?_) rfl (by kernel_rfl) (by kernel_rfl) (by kernel_rfl) (fun _ _ _ h => h) (Or.inl ⟨by rfl, ?_⟩) (by assumption) ?_
    rotate_left
    · intro w hSw; (try dsimp only at hSw); first | (go_simp; done) | (go_simp; with_reducible rfl)
    try simp only [Act.put, List.getElem_toArray, List.getElem_cons_succ, List.getElem_cons_zero, List.setIfInBounds_toArray, List.set_cons_zero, List.set_cons_succ]
    refine wpAnyH_take (i := 11) (v := ?_) rfl (by kernel_rfl) (by kernel_rfl) (by kernel_rfl) (fun _ _ _ h => h) (Or.inl ⟨by rfl, ?_⟩) (by assumption) ?_
    rotate_left
    · intro w hSw; (try dsimp only at hSw); first | (go_simp; done) | (go_simp; with_reducible rfl)
    try simp only [Act.put, List.getElem_toArray, List.getElem_cons_succ, List.getElem_cons_zero, List.setIfInBounds_toArray, List.set_cons_zero, List.set_cons_succ]
    refine wpAnyH_take (i := 12) (v := ?_) rfl (by kernel_rfl) (by kernel_rfl) (by kernel_rfl) (fun _ _ _ h => h) (Or.inl ⟨by rfl, ?_⟩) (by assumption) ?_
    rotate_left
    · intro w hSw; (try dsimp only at hSw); first | (go_simp; done) | (go_simp; with_reducible rfl)
    try simp only [Act.put, List.getElem_toArray, List.getElem_cons_succ, List.getElem_cons_zero, List.setIfInBounds_toArray, List.set_cons_zero, List.set_cons_succ]
    refine wpAnyH_take (i := 13) (v := ?_) rfl (by kernel_rfl) (by kernel_rfl) (by kernel_rfl) (fun _ _ _ h => h) (Or.inl ⟨by rfl, ?_⟩) (by assumption) ?_
    rotate_left
    · intro w hSw; (try dsimp only at hSw); first | (go_simp; done) | (go_simp; with_reducible rfl)
    try simp only [Act.put, List.getElem_toArray, List.getElem_cons_succ, List.getElem_cons_zero, List.setIfInBounds_toArray, List.set_cons_zero, List.set_cons_succ]
    refine wpAnyH_take (i := 14) (v := undef) rfl (by kernel_rfl) (by kernel_rfl) (by kernel_rfl) (fun _ _ _ h => h) (Or.inr ⟨by rfl, rfl⟩) (by assumption) ?_
    try simp only [Act.put, List.getElem_toArray, List.getElem_cons_succ, List.getElem_cons_zero, List.setIfInBounds_toArray, List.set_cons_zero, List.set_cons_succ]
    refine wpAnyH_take (i := 15) (v := undef) rfl (by kernel_rfl) (by kernel_rfl) (by kernel_rfl) (fun _ _ _ h => h) (Or.inr ⟨by rfl, rfl⟩) (by assumption) ?_
    try simp only [Act.put, List.getElem_toArray, List.getElem_cons_succ, List.getElem_cons_zero, List.setIfInBounds_toArray, List.set_cons_zero, List.set_cons_succ]
    refine wpAnyH_take (i := 16) (v := undef) rfl (by kernel_rfl) (by kernel_rfl) (by kernel_rfl) (fun _ _ _ h => h) (Or.inr ⟨by rfl, rfl⟩) (by assumption) ?_
    try simp only [Act.put, List.getElem_toArray, List.getElem_cons_succ, List.getElem_cons_zero, List.setIfInBounds_toArray, List.set_cons_zero, List.set_cons_succ]
    refine wpAnyH_take (i := 17) (v := undef) rfl (by kernel_rfl) (by kernel_rfl) (by kernel_rfl) (fun _ _ _ h => h) (Or.inr ⟨by rfl, rfl⟩) (by assumption) ?_
    try simp only [Act.put, List.getElem_toArray, List.getElem_cons_succ, List.getElem_cons_zero, List.setIfInBounds_toArray, List.set_cons_zero, List.set_cons_succ]
    refine wpAnyH_take (i := 18) (v := undef) rfl (by kernel_rfl) (by kernel_rfl) (by kernel_rfl) (fun _ _ _ h => h) (Or.inr ⟨by rfl, rfl⟩) (by assumption) ?_
    try simp only [Act.put, List.getElem_toArray, List.getElem_cons_succ, List.getElem_cons_zero, List.setIfInBounds_toArray, List.set_cons_zero, List.set_cons_succ]
    refine wpAnyH_take (i := 19) (v := ?_) rfl (by kernel_rfl) (by kernel_rfl) (by kernel_rfl) (fun _ _ _ h => h) (Or.inl ⟨by rfl, ?_⟩) (by assumption) ?_
    rotate_left
    · intro w hSw; (try dsimp only at hSw); first | (go_simp; done) | (go_simp; with_reducible rfl)
    try simp only [Act.put, List.getElem_toArray, List.getElem_cons_succ, List.getElem_cons_zero, List.setIfInBounds_toArray, List.set_cons_zero, List.set_cons_succ]
    refine wpAnyH_take (i := 20) (v := ?_) rfl (by kernel_rfl) (by kernel_rfl) (by kernel_rfl) (fun _ _ _ h => h) (Or.inl ⟨by rfl, ?_⟩) (by assumption) ?_
    rotate_left
    · intro w hSw; (try dsimp only at hSw); first | (go_simp; done) | (go_simp; with_reducible rfl)
    try simp only [Act.put, List.getElem_toArray, List.getElem_cons_succ, List.getElem_cons_zero, List.setIfInBounds_toArray, List.set_cons_zero, List.set_cons_succ]
    refine wpAnyH_done (by kernel_rfl) ?_ _
    go_wp2_with fail
    go_ret
    exact ⟨rfl, hG5⟩
  have f5 : ((qk : Int) == (k : Int)) = true := beq_iff_eq.2 (by omega)
  obtain ⟨z3, hz3⟩ : ∃ z, ((qc : Int) == (l : Int)) = z := ⟨_, rfl⟩
  obtain rfl : q = z3 := by
    rw [HFIT.out, ← hz3]
    by_cases e3 : qc = l
    · rw [decide_eq_true ⟨by rw [e1], e2, e3⟩]; exact (beq_iff_eq.2 (by omega)).symm
    · rw [decide_eq_false (fun h => e3 h.2.2)]; exact (beq_eq_false_iff_ne.2 (by omega)).symm
  clear e1 e2
  go_region_held3 (fun w' => w'.cell? ⟨g + 2, 0, none⟩ = some (.string xq) ∧ w'.cell? ⟨g + 2, 1, none⟩ = some (.int .u16 qk) ∧ w'.cell? ⟨g + 2, 2, none⟩ = some (.int .u16 qc) ∧ w'.cell? ⟨g, 0, none⟩ = some (.string x) ∧ w'.cell? ⟨g, 1, none⟩ = some (.int .u16 k) ∧ w'.cell? ⟨g, 2, none⟩ = some (.int .u16 l) ∧ w'.cell? ⟨g, 3, none⟩ = some (.bool d) ∧ Below g w w') (go_keep) (first | (go_at_call 40; (with_reducible refine (HFO.out _ (HGW.out _ ?_) ?_).mono ?_); (simp [*]); (simp [*]); rintro e w5 ⟨rfl, c0, c1, c2, c3, c4, c5, c6, hG5⟩))
  go_wp2_with fail
  go_ret
  exact ⟨rfl, hG5⟩
end Go.Proofs.Ytpmmjmnleoicjaa
