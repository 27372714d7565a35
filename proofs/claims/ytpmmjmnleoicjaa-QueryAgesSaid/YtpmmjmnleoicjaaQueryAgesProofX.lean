/- Texts of one proof, one behind the other: MsgFrame, MsgSized, QrTimes, QrRefAge, RecSpoil, WrLen, WbName, QrSpoil, RecLawCopied, MsgCopied. -/
import Derived.Test.YtpmmjmnleoicjaaProg
import Derived.Test.YtpmmjmnleoicjaaQueryFailsProofG1
import Derived.Test.YtpmmjmnleoicjaaMsgMath
import Derived.Test.YtpmmjmnleoicjaaRecMath
import Derived.Test.YtpmmjmnleoicjaaQueryFailsProofG5
import Derived.Test.YtpmmjmnleoicjaaBytes
import Derived.Test.YtpmmjmnleoicjaaQueryFailsProofG2
import Derived.Test.YtpmmjmnleoicjaaNumMath
import Derived.Test.YtpmmjmnleoicjaaStrs
import Derived.Test.YtpmmjmnleoicjaaNums
import Derived.Test.YtpmmjmnleoicjaaRecRow
import Derived.Test.YtpmmjmnleoicjaaRecAll
import Derived.Test.YtpmmjmnleoicjaaQueryFailsProofG3
import Derived.Test.YtpmmjmnleoicjaaOwnRow
import Derived.Test.YtpmmjmnleoicjaaQueryFailsProofG6
import Derived.Test.YtpmmjmnleoicjaaRecAt
import Derived.Test.YtpmmjmnleoicjaaNumBe
import Derived.Test.YtpmmjmnleoicjaaNameMath
import Derived.Test.YtpmmjmnleoicjaaNmMath
import Derived.Test.YtpmmjmnleoicjaaRdrRead
import Derived.Test.YtpmmjmnleoicjaaRdrAsk
import Derived.Deep.Slices
import Derived.Deep.Fields
import Derived.ChangeSame
import Derived.ChangeSlices
import Derived.SliceStrings
import Derived.ProofKit
import Derived.OpenShut
import Derived.ShutString
import Derived.SizedLaws
import Derived.WalkKit
import Derived.Lib.Hide
import Derived.Laws.Rows
import Derived.Outline
import Derived.IntWalk
import Derived.WalkSpells
import Derived.WalkLawsBesides
import Derived.Deep.Heap
import Derived.RegionTactic
import Derived.Deep.Draws
import Derived.Deep.AppendLies
import Derived.Deep.RegionLaw
import Derived.Deep.CutRange
import Derived.Deep.DrawnRows
import Derived.Laws.OwnMore

/- How a message that came in reads. No condition. -/
namespace Go.Proofs.Ytpmmjmnleoicjaa
open Go.ChangeShapes Go.WideShapes Go.Deep Go.RowKit
open Bytes Strs Nums MsgMath RecMath

section
variable {H : Type} {enc : TypeId × Value → H} {P : Program} {w : World} {base : Nat} {spare : Nat → Bool} {held : Bool}
theorem open_row_fields {t e : TypeId} {fs : Array Field} {fuel : Nat} {cs : List Value} {x : DataW H × List MemPlace} (ht : P.underlying t = some (.slice e)) (he : P.underlying e = some (.struct fs))
    (hone : oneCellFields P fs = true) (hC : P.cellsOf e = fs.size) (h : DataW.trod enc P w base spare held fuel t cs = some x) :
    cs = [.slice none 0 0] ∨
    ∃ (a : Addr) (len cap : Nat), cs = [.slice (some a) len cap] ∧ len ≤ maxLen ∧
      ∀ i, i < len → ∃ n : Nat, ∀ (j : Nat) (f : Field), fs[j]? = some f → ∃ (v : Value) (y : DataW H × List MemPlace), w.cell? (a.add (i * fs.size + j)) = some v ∧ DataW.trod enc P w base spare held n f.type [v] = some y := by
  rcases open_slice ht h with h0 | ⟨a, len, cap, m, n, D, Pl, hcs, hb, hl, hm, hmm, hx, hi⟩
  · exact .inl h0.1
  · refine .inr ⟨a, len, cap, hcs, by omega, fun i him => ?_⟩
    obtain ⟨cs', hc, ht'⟩ := hi i (by rw [hmm]; split <;> omega)
    rw [hC] at hc
    obtain ⟨ys, n', hn', hy, hlen, hyl, hf⟩ := DataW.trod_struct he ht'
    obtain ⟨_, hcl, hat⟩ := World.cells?_some hc
    refine ⟨n', fun j f hj => ?_⟩
    obtain ⟨ho, hk⟩ := hone_of hone j f hj
    have hjl : j < fs.size := (Array.getElem?_eq_some_iff.1 hj).1
    have hcell := hat j hjl
    have hv : cs'[j]? = some (cs'[j]'(by omega)) := List.getElem?_eq_getElem (by omega)
    have h1 := hf j f hj
    rw [ho, hk] at h1
    have hone' : (cs'.drop j).take 1 = [cs'[j]'(by omega)] := by
      rw [List.drop_eq_getElem_cons (by omega)]
      rfl
    rw [hone'] at h1
    have hys : ys[j]? = some (ys[j]'(by omega)) := List.getElem?_eq_getElem (by omega)
    refine ⟨_, _, ?_, h1.trans hys⟩
    rw [← Go.Deep.add_add, hcell, hv]
end
section
variable {H : Type} {enc : TypeId × Value → H} {w : World} {base : Nat} {spare : Nat → Bool} {held : Bool} {fuel : Nat}
set_option maxRecDepth 100000 in
theorem came_qns {v : Value} {x : DataW H × List MemPlace} (h : DataW.trod enc Try.prog w base spare held fuel 23 [v] = some x) :
    ∃ A n c L, v = .slice A n c ∧ L.length = n ∧ n ≤ maxLen ∧ CellsAt w w.heap.size A (qnCs L) ∧ ∀ q ∈ L, q.name.length ≤ maxLen ∧ q.kind ≤ 65535 ∧ q.cls ≤ 65535 := by
  rcases open_row_fields Try.underlying23 Try.underlying62 (by kernel_rfl) (by kernel_rfl) h with hcs | ⟨a, len, cap, hcs, hl, hf⟩
  · injection hcs with hv
    exact ⟨none, 0, 0, [], hv, rfl, Nat.zero_le _, .inl rfl, fun q hq => by cases hq⟩
  · injection hcs with hv
    have hone : ∀ k, k < len → ∃ q : Qn, (w.cell? (a.add (k * 3)) = some (.string (mk q.name)) ∧ w.cell? (a.add (k * 3 + 1)) = some (.int .u16 q.kind) ∧ w.cell? (a.add (k * 3 + 2)) = some (.int .u16 q.cls)) ∧ q.name.length ≤ maxLen ∧ q.kind ≤ 65535 ∧ q.cls ≤ 65535 := by
      intro k hk
      obtain ⟨n, hfj⟩ := hf k hk
      obtain ⟨v0, y0, hc0, ht0⟩ := hfj 0 _ rfl
      obtain ⟨v1, y1, hc1, ht1⟩ := hfj 1 _ rfl
      obtain ⟨v2, y2, hc2, ht2⟩ := hfj 2 _ rfl
      obtain ⟨s, e0, _, hs⟩ := DataW.trod_string Try.underlying9 ht0
      obtain ⟨z1, e1, _, hz1⟩ := DataW.trod_int Try.underlying22 ht1
      obtain ⟨z2, e2, _, hz2⟩ := DataW.trod_int Try.underlying22 ht2
      injection e0 with e0
      injection e1 with e1
      injection e2 with e2
      subst e0 e1 e2
      obtain ⟨k1, rfl, hk1⟩ := wf_u16 hz1
      obtain ⟨k2, rfl, hk2⟩ := wf_u16 hz2
      refine ⟨⟨s.data.toList, k1, k2⟩, ⟨?_, hc1, hc2⟩, by rw [← Lib.size_eq]; exact hs, hk1, hk2⟩
      rw [mk_data]
      exact hc0
    obtain ⟨L, hL, hP⟩ := list_of len hone
    refine ⟨some a, len, cap, L, hv, hL, hl, ?_, fun q hq => ?_⟩
    · rcases Nat.eq_zero_or_pos len with h0 | hp
      · exact .inl (by rw [List.length_eq_zero_iff.1 (hL.trans h0)]; rfl)
      · obtain ⟨b, off, spot⟩ := a
        have hspot : spot = none := by
          have := (hP 0 (by omega)).1.1
          simpa [Addr.add] using World.cell?_spot this
        subst hspot
        refine .inr ⟨b, off, rfl, ?_, cells_of (m := 3) (by decide) (fun _ => rfl) (C := fun j => w.cell? ⟨b, off + j, none⟩) fun k hk j hj => ?_⟩
        · have := World.block_lt_of_cell? _ _ (hP 0 (by omega)).1.1
          rwa [Strs.add_block] at this
        · obtain ⟨⟨p0, p1, p2⟩, _⟩ := hP k hk
          rw [add_plain] at p0 p1 p2
          match j, hj with
          | 0, _ => exact p0
          | 1, _ => exact p1
          | 2, _ => exact p2
    · obtain ⟨k, hk, rfl⟩ := List.getElem_of_mem hq
      exact (hP k hk).2
set_option maxRecDepth 100000 in
theorem came_recs {v : Value} {x : DataW H × List MemPlace} (h : DataW.trod enc Try.prog w base spare held fuel 24 [v] = some x) :
    ∃ A n c Z, v = .slice A n c ∧ Z.length = n ∧ n ≤ maxLen ∧ CellsAt w w.heap.size A (recCs Z) ∧ ZAt w w.heap.size Z ∧ (A = none → c = 0) ∧ ∀ z ∈ Z, (z.1.name.length ≤ maxLen ∧ z.1.names.length ≤ maxLen ∧ z.1.nums.length ≤ maxLen ∧ z.1.texts.length ≤ maxLen ∧ z.1.kind ≤ 65535 ∧ z.1.cls ≤ 65535 ∧ z.1.ttl ≤ 4294967295) ∧ ∀ k, k < z.1.nums.length → z.1.nums.getD k 0 ≤ 4294967295 := by
  rcases open_row_fields Try.underlying24 Try.underlying60 (by kernel_rfl) (by kernel_rfl) h with hcs | ⟨a, len, cap, hcs, hl, hf⟩
  · injection hcs with hv
    exact ⟨none, 0, 0, [], hv, rfl, Nat.zero_le _, .inl rfl, fun q hq => (by cases hq), fun _ => rfl, fun q hq => by cases hq⟩
  · injection hcs with hv
    have hone : ∀ k, k < len → ∃ z : RecZ, (w.cell? (a.add (k * 7)) = some (.string (mk z.1.name)) ∧ w.cell? (a.add (k * 7 + 1)) = some (.int .u16 z.1.kind) ∧ w.cell? (a.add (k * 7 + 2)) = some (.int .u16 z.1.cls) ∧ w.cell? (a.add (k * 7 + 3)) = some (.int .u32 z.1.ttl) ∧ w.cell? (a.add (k * 7 + 4)) = some z.2.1 ∧ w.cell? (a.add (k * 7 + 5)) = some z.2.2.1 ∧ w.cell? (a.add (k * 7 + 6)) = some z.2.2.2) ∧ (∃ A1 c1 A2 c2 A3 c3, z.2.1 = .slice A1 z.1.names.length c1 ∧ z.2.2.1 = .slice A2 z.1.nums.length c2 ∧ z.2.2.2 = .slice A3 z.1.texts.length c3 ∧ RecAt w w.heap.size z.1 (mk z.1.name) z.1.kind z.1.cls z.1.ttl A1 z.1.names.length A2 z.1.nums.length A3 z.1.texts.length) ∧ (z.1.name.length ≤ maxLen ∧ z.1.names.length ≤ maxLen ∧ z.1.nums.length ≤ maxLen ∧ z.1.texts.length ≤ maxLen ∧ z.1.kind ≤ 65535 ∧ z.1.cls ≤ 65535 ∧ z.1.ttl ≤ 4294967295) ∧ ∀ k, k < z.1.nums.length → z.1.nums.getD k 0 ≤ 4294967295 := by
      intro k hk
      obtain ⟨n, hfj⟩ := hf k hk
      obtain ⟨v0, y0, hc0, ht0⟩ := hfj 0 _ rfl
      obtain ⟨v1, y1, hc1, ht1⟩ := hfj 1 _ rfl
      obtain ⟨v2, y2, hc2, ht2⟩ := hfj 2 _ rfl
      obtain ⟨v3, y3, hc3, ht3⟩ := hfj 3 _ rfl
      obtain ⟨v4, y4, hc4, ht4⟩ := hfj 4 _ rfl
      obtain ⟨v5, y5, hc5, ht5⟩ := hfj 5 _ rfl
      obtain ⟨v6, y6, hc6, ht6⟩ := hfj 6 _ rfl
      obtain ⟨s, e0, _, hs⟩ := DataW.trod_string Try.underlying9 ht0
      obtain ⟨z1, e1, _, hz1⟩ := DataW.trod_int Try.underlying22 ht1
      obtain ⟨z2, e2, _, hz2⟩ := DataW.trod_int Try.underlying22 ht2
      obtain ⟨z3, e3, _, hz3⟩ := DataW.trod_int Try.underlying50 ht3
      obtain ⟨A1, n1, c1, L1, rfl, hl1, hr1, hm1, _⟩ := came_texts ht4
      obtain ⟨A2, n2, c2, L2, rfl, hl2, hr2, hm2, _, hu2⟩ := came_nums ht5
      obtain ⟨A3, n3, c3, L3, rfl, hl3, hr3, hm3, _⟩ := came_texts ht6
      injection e0 with e0
      injection e1 with e1
      injection e2 with e2
      injection e3 with e3
      subst e0 e1 e2 e3
      obtain ⟨k1, rfl, hk1⟩ := wf_u16 hz1
      obtain ⟨k2, rfl, hk2⟩ := wf_u16 hz2
      obtain ⟨k3, rfl, hk3⟩ := wf_u32 hz3
      subst hl1 hl2 hl3
      refine ⟨(⟨s.data.toList, k1, k2, k3, L1, L2, L3⟩, .slice A1 L1.length c1, .slice A2 L2.length c2, .slice A3 L3.length c3), ⟨?_, hc1, hc2, hc3, hc4, hc5, hc6⟩, ⟨A1, c1, A2, c2, A3, c3, rfl, rfl, rfl, ⟨rfl, rfl, rfl, rfl, rfl, rfl, rfl, hr1, hr2, hr3⟩⟩, ⟨by simp only; rw [← Lib.size_eq]; exact hs, hm1, hm2, hm3, hk1, hk2, hk3⟩, hu2⟩
      simp only
      rw [mk_data]
      exact hc0
    obtain ⟨Z, hZ, hP⟩ := list_of len hone
    refine ⟨some a, len, cap, Z, hv, hZ, hl, ?_, fun z hz => ?_, fun e => (by cases e), fun z hz => ?_⟩
    · rcases Nat.eq_zero_or_pos len with h0 | hp
      · exact .inl (by rw [List.length_eq_zero_iff.1 (hZ.trans h0)]; rfl)
      · obtain ⟨b, off, spot⟩ := a
        have hspot : spot = none := by
          have := (hP 0 (by omega)).1.1
          simpa [Addr.add] using World.cell?_spot this
        subst hspot
        refine .inr ⟨b, off, rfl, ?_, cells_of (m := 7) (f := fun z : RecZ => recV z.1 z.2.1 z.2.2.1 z.2.2.2) (by decide) (fun _ => rfl) (C := fun j => w.cell? ⟨b, off + j, none⟩) fun k hk j hj => ?_⟩
        · have := World.block_lt_of_cell? _ _ (hP 0 (by omega)).1.1
          rwa [Strs.add_block] at this
        · obtain ⟨⟨p0, p1, p2, p3, p4, p5, p6⟩, _⟩ := hP k hk
          rw [add_plain] at p0 p1 p2 p3 p4 p5 p6
          match j, hj with
          | 0, _ => exact p0
          | 1, _ => exact p1
          | 2, _ => exact p2
          | 3, _ => exact p3
          | 4, _ => exact p4
          | 5, _ => exact p5
          | 6, _ => exact p6
    · obtain ⟨k, hk, rfl⟩ := List.getElem_of_mem hz
      exact (hP k hk).2.1
    · obtain ⟨k, hk, rfl⟩ := List.getElem_of_mem hz
      exact (hP k hk).2.2
/-- What is known of a message that came in. -/
structure CameMsg (w : World) (v : Value) (M : Msg) (Aq Aa An Ax : Option Addr) (cq ca cn cx : Nat) (Za Zn Zx : List RecZ) : Prop where
  val : v = .agg #[.int .u16 M.id, .int .u16 M.flags, .slice Aq M.qs.length cq, .slice Aa M.an.length ca, .slice An M.ns.length cn, .slice Ax M.ad.length cx]
  at_ : MsgAt w w.heap.size M Aq Aa An Ax Za Zn Zx
  nils : (Aa = none → ca = 0) ∧ (An = none → cn = 0) ∧ (Ax = none → cx = 0)
  id : M.id ≤ 65535
  flags : M.flags ≤ 65535
  lens : M.qs.length ≤ maxLen ∧ M.an.length ≤ maxLen ∧ M.ns.length ≤ maxLen ∧ M.ad.length ≤ maxLen
  qs : ∀ q ∈ M.qs, q.name.length ≤ maxLen ∧ q.kind ≤ 65535 ∧ q.cls ≤ 65535
  recs : ∀ R ∈ M.an ++ M.ns ++ M.ad, (R.name.length ≤ maxLen ∧ R.names.length ≤ maxLen ∧ R.nums.length ≤ maxLen ∧ R.texts.length ≤ maxLen ∧ R.kind ≤ 65535 ∧ R.cls ≤ 65535 ∧ R.ttl ≤ 4294967295) ∧ ∀ k, k < R.nums.length → R.nums.getD k 0 ≤ 4294967295
set_option maxRecDepth 100000 in
theorem came_msg {r : Reach} {b0 : Nat} {v : Value} {d : DataW H} {p : List MemPlace} (hv : Value.okWide Try.prog w r b0 26 v) (h : DataW.Trod enc Try.prog w base spare held 26 v d p) :
    ∃ M Aq Aa An Ax cq ca cn cx Za Zn Zx, CameMsg w v M Aq Aa An Ax cq ca cn cx Za Zn Zx := by
  obtain ⟨cs, rfl, hsz⟩ := okWide_struct Try.underlying26 hv
  obtain ⟨lst⟩ := cs
  match lst, hsz.trans (show Try.prog.cellsOf 26 = 6 by kernel_rfl) with
  | [a0, a1, a2, a3, a4, a5], _ =>
    obtain ⟨fuel, hf⟩ := h
    obtain ⟨xs, n, _, hx, _, hlen, hg⟩ := DataW.trod_struct Try.underlying26 hf
    match xs, hlen with
    | [y0, y1, y2, y3, y4, y5], _ =>
      have cs2 : Try.prog.cellsOf 22 = 1 := by kernel_rfl
      have cs4 : Try.prog.cellsOf 23 = 1 := by kernel_rfl
      have cs5 : Try.prog.cellsOf 24 = 1 := by kernel_rfl
      have g0 : DataW.trod enc Try.prog w base spare held n 22 [a0] = some y0 := by simpa [Value.cells, cs2] using hg 0 _ rfl
      have g1 : DataW.trod enc Try.prog w base spare held n 22 [a1] = some y1 := by simpa [Value.cells, cs2] using hg 1 _ rfl
      have g2 : DataW.trod enc Try.prog w base spare held n 23 [a2] = some y2 := by simpa [Value.cells, cs4] using hg 2 _ rfl
      have g3 : DataW.trod enc Try.prog w base spare held n 24 [a3] = some y3 := by simpa [Value.cells, cs5] using hg 3 _ rfl
      have g4 : DataW.trod enc Try.prog w base spare held n 24 [a4] = some y4 := by simpa [Value.cells, cs5] using hg 4 _ rfl
      have g5 : DataW.trod enc Try.prog w base spare held n 24 [a5] = some y5 := by simpa [Value.cells, cs5] using hg 5 _ rfl
      obtain ⟨z0, e0, _, hz0⟩ := DataW.trod_int Try.underlying22 g0
      obtain ⟨z1, e1, _, hz1⟩ := DataW.trod_int Try.underlying22 g1
      obtain ⟨Aq, nq, cq, L, rfl, hq1, hq2, hq3, hq4⟩ := came_qns g2
      obtain ⟨Aa, na, ca, Za, rfl, ha1, ha2, ha3, ha4, ha6, ha5⟩ := came_recs g3
      obtain ⟨An, nn, cn, Zn, rfl, hn1, hn2, hn3, hn4, hn6, hn5⟩ := came_recs g4
      obtain ⟨Ax, nx, cx, Zx, rfl, hx1, hx2, hx3, hx4, hx6, hx5⟩ := came_recs g5
      injection e0 with e0
      injection e1 with e1
      subst e0 e1
      obtain ⟨k0, rfl, hk0⟩ := wf_u16 hz0
      obtain ⟨k1, rfl, hk1⟩ := wf_u16 hz1
      subst hq1 ha1 hn1 hx1
      refine ⟨⟨k0, k1, L, Za.map (·.1), Zn.map (·.1), Zx.map (·.1)⟩, Aq, Aa, An, Ax, cq, ca, cn, cx, Za, Zn, Zx, by simp only [List.length_map], ⟨hq3, ha3, hn3, hx3, ha4, hn4, hx4, rfl, rfl, rfl⟩, ⟨ha6, hn6, hx6⟩, hk0, hk1, by simp only [List.length_map]; exact ⟨hq2, ha2, hn2, hx2⟩, hq4, fun R hR => ?_⟩
      simp only [List.mem_append, List.mem_map] at hR
      rcases hR with (⟨z, hz, rfl⟩ | ⟨z, hz, rfl⟩) | ⟨z, hz, rfl⟩
      · exact ha5 z hz
      · exact hn5 z hz
      · exact hx5 z hz
end
end Go.Proofs.Ytpmmjmnleoicjaa

/- Messages that came in: their questions' names are no longer than any text that came in; lists that are nil have no room. No condition. -/
namespace Go.Proofs.Ytpmmjmnleoicjaa
open Go.ChangeShapes Go.WideShapes Go.Deep Go.RowKit
open Bytes Strs Nums MsgMath RecMath
set_option linter.unusedVariables false
section
variable {H : Type} {enc : TypeId × Value → H} {P : Program} {w : World} {base : Nat} {spare : Nat → Bool} {held : Bool}
theorem weights_all {t : TypeId} {d : DataW H} : ∀ {ds : List (DataW H)}, d ∈ ds → ∀ n ∈ d.weights P t, n ∈ DataW.weightsAll P t ds
  | d0 :: ds, h, n, hn => by
    simp only [DataW.weightsAll, List.mem_append]
    rcases List.mem_cons.1 h with rfl | h
    · exact .inl hn
    · exact .inr (weights_all h n hn)
/-- A row's element's field, as it lies, and its data. -/
theorem row_field {t e : TypeId} {fs : Array Field} {fuel : Nat} {v : Value} {x : DataW H × List MemPlace} (ht : P.underlying t = some (.slice e)) (he : P.underlying e = some (.struct fs))
    (hone : oneCellFields P fs = true) (hC : P.cellsOf e = fs.size) (h : DataW.trod enc P w base spare held fuel t [v] = some x) {a : Addr} {len cap : Nat} (hv : v = .slice (some a) len cap) {i : Nat} (hi : i < len) :
    ∃ n : Nat, ∀ (j : Nat) (f : Field), fs[j]? = some f → ∃ (u : Value) (y : DataW H × List MemPlace), w.cell? (a.add (i * fs.size + j)) = some u ∧ DataW.trod enc P w base spare held n f.type [u] = some y ∧ ∀ n ∈ y.1.weights P f.type, n ∈ x.1.weights P t := by
  rcases open_slice ht h with h0 | ⟨a', len', cap', m, n, D, Pl, hcs, hb, hl, hm, hmm, hx, hi'⟩
  · rw [hv] at h0; exact absurd h0.1 (by simp)
  · rw [hv] at hcs
    simp only [List.cons.injEq, Value.slice.injEq, Option.some.injEq, and_true] at hcs
    obtain ⟨rfl, rfl, rfl⟩ := hcs
    have him : i < m := by rw [hmm]; split <;> omega
    obtain ⟨cs', hc, ht'⟩ := hi' i him
    rw [hC] at hc
    obtain ⟨ys, n', hn', hy, hlen, hyl, hf⟩ := DataW.trod_struct he ht'
    obtain ⟨_, hcl, hat⟩ := World.cells?_some hc
    refine ⟨n', fun j f hj => ?_⟩
    obtain ⟨ho, hk⟩ := hone_of hone j f hj
    have hjl : j < fs.size := (Array.getElem?_eq_some_iff.1 hj).1
    have hcell := hat j hjl
    have hv : cs'[j]? = some (cs'[j]'(by omega)) := List.getElem?_eq_getElem (by omega)
    have h1 := hf j f hj
    rw [ho, hk] at h1
    have hone' : (cs'.drop j).take 1 = [cs'[j]'(by omega)] := by
      rw [List.drop_eq_getElem_cons (by omega)]
      rfl
    rw [hone'] at h1
    have hys : ys[j]? = some (ys[j]'(by omega)) := List.getElem?_eq_getElem (by omega)
    refine ⟨_, _, ?_, h1.trans hys, fun k hk2 => ?_⟩
    · rw [← Go.Deep.add_add, hcell, hv]
    · have e1 : (D i).weights P e = DataW.weightsEach P (fs.toList.map (·.type)) (ys.map (·.1)) := by
        have e2 : D i = (DataW.agg (ys.map (·.1)) : DataW H) := congrArg Prod.fst hy
        rw [e2]
        simp only [DataW.weights, he]
      have h3 : k ∈ (D i).weights P e := by
        rw [e1]
        exact DataW.weights_mem_each (j := j) (t := f.type) (d := (ys[j]'(by omega)).1) (by rw [List.getElem?_map]; simp only [Array.getElem?_toList]; rw [hj]; rfl) (by rw [List.getElem?_map, hys]; rfl) k hk2
      rw [hx]
      simp only [DataW.weights, ht, List.mem_cons, List.mem_append]
      exact .inr (.inl (weights_all (List.mem_map.2 ⟨i, List.mem_range.2 hi, rfl⟩) k h3))
end
section
variable {H : Type} {enc : TypeId × Value → H} {w : World} {base : Nat} {spare : Nat → Bool} {held : Bool}
/-- The six parts of a message that came in, and their data. -/
theorem msg_parts {v0 v1 v2 v3 v4 v5 : Value} {d : DataW H} {p : List MemPlace} (h : DataW.Trod enc Try.prog w base spare held 26 (.agg #[v0, v1, v2, v3, v4, v5]) d p) :
    ∃ (n : Nat) (y2 y3 y4 y5 : DataW H × List MemPlace), DataW.trod enc Try.prog w base spare held n 23 [v2] = some y2 ∧ DataW.trod enc Try.prog w base spare held n 24 [v3] = some y3 ∧ DataW.trod enc Try.prog w base spare held n 24 [v4] = some y4 ∧ DataW.trod enc Try.prog w base spare held n 24 [v5] = some y5 ∧ ∀ n ∈ y2.1.weights Try.prog 23, n ∈ d.weights Try.prog 26 := by
  obtain ⟨fuel, hf⟩ := h
  obtain ⟨xs, n, _, hx, _, hlen, hg⟩ := DataW.trod_struct Try.underlying26 hf
  match xs, hlen with
  | [y0, y1, y2, y3, y4, y5], _ =>
    have cs1 : Try.prog.cellsOf 22 = 1 := by kernel_rfl
    have cs2 : Try.prog.cellsOf 23 = 1 := by kernel_rfl
    have cs3 : Try.prog.cellsOf 24 = 1 := by kernel_rfl
    have g2 : DataW.trod enc Try.prog w base spare held n 23 [v2] = some y2 := by simpa [Value.cells, cs2] using hg 2 _ rfl
    have g3 : DataW.trod enc Try.prog w base spare held n 24 [v3] = some y3 := by simpa [Value.cells, cs3] using hg 3 _ rfl
    have g4 : DataW.trod enc Try.prog w base spare held n 24 [v4] = some y4 := by simpa [Value.cells, cs3] using hg 4 _ rfl
    have g5 : DataW.trod enc Try.prog w base spare held n 24 [v5] = some y5 := by simpa [Value.cells, cs3] using hg 5 _ rfl
    refine ⟨n, y2, y3, y4, y5, g2, g3, g4, g5, fun k hk => ?_⟩
    have e : d = (DataW.agg [y0.1, y1.1, y2.1, y3.1, y4.1, y5.1] : DataW H) := congrArg Prod.fst hx
    rw [e]
    simp only [DataW.weights, Try.underlying26]
    exact DataW.weights_mem_each (j := 2) (t := 23) (d := y2.1) rfl rfl k hk
set_option maxRecDepth 100000 in
theorem came_sized {M : Msg} {Aq Aa An Ax : Option Addr} {nq na nn nx cq ca cn cx : Nat} {v0 v1 : Value} {Za Zn Zx : List RecZ} {d : DataW H} {p : List MemPlace} (h : DataW.Trod enc Try.prog w base spare held 26 (.agg #[v0, v1, .slice Aq nq cq, .slice Aa na ca, .slice An nn cn, .slice Ax nx cx]) d p) (hv : MsgAt w w.heap.size M Aq Aa An Ax Za Zn Zx) (hq : M.qs.length = nq) {r : Nat} (hr : ∀ n ∈ d.weights Try.prog 26, n ≤ r) : ∀ q ∈ M.qs, q.name.length ≤ r := by
  obtain ⟨n, y2, y3, y4, y5, g2, g3, g4, g5, hw⟩ := msg_parts h
  intro q hqm
  obtain ⟨k, hk, rfl⟩ := List.getElem_of_mem hqm
  obtain ⟨b, off, rfl, hb, c0, c1, c2⟩ := hv.q.qn hk
  obtain ⟨m, hf⟩ := row_field Try.underlying23 Try.underlying62 (by kernel_rfl) (by kernel_rfl) g2 rfl (show k < nq by omega)
  obtain ⟨u, y, hc, ht, hwt⟩ := hf 0 _ rfl
  obtain ⟨s, e0, hy, hs⟩ := DataW.trod_string Try.underlying9 ht
  injection e0 with e0
  subst e0
  have hc2 : w.cell? ((⟨b, off, none⟩ : Addr).add (k * 3 + 0)) = some (.string s) := hc
  rw [add_plain] at hc2
  have e2 : (Value.string s : Value) = .string (mk (M.qs[k]).name) := Option.some.inj (hc2.symm.trans c0)
  injection e2 with e2
  refine hr _ (hw _ (hwt _ ?_))
  rw [hy, e2]
  simp [DataW.weights, mk]
set_option maxRecDepth 100000 in
theorem list_znil {Z : List RecZ} {A : Option Addr} {m c n : Nat} {y : DataW H × List MemPlace} (g : DataW.trod enc Try.prog w base spare held n 24 [.slice A m c] = some y) (hc : CellsAt w w.heap.size A (recCs Z)) (hz : ZAt w w.heap.size Z) (hm : Z.length = m) : ZNil Z := fun z hz' k c' => by
  obtain ⟨i, hi, rfl⟩ := List.getElem_of_mem hz'
  have e := fun j (hj : j < 7) => recCs_at (Z := Z) hi hj
  obtain ⟨b, off, rfl, hl, hcc⟩ := hc.get (e 0 (by decide))
  have p4 := hcc (i * 7 + 4) _ (e 4 (by decide))
  have p5 := hcc (i * 7 + 5) _ (e 5 (by decide))
  have p6 := hcc (i * 7 + 6) _ (e 6 (by decide))
  obtain ⟨m', hf⟩ := row_field Try.underlying24 Try.underlying60 (by kernel_rfl) (by kernel_rfl) g rfl (show i < m by omega)
  obtain ⟨u4, y4, h4, t4, _⟩ := hf 4 _ rfl
  obtain ⟨u5, y5, h5, t5, _⟩ := hf 5 _ rfl
  obtain ⟨u6, y6, h6, t6, _⟩ := hf 6 _ rfl
  have h4 : w.cell? ((⟨b, off, none⟩ : Addr).add (i * 7 + 4)) = some u4 := h4
  have h5 : w.cell? ((⟨b, off, none⟩ : Addr).add (i * 7 + 5)) = some u5 := h5
  have h6 : w.cell? ((⟨b, off, none⟩ : Addr).add (i * 7 + 6)) = some u6 := h6
  rw [add_plain] at h4 h5 h6
  have q4 : u4 = (Z[i]).2.1 := Option.some.inj (h4.symm.trans p4)
  have q5 : u5 = (Z[i]).2.2.1 := Option.some.inj (h5.symm.trans p5)
  have q6 : u6 = (Z[i]).2.2.2 := Option.some.inj (h6.symm.trans p6)
  subst q4 q5 q6
  refine ⟨fun e => ?_, fun e => ?_, fun e => ?_⟩
  · obtain ⟨A1, n1, c1, L1, e1, _, _, _, hn⟩ := came_texts t4
    rw [e] at e1; injection e1 with a1 _ a3; rw [a3]; exact hn a1.symm
  · obtain ⟨A1, n1, c1, L1, e1, _, _, _, hn, _⟩ := came_nums t5
    rw [e] at e1; injection e1 with a1 _ a3; rw [a3]; exact hn a1.symm
  · obtain ⟨A1, n1, c1, L1, e1, _, _, _, hn⟩ := came_texts t6
    rw [e] at e1; injection e1 with a1 _ a3; rw [a3]; exact hn a1.symm
theorem came_znil {M : Msg} {Aq Aa An Ax : Option Addr} {nq na nn nx cq ca cn cx : Nat} {v0 v1 : Value} {Za Zn Zx : List RecZ} {d : DataW H} {p : List MemPlace} (h : DataW.Trod enc Try.prog w base spare held 26 (.agg #[v0, v1, .slice Aq nq cq, .slice Aa na ca, .slice An nn cn, .slice Ax nx cx]) d p) (hv : MsgAt w w.heap.size M Aq Aa An Ax Za Zn Zx) (ha : Za.length = na) (hn : Zn.length = nn) (hx : Zx.length = nx) : ZNil Za ∧ ZNil Zn ∧ ZNil Zx := by
  obtain ⟨n, y2, y3, y4, y5, g2, g3, g4, g5, hw⟩ := msg_parts h
  exact ⟨list_znil g3 hv.a hv.za ha, list_znil g4 hv.n hv.zn hn, list_znil g5 hv.x hv.zx hx⟩
end
end Go.Proofs.Ytpmmjmnleoicjaa

/- What time does to messages: aged twice, aged by nothing, how long they hold. No program, no condition. -/
namespace Go.Proofs.Ytpmmjmnleoicjaa.QrTimes
open Go Bytes NameMath MsgMath RecMath WrMath QrMath NumMath
set_option linter.unusedVariables false
theorem sat_nat (a b : Nat) : ∃ n : Nat, sat64 ((a : Int) + (b : Int)) = (n : Int) := by
  unfold sat64
  split
  · exact ⟨18446744073709551615, rfl⟩
  · exact ⟨a + b, by omega⟩
theorem sat_of {a b n : Nat} (ha : a ≤ 18446744073709551615) (hb : b ≤ 18446744073709551615) (h : sat64 ((a : Int) + (b : Int)) = (n : Int)) : n ≤ 18446744073709551615 ∧ (n = a + b ∨ 4294967295 ≤ n ∧ n ≤ a + b) := by
  unfold sat64 at h
  split at h <;> omega
theorem ageR_twice {a b n : Nat} {R : Rec} (hR : R.ttl ≤ 4294967295) (hn : n = a + b ∨ 4294967295 ≤ n ∧ n ≤ a + b) : ageR b (ageR a R) = ageR n R := by
  unfold ageR
  by_cases h : R.kind = 41
  · rw [if_pos h, if_pos h, if_pos h]
  · rw [if_neg h, if_neg h, if_neg (by simpa using h)]
    simp only [Rec.mk.injEq, true_and, and_true]
    omega
theorem map_twice {a b n : Nat} {L : List Rec} (hL : ∀ R ∈ L, R.ttl ≤ 4294967295) (hn : n = a + b ∨ 4294967295 ≤ n ∧ n ≤ a + b) : (L.map (ageR a)).map (ageR b) = L.map (ageR n) := by
  rw [List.map_map]
  exact List.map_congr_left fun R hR => ageR_twice (hL R hR) hn
theorem age_twice {a b n : Nat} {M : Msg} (hL : ∀ R ∈ recsM M, R.ttl ≤ 4294967295) (hn : n ≤ 18446744073709551615 ∧ (n = a + b ∨ 4294967295 ≤ n ∧ n ≤ a + b)) : ageM b (ageM a M) = ageM n M := by
  unfold ageM
  unfold recsM at hL
  simp only [Msg.mk.injEq, true_and]
  exact ⟨map_twice (fun R hR => hL R (List.mem_append_left _ (List.mem_append_left _ hR))) hn.2, map_twice (fun R hR => hL R (List.mem_append_left _ (List.mem_append_right _ hR))) hn.2, map_twice (fun R hR => hL R (List.mem_append_right _ hR)) hn.2⟩
theorem ageR_zero {R : Rec} : ageR 0 R = R := by unfold ageR; split <;> rfl
theorem age_zero {M : Msg} : ageM 0 M = M := by
  have h : ageR 0 = id := funext fun R => ageR_zero
  unfold ageM
  rw [h, List.map_id, List.map_id, List.map_id]
theorem kind_age {a : Nat} {R : Rec} : (ageR a R).kind = R.kind := by unfold ageR; split <;> rfl
theorem nums_age {a : Nat} {R : Rec} : (ageR a R).nums = R.nums := by unfold ageR; split <;> rfl
theorem ttl_age {a : Nat} {R : Rec} (h : R.kind ≠ 41) : (ageR a R).ttl = R.ttl - a := by unfold ageR; rw [if_neg h]
theorem ttl_le {a : Nat} {R : Rec} : (ageR a R).ttl ≤ R.ttl := by
  unfold ageR
  split
  · exact Nat.le_refl _
  · exact Nat.sub_le _ _
theorem neg_age {a : Nat} {M : Msg} : negM (ageM a M) = negM M := by
  unfold negM ageM
  simp only [List.any_map]
  have h : ∀ q : Qn, ((fun R : Rec => decide (R.kind = q.kind ∨ R.kind = 5)) ∘ ageR a) = fun R : Rec => decide (R.kind = q.kind ∨ R.kind = 5) := fun q => funext fun R => by show decide _ = _; rw [kind_age]
  cases M.qs with
  | nil => rfl
  | cons q L => simp only [h]
theorem first_age {a k : Nat} (hz : ageR a zeroR = zeroR) : ∀ {L : List Rec}, firstR k (L.map (ageR a)) = ageR a (firstR k L)
  | [] => hz.symm
  | R :: L => by
    rw [List.map_cons, firstR, firstR, kind_age]
    split
    · rfl
    · exact first_age hz
theorem zero_age {a : Nat} : ageR a zeroR = zeroR := by
  unfold ageR zeroR
  rw [if_neg (by decide)]
  simp
theorem keep_age {a : Nat} : ∀ {L : List Rec}, (L.map (ageR a)).filter (fun R => decide (R.kind ≠ 41)) = (L.filter fun R => decide (R.kind ≠ 41)).map (ageR a)
  | [] => rfl
  | R :: L => by
    rw [List.map_cons, List.filter_cons, List.filter_cons, kind_age]
    split
    · rw [List.map_cons, keep_age]
    · exact keep_age
theorem fold_age {a : Nat} : ∀ {L : List Rec} {t : Nat}, (∀ R ∈ L, R.kind ≠ 41) → (L.map (ageR a)).foldl (fun a S => if S.ttl < a then S.ttl else a) (t - a) = L.foldl (fun a S => if S.ttl < a then S.ttl else a) t - a
  | [], _, _ => rfl
  | R :: L, t, h => by
    rw [List.map_cons, List.foldl_cons, List.foldl_cons, ttl_age (h R (List.mem_cons_self ..))]
    have e : (if R.ttl - a < t - a then R.ttl - a else t - a) = (if R.ttl < t then R.ttl else t) - a := by
      split <;> split <;> omega
    rw [e]
    exact fold_age fun S hS => h S (List.mem_cons_of_mem _ hS)
theorem leastL_age {a : Nat} : ∀ {L : List Rec}, (∀ R ∈ L, R.kind ≠ 41) → leastL (L.map (ageR a)) = leastL L - a
  | [], _ => (Nat.zero_sub a).symm
  | R :: L, h => by
    rw [List.map_cons, leastL, leastL, ttl_age (h R (List.mem_cons_self ..))]
    exact fold_age fun S hS => h S (List.mem_cons_of_mem _ hS)
theorem map_recs {a : Nat} {M : Msg} : recsM (ageM a M) = (recsM M).map (ageR a) := by unfold recsM ageM; simp
/-- How long it holds falls by just what went by. -/
theorem least_age {a : Nat} {M : Msg} (h : negM M = false) : leastM (ageM a M) = leastM M - a := by
  unfold leastM
  rw [neg_age, h, if_neg (by decide), if_neg (by decide), map_recs, keep_age]
  exact leastL_age fun R hR => of_decide_eq_true (List.mem_filter.1 hR).2
theorem none_age {a : Nat} {M : Msg} : noneM (ageM a M) ≤ noneM M := by
  unfold noneM
  show (let R := firstR 6 (M.ns.map (ageR a)); if R.nums.length ≠ 5 then 0 else min R.ttl (R.nums.getD 4 0)) ≤ _
  rw [first_age zero_age]
  simp only [nums_age]
  split
  · exact Nat.zero_le _
  · have := ttl_le (a := a) (R := firstR 6 M.ns)
    omega
/-- It never rises. -/
theorem least_le {a : Nat} {M : Msg} : leastM (ageM a M) ≤ leastM M := by
  cases h : negM M with
  | false => rw [least_age h]; exact Nat.sub_le _ _
  | true =>
    unfold leastM
    rw [neg_age, h, if_pos rfl, if_pos rfl]
    exact none_age
theorem fold_bound {m : Nat} : ∀ {L : List Rec} {t : Nat}, t ≤ m → L.foldl (fun a S => if S.ttl < a then S.ttl else a) t ≤ m
  | [], _, h => h
  | R :: L, t, h => by
    rw [List.foldl_cons]
    exact fold_bound (by split <;> omega)
theorem least_bound {M : Msg} (hL : ∀ R ∈ recsM M, R.ttl ≤ 4294967295) : leastM M ≤ 4294967295 := by
  unfold leastM
  split
  · unfold noneM
    have hm : ∀ {L : List Rec}, (∀ R ∈ L, R.ttl ≤ 4294967295) → (firstR 6 L).ttl ≤ 4294967295 := by
      intro L
      induction L with
      | nil => intro _; exact Nat.zero_le _
      | cons R L ih =>
        intro h
        unfold firstR
        split
        · exact h R (List.mem_cons_self ..)
        · exact ih fun S hS => h S (List.mem_cons_of_mem _ hS)
    have h2 := hm (L := M.ns) fun R hR => hL R (by unfold recsM; exact List.mem_append_left _ (List.mem_append_right _ hR))
    simp only
    split
    · exact Nat.zero_le _
    · omega
  · have h : ∀ R ∈ (recsM M).filter (fun R => decide (R.kind ≠ 41)), R.ttl ≤ 4294967295 := fun R hR => hL R (List.mem_filter.1 hR).1
    revert h
    cases (recsM M).filter fun R => decide (R.kind ≠ 41) with
    | nil => intro _; exact Nat.zero_le _
    | cons R L => intro h; exact fold_bound (h R (List.mem_cons_self ..))
end Go.Proofs.Ytpmmjmnleoicjaa.QrTimes

/- The contracts of the document's aged, Age, Fail. For messages that can be gone through. -/
namespace Go.Proofs.Ytpmmjmnleoicjaa
open Go.RowKit Bytes Strs Nums NameMath MsgMath RecMath WrMath QrMath
set_option linter.unusedVariables false
set_option linter.unusedSimpArgs false

/-- A record's place in a row, aged. -/
def ageZ (s : Nat) (z : RecZ) : RecZ := (ageR s z.1, z.2)
theorem ageZ_map {s : Nat} {Z : List RecZ} {L : List Rec} (h : Z.map (·.1) = L) : (Z.map (ageZ s)).map (·.1) = L.map (ageR s) := by
  rw [← h, List.map_map, List.map_map]
  rfl
theorem ageR_fields (s : Nat) (R : Rec) : (ageR s R).name = R.name ∧ (ageR s R).kind = R.kind ∧ (ageR s R).cls = R.cls ∧ (ageR s R).names = R.names ∧ (ageR s R).nums = R.nums ∧ (ageR s R).texts = R.texts := by
  unfold ageR
  split <;> exact ⟨rfl, rfl, rfl, rfl, rfl, rfl⟩
theorem ageZ_at {w : World} {B s : Nat} {Z : List RecZ} (h : ZAt w B Z) : ZAt w B (Z.map (ageZ s)) := fun z hz => by
  obtain ⟨y, hy, rfl⟩ := List.mem_map.1 hz
  obtain ⟨A1, c1, A2, c2, A3, c3, e1, e2, e3, hat⟩ := h y hy
  obtain ⟨f1, f2, f3, f4, f5, f6⟩ := ageR_fields s y.1
  refine ⟨A1, c1, A2, c2, A3, c3, ?_, ?_, ?_, ⟨rfl, rfl, rfl, rfl, rfl, rfl, rfl, ?_, ?_, ?_⟩⟩
  · show y.2.1 = .slice A1 (ageR s y.1).names.length c1; rw [f4]; exact e1
  · show y.2.2.1 = .slice A2 (ageR s y.1).nums.length c2; rw [f5]; exact e2
  · show y.2.2.2 = .slice A3 (ageR s y.1).texts.length c3; rw [f6]; exact e3
  · show RdS w B A1 (ageR s y.1).names; rw [f4]; exact hat.rd1
  · show RdN w B A2 (ageR s y.1).nums; rw [f5]; exact hat.rd2
  · show RdS w B A3 (ageR s y.1).texts; rw [f6]; exact hat.rd3
theorem ageZ_take {s : Nat} {Z : List RecZ} {j : Nat} (hj : j < Z.length) : recCs ((Z.map (ageZ s)).take (j + 1)) = recCs ((Z.map (ageZ s)).take j) ++ recV (ageR s (Z[j]).1) (Z[j]).2.1 (Z[j]).2.2.1 (Z[j]).2.2.2 := by
  rw [← List.map_take, ← List.map_take, List.take_succ_eq_append_getElem hj, List.map_append]
  show recCs (_ ++ [(ageR s (Z[j]).1, (Z[j]).2.1, (Z[j]).2.2.1, (Z[j]).2.2.2)]) = _
  exact recCs_snoc _ _ _ _ _
theorem wrap_u32t {t : Nat} (h : t ≤ 4294967295) : IntKind.u32.wrap (t : Int) = (t : Int) := by
  have e : IntKind.u32.wrap (t : Int) = (t : Int) % 4294967296 := by simp [IntKind.wrap, IntKind.bits, IntKind.signed]
  rw [e]; omega
/-- A store into another block than the row's own. -/
theorem own_other {w : World} {base b i n k : Nat} {e : TypeId} {v u : Value} {xs : List Value} (h : w.ownsRow base e k v n xs) (hb : ∀ j, v.ownBlock = some j → j ≠ b) : (w.setCell ⟨b, i, none⟩ u).ownsRow base e k v n xs := by
  obtain ⟨hl, h | ⟨bb, cap, cur, e1, hbb, hh, h2⟩⟩ := h
  · exact ⟨hl, .inl h⟩
  · exact ⟨hl, .inr ⟨bb, cap, cur, e1, hbb, set_far hh (hb bb (by rw [e1]; rfl)), h2⟩⟩
/-- A record out of a row, with its three lists as the row tells them. -/
theorem recs_getV {w : World} {B : Nat} {A : Option Addr} {Z : List RecZ} (h : CellsAt w B A (recCs Z)) (hz : ZAt w B Z) {k : Nat} (hk : k < Z.length) : ∃ b off A1 l1 c1 A2 l2 c2 A3 l3 c3, A = some ⟨b, off, none⟩ ∧ (Z[k]).2.1 = .slice A1 l1 c1 ∧ (Z[k]).2.2.1 = .slice A2 l2 c2 ∧ (Z[k]).2.2.2 = .slice A3 l3 c3 ∧
    w.cell? ⟨b, off + k * 7, none⟩ = some (.string (mk (Z[k]).1.name)) ∧ w.cell? ⟨b, off + k * 7 + 1, none⟩ = some (.int .u16 (Z[k]).1.kind) ∧ w.cell? ⟨b, off + k * 7 + 2, none⟩ = some (.int .u16 (Z[k]).1.cls) ∧ w.cell? ⟨b, off + k * 7 + 3, none⟩ = some (.int .u32 (Z[k]).1.ttl) ∧ w.cell? ⟨b, off + k * 7 + 4, none⟩ = some (.slice A1 l1 c1) ∧ w.cell? ⟨b, off + k * 7 + 5, none⟩ = some (.slice A2 l2 c2) ∧ w.cell? ⟨b, off + k * 7 + 6, none⟩ = some (.slice A3 l3 c3) := by
  have e := fun j (hj : j < 7) => recCs_at (Z := Z) hk hj
  obtain ⟨A1, c1, A2, c2, A3, c3, e1, e2, e3, hat⟩ := hz (Z[k]) (List.getElem_mem hk)
  obtain ⟨b, off, rfl, hl, hc⟩ := h.get (e 0 (by decide))
  exact ⟨b, off, A1, _, c1, A2, _, c2, A3, _, c3, rfl, e1, e2, e3, hc (k * 7) _ (e 0 (by decide)), hc (k * 7 + 1) _ (e 1 (by decide)), hc (k * 7 + 2) _ (e 2 (by decide)), hc (k * 7 + 3) _ (e 3 (by decide)), hc (k * 7 + 4) _ ((e 4 (by decide)).trans (by rw [e1]; rfl)), hc (k * 7 + 5) _ ((e 5 (by decide)).trans (by rw [e2]; rfl)), hc (k * 7 + 6) _ ((e 6 (by decide)).trans (by rw [e3]; rfl))⟩
set_option maxHeartbeats 8000000 in
set_option maxRecDepth 100000 in
theorem refaged_is (A : Option Addr) (c n s B : Nat) (Z : List RecZ) (w : World) (hc : CellsAt w B A (recCs Z)) (hz : ZAt w B Z) (hn0 : Hid (Z.length = n)) (hn : n ≤ 1000) (hB : B ≤ w.heap.size) (hs : s ≤ 18446744073709551615) (hsm : Hid (∀ z ∈ Z, z.1.ttl ≤ 4294967295)) :
    Calls Try.prog 79 #[.slice A n c, .int .u64 s] w fun e w' => ∃ v, e = .returned v ∧ w'.ownsRow w.heap.size 60 7 v n (recCs (Z.map (ageZ s))) ∧ Below w.heap.size w w' := by
  obtain ⟨i0, hi, hz0, hz1, hz2⟩ := info_parts info_rec
  have HI := Lib.hid hi
  have HZ0 := Lib.hid hz0
  have HZ1 := Lib.hid hz1
  have HZ2 := Lib.hid hz2
  have HC := Lib.hid hc
  have HZ := Lib.hid hz
  obtain ⟨g, hg⟩ : ∃ g, w.heap.size = g := ⟨_, rfl⟩
  rw [hg] at hB ⊢
  have HG := Lib.hid hg
  have HO1 : Hid (w.ownsRow g 60 7 (.slice none 0 0) 0 (recCs ((Z.map (ageZ s)).take 0))) := World.ownsRow_nil _ _ _ _
  have HV1 : Hid (Below g w w) := Below.refl g w
  clear hc hz hi hz0 hz1 hz2 hg
  go_enter Try.func79, Try.ntmps79
  go_wp2_with fail
  go_loopw [5, 6] (fun u v wr => ∃ (j : Nat) (o : Value), j ≤ n ∧ u = o ∧ v = .int .i64 j ∧ Hid (wr.ownsRow g 60 7 o j (recCs ((Z.map (ageZ s)).take j))) ∧ Hid (Below g w wr)) (fun _ v _ => n - (intOf v).toNat)
  case atStart => exact ⟨0, _, Nat.zero_le _, rfl, rfl, HO1, HV1⟩
  case round =>
    obtain ⟨j, o, hj, rfl, rfl, hO, hV⟩ := hrel
    have HS : Hid (g ≤ wr.heap.size) := by have h := hV.out.size; rw [HG.out] at h; exact h
    obtain ⟨oA, oc, e0, _⟩ := cells_own hO.out
    subst e0
    by_cases hlt : j < n
    · have hkz : j < Z.length := by rw [hn0.out]; exact hlt
      obtain ⟨b, off, A1, l1, c1, A2, l2, c2, A3, l3, c3, rfl, g1, g2, g3, p0, p1, p2, p3, p4, p5, p6⟩ := recs_getV (HC.out.on (hV.out.mono hB) (Nat.le_refl _)) (HZ.out.on (hV.out.mono hB) (Nat.le_refl _)) hkz
      have hrt2 := hsm.out _ (List.getElem_mem hkz)
      have htk := ageZ_take (s := s) hkz
      rw [g1, g2, g3] at htk
      obtain ⟨R, hR⟩ : ∃ R, (Z[j]'hkz).1 = R := ⟨_, rfl⟩
      rw [hR] at p0 p1 p2 p3 htk hrt2
      have HTK := Lib.hid htk
      obtain ⟨x, hx⟩ : ∃ x, mk R.name = x := ⟨_, rfl⟩
      obtain ⟨rk, hrk⟩ : ∃ k, R.kind = k := ⟨_, rfl⟩
      obtain ⟨rc, hrc⟩ : ∃ k, R.cls = k := ⟨_, rfl⟩
      obtain ⟨rt, hrt⟩ : ∃ k, R.ttl = k := ⟨_, rfl⟩
      rw [hx] at p0
      rw [hrk] at p1
      rw [hrc] at p2
      rw [hrt] at p3 hrt2
      have HVE : Hid (rk = 41 → recV (ageR s R) (.slice A1 l1 c1) (.slice A2 l2 c2) (.slice A3 l3 c3) = [.string x, .int .u16 rk, .int .u16 rc, .int .u32 rt, .slice A1 l1 c1, .slice A2 l2 c2, .slice A3 l3 c3]) := fun h => by unfold ageR; rw [if_pos (hrk.trans h)]; unfold recV; rw [hx, hrk, hrc, hrt]
      have HVN : Hid (rk ≠ 41 → recV (ageR s R) (.slice A1 l1 c1) (.slice A2 l2 c2) (.slice A3 l3 c3) = [.string x, .int .u16 rk, .int .u16 rc, .int .u32 ((rt - s : Nat) : Int), .slice A1 l1 c1, .slice A2 l2 c2, .slice A3 l3 c3]) := fun h => by unfold ageR; rw [if_neg (by rw [hrk]; exact h)]; unfold recV; simp only [hx, hrk, hrc, hrt]
      obtain ⟨dd, hdd⟩ : ∃ d, wr.heap.size = d := ⟨_, rfl⟩
      have gd : g ≤ dd := by rw [← hdd]; exact HS.out
      obtain ⟨w2, hw2⟩ : ∃ v, wr.alloc (.cells #[.string x, .int .u16 rk, .int .u16 rc, .int .u32 rt, .slice A1 l1 c1, .slice A2 l2 c2, .slice A3 l3 c3] 60) = v := ⟨_, rfl⟩
      have n2 : Below dd wr w2 := by rw [← hw2, ← hdd]; exact (Below.refl _ _).alloc (Nat.le_refl _) _
      have HY : Hid (w2.heap[dd]? = some (.cells #[.string x, .int .u16 rk, .int .u16 rc, .int .u32 rt, .slice A1 l1 c1, .slice A2 l2 c2, .slice A3 l3 c3] 60 (0, 0))) := by rw [← hw2, ← hdd]; exact heap_alloc_new wr _
      have S2 : Hid (w2.heap.size = dd + 1) := by show _ = _; rw [← hw2, ← hdd]; simp
      have SG2 : Hid (g ≤ w2.heap.size) := by show _ ≤ _; rw [S2.out]; omega
      have V2 : Hid (Below g w w2) := hV.out.trans (n2.mono gd)
      have HO2 : Hid (w2.ownsRow g 60 7 (.slice oA j oc) j (recCs ((Z.map (ageZ s)).take j))) := row_below hO.out (by rw [hdd]; exact n2)
      have HOB : Hid (∀ k, (Value.slice oA j oc).ownBlock = some k → k ≠ dd) := fun k hk => by have h := (hO.out.lt k hk).2; omega
      have HW2 := Lib.hid hw2
      clear hx hrk hrc hrt htk hR hkz n2 hw2 g1 g2 g3 hO
      go_upto_region 6 with fail
      rw [HW2.out]
      clear hdd p0 p1 p2 p3 p4 p5 p6
      have y0 := cell_of_row _ _ 0 _ _ _ HY.out
      have y1 := cell_of_row _ _ 1 _ _ _ HY.out
      have y2 := cell_of_row _ _ 2 _ _ _ HY.out
      have y3 := cell_of_row _ _ 3 _ _ _ HY.out
      have y4 := cell_of_row _ _ 4 _ _ _ HY.out
      have y5 := cell_of_row _ _ 5 _ _ _ HY.out
      have y6 := cell_of_row _ _ 6 _ _ _ HY.out
      by_cases h41 : rk = 41
      · have f41 : ((rk : Int) != 41) = false := bne_eq_false_iff_eq.2 (by omega)
        have HVV := Lib.hid (HVE.out h41)
        clear h41
        go_wp2_with (at_builtin; refine wpList_append_own _ rfl _ _ 24 rfl g 60 i0 (.agg #[.string ⟨#[]⟩, .int .u16 0, .int .u16 0, .int .u32 0, .slice none 0 0, .slice none 0 0, .slice none 0 0]) 7 96 Try.underlying24 HI.out HZ0.out HZ1.out HZ2.out rfl (by decide) _ _ _ rfl (HO2.out.alloc _) ⟨w2.heap.size, 0, none⟩ 1 1 [.string x, .int .u16 rk, .int .u16 rc, .int .u32 rt, .slice A1 l1 c1, .slice A2 l2 c2, .slice A3 l3 c3] rfl rfl ?CAa ?CAb ?CAc ?CAd ?CAe ?_)
        case CAa =>
          intro j u hj
          match j, hj with
          | 0, hj => simp at hj; subst hj; simp [Addr.add]
          | 1, hj => simp at hj; subst hj; simp [Addr.add]
          | 2, hj => simp at hj; subst hj; simp [Addr.add]
          | 3, hj => simp at hj; subst hj; simp [Addr.add]
          | 4, hj => simp at hj; subst hj; simp [Addr.add]
          | 5, hj => simp at hj; subst hj; simp [Addr.add]
          | 6, hj => simp at hj; subst hj; simp [Addr.add]
        case CAb =>
          intro u hu
          simp at hu
          rcases hu with rfl | rfl | rfl | rfl | rfl | rfl | rfl <;> rfl
        case CAc => unfold maxLen; omega
        case CAd => omega
        case CAe => have := SG2.out; simp; omega
        intro v' w9 hown hgrow _
        have E1 : Hid (w9.ownsRow g 60 7 v' (j + 1) (recCs ((Z.map (ageZ s)).take (j + 1)))) := by show World.ownsRow _ _ _ _ _ _ _; rw [HTK.out, HVV.out]; exact hown
        have E3 : Hid (Below g w w9) := (V2.out.alloc (by have := SG2.out; omega) _).grown hgrow (by have := SG2.out; simp; omega) (fun k hk => (HO2.out.lt k hk).1)
        clear hown hgrow
        go_wp2_with fail
        go_roundw
        case rel => exact ⟨j + 1, v', by omega, rfl, by go_num, E1, E3⟩
        case measure => simp [intOf]; omega
      · have f41 : ((rk : Int) != 41) = true := bne_iff_ne.2 (by omega)
        have HV0 := Lib.hid (HVN.out h41)
        have yf : ∀ i, w2.frozen? ⟨dd, i, none⟩ = false := Lib.frozen_of_heap HY.out
        clear h41
        by_cases hge : rt ≤ s
        · have fge : decide (rt ≤ s) = true := decide_eq_true hge
          have fge2 : decide ((rt : Int) ≤ (s : Int)) = true := decide_eq_true (by omega)
          have HVV : Hid (recV (ageR s R) (.slice A1 l1 c1) (.slice A2 l2 c2) (.slice A3 l3 c3) = [.string x, .int .u16 rk, .int .u16 rc, .int .u32 0, .slice A1 l1 c1, .slice A2 l2 c2, .slice A3 l3 c3]) := by show _ = _; rw [HV0.out, show rt - s = 0 by omega]; rfl
          obtain ⟨w5, hw5⟩ : ∃ v, w2.setCell ⟨dd, 3, none⟩ (.int .u32 0) = v := ⟨_, rfl⟩
          have HY5 : Hid (w5.heap[dd]? = some (.cells #[.string x, .int .u16 rk, .int .u16 rc, .int .u32 0, .slice A1 l1 c1, .slice A2 l2 c2, .slice A3 l3 c3] 60 (0, 0))) := by rw [← hw5]; exact set_at HY.out rfl
          have V5 : Hid (Below g w w5) := by rw [← hw5]; exact V2.out.setCell (p := ⟨dd, 3, none⟩) gd _
          have SG5 : Hid (g ≤ w5.heap.size) := by show _ ≤ _; rw [← hw5, Go.Deep.nblk_setCell]; exact SG2.out
          have HO5 : Hid (w5.ownsRow g 60 7 (.slice oA j oc) j (recCs ((Z.map (ageZ s)).take j))) := by rw [← hw5]; exact own_other HO2.out HOB.out
          have HW5 := Lib.hid hw5
          clear hw5 hge
          go_upto_region 10 with fail
          rw [HW5.out]
          clear y0 y1 y2 y3 y4 y5 y6 yf
          have y0 := cell_of_row _ _ 0 _ _ _ HY5.out
          have y1 := cell_of_row _ _ 1 _ _ _ HY5.out
          have y2 := cell_of_row _ _ 2 _ _ _ HY5.out
          have y3 := cell_of_row _ _ 3 _ _ _ HY5.out
          have y4 := cell_of_row _ _ 4 _ _ _ HY5.out
          have y5 := cell_of_row _ _ 5 _ _ _ HY5.out
          have y6 := cell_of_row _ _ 6 _ _ _ HY5.out
          go_wp2_with (at_builtin; refine wpList_append_own _ rfl _ _ 24 rfl g 60 i0 (.agg #[.string ⟨#[]⟩, .int .u16 0, .int .u16 0, .int .u32 0, .slice none 0 0, .slice none 0 0, .slice none 0 0]) 7 96 Try.underlying24 HI.out HZ0.out HZ1.out HZ2.out rfl (by decide) _ _ _ rfl (HO5.out.alloc _) ⟨w5.heap.size, 0, none⟩ 1 1 [.string x, .int .u16 rk, .int .u16 rc, .int .u32 0, .slice A1 l1 c1, .slice A2 l2 c2, .slice A3 l3 c3] rfl rfl ?CAa ?CAb ?CAc ?CAd ?CAe ?_)
          case CAa =>
            intro j u hj
            match j, hj with
            | 0, hj => simp at hj; subst hj; simp [Addr.add]
            | 1, hj => simp at hj; subst hj; simp [Addr.add]
            | 2, hj => simp at hj; subst hj; simp [Addr.add]
            | 3, hj => simp at hj; subst hj; simp [Addr.add]
            | 4, hj => simp at hj; subst hj; simp [Addr.add]
            | 5, hj => simp at hj; subst hj; simp [Addr.add]
            | 6, hj => simp at hj; subst hj; simp [Addr.add]
          case CAb =>
            intro u hu
            simp at hu
            rcases hu with rfl | rfl | rfl | rfl | rfl | rfl | rfl <;> rfl
          case CAc => unfold maxLen; omega
          case CAd => omega
          case CAe => have := SG5.out; simp; omega
          intro v' w9 hown hgrow _
          have E1 : Hid (w9.ownsRow g 60 7 v' (j + 1) (recCs ((Z.map (ageZ s)).take (j + 1)))) := by show World.ownsRow _ _ _ _ _ _ _; rw [HTK.out, HVV.out]; exact hown
          have E3 : Hid (Below g w w9) := (V5.out.alloc (by have := SG5.out; omega) _).grown hgrow (by have := SG5.out; simp; omega) (fun k hk => (HO5.out.lt k hk).1)
          clear hown hgrow
          go_wp2_with fail
          go_roundw
          case rel => exact ⟨j + 1, v', by omega, rfl, by go_num, E1, E3⟩
          case measure => simp [intOf]; omega
        · have fge : decide (rt ≤ s) = false := decide_eq_false hge
          have fge2 : decide ((rt : Int) ≤ (s : Int)) = false := decide_eq_false (by omega)
          obtain ⟨TT, hTT⟩ : ∃ T, rt - s = T := ⟨_, rfl⟩
          have fsub : ((rt : Int) - (s : Int)) % 4294967296 = (TT : Int) := by omega
          have HVV : Hid (recV (ageR s R) (.slice A1 l1 c1) (.slice A2 l2 c2) (.slice A3 l3 c3) = [.string x, .int .u16 rk, .int .u16 rc, .int .u32 TT, .slice A1 l1 c1, .slice A2 l2 c2, .slice A3 l3 c3]) := by show _ = _; rw [HV0.out, hTT]
          have HTT := Lib.hid hTT
          clear hTT
          obtain ⟨w5, hw5⟩ : ∃ v, w2.setCell ⟨dd, 3, none⟩ (.int .u32 TT) = v := ⟨_, rfl⟩
          have HY5 : Hid (w5.heap[dd]? = some (.cells #[.string x, .int .u16 rk, .int .u16 rc, .int .u32 TT, .slice A1 l1 c1, .slice A2 l2 c2, .slice A3 l3 c3] 60 (0, 0))) := by rw [← hw5]; exact set_at HY.out rfl
          have V5 : Hid (Below g w w5) := by rw [← hw5]; exact V2.out.setCell (p := ⟨dd, 3, none⟩) gd _
          have SG5 : Hid (g ≤ w5.heap.size) := by show _ ≤ _; rw [← hw5, Go.Deep.nblk_setCell]; exact SG2.out
          have HO5 : Hid (w5.ownsRow g 60 7 (.slice oA j oc) j (recCs ((Z.map (ageZ s)).take j))) := by rw [← hw5]; exact own_other HO2.out HOB.out
          have HW5 := Lib.hid hw5
          clear hw5 hge
          go_upto_region 10 with fail
          rw [HW5.out]
          clear y0 y1 y2 y3 y4 y5 y6 yf
          have y0 := cell_of_row _ _ 0 _ _ _ HY5.out
          have y1 := cell_of_row _ _ 1 _ _ _ HY5.out
          have y2 := cell_of_row _ _ 2 _ _ _ HY5.out
          have y3 := cell_of_row _ _ 3 _ _ _ HY5.out
          have y4 := cell_of_row _ _ 4 _ _ _ HY5.out
          have y5 := cell_of_row _ _ 5 _ _ _ HY5.out
          have y6 := cell_of_row _ _ 6 _ _ _ HY5.out
          go_wp2_with (at_builtin; refine wpList_append_own _ rfl _ _ 24 rfl g 60 i0 (.agg #[.string ⟨#[]⟩, .int .u16 0, .int .u16 0, .int .u32 0, .slice none 0 0, .slice none 0 0, .slice none 0 0]) 7 96 Try.underlying24 HI.out HZ0.out HZ1.out HZ2.out rfl (by decide) _ _ _ rfl (HO5.out.alloc _) ⟨w5.heap.size, 0, none⟩ 1 1 [.string x, .int .u16 rk, .int .u16 rc, .int .u32 TT, .slice A1 l1 c1, .slice A2 l2 c2, .slice A3 l3 c3] rfl rfl ?CAa ?CAb ?CAc ?CAd ?CAe ?_)
          case CAa =>
            intro j u hj
            match j, hj with
            | 0, hj => simp at hj; subst hj; simp [Addr.add]
            | 1, hj => simp at hj; subst hj; simp [Addr.add]
            | 2, hj => simp at hj; subst hj; simp [Addr.add]
            | 3, hj => simp at hj; subst hj; simp [Addr.add]
            | 4, hj => simp at hj; subst hj; simp [Addr.add]
            | 5, hj => simp at hj; subst hj; simp [Addr.add]
            | 6, hj => simp at hj; subst hj; simp [Addr.add]
          case CAb =>
            intro u hu
            simp at hu
            rcases hu with rfl | rfl | rfl | rfl | rfl | rfl | rfl <;> rfl
          case CAc => unfold maxLen; omega
          case CAd => omega
          case CAe => have := SG5.out; simp; omega
          intro v' w9 hown hgrow _
          have E1 : Hid (w9.ownsRow g 60 7 v' (j + 1) (recCs ((Z.map (ageZ s)).take (j + 1)))) := by show World.ownsRow _ _ _ _ _ _ _; rw [HTK.out, HVV.out]; exact hown
          have E3 : Hid (Below g w w9) := (V5.out.alloc (by have := SG5.out; omega) _).grown hgrow (by have := SG5.out; simp; omega) (fun k hk => (HO5.out.lt k hk).1)
          clear hown hgrow
          go_wp2_with fail
          go_roundw
          case rel => exact ⟨j + 1, v', by omega, rfl, by go_num, E1, E3⟩
          case measure => simp [intOf]; omega
    · have hjn : ¬ ((j : Int) < (n : Int)) := by omega
      obtain rfl : j = n := by omega
      have hZn : (Z.map (ageZ s)).take j = Z.map (ageZ s) := List.take_of_length_le (by rw [List.length_map, hn0.out]; exact Nat.le_refl _)
      have hO' := hO.out
      rw [hZn] at hO'
      have HOE := Lib.hid hO'
      clear hlt hO hO' hZn
      go_wp2_with fail
      go_ret
      exact ⟨_, rfl, HOE.out, hV.out⟩
/-- The document's aged message. -/
def RefAged (s : Nat) (M : Msg) (Aq : Option Addr) (nq cq na nn nx : Nat) (w : World) (e : Ending) (w' : World) : Prop :=
  ∃ Ba Bn Bx da dn dx Ya Yn Yx, e = .returned (.agg (msgA M.id M.flags Aq nq cq Ba na da Bn nn dn Bx nx dx)) ∧ Hid (MsgV w' w'.heap.size (ageM s M) Aq Ba Bn Bx nq na nn nx da dn dx Ya Yn Yx) ∧ Below w.heap.size w w'
theorem row_ext {w : World} {g n : Nat} {A : Option Addr} {c : Nat} {v : Value} {xs : List Value} (h : w.ownsRow g 60 7 v n xs) (hv : v = .slice A n c) : CellsAt w w.heap.size A xs ∧ (A = none → c = 0) := by
  obtain ⟨A', c', e, hc⟩ := cells_own h
  rw [hv] at e
  injection e with e1 e2 e3
  subst e1
  exact ⟨hc, fun hA => own_nil h (by rw [hv, hA])⟩
set_option maxHeartbeats 8000000 in
set_option maxRecDepth 100000 in
theorem refAge_w (s : Nat) (M : Msg) (Aq Aa An Ax : Option Addr) (nq na nn nx cq ca cn cx B : Nat) (Za Zn Zx : List RecZ) (w : World) (hv : Hid (MsgV w B M Aq Aa An Ax nq na nn nx ca cn cx Za Zn Zx)) (hB : B ≤ w.heap.size) (hf : Hid (QM M)) (hs : s ≤ 18446744073709551615) :
    Calls Try.prog 35 #[.agg (msgA M.id M.flags Aq nq cq Aa na ca An nn cn Ax nx cx), .int .u64 s] w (RefAged s M Aq nq cq na nn nx w) := by
  unfold RefAged
  obtain ⟨id, hid⟩ : ∃ n, M.id = n := ⟨_, rfl⟩
  obtain ⟨fl, hfl⟩ : ∃ n, M.flags = n := ⟨_, rfl⟩
  obtain ⟨g, hg⟩ : ∃ g, w.heap.size = g := ⟨_, rfl⟩
  rw [hid, hfl, hg]
  rw [hg] at hB
  obtain ⟨wa, hwa⟩ : ∃ wa, w.alloc (.cells (msgA id fl Aq nq cq Aa na ca An nn cn Ax nx cx) 26) = wa := ⟨_, rfl⟩
  obtain ⟨wb, hwb⟩ : ∃ wb, wa.alloc (.cells #[.int .u16 0, .int .u16 0, .slice none 0 0, .slice none 0 0, .slice none 0 0, .slice none 0 0] 26) = wb := ⟨_, rfl⟩
  have hsa : wa.heap.size = g + 1 := by rw [← hwa, ← hg]; simp
  have hsb : wb.heap.size = g + 2 := by rw [← hwb]; simp [hsa]
  have hba : Below g w wa := by rw [← hwa, ← hg]; exact (Below.refl _ _).alloc (Nat.le_refl _) _
  have HBB : Hid (Below g w wb) := by rw [← hwb]; exact hba.alloc (by omega) _
  have hx0 : wa.heap[g]? = some (.cells (msgA id fl Aq nq cq Aa na ca An nn cn Ax nx cx) 26 (0, 0)) := by rw [← hwa, ← hg]; exact heap_alloc_new w _
  have HX : Hid (wb.heap[g]? = some (.cells (msgA id fl Aq nq cq Aa na ca An nn cn Ax nx cx) 26 (0, 0))) := by rw [← hwb]; exact old_at hx0
  have HY : Hid (wb.heap[g + 1]? = some (.cells #[.int .u16 0, .int .u16 0, .slice none 0 0, .slice none 0 0, .slice none 0 0, .slice none 0 0] 26 (0, 0))) := by rw [← hwb, ← hsa]; exact heap_alloc_new wa _
  have hbd : na ≤ 1000 ∧ nn ≤ 1000 ∧ nx ≤ 1000 := ⟨by rw [← hv.out.ea]; exact hf.out.few.na, by rw [← hv.out.en]; exact hf.out.few.nn, by rw [← hv.out.ex]; exact hf.out.few.nx⟩
  have hrows := hv.out.rows
  have hza : ∀ z ∈ Za, z.1.ttl ≤ 4294967295 := fun z hz => (hf.out.recs z.1 (by unfold recsM; rw [← hv.out.at_.ea]; exact List.mem_append_left _ (List.mem_append_left _ (List.mem_map.2 ⟨z, hz, rfl⟩)))).2.2.2
  have hzn : ∀ z ∈ Zn, z.1.ttl ≤ 4294967295 := fun z hz => (hf.out.recs z.1 (by unfold recsM; rw [← hv.out.at_.en]; exact List.mem_append_left _ (List.mem_append_right _ (List.mem_map.2 ⟨z, hz, rfl⟩)))).2.2.2
  have hzx : ∀ z ∈ Zx, z.1.ttl ≤ 4294967295 := fun z hz => (hf.out.recs z.1 (by unfold recsM; rw [← hv.out.at_.ex]; exact List.mem_append_right _ (List.mem_map.2 ⟨z, hz, rfl⟩))).2.2.2
  have GA := Lib.hid (fun W (h : Below g w W) (hW : g ≤ W.heap.size) => refaged_is Aa ca na s B Za W (hrows.1.1.on (h.mono hB) (Nat.le_refl _)) (hv.out.at_.za.on (h.mono hB) (Nat.le_refl _)) hrows.1.2.1 (by omega) (by omega) hs hza)
  have GN := Lib.hid (fun W (h : Below g w W) (hW : g ≤ W.heap.size) => refaged_is An cn nn s B Zn W (hrows.2.1.1.on (h.mono hB) (Nat.le_refl _)) (hv.out.at_.zn.on (h.mono hB) (Nat.le_refl _)) hrows.2.1.2.1 (by omega) (by omega) hs hzn)
  have GX := Lib.hid (fun W (h : Below g w W) (hW : g ≤ W.heap.size) => refaged_is Ax cx nx s B Zx W (hrows.2.2.1.on (h.mono hB) (Nat.le_refl _)) (hv.out.at_.zx.on (h.mono hB) (Nat.le_refl _)) hrows.2.2.2.1 (by omega) (by omega) hs hzx)
  have HID := Lib.hid hid
  have HFL := Lib.hid hfl
  have k3 := cell_of_row _ _ 3 _ _ _ HX.out
  have HSB := Lib.hid hsb
  clear hba hx0 hrows hbd hid hfl hza hzn hzx
  go_enter Try.func35, Try.ntmps35
  go_wp2_with fail
  refine (GA.out _ HBB.out (by have := HSB.out; omega)).mono ?_
  rintro e w1 ⟨v1, rfl, hO1, n1⟩
  obtain ⟨B1, d1, e1, _⟩ := cells_own hO1
  subst e1
  have hX1 := (n1.block g (by have := HSB.out; omega)).trans HX.out
  have hY1 := (n1.block (g + 1) (by have := HSB.out; omega)).trans HY.out
  have sz1 : g + 2 ≤ w1.heap.size := Nat.le_trans (by have := HSB.out; omega) n1.size
  have hO1' : w1.ownsRow (g + 2) 60 7 (.slice B1 na d1) na (recCs (Za.map (ageZ s))) := row_low hO1 (by have := HSB.out; omega)
  obtain ⟨w2, hw2⟩ : ∃ v, w1.setCell ⟨g, 3, none⟩ (.slice B1 na d1) = v := ⟨_, rfl⟩
  have HX1 : Hid (w2.heap[g]? = some (.cells #[.int .u16 id, .int .u16 fl, .slice Aq nq cq, .slice B1 na d1, .slice An nn cn, .slice Ax nx cx] 26 (0, 0))) := by rw [← hw2]; exact set_at hX1 rfl
  have HY1 : Hid (w2.heap[g + 1]? = some (.cells #[.int .u16 0, .int .u16 0, .slice none 0 0, .slice none 0 0, .slice none 0 0, .slice none 0 0] 26 (0, 0))) := by rw [← hw2]; exact set_far hY1 (by omega)
  have HQ1 : Hid (w2.ownsRow (g + 2) 60 7 (.slice B1 na d1) na (recCs (Za.map (ageZ s)))) := by rw [← hw2]; exact own_far1 hO1' (by omega)
  have V1 : Hid (Below g w w2) := by rw [← hw2]; exact (HBB.out.trans (n1.mono (by have := HSB.out; omega))).setCell (p := ⟨g, 3, none⟩) (Nat.le_refl _) _
  have SZ1 : Hid (g + 2 ≤ w2.heap.size) := by show _ ≤ _; rw [← hw2, Go.Deep.nblk_setCell]; exact sz1
  have HW1 := Lib.hid hw2
  clear k3 hwa hwb hsa hsb hO1 hO1' hY1 sz1 hw2 n1
  have k3 := cell_of_row _ _ 3 _ _ _ hX1
  have kf : ∀ i, w1.frozen? ⟨g, i, none⟩ = false := Lib.frozen_of_heap hX1
  clear hX1
  go_upto_region 2 with fail
  rw [HW1.out]
  clear k3 kf
  have k4 := cell_of_row _ _ 4 _ _ _ HX1.out
  go_wp2_with fail
  refine (GN.out _ V1.out (by have := SZ1.out; omega)).mono ?_
  rintro e w3 ⟨v2, rfl, hO2, n2⟩
  obtain ⟨B2, d2, e2, _⟩ := cells_own hO2
  subst e2
  have hX2 := (n2.block g (by have := SZ1.out; omega)).trans HX1.out
  have hY2 := (n2.block (g + 1) (by have := SZ1.out; omega)).trans HY1.out
  have sz2 : g + 2 ≤ w3.heap.size := Nat.le_trans (by have := SZ1.out; omega) n2.size
  have hO2' : w3.ownsRow (g + 2) 60 7 (.slice B2 nn d2) nn (recCs (Zn.map (ageZ s))) := row_low hO2 (by have := SZ1.out; omega)
  obtain ⟨w4, hw4⟩ : ∃ v, w3.setCell ⟨g, 4, none⟩ (.slice B2 nn d2) = v := ⟨_, rfl⟩
  have HX2 : Hid (w4.heap[g]? = some (.cells #[.int .u16 id, .int .u16 fl, .slice Aq nq cq, .slice B1 na d1, .slice B2 nn d2, .slice Ax nx cx] 26 (0, 0))) := by rw [← hw4]; exact set_at hX2 rfl
  have HY2 : Hid (w4.heap[g + 1]? = some (.cells #[.int .u16 0, .int .u16 0, .slice none 0 0, .slice none 0 0, .slice none 0 0, .slice none 0 0] 26 (0, 0))) := by rw [← hw4]; exact set_far hY2 (by omega)
  have HQ2 : Hid (w4.ownsRow (g + 2) 60 7 (.slice B2 nn d2) nn (recCs (Zn.map (ageZ s)))) := by rw [← hw4]; exact own_far1 hO2' (by omega)
  have HR1 : Hid (w4.ownsRow (g + 2) 60 7 (.slice B1 na d1) na (recCs (Za.map (ageZ s)))) := by rw [← hw4]; exact own_far1 (row_below HQ1.out n2) (by omega)
  have V2 : Hid (Below g w w4) := by rw [← hw4]; exact (V1.out.trans (n2.mono (by have := SZ1.out; omega))).setCell (p := ⟨g, 4, none⟩) (Nat.le_refl _) _
  have SZ2 : Hid (g + 2 ≤ w4.heap.size) := by show _ ≤ _; rw [← hw4, Go.Deep.nblk_setCell]; exact sz2
  have HW2 := Lib.hid hw4
  clear k4 hO2 hO2' hY2 sz2 hw4 n2
  have k4 := cell_of_row _ _ 4 _ _ _ hX2
  have kf : ∀ i, w3.frozen? ⟨g, i, none⟩ = false := Lib.frozen_of_heap hX2
  clear hX2
  go_upto_region 3 with fail
  rw [HW2.out]
  clear k4 kf
  have k5 := cell_of_row _ _ 5 _ _ _ HX2.out
  go_wp2_with fail
  refine (GX.out _ V2.out (by have := SZ2.out; omega)).mono ?_
  rintro e w5 ⟨v3, rfl, hO3, n3⟩
  obtain ⟨B3, d3, e3, _⟩ := cells_own hO3
  subst e3
  have hX3 := (n3.block g (by have := SZ2.out; omega)).trans HX2.out
  have hY3 := (n3.block (g + 1) (by have := SZ2.out; omega)).trans HY2.out
  have sz3 : g + 2 ≤ w5.heap.size := Nat.le_trans (by have := SZ2.out; omega) n3.size
  have hO3' : w5.ownsRow (g + 2) 60 7 (.slice B3 nx d3) nx (recCs (Zx.map (ageZ s))) := row_low hO3 (by have := SZ2.out; omega)
  obtain ⟨w6, hw6⟩ : ∃ v, w5.setCell ⟨g, 5, none⟩ (.slice B3 nx d3) = v := ⟨_, rfl⟩
  have HX3 : Hid (w6.heap[g]? = some (.cells #[.int .u16 id, .int .u16 fl, .slice Aq nq cq, .slice B1 na d1, .slice B2 nn d2, .slice B3 nx d3] 26 (0, 0))) := by rw [← hw6]; exact set_at hX3 rfl
  have HY3 : Hid (w6.heap[g + 1]? = some (.cells #[.int .u16 0, .int .u16 0, .slice none 0 0, .slice none 0 0, .slice none 0 0, .slice none 0 0] 26 (0, 0))) := by rw [← hw6]; exact set_far hY3 (by omega)
  have HQ3 : Hid (w6.ownsRow (g + 2) 60 7 (.slice B3 nx d3) nx (recCs (Zx.map (ageZ s)))) := by rw [← hw6]; exact own_far1 hO3' (by omega)
  have HR1b : Hid (w6.ownsRow (g + 2) 60 7 (.slice B1 na d1) na (recCs (Za.map (ageZ s)))) := by rw [← hw6]; exact own_far1 (row_below HR1.out n3) (by omega)
  have HR2b : Hid (w6.ownsRow (g + 2) 60 7 (.slice B2 nn d2) nn (recCs (Zn.map (ageZ s)))) := by rw [← hw6]; exact own_far1 (row_below HQ2.out n3) (by omega)
  have V3 : Hid (Below g w w6) := by rw [← hw6]; exact (V2.out.trans (n3.mono (by have := SZ2.out; omega))).setCell (p := ⟨g, 5, none⟩) (Nat.le_refl _) _
  have SZ3 : Hid (g + 2 ≤ w6.heap.size) := by show _ ≤ _; rw [← hw6, Go.Deep.nblk_setCell]; exact sz3
  have HW3 := Lib.hid hw6
  clear k5 hO3 hO3' hY3 sz3 hw6 n3
  have k5 := cell_of_row _ _ 5 _ _ _ hX3
  have kf : ∀ i, w5.frozen? ⟨g, i, none⟩ = false := Lib.frozen_of_heap hX3
  clear hX3
  go_upto_region 4 with fail
  rw [HW3.out]
  clear k5 kf
  have k0 := cell_of_row _ _ 0 _ _ _ HX3.out
  have k1 := cell_of_row _ _ 1 _ _ _ HX3.out
  have k2 := cell_of_row _ _ 2 _ _ _ HX3.out
  have k3 := cell_of_row _ _ 3 _ _ _ HX3.out
  have k4 := cell_of_row _ _ 4 _ _ _ HX3.out
  have k5 := cell_of_row _ _ 5 _ _ _ HX3.out
  have j0 := cell_of_row _ _ 0 _ _ _ HY3.out
  have j1 := cell_of_row _ _ 1 _ _ _ HY3.out
  have j2 := cell_of_row _ _ 2 _ _ _ HY3.out
  have j3 := cell_of_row _ _ 3 _ _ _ HY3.out
  have j4 := cell_of_row _ _ 4 _ _ _ HY3.out
  have j5 := cell_of_row _ _ 5 _ _ _ HY3.out
  have jf : ∀ i, w6.frozen? ⟨g + 1, i, none⟩ = false := Lib.frozen_of_heap HY3.out
  go_wp2_with fail
  obtain ⟨w7, hw7⟩ : ∃ v, ((((((w6.setCell ⟨g + 1, 0, none⟩ (.int .u16 id)).setCell ⟨g + 1, 1, none⟩ (.int .u16 fl)).setCell ⟨g + 1, 2, none⟩ (.slice Aq nq cq)).setCell ⟨g + 1, 3, none⟩ (.slice B1 na d1)).setCell ⟨g + 1, 4, none⟩ (.slice B2 nn d2)).setCell ⟨g + 1, 5, none⟩ (.slice B3 nx d3)) = v := ⟨_, rfl⟩
  have HA7 := Lib.hid (own_six (v0 := .int .u16 id) (v1 := .int .u16 fl) (v2 := .slice Aq nq cq) (v3 := .slice B1 na d1) (v4 := .slice B2 nn d2) (v5 := .slice B3 nx d3) HR1b.out (show g + 1 < g + 2 by omega))
  have HN7 := Lib.hid (own_six (v0 := .int .u16 id) (v1 := .int .u16 fl) (v2 := .slice Aq nq cq) (v3 := .slice B1 na d1) (v4 := .slice B2 nn d2) (v5 := .slice B3 nx d3) HR2b.out (show g + 1 < g + 2 by omega))
  have HX7 := Lib.hid (own_six (v0 := .int .u16 id) (v1 := .int .u16 fl) (v2 := .slice Aq nq cq) (v3 := .slice B1 na d1) (v4 := .slice B2 nn d2) (v5 := .slice B3 nx d3) HQ3.out (show g + 1 < g + 2 by omega))
  have V7 : Hid (Below g w w7) := by rw [← hw7]; exact below_set6 V3.out (Nat.le_succ _) _ _ _ _ _ _
  rw [hw7] at HA7 HN7 HX7
  have hsz : g + 2 ≤ w7.heap.size := by rw [← hw7, size_six]; exact SZ3.out
  have hat := hv.out.at_
  have HMV : Hid (MsgV w7 w7.heap.size (ageM s M) Aq B1 B2 B3 nq na nn nx d1 d2 d3 (Za.map (ageZ s)) (Zn.map (ageZ s)) (Zx.map (ageZ s))) := by
    have hbl := V7.out.mono hB
    have hle : B ≤ w7.heap.size := by omega
    refine ⟨⟨hat.q.on hbl hle, (row_ext HA7.out rfl).1, (row_ext HN7.out rfl).1, (row_ext HX7.out rfl).1, ageZ_at (hat.za.on hbl hle), ageZ_at (hat.zn.on hbl hle), ageZ_at (hat.zx.on hbl hle), ageZ_map hat.ea, ageZ_map hat.en, ageZ_map hat.ex⟩, hv.out.eq, ?_, ?_, ?_, (row_ext HA7.out rfl).2, (row_ext HN7.out rfl).2, (row_ext HX7.out rfl).2⟩
    · show (M.an.map (ageR s)).length = na; rw [List.length_map]; exact hv.out.ea
    · show (M.ns.map (ageR s)).length = nn; rw [List.length_map]; exact hv.out.en
    · show (M.ad.map (ageR s)).length = nx; rw [List.length_map]; exact hv.out.ex
  refine bodyPost_ret (v := .agg (msgA id fl Aq nq cq B1 na d1 B2 nn d2 B3 nx d3)) (by simp [results, Try.results35, go_sem, j0, j1, j2, j3, j4, j5]) rfl ?_
  rw [hw7]
  exact ⟨B1, B2, B3, d1, d2, d3, _, _, _, rfl, HMV, V7.out⟩
set_option maxHeartbeats 8000000 in
set_option maxRecDepth 100000 in
theorem refFail_w (no : Nat) (M : Msg) (Aq Aa An Ax : Option Addr) (nq na nn nx cq ca cn cx B : Nat) (Za Zn Zx : List RecZ) (w : World) (hf : Hid (QM M)) :
    Calls Try.prog 36 #[.int .u16 no, .agg (msgA M.id M.flags Aq nq cq Aa na ca An nn cn Ax nx cx)] w fun e w' => e = .returned (.agg (msgA no (failF M.flags) Aq nq cq none 0 0 none 0 0 none 0 0)) ∧ Below w.heap.size w w' := by
  obtain ⟨id, hid⟩ : ∃ n, M.id = n := ⟨_, rfl⟩
  obtain ⟨fl, hfl⟩ : ∃ n, M.flags = n := ⟨_, rfl⟩
  obtain ⟨g, hg⟩ : ∃ g, w.heap.size = g := ⟨_, rfl⟩
  rw [hid, hfl, hg]
  obtain ⟨wa, hwa⟩ : ∃ wa, w.alloc (.cells (msgA id fl Aq nq cq Aa na ca An nn cn Ax nx cx) 26) = wa := ⟨_, rfl⟩
  obtain ⟨wb, hwb⟩ : ∃ wb, wa.alloc (.cells #[.int .u16 0, .int .u16 0, .slice none 0 0, .slice none 0 0, .slice none 0 0, .slice none 0 0] 26) = wb := ⟨_, rfl⟩
  have hsa : wa.heap.size = g + 1 := by rw [← hwa, ← hg]; simp
  have hsb : wb.heap.size = g + 2 := by rw [← hwb]; simp [hsa]
  have hba : Below g w wa := by rw [← hwa, ← hg]; exact (Below.refl _ _).alloc (Nat.le_refl _) _
  have HBB : Hid (Below g w wb) := by rw [← hwb]; exact hba.alloc (by omega) _
  have hx0 : wa.heap[g]? = some (.cells (msgA id fl Aq nq cq Aa na ca An nn cn Ax nx cx) 26 (0, 0)) := by rw [← hwa, ← hg]; exact heap_alloc_new w _
  have HX : Hid (wb.heap[g]? = some (.cells (msgA id fl Aq nq cq Aa na ca An nn cn Ax nx cx) 26 (0, 0))) := by rw [← hwb]; exact old_at hx0
  have HY : Hid (wb.heap[g + 1]? = some (.cells #[.int .u16 0, .int .u16 0, .slice none 0 0, .slice none 0 0, .slice none 0 0, .slice none 0 0] 26 (0, 0))) := by rw [← hwb, ← hsa]; exact heap_alloc_new wa _
  have hfb : fl ≤ 65535 := by rw [← hfl]; exact hf.out.few.flags
  have k1 := cell_of_row _ _ 1 _ _ _ HX.out
  have k2 := cell_of_row _ _ 2 _ _ _ HX.out
  have j0 := cell_of_row _ _ 0 _ _ _ HY.out
  have j1 := cell_of_row _ _ 1 _ _ _ HY.out
  have j2 := cell_of_row _ _ 2 _ _ _ HY.out
  have j3 := cell_of_row _ _ 3 _ _ _ HY.out
  have j4 := cell_of_row _ _ 4 _ _ _ HY.out
  have j5 := cell_of_row _ _ 5 _ _ _ HY.out
  have jf : ∀ i, wb.frozen? ⟨g + 1, i, none⟩ = false := Lib.frozen_of_heap HY.out
  clear hba hx0 hid hfl
  go_enter Try.func36, Try.ntmps36
  by_cases h : fl / 256 % 2 = 1
  · have f1 : ((fl : Int) / 256 % 2 == 1) = true := beq_iff_eq.2 (by omega)
    have HF : Hid (failF fl = 33154) := by show _ = _; unfold failF; rw [if_pos h]
    clear h
    go_wp2_with fail
    refine bodyPost_ret (v := .agg (msgA no 33154 Aq nq cq none 0 0 none 0 0 none 0 0)) (by simp [results, Try.results36, go_sem, j0, j1, j2, j3, j4, j5]) rfl ⟨by rw [HF.out], below_set6 HBB.out (Nat.le_succ _) _ _ _ _ _ _⟩
  · have f1 : ((fl : Int) / 256 % 2 == 1) = false := beq_eq_false_iff_ne.2 (by omega)
    have HF : Hid (failF fl = 32898) := by show _ = _; unfold failF; rw [if_neg h]
    clear h
    go_wp2_with fail
    refine bodyPost_ret (v := .agg (msgA no 32898 Aq nq cq none 0 0 none 0 0 none 0 0)) (by simp [results, Try.results36, go_sem, j0, j1, j2, j3, j4, j5]) rfl ⟨by rw [HF.out], below_set6 HBB.out (Nat.le_succ _) _ _ _ _ _ _⟩
end Go.Proofs.Ytpmmjmnleoicjaa

/- The contract of the law's own Spoil: all that stands in a record's lists, memory of the call's own, is written over. No condition. -/
namespace Go.Proofs.Ytpmmjmnleoicjaa
open Go.RowKit Bytes Strs Nums NameMath RecMath

/-- n cells that may be written, in a block from base on, and below top. -/
def WrS (w : World) (base top : Nat) (A : Option Addr) (n : Nat) : Prop :=
  0 < n → ∃ b, A = some ⟨b, 0, none⟩ ∧ base ≤ b ∧ b < top ∧ ∀ k, k < n → (∃ u, w.cell? ⟨b, k, none⟩ = some u) ∧ w.frozen? ⟨b, k, none⟩ = false
theorem wrs_of {w : World} {base n c : Nat} {e : TypeId} {A : Option Addr} {xs : List Value} (h : w.ownsRow base e 1 (.slice A n c) n xs) : WrS w base w.heap.size A n := fun hn => by
  rcases own_look h with ⟨_, h0⟩ | ⟨b, cap, hv, hb, hl, _, hfz, hc⟩
  · omega
  · injection hv with hv
    refine ⟨b, hv, hb, hl, fun k hk => ⟨?_, hfz k⟩⟩
    have hx : k < xs.length := by have := h.1; omega
    exact ⟨_, hc k _ (List.getElem?_eq_getElem hx)⟩
theorem wrs_set {w : World} {base top n : Nat} {A : Option Addr} (h : WrS w base top A n) (p : Addr) (u : Value) : WrS (w.setCell p u) base top A n := fun hn => by
  obtain ⟨b, hA, hb, hl, hc⟩ := h hn
  refine ⟨b, hA, hb, hl, fun k hk => ?_⟩
  obtain ⟨⟨u0, h0⟩, hf⟩ := hc k hk
  refine ⟨?_, by simpa using hf⟩
  by_cases e : p = ⟨b, k, none⟩
  · subst e
    exact ⟨u, World.cell?_setCell_same _ _ _ h0⟩
  · exact ⟨u0, by rw [World.cell?_setCell_other _ _ _ _ e]; exact h0⟩
theorem wrs_alloc {w : World} {base top n : Nat} {A : Option Addr} (h : WrS w base top A n) (ht : top ≤ w.heap.size) (o : Obj) : WrS (w.alloc o) base top A n := fun hn => by
  obtain ⟨b, hA, hb, hl, hc⟩ := h hn
  refine ⟨b, hA, hb, hl, fun k hk => ?_⟩
  obtain ⟨⟨u0, h0⟩, hf⟩ := hc k hk
  have e : (w.alloc o).heap[b]? = w.heap[b]? := heap_alloc_old w o (by omega)
  exact ⟨⟨u0, by rw [World.cell?_of_block (w := w) e]; exact h0⟩, by rw [World.frozen?_of_block (w := w) e]; exact hf⟩
def SpInv (w : World) (base g : Nat) (vals : Array Value) (A1 A2 A3 : Option Addr) (n1 n2 n3 : Nat) (wr : World) : Prop :=
  WrS wr base g A1 n1 ∧ WrS wr base g A2 n2 ∧ WrS wr base g A3 n3 ∧ wr.heap[g]? = some (.cells vals 60 (0, 0)) ∧ Below base w wr
theorem spInv_set {w wr : World} {base g b k : Nat} {vals : Array Value} {A1 A2 A3 : Option Addr} {n1 n2 n3 : Nat} (h : SpInv w base g vals A1 A2 A3 n1 n2 n3 wr) (hb : base ≤ b) (hg : b < g) (u : Value) : SpInv w base g vals A1 A2 A3 n1 n2 n3 (wr.setCell ⟨b, k, none⟩ u) := by
  obtain ⟨h1, h2, h3, h4, h5⟩ := h
  refine ⟨wrs_set h1 _ _, wrs_set h2 _ _, wrs_set h3 _ _, ?_, h5.setCell (p := ⟨b, k, none⟩) hb u⟩
  rw [Go.Deep.blk_setCell_other _ _ _ _ (by show g ≠ b; omega)]
  exact h4

set_option maxHeartbeats 4000000 in
set_option maxRecDepth 100000 in
theorem spoil_is (x : ByteArray) (k l t : Nat) (A1 : Option Addr) (n1 c1 : Nat) (A2 : Option Addr) (n2 c2 : Nat) (A3 : Option Addr) (n3 c3 : Nat) (base : Nat) (x1 x2 x3 : List Value) (w : World) (h1 : w.ownsRow base 9 1 (.slice A1 n1 c1) n1 x1) (h2 : w.ownsRow base 50 1 (.slice A2 n2 c2) n2 x2) (h3 : w.ownsRow base 9 1 (.slice A3 n3 c3) n3 x3) (hm1 : n1 ≤ 1000000) (hm2 : n2 ≤ 1000000) (hm3 : n3 ≤ 1000000) (hb : base ≤ w.heap.size) :
    Calls Try.prog 38 #[.agg #[.string x, .int .u16 k, .int .u16 l, .int .u32 t, .slice A1 n1 c1, .slice A2 n2 c2, .slice A3 n3 c3]] w fun e w' => e = .returned (.tuple #[]) ∧ Below base w w' := by
  have hI : SpInv w base w.heap.size #[.string x, .int .u16 k, .int .u16 l, .int .u32 t, .slice A1 n1 c1, .slice A2 n2 c2, .slice A3 n3 c3] A1 A2 A3 n1 n2 n3 (w.alloc (.cells #[.string x, .int .u16 k, .int .u16 l, .int .u32 t, .slice A1 n1 c1, .slice A2 n2 c2, .slice A3 n3 c3] 60)) :=
    ⟨wrs_alloc (wrs_of h1) (Nat.le_refl _) _, wrs_alloc (wrs_of h2) (Nat.le_refl _) _, wrs_alloc (wrs_of h3) (Nat.le_refl _) _, heap_alloc_new w _, (Below.refl base w).alloc hb _⟩
  have HI := Lib.hid hI
  clear hI h1 h2 h3
  go_enter Try.func38, Try.ntmps38
  go_wp2_with fail
  generalize w.alloc (.cells #[.string x, .int .u16 k, .int .u16 l, .int .u32 t, .slice A1 n1 c1, .slice A2 n2 c2, .slice A3 n3 c3] 60) = wb at *
  generalize w.heap.size = g at *
  go_loopw [2] (fun i wr => ∃ j : Nat, j ≤ n1 ∧ i = .int .i64 j ∧ Hid (SpInv w base g #[.string x, .int .u16 k, .int .u16 l, .int .u32 t, .slice A1 n1 c1, .slice A2 n2 c2, .slice A3 n3 c3] A1 A2 A3 n1 n2 n3 wr)) (fun i _ => n1 - (intOf i).toNat)
  case atStart => exact ⟨0, Nat.zero_le _, rfl, HI⟩
  case round =>
    obtain ⟨j, hj, rfl, hI⟩ := hrel
    have hblk := hI.out.2.2.2.1
    have p4 : wr.cell? ⟨g, 4, none⟩ = some (.slice A1 n1 c1) := by rw [Lib.cell_of_heap hblk]; rfl
    have p5 : wr.cell? ⟨g, 5, none⟩ = some (.slice A2 n2 c2) := by rw [Lib.cell_of_heap hblk]; rfl
    have p6 : wr.cell? ⟨g, 6, none⟩ = some (.slice A3 n3 c3) := by rw [Lib.cell_of_heap hblk]; rfl
    clear hblk
    by_cases hlt : j < n1
    · obtain ⟨bb, hA, hbb, hbg, hcs⟩ := hI.out.1 (by omega)
      obtain ⟨⟨u0, hu0⟩, hfz⟩ := hcs j hlt
      subst hA
      have HN := Lib.hid (spInv_set (k := j) hI.out hbb hbg (.string ⟨#[63]⟩))
      have hji : (j : Int) < n1 := by omega
      clear hcs hI
      go_wp2_with fail
      go_roundw
      case rel => exact ⟨j + 1, by omega, by go_num, HN⟩
      case measure => simp [intOf]; omega
    · go_wp2_with fail
      go_loopw [3] (fun i wr => ∃ j : Nat, j ≤ n2 ∧ i = .int .i64 j ∧ Hid (SpInv w base g #[.string x, .int .u16 k, .int .u16 l, .int .u32 t, .slice A1 n1 c1, .slice A2 n2 c2, .slice A3 n3 c3] A1 A2 A3 n1 n2 n3 wr)) (fun i _ => n2 - (intOf i).toNat)
      case atStart => exact ⟨0, Nat.zero_le _, rfl, hI⟩
      case round =>
        obtain ⟨j, hj, rfl, hI⟩ := hrel
        have hblk := hI.out.2.2.2.1
        have p4 : wr.cell? ⟨g, 4, none⟩ = some (.slice A1 n1 c1) := by rw [Lib.cell_of_heap hblk]; rfl
        have p5 : wr.cell? ⟨g, 5, none⟩ = some (.slice A2 n2 c2) := by rw [Lib.cell_of_heap hblk]; rfl
        have p6 : wr.cell? ⟨g, 6, none⟩ = some (.slice A3 n3 c3) := by rw [Lib.cell_of_heap hblk]; rfl
        clear hblk
        by_cases hlt : j < n2
        · obtain ⟨bb, hA, hbb, hbg, hcs⟩ := hI.out.2.1 (by omega)
          obtain ⟨⟨u0, hu0⟩, hfz⟩ := hcs j hlt
          subst hA
          have HN := Lib.hid (spInv_set (k := j) hI.out hbb hbg (.int .u32 77))
          have hji : (j : Int) < n2 := by omega
          clear hcs hI
          go_wp2_with fail
          go_roundw
          case rel => exact ⟨j + 1, by omega, by go_num, HN⟩
          case measure => simp [intOf]; omega
        · go_wp2_with fail
          go_loopw [4] (fun i wr => ∃ j : Nat, j ≤ n3 ∧ i = .int .i64 j ∧ Hid (SpInv w base g #[.string x, .int .u16 k, .int .u16 l, .int .u32 t, .slice A1 n1 c1, .slice A2 n2 c2, .slice A3 n3 c3] A1 A2 A3 n1 n2 n3 wr)) (fun i _ => n3 - (intOf i).toNat)
          case atStart => exact ⟨0, Nat.zero_le _, rfl, hI⟩
          case round =>
            obtain ⟨j, hj, rfl, hI⟩ := hrel
            have hblk := hI.out.2.2.2.1
            have p4 : wr.cell? ⟨g, 4, none⟩ = some (.slice A1 n1 c1) := by rw [Lib.cell_of_heap hblk]; rfl
            have p5 : wr.cell? ⟨g, 5, none⟩ = some (.slice A2 n2 c2) := by rw [Lib.cell_of_heap hblk]; rfl
            have p6 : wr.cell? ⟨g, 6, none⟩ = some (.slice A3 n3 c3) := by rw [Lib.cell_of_heap hblk]; rfl
            clear hblk
            by_cases hlt : j < n3
            · obtain ⟨bb, hA, hbb, hbg, hcs⟩ := hI.out.2.2.1 (by omega)
              obtain ⟨⟨u0, hu0⟩, hfz⟩ := hcs j hlt
              subst hA
              have HN := Lib.hid (spInv_set (k := j) hI.out hbb hbg (.string ⟨#[63]⟩))
              have hji : (j : Int) < n3 := by omega
              clear hcs hI
              go_wp2_with fail
              go_roundw
              case rel => exact ⟨j + 1, by omega, by go_num, HN⟩
              case measure => simp [intOf]; omega
            · go_wp2_with fail
              go_end0
              exact ⟨rfl, hI.out.2.2.2.2⟩
end Go.Proofs.Ytpmmjmnleoicjaa

/- How long what is written is; what stays ahead. No program, no condition. -/
namespace Go.Proofs.Ytpmmjmnleoicjaa.WrMath
open Go Bytes NameMath NmMath RecMath MsgMath

/-- What is known lies where pointers lead, and is no more than the bytes. -/
def Inv (s : Wr) : Prop := (∀ y ∈ s.2, y.2 < 16384) ∧ s.2.length ≤ s.1.length
theorem learn_inv {out rest : List UInt8} {K : Known} {n : Nat} (h : Inv (out, K)) (hn : 1 ≤ n) (l : List UInt8) (hl : l.length = n) : Inv (out ++ l, learn out K rest) := by
  obtain ⟨h1, h2⟩ := h
  unfold learn
  split
  · next hlt =>
    refine ⟨fun y hy => ?_, ?_⟩
    · rcases List.mem_append.1 hy with hy | hy
      · exact h1 y hy
      · rw [List.mem_singleton] at hy; subst hy; exact hlt
    · simp only [List.length_append, List.length_singleton] at h2 ⊢; omega
  · refine ⟨h1, ?_⟩
    simp only [List.length_append] at h2 ⊢; omega
/-- More bytes, as many as 'most' at most; all else as it was. -/
structure Longer (s s' : Wr) (most : Nat) : Prop where
  inv : Inv s → Inv s'
  pre : ∃ l, s'.1 = s.1 ++ l ∧ l.length ≤ most
theorem Longer.refl (s : Wr) : Longer s s 0 := ⟨id, [], by simp, Nat.le_refl _⟩
theorem Longer.trans {s s' t : Wr} {a b : Nat} (h : Longer s s' a) (k : Longer s' t b) : Longer s t (a + b) := by
  obtain ⟨l, e, hl⟩ := h.pre
  obtain ⟨l', e', hl'⟩ := k.pre
  exact ⟨k.inv ∘ h.inv, l ++ l', by rw [e', e, List.append_assoc], by rw [List.length_append]; omega⟩
theorem Longer.len {s s' : Wr} {a : Nat} (h : Longer s s' a) : s.1.length ≤ s'.1.length ∧ s'.1.length ≤ s.1.length + a := by
  obtain ⟨l, e, hl⟩ := h.pre
  rw [e, List.length_append]
  omega
theorem Longer.mono {s s' : Wr} {a b : Nat} (h : Longer s s' a) (hab : a ≤ b) : Longer s s' b := by
  obtain ⟨l, e, hl⟩ := h.pre
  exact ⟨h.inv, l, e, by omega⟩
theorem put_longer (l : List UInt8) (s : Wr) : Longer s (s.1 ++ l, s.2) l.length := ⟨fun h => ⟨h.1, by simp only [List.length_append]; have := h.2; omega⟩, l, rfl, Nat.le_refl _⟩
theorem numW_longer (n size : Nat) (s : Wr) : Longer s (numW n size s) size := by have := put_longer (beTail n size) s; rwa [beTail_length] at this
theorem numsW_longer (size : Nat) (L : List Nat) (s : Wr) : Longer s (numsW size L s) (size * L.length) := by have := put_longer (numsL size L) s; rwa [numsL_len] at this
theorem rests_pos {l : List UInt8} (h : Rests l) : 1 ≤ l.length := by
  rcases rests_cases h with e | ⟨_, _, e, _⟩
  · rw [e]; decide
  · omega
theorem nameW_longer (n : List UInt8) (hn : Rests n) (s : Wr) : Longer s (nameW n s) n.length := by
  obtain ⟨out, K⟩ := s
  unfold nameW
  show Longer (out, K) (wName out K n) n.length
  fun_induction wName out K n with
  | case1 out K rest h =>
    have := put_longer [0] (out, K)
    exact this.mono (rests_pos hn)
  | case2 out K rest h p hf =>
    have := put_longer (beTail (49152 + p) 2) (out, K)
    refine this.mono ?_
    rw [beTail_length]
    rcases rests_cases hn with e | ⟨_, _, e, _⟩
    · rw [e] at h; exact absurd rfl h
    · have : 1 ≤ bt rest 0 := by omega
      omega
  | case3 out K rest h hf ih =>
    rcases rests_cases hn with e | ⟨_, _, e, e2⟩
    · rw [e] at h; exact absurd rfl h
    · have h1 := ih e2
      have hlen : (rest.take (1 + bt rest 0)).length = 1 + bt rest 0 := by rw [List.length_take]; omega
      obtain ⟨l, el, hl⟩ := h1.pre
      refine ⟨fun hi => h1.inv (learn_inv hi (by omega) _ hlen), rest.take (1 + bt rest 0) ++ l, by rw [el, List.append_assoc], ?_⟩
      rw [List.length_append, hlen]
      rw [List.length_drop] at hl
      omega
theorem Longer.of_eq {s s' t : Wr} {a : Nat} (h : Longer s t a) (e : t = s') : Longer s s' a := e ▸ h
/-- The names of a record that is right. -/
theorem right_names {R : Rec} (h : checkE R = 0) : Rests R.name ∧ R.name.length ≤ 255 ∧ ∀ k, k < R.names.length → Rests (R.names.getD k []) ∧ (R.names.getD k []).length ≤ 255 := by
  obtain ⟨h1, _, _⟩ := check_ok h
  have le : ∀ {l : List UInt8}, isN l = true → l.length ≤ 255 := fun h => by
    obtain ⟨L, hL⟩ := isN_some h
    exact (labels_some hL).2.2
  unfold namesB at h1
  rw [Bool.and_eq_true] at h1
  have h2 : isN R.name = true := by have := h1.1; simpa [badName] using this
  refine ⟨rests_of h2, le h2, fun k hk => ?_⟩
  have h3 : R.names.any badName = false := by simpa using h1.2
  have h4 := List.any_eq_false.1 h3 (R.names.getD k []) (by rw [List.getD_eq_getElem?_getD, List.getElem?_eq_getElem hk]; exact List.getElem_mem hk)
  have h5 : isN (R.names.getD k []) = true := by simpa [badName] using h4
  exact ⟨rests_of h5, le h5⟩
theorem right_counts {R : Rec} (h : checkE R = 0) : R.names.length = shA R.kind ∧ R.nums.length = shB R.kind ∧ bulk R.kind R.texts ≤ 65535 := by
  obtain ⟨_, h2, _⟩ := check_ok h
  obtain ⟨h3, _, _, h4⟩ := okB_cnt h2
  obtain ⟨h5, h6, _⟩ := cnt_of h3
  exact ⟨h5, h6, h4⟩
theorem plain_bound {R : Rec} (h : checkE R = 0) : (plainL R).length ≤ 300000 := by
  obtain ⟨_, h2, _⟩ := check_ok h
  obtain ⟨h3, _, _, h4⟩ := okB_cnt h2
  exact plain_len h3 h4 fun j hj => by have := ((right_names h).2.2 j hj).2; omega
theorem dataW_longer {R : Rec} (h : checkE R = 0) (s : Wr) : Longer s (dataW R s) (plainL R).length := by
  obtain ⟨_, _, hn⟩ := right_names h
  obtain ⟨c1, c2, _⟩ := right_counts h
  unfold dataW
  split
  · next hk =>
    have hA : R.names.length = 1 := by rw [c1]; unfold shA; rw [if_pos hk]
    have := nameW_longer _ (hn 0 (by omega)).1 s
    refine this.mono ?_
    have e : R.names.flatten = R.names.getD 0 [] := by
      match hN : R.names, hA with
      | [a], _ => simp
    rw [plainL_not (by omega), List.length_append, List.length_append, e]
    omega
  · split
    · next hk1 hk =>
      have hA : R.names.length = 2 := by rw [c1, hk]; rfl
      have e : R.names.flatten = R.names.getD 0 [] ++ R.names.getD 1 [] := by
        match hN : R.names, hA with
        | [a, b], _ => simp
      have := ((nameW_longer _ (hn 0 (by omega)).1 s).trans (nameW_longer _ (hn 1 (by omega)).1 _)).trans (numsW_longer 4 R.nums _)
      refine this.mono ?_
      rw [plainL_6 hk, List.length_append, List.length_append, e, List.length_append, numsL_len]
      omega
    · split
      · next hk1 hk2 hk =>
        have hA : R.names.length = 1 := by rw [c1, hk]; rfl
        have e : R.names.flatten = R.names.getD 0 [] := by
          match hN : R.names, hA with
          | [a], _ => simp
        have := (numsW_longer 2 R.nums s).trans (nameW_longer _ (hn 0 (by omega)).1 _)
        refine this.mono ?_
        rw [plainL_not (by omega), List.length_append, List.length_append, e, numsL_len]
        omega
      · have := put_longer (plainO R) s
        rw [plainO_ok h] at this ⊢
        exact this
theorem headW_longer {R : Rec} (h : checkE R = 0) (s : Wr) : Longer s (headW R s) (R.name.length + 8) :=
  (((nameW_longer _ (right_names h).1 s).trans (numW_longer _ _ _)).trans (numW_longer _ _ _)).trans (numW_longer _ _ _)
theorem fill_len {k : Nat} {out : List UInt8} (h : k + 2 ≤ out.length) : (fillW k out).length = out.length := by
  unfold fillW
  rw [List.length_append, List.length_append, List.length_take, List.length_drop, beTail_length]
  omega
/-- A record behind what is written: its head, the length of its data, its data. -/
theorem recW_parts {R : Rec} (h : checkE R = 0) (s : Wr) : ∃ l, l.length ≤ (plainL R).length ∧ dataW R (numW 0 2 (headW R s)) = ((numW 0 2 (headW R s)).1 ++ l, (dataW R (numW 0 2 (headW R s))).2) ∧ recW R s = ((headW R s).1 ++ (beTail l.length 2 ++ l), (dataW R (numW 0 2 (headW R s))).2) := by
  obtain ⟨l, e, hl⟩ := (dataW_longer h (numW 0 2 (headW R s))).pre
  refine ⟨l, hl, Prod.ext e rfl, ?_⟩
  unfold recW
  simp only
  rw [e]
  have e1 : (numW 0 2 (headW R s)).1 = (headW R s).1 ++ beTail 0 2 := rfl
  rw [e1]
  unfold fillW
  have hb : (beTail 0 2).length = 2 := beTail_length _ _
  have e2 : ((headW R s).1 ++ beTail 0 2 ++ l).take (headW R s).1.length = (headW R s).1 := by rw [List.append_assoc, List.take_left]
  have e3 : ((headW R s).1 ++ beTail 0 2 ++ l).drop ((headW R s).1.length + 2) = l := by
    have : (headW R s).1.length + 2 = ((headW R s).1 ++ beTail 0 2).length := by rw [List.length_append, hb]
    rw [this, List.drop_left]
  rw [e2, e3]
  have e4 : ((headW R s).1 ++ beTail 0 2 ++ l).length - ((headW R s).1.length + 2) = l.length := by rw [List.length_append, List.length_append, hb]; omega
  rw [e4, List.append_assoc]
theorem recW_longer {R : Rec} (h : checkE R = 0) (s : Wr) : Longer s (recW R s) (R.name.length + 10 + (plainL R).length) := by
  obtain ⟨l, hl, e1, e2⟩ := recW_parts h s
  have h1 := headW_longer h s
  have h2 := (numW_longer 0 2 (headW R s)).inv
  have h3 := (dataW_longer h (numW 0 2 (headW R s))).inv
  rw [e2]
  obtain ⟨a, ea, ha⟩ := h1.pre
  refine ⟨fun hi => ?_, a ++ (beTail l.length 2 ++ l), by simp only [ea, List.append_assoc], by rw [List.length_append, List.length_append, beTail_length]; omega⟩
  have h4 := h3 (h2 (h1.inv hi))
  refine ⟨h4.1, ?_⟩
  have h5 := h4.2
  rw [e1] at h5
  simp only [List.length_append, beTail_length] at h5 ⊢
  have e6 : (numW 0 2 (headW R s)).1.length = (headW R s).1.length + 2 := by show ((headW R s).1 ++ beTail 0 2).length = _; rw [List.length_append, beTail_length]
  omega
theorem qnW_longer {q : Qn} (h : isN q.name = true) (s : Wr) : Longer s (qnW q s) (q.name.length + 4) :=
  ((nameW_longer _ (rests_of h) s).trans (numW_longer _ _ _)).trans (numW_longer _ _ _)
theorem isN_le {l : List UInt8} (h : isN l = true) : l.length ≤ 255 := by
  obtain ⟨L, hL⟩ := isN_some h
  exact (labels_some hL).2.2
theorem start_inv (M : Msg) : Inv (startW M) ∧ (startW M).1.length = 12 := by
  refine ⟨⟨fun y hy => (by cases hy), Nat.zero_le _⟩, ?_⟩
  unfold startW numW
  simp only [List.length_append, beTail_length]
  rfl
/-- How many bytes a message has without pointers. -/
def plainM (M : Msg) : Nat := 12 + (M.qs.map fun q => q.name.length + 4).sum + ((recsM M).map fun R => R.name.length + 10 + (plainO R).length).sum
theorem qnsW_longer {L : List Qn} : ∀ (s : Wr), (∀ q ∈ L, isN q.name = true) → Longer s (qnsW L s) (L.map fun q => q.name.length + 4).sum := by
  induction L with
  | nil => intro s _; exact Longer.refl s
  | cons q L ih =>
    intro s h
    rw [qnsW_cons, List.map_cons, List.sum_cons]
    exact (qnW_longer (h q (by simp)) s).trans (ih _ fun q hq => h q (by simp [hq]))
theorem recsW_longer {L : List Rec} : ∀ (s : Wr), (∀ R ∈ L, checkE R = 0) → Longer s (recsW L s) (L.map fun R => R.name.length + 10 + (plainO R).length).sum := by
  induction L with
  | nil => intro s _; exact Longer.refl s
  | cons R L ih =>
    intro s h
    rw [recsW_cons, List.map_cons, List.sum_cons]
    have h0 := h R (by simp)
    have := recW_longer h0 s
    rw [← plainO_ok h0] at this
    exact this.trans (ih _ fun q hq => h q (by simp [hq]))
theorem msgW_len {M : Msg} (h : checkM M = 0) : (msgW M).1.length ≤ plainM M ∧ Inv (msgW M) := by
  obtain ⟨_, h1, h2⟩ := checkM_ok h
  have h3 := (qnsW_longer (startW M) h1).trans (recsW_longer _ h2)
  refine ⟨?_, h3.inv (start_inv M).1⟩
  have := h3.len.2
  rw [(start_inv M).2] at this
  unfold plainM
  unfold msgW
  omega
end Go.Proofs.Ytpmmjmnleoicjaa.WrMath

/- The contracts of the document's find and Name of a message that is written. For names that are right, texts of at most 900000 bytes. -/
namespace Go.Proofs.Ytpmmjmnleoicjaa
open Go.RowKit Bytes NmMath WrMath NameMath
set_option linter.unusedVariables false
set_option linter.unusedSimpArgs false

theorem info_rest : (Try.prog.info? 119).map (fun i => (i.zero, i.size, i.bytes)) = some (some (.agg #[.string ⟨#[]⟩, .int .i64 0]), 2, 24) := by kernel_rfl
/-- What is known, as cells. -/
def restV (y : List UInt8 × Nat) : List Value := [.string (mk y.1), .int .i64 y.2]
def restCs (K : Known) : List Value := K.flatMap restV
theorem restCs_snoc (K : Known) (y : List UInt8 × Nat) : restCs (K ++ [y]) = restCs K ++ restV y := by unfold restCs; rw [List.flatMap_append]; simp
theorem restCs_at {K : Known} : ∀ {k j : Nat} (h : k < K.length), j < 2 → (restCs K)[k * 2 + j]? = (restV (K[k]))[j]? := by
  induction K with
  | nil => intro k j h; cases h
  | cons q K ih =>
    intro k j h hj
    have e : restCs (q :: K) = restV q ++ restCs K := rfl
    have hl : (restV q).length = 2 := rfl
    rw [e]
    cases k with
    | zero => rw [List.getElem?_append_left (by rw [hl]; omega)]; simp
    | succ k =>
      rw [List.getElem?_append_right (by rw [hl]; omega), hl, show (k + 1) * 2 + j - 2 = k * 2 + j by omega, ih (by simpa using h) hj]
      simp
theorem rest_get {w : World} {B : Nat} {A : Option Addr} {K : Known} (h : CellsAt w B A (restCs K)) {k : Nat} (hk : k < K.length) : ∃ b off, A = some ⟨b, off, none⟩ ∧ w.cell? ⟨b, off + k * 2, none⟩ = some (.string (mk (K[k]).1)) ∧ w.cell? ⟨b, off + k * 2 + 1, none⟩ = some (.int .i64 (K[k]).2) := by
  have e := fun j (hj : j < 2) => restCs_at (K := K) hk hj
  obtain ⟨b, off, rfl, hl, hc⟩ := h.get (e 0 (by decide))
  exact ⟨b, off, rfl, hc (k * 2) _ (e 0 (by decide)), hc (k * 2 + 1) _ (e 1 (by decide))⟩
/-- The place of a rest, as the document's find tells it. -/
def placeO : Option Nat → Int
  | some p => p
  | none => -1
theorem fnd_drop {K : Known} {k : Nat} (hk : k < K.length) (s : List UInt8) : fnd (K.drop k) s = if (K[k]).1 = s then some (K[k]).2 else fnd (K.drop (k + 1)) s := by
  rw [List.drop_eq_getElem_cons hk]
  rfl
set_option maxHeartbeats 2000000 in
set_option maxRecDepth 100000 in
theorem refFind_is (A : Option Addr) (c n B : Nat) (K : Known) (s : ByteArray) (w : World) (hc : CellsAt w B A (restCs K)) (hn0 : Hid (K.length = n)) (hn : n ≤ 2000000) :
    Calls Try.prog 87 #[.slice A n c, .string s] w fun e w' => e = .returned (.int .i64 (placeO (fnd K s.data.toList))) ∧ w = w' := by
  obtain ⟨q, hq⟩ : ∃ q, fnd K s.data.toList = q := ⟨_, rfl⟩
  rw [hq]
  have HQ := Lib.hid hq
  have HC := Lib.hid hc
  clear hq hc
  go_enter Try.func87, Try.ntmps87
  go_wp2_with fail
  go_loop [5] (fun i => ∃ k : Nat, k ≤ n ∧ i = .int .i64 k ∧ Hid (fnd (K.drop k) s.data.toList = q)) (fun i => n - (intOf i).toNat)
  case atStart => exact ⟨0, Nat.zero_le _, rfl, HQ⟩
  case round =>
    obtain ⟨k, hk, rfl, hF⟩ := hrel
    by_cases hlt : k < n
    · have hkl : k < K.length := by rw [hn0.out]; exact hlt
      obtain ⟨b, off, rfl, p0, p1⟩ := rest_get HC.out hkl
      have hd := fnd_drop hkl s.data.toList
      rw [hF.out] at hd
      obtain ⟨y, hy⟩ : ∃ y, (K[k]'hkl) = y := ⟨_, rfl⟩
      rw [hy] at hd p0 p1
      obtain ⟨l, p⟩ := y
      obtain ⟨x, hx⟩ : ∃ x, mk l = x := ⟨_, rfl⟩
      simp only at hd p0 p1
      rw [hx] at p0
      by_cases he : l = s.data.toList
      · have hq2 : q = some p := by rw [hd, if_pos he]
        have hb : (x.toList == s.toList) = true := by rw [eq_toList]; exact decide_eq_true (by rw [← hx, he]; exact mk_data s)
        have HQ2 := Lib.hid hq2
        clear hy hd hx he hq2 hF hkl
        go_wp2_with fail
        go_ret
        exact ⟨by rw [HQ2.out]; rfl, rfl⟩
      · have hF2 : Hid (fnd (K.drop (k + 1)) s.data.toList = q) := by show _ = _; rw [hd, if_neg he]
        have hb : (x.toList == s.toList) = false := ne_toList (fun e => he (by rw [← e, ← hx, mk_list]))
        clear hy hd hx he hF hkl
        go_wp2_with fail
        go_round
        case rel => exact ⟨k + 1, by omega, by go_num, hF2⟩
        case measure => simp [intOf]; omega
    · have hq2 : Hid (q = none) := by
        show _ = _
        rw [← hF.out, List.drop_of_length_le (by rw [hn0.out]; omega)]
        rfl
      go_wp2_with fail
      go_ret
      exact ⟨by rw [hq2.out]; rfl, rfl⟩
/-- Blocks that aren't of rests stand. -/
def Oth (w w' : World) : Prop := ∀ (i : Nat) (cs : Array Value) (t : TypeId) (fz : Nat × Nat), w.heap[i]? = some (Obj.cells cs t fz) → t ≠ 119 → w'.heap[i]? = some (Obj.cells cs t fz)
theorem Oth.refl (w : World) : Oth w w := fun _ _ _ _ h _ => h
theorem Oth.trans {a b c : World} (h : Oth a b) (k : Oth b c) : Oth a c := fun i cs t fz hi ht => k i cs t fz (h i cs t fz hi ht) ht
theorem heap_lt {w : World} {i : Nat} {o : Obj} (h : w.heap[i]? = some o) : i < w.heap.size := by
  rcases Nat.lt_or_ge i w.heap.size with hlt | hge
  · exact hlt
  · rw [Array.getElem?_eq_none hge] at h; cases h
theorem oth_below {w w' : World} (h : Below w.heap.size w w') : Oth w w' := fun i cs t fz hi _ => (h.block i (heap_lt hi)).trans hi
theorem oth_alloc (w : World) (o : Obj) : Oth w (w.alloc o) := oth_below ((Below.refl _ _).alloc (Nat.le_refl _) o)
theorem oth_grown {w w' : World} {g n : Nat} {v : Value} {xs : List Value} (h : w.ownsRow g 119 2 v n xs) (hg : w.grownBy w' v.ownBlock) : Oth w w' := fun i cs t fz hi ht => by
  refine (hg.block i (heap_lt hi) fun e => ?_).trans hi
  obtain ⟨hl, ⟨h0, _⟩ | ⟨bb, cap, cur, e2, hbb, hh, h2⟩⟩ := h
  · rw [h0] at e; cases e
  · rw [e2] at e
    injection e with e
    subst e
    rw [hi] at hh
    injection hh with hh
    injection hh with _ hh _
    exact ht hh
/-- A name behind some bytes came back, with what is known then. -/
def NameW (S : Wr) (g : Nat) (w : World) (e : Ending) (w' : World) : Prop :=
  ∃ (o : ByteArray) (v : Value), e = .returned (.tuple #[.string o, v]) ∧ o.data.toList = S.1 ∧ w'.ownsRow g 119 2 v S.2.length (restCs S.2) ∧ Below g w w' ∧ Oth w w'
theorem learn_len (out : List UInt8) (K : Known) (r : List UInt8) : (learn out K r).length ≤ K.length + 1 := by
  unfold learn
  split
  · rw [List.length_append]; exact Nat.le_refl _
  · omega
theorem learn_lt {out : List UInt8} {K : Known} {r : List UInt8} (h : ∀ y ∈ K, y.2 < 16384) : ∀ y ∈ learn out K r, y.2 < 16384 := fun y hy => by
  unfold learn at hy
  split at hy
  · next hlt =>
    rcases List.mem_append.1 hy with hy | hy
    · exact h y hy
    · rw [List.mem_singleton] at hy; subst hy; exact hlt
  · exact h y hy
theorem two_of {q : Nat} (h : q < 16384) : ∃ b1 b2 : UInt8, beTail (49152 + q) 2 = [b1, b2] ∧ b1.toNat = 192 + q / 256 ∧ b2.toNat = q % 256 := by
  refine ⟨_, _, rfl, ?_, ?_⟩
  · rw [UInt8.toNat_ofNat', Nat.pow_one]; omega
  · rw [UInt8.toNat_ofNat', Nat.pow_zero, Nat.div_one]; omega
set_option maxHeartbeats 8000000 in
set_option maxRecDepth 100000 in
theorem refNameW_is (x s : ByteArray) (K : Known) (g n : Nat) (v : Value) (S : Wr) (w : World) (hO : Hid (w.ownsRow g 119 2 v n (restCs K))) (hn : Hid (K.length = n)) (hg : Hid (g ≤ w.heap.size)) (hx : Hid (Rests x.data.toList)) (hxs : x.size ≤ 255) (hs : s.size ≤ 900000) (hnb : n ≤ 900000) (hK : Hid (∀ y ∈ K, y.2 < 16384)) (hS : Hid (nameW x.data.toList (s.data.toList, K) = S)) :
    Calls Try.prog 46 #[.string s, v, .string x] w (NameW S g w) := by
  obtain ⟨i0, hi, hz0, hz1, hz2⟩ := info_parts info_rest
  have HI := Lib.hid hi
  have HZ0 := Lib.hid hz0
  have HZ1 := Lib.hid hz1
  have HZ2 := Lib.hid hz2
  have SZ := Lib.hid (Lib.size_eq x)
  have SS := Lib.hid (Lib.size_eq s)
  have HS0 : Hid (wName (s.data.toList ++ x.data.toList.take 0) K (x.data.toList.drop 0) = S) := by
    show _ = _
    rw [List.take_zero, List.append_nil, List.drop_zero]
    exact hS.out
  have HX0 : Hid (Rests (x.data.toList.drop 0)) := hx
  have HB0 : Hid (Below g w w) := Below.refl g w
  have HT0 : Hid (Oth w w) := Oth.refl w
  have HN0 : Hid (w.ownsRow g 119 2 v K.length (restCs K)) := by show World.ownsRow _ _ _ _ _ _ _; rw [hn.out]; exact hO.out
  have HM0 : Hid (K.length ≤ n + 0) := Nat.le_of_eq hn.out
  have hx1 : 1 ≤ x.size := by rw [SZ.out]; exact rests_pos hx.out
  clear hi hz0 hz1 hz2 hx hS hO hn
  unfold NameW
  go_enter Try.func46, Try.ntmps46
  go_wp2_with fail
  go_loopw [1, 8] (fun u i wr => ∃ (k : Nat) (o : Value) (L : Known), k ≤ x.size ∧ u = o ∧ i = .int .i64 k ∧ Hid (wName (s.data.toList ++ x.data.toList.take k) L (x.data.toList.drop k) = S) ∧ Hid (Rests (x.data.toList.drop k)) ∧ Hid (wr.ownsRow g 119 2 o L.length (restCs L)) ∧ Hid (L.length ≤ n + k) ∧ Hid (∀ y ∈ L, y.2 < 16384) ∧ Hid (Below g w wr) ∧ Hid (Oth w wr)) (fun _ i _ => x.size - (intOf i).toNat)
  case atStart => exact ⟨0, _, K, Nat.zero_le _, rfl, rfl, HS0, HX0, HN0, HM0, hK, HB0, HT0⟩
  case round =>
    obtain ⟨k, o, L, hk, rfl, rfl, hR, hX, hO, hM, hL, hB, hT⟩ := hrel
    have HGW : Hid (g ≤ wr.heap.size) := Nat.le_trans hg.out hB.out.size
    obtain ⟨m, hm⟩ : ∃ m, L.length = m := ⟨_, rfl⟩
    have HM := Lib.hid hm
    have hmb : m ≤ 900255 := by have := hM.out; omega
    rw [hm] at hO
    obtain ⟨oA, oc, e0, hcs⟩ := cells_own hO.out
    subst e0
    have HCS := Lib.hid hcs
    have hlen : (x.data.toList.drop k).length = x.size - k := by rw [List.length_drop, ← SZ.out]
    clear hm hcs
    rcases rests_cases hX.out with he | ⟨e1, e2, e3, e4⟩
    · -- the root
      rw [he] at hlen
      have hk1 : k + 1 = x.size := by simp at hlen; omega
      have HO1 : Hid ((s ++ x).data.toList = S.1 ∧ L = S.2) := by
        have h := hR.out
        rw [he, wName_root (by rfl)] at h
        rw [← h]
        refine ⟨?_, rfl⟩
        rw [cat_list, List.append_assoc, ← he, List.take_append_drop]
      have hns : ¬ ((k : Int) < (x.size : Int) - 1) := by omega
      clear he hlen hR hX
      go_wp2_with fail
      go_ret2
      refine ⟨_, _, rfl, HO1.out.1, ?_, hB.out, hT.out⟩
      rw [← HO1.out.2, HM.out]
      exact hO.out
    · rw [hlen] at e3
      have hkx : k < x.size := by omega
      obtain ⟨r, hr⟩ : ∃ r, x.extract k x.size = r := ⟨_, rfl⟩
      have hrl : r.data.toList = x.data.toList.drop k := by rw [← hr, extract_list, List.take_of_length_le (by rw [← SZ.out]; exact Nat.le_refl _)]
      have HRL := Lib.hid hrl
      have HR := Lib.hid hr
      obtain ⟨c, hc⟩ : ∃ c, x[k]'hkx = c := ⟨_, rfl⟩
      have hcb : bt (x.data.toList.drop k) 0 = c.toNat := by unfold bt; rw [drop_cons (show k < x.data.toList.length by rw [← SZ.out]; exact hkx), List.getD_cons_zero, getD_byte hkx, hc]
      have HCB := Lib.hid hcb
      rw [hcb] at e1 e2 e3 e4
      have HRX := Lib.hid e4
      have hlt : (k : Int) < (x.size : Int) - 1 := by omega
      have HF := Lib.hid (refFind_is oA oc m wr.heap.size L r wr HCS.out HM (by omega))
      obtain ⟨F, hF⟩ : ∃ F, fnd L r.data.toList = F := ⟨_, rfl⟩
      rw [hF] at HF
      have HFD := Lib.hid hF
      clear hF hcb e4 hlen hr hrl hX
      cases F with
      | some p =>
        have hpl : p < 16384 := hL.out _ (fnd_mem HFD.out)
        obtain ⟨b1, b2, ht, hb1, hb2⟩ := two_of hpl
        have HS2 : Hid (S.1 = (s.data.toList ++ x.data.toList.take k) ++ [b1, b2] ∧ L = S.2) := by
          have h := hR.out
          rw [wName_known (by rw [HCB.out]; exact e1) (by rw [← HRL.out]; exact HFD.out), ht] at h
          rw [← h]
          exact ⟨rfl, rfl⟩
        obtain ⟨q1, hq1⟩ : ∃ q, p / 256 = q := ⟨_, rfl⟩
        obtain ⟨q2, hq2⟩ : ∃ q, p % 256 = q := ⟨_, rfl⟩
        rw [hq1] at hb1
        rw [hq2] at hb2
        have hpi : placeO (some p) = (p : Int) := rfl
        rw [hpi] at HF
        have hge : (0 : Int) ≤ (p : Int) := by omega
        have fge : decide ((0 : Int) ≤ (p : Int)) = true := decide_eq_true hge
        have hqi1 : (p : Int) / 256 = (q1 : Int) := by omega
        have hqi2 : (p : Int) % 256 = (q2 : Int) := by omega
        have hq1b : q1 ≤ 63 := by omega
        have hq2b : q2 ≤ 255 := by omega
        obtain ⟨t1, ht1⟩ : ∃ t, x.extract 0 k = t := ⟨_, rfl⟩
        have ht1l : t1.data.toList = x.data.toList.take k := by rw [← ht1, extract_list]; rfl
        have hz1 : t1.size = k := by rw [Lib.size_eq, ht1l, List.length_take, ← SZ.out]; omega
        have hc2 : (convert 74 9 (.slice (some ⟨wr.heap.size, 0, none⟩) 2 2)).run Try.prog (wr.alloc (.cells #[.int .u8 (192 + (q1 : Int)), .int .u8 (q2 : Int)] 5)).drew = .ok (.string (mk [b1, b2])) (wr.alloc (.cells #[.int .u8 (192 + (q1 : Int)), .int .u8 (q2 : Int)] 5)).drew := conv_new wr.drew [b1, b2] #[.int .u8 (192 + (q1 : Int)), .int .u8 (q2 : Int)] 2 (by show _ = [Value.int .u8 (b1.toNat : Int), .int .u8 (b2.toNat : Int)]; rw [hb1, hb2]; rfl) rfl
        have hqs := mk_size [b1, b2]
        obtain ⟨t2, ht2⟩ : ∃ t, mk [b1, b2] = t := ⟨_, rfl⟩
        rw [ht2] at hc2 hqs
        have hz2' : t2.size = 2 := hqs
        have HS3 : Hid ((s ++ t1 ++ t2).data.toList = S.1) := by show _ = _; rw [cat_list, cat_list, ht1l, ← ht2, mk_list]; exact HS2.out.1.symm
        have HT1 := Lib.hid ht1
        clear ht hb1 hb2 hq1 hq2 hpi ht1 ht1l ht2 hqs hR
        have hnn : ¬ ((p : Int) < 0) := by omega
        go_wp2_with fail
        rw [HR.out]
        refine HF.out.mono ?_
        rintro e w' ⟨rfl, rfl⟩
        go_wp2_with fail
        go_region
        go_wp2_with fail
        go_ret2
        refine ⟨_, _, rfl, ?_, ?_, ?_, ?_⟩
        · rw [HT1.out]; exact HS3.out
        · rw [← HS2.out.2, HM.out]
          exact (hO.out.alloc _).drew
        · exact (hB.out.alloc HGW.out _).drew
        · exact hT.out.trans (oth_alloc wr _)
      | none =>
        obtain ⟨q, hq⟩ : ∃ q, 1 + c.toNat = q := ⟨_, rfl⟩
        rw [hq] at e3
        have hR2 : wName (s.data.toList ++ x.data.toList.take (k + q)) (learn (s.data.toList ++ x.data.toList.take k) L (x.data.toList.drop k)) (x.data.toList.drop (k + q)) = S := by
          have h := wName_new (out := s.data.toList ++ x.data.toList.take k) (rest := x.data.toList.drop k) (K := L) (by rw [HCB.out]; exact e1) (by rw [← HRL.out]; exact HFD.out)
          rw [HCB.out, hq, List.drop_drop, List.append_assoc, ← List.take_add] at h
          rw [← hR.out, h]
        have HX2 : Hid (Rests (x.data.toList.drop (k + q))) := by
          have h := HRX.out
          rw [hq, List.drop_drop] at h
          exact h
        have hpi : placeO none = -1 := rfl
        rw [hpi] at HF
        have hct := c.toNat_lt
        have hqb : 1 ≤ q ∧ q ≤ 64 := by omega
        have hqi : (k : Int) + (c.toNat : Int) + 1 = ((k + q : Nat) : Int) := by omega
        have hkq : k + q ≤ x.size := by omega
        have hol : (s.data.toList ++ x.data.toList.take k).length = s.size + k := by rw [List.length_append, List.length_take, ← SZ.out, ← SS.out]; omega
        have HLL : Hid ((learn (s.data.toList ++ x.data.toList.take k) L (x.data.toList.drop k)).length ≤ n + (k + q)) := by
          have h1 := learn_len (s.data.toList ++ x.data.toList.take k) L (x.data.toList.drop k)
          have h2 := hM.out
          show _ ≤ _
          omega
        have HLT : Hid (∀ y ∈ learn (s.data.toList ++ x.data.toList.take k) L (x.data.toList.drop k), y.2 < 16384) := learn_lt hL.out
        have HR2 := Lib.hid hR2
        have HQI := Lib.hid hqi
        clear hR hR2 hpi hq hqi
        by_cases hlt2 : s.size + k < 16384
        · have hle : learn (s.data.toList ++ x.data.toList.take k) L (x.data.toList.drop k) = L ++ [(x.data.toList.drop k, s.size + k)] := by
            unfold learn
            rw [hol, if_pos hlt2]
          have HLE := Lib.hid hle
          have hi2 : (s.size : Int) + (k : Int) < 16384 := by omega
          clear hle hol
          go_wp2_with fail
          rw [HR.out]
          refine HF.out.mono ?_
          rintro e w' ⟨rfl, rfl⟩
          go_wp2_with (at_builtin; refine wpList_append_own _ rfl _ _ 80 rfl g 119 i0 (.agg #[.string ⟨#[]⟩, .int .i64 0]) 2 24 Try.underlying80 HI.out HZ0.out HZ1.out HZ2.out rfl (by decide) _ _ _ rfl (hO.out.alloc _) ⟨wr.heap.size, 0, none⟩ 1 1 [.string r, .int .i64 ((s.size : Int) + (k : Int))] rfl rfl ?CAa ?CAb ?CAc ?CAd ?CAe ?_)
          case CAa =>
            intro j u hj
            match j, hj with
            | 0, hj => simp at hj; subst hj; simp [Addr.add]
            | 1, hj => simp at hj; subst hj; simp [Addr.add]
          case CAb =>
            intro u hu
            simp at hu
            rcases hu with rfl | rfl <;> rfl
          case CAc => unfold maxLen; omega
          case CAd => omega
          case CAe => have := HGW.out; simp; omega
          intro v' w9 hown hgrow _
          have E1 : Hid (w9.ownsRow g 119 2 v' (learn (s.data.toList ++ x.data.toList.take k) L (x.data.toList.drop k)).length (restCs (learn (s.data.toList ++ x.data.toList.take k) L (x.data.toList.drop k)))) := by
            show World.ownsRow _ _ _ _ _ _ _
            rw [HLE.out, restCs_snoc, List.length_append, HM.out]
            unfold restV
            rw [show mk (x.data.toList.drop k) = r by rw [← HRL.out]; exact mk_data r]
            exact hown
          have E3 : Hid (Below g w w9) := (hB.out.alloc (by have := HGW.out; omega) _).grown hgrow (by have := HGW.out; simp; omega) (fun k hk => (hO.out.lt k hk).1)
          have E4 : Hid (Oth w w9) := hT.out.trans ((oth_alloc wr _).trans (oth_grown (hO.out.alloc _) hgrow))
          clear hown hgrow
          go_wp2_with fail
          go_roundw
          case rel => exact ⟨k + q, v', _, hkq, rfl, by rw [← HQI.out], HR2, HX2, E1, HLL, HLT, E3, E4⟩
          case measure => have := HQI.out; simp [intOf]; omega
        · have hle : learn (s.data.toList ++ x.data.toList.take k) L (x.data.toList.drop k) = L := by
            unfold learn
            rw [hol, if_neg hlt2]
          have E1 : Hid (wr.ownsRow g 119 2 (.slice oA m oc) (learn (s.data.toList ++ x.data.toList.take k) L (x.data.toList.drop k)).length (restCs (learn (s.data.toList ++ x.data.toList.take k) L (x.data.toList.drop k)))) := by
            show World.ownsRow _ _ _ _ _ _ _
            rw [hle, HM.out]
            exact hO.out
          have hi2 : ¬ ((s.size : Int) + (k : Int) < 16384) := by omega
          clear hle hol
          go_wp2_with fail
          rw [HR.out]
          refine HF.out.mono ?_
          rintro e w' ⟨rfl, rfl⟩
          go_wp2_with fail
          go_roundw
          case rel => exact ⟨k + q, _, _, hkq, rfl, by rw [← HQI.out], HR2, HX2, E1, HLL, HLT, hB, hT⟩
          case measure => have := HQI.out; simp [intOf]; omega
end Go.Proofs.Ytpmmjmnleoicjaa

/- What writes within some blocks alone; the contract of the law's Spoil over such. No condition. -/
namespace Go.Proofs.Ytpmmjmnleoicjaa
open Go.RowKit Bytes Strs Nums NameMath RecMath

/-- Blocks from base on and below top alone were written; what could be written still can. -/
structure Within (base top : Nat) (w w' : World) : Prop where
  below : Below base w w'
  up : ∀ i, top ≤ i → i < w.heap.size → w'.heap[i]? = w.heap[i]?
  wr : ∀ (b k : Nat) (u : Value), w.cell? ⟨b, k, none⟩ = some u → w.frozen? ⟨b, k, none⟩ = false → (∃ u, w'.cell? ⟨b, k, none⟩ = some u) ∧ w'.frozen? ⟨b, k, none⟩ = false
theorem Within.refl (base top : Nat) (w : World) : Within base top w w := ⟨Below.refl _ _, fun _ _ _ => rfl, fun _ _ u h hf => ⟨⟨u, h⟩, hf⟩⟩
theorem Within.trans {base top : Nat} {a b c : World} (h : Within base top a b) (k : Within base top b c) : Within base top a c :=
  ⟨h.below.trans k.below, fun i h1 h2 => (k.up i h1 (Nat.lt_of_lt_of_le h2 h.below.size)).trans (h.up i h1 h2), fun p q u h1 h2 => by
    obtain ⟨⟨u2, h3⟩, h4⟩ := h.wr p q u h1 h2
    exact k.wr p q u2 h3 h4⟩
theorem Within.mono {base base' top top' : Nat} {a b : World} (h : Within base top a b) (hb : base' ≤ base) (ht : top ≤ top') : Within base' top' a b :=
  ⟨h.below.mono hb, fun i h1 h2 => h.up i (Nat.le_trans ht h1) h2, h.wr⟩
theorem Within.of_below {base top : Nat} {a b : World} (h : Below a.heap.size a b) (hb : base ≤ a.heap.size) : Within base top a b :=
  ⟨h.mono hb, fun i _ h2 => h.block i h2, fun p q u h1 h2 => by
    have hp : p < a.heap.size := World.block_lt_of_cell? a _ h1
    have e := h.block p hp
    exact ⟨⟨u, by rw [World.cell?_of_block (w := a) e]; exact h1⟩, by rw [World.frozen?_of_block (w := a) e]; exact h2⟩⟩
theorem Within.set {base top b k : Nat} {w wr : World} (h : Within base top w wr) (hb : base ≤ b) (ht : b < top) (u : Value) : Within base top w (wr.setCell ⟨b, k, none⟩ u) :=
  h.trans ⟨(Below.refl _ _).setCell (p := ⟨b, k, none⟩) hb u, fun i h1 _ => Go.Deep.blk_setCell_other _ _ _ _ (by show i ≠ b; omega), fun p q v h1 h2 => by
    refine ⟨?_, by simpa using h2⟩
    by_cases e : (⟨b, k, none⟩ : Addr) = ⟨p, q, none⟩
    · rw [← e]
      rw [← e] at h1
      exact ⟨u, World.cell?_setCell_same _ _ _ h1⟩
    · exact ⟨v, by rw [World.cell?_setCell_other _ _ _ _ e]; exact h1⟩⟩
theorem wrs_within {w w' : World} {base top base' top' n : Nat} {A : Option Addr} (h : WrS w base top A n) (hw : Within base' top' w w') : WrS w' base top A n := fun hn => by
  obtain ⟨b, hA, hb, hl, hc⟩ := h hn
  exact ⟨b, hA, hb, hl, fun k hk => by obtain ⟨⟨u, h1⟩, h2⟩ := hc k hk; exact hw.wr b k u h1 h2⟩
theorem wrs_top {w : World} {base top top' n : Nat} {A : Option Addr} (h : WrS w base top A n) (ht : top ≤ top') : WrS w base top' A n := fun hn => by
  obtain ⟨b, hA, hb, hl, hc⟩ := h hn
  exact ⟨b, hA, hb, by omega, hc⟩
def SpW (w : World) (base top g : Nat) (vals : Array Value) (A1 A2 A3 : Option Addr) (n1 n2 n3 : Nat) (wr : World) : Prop :=
  WrS wr base top A1 n1 ∧ WrS wr base top A2 n2 ∧ WrS wr base top A3 n3 ∧ wr.heap[g]? = some (.cells vals 60 (0, 0)) ∧ Within base top w wr
theorem spW_set {w wr : World} {base top g b k : Nat} {vals : Array Value} {A1 A2 A3 : Option Addr} {n1 n2 n3 : Nat} (h : SpW w base top g vals A1 A2 A3 n1 n2 n3 wr) (htg : top ≤ g) (hb : base ≤ b) (hg : b < top) (u : Value) : SpW w base top g vals A1 A2 A3 n1 n2 n3 (wr.setCell ⟨b, k, none⟩ u) := by
  obtain ⟨h1, h2, h3, h4, h5⟩ := h
  refine ⟨wrs_set h1 _ _, wrs_set h2 _ _, wrs_set h3 _ _, ?_, h5.set hb hg u⟩
  rw [Go.Deep.blk_setCell_other _ _ _ _ (by show g ≠ b; omega)]
  exact h4
set_option maxHeartbeats 4000000 in
set_option maxRecDepth 100000 in
theorem spoil_w (x : ByteArray) (k l t : Nat) (A1 : Option Addr) (n1 c1 : Nat) (A2 : Option Addr) (n2 c2 : Nat) (A3 : Option Addr) (n3 c3 : Nat) (base top : Nat) (w : World) (h1 : WrS w base top A1 n1) (h2 : WrS w base top A2 n2) (h3 : WrS w base top A3 n3) (hm1 : n1 ≤ 1000000) (hm2 : n2 ≤ 1000000) (hm3 : n3 ≤ 1000000) (hb : base ≤ top) (ht : top ≤ w.heap.size) :
    Calls Try.prog 38 #[.agg #[.string x, .int .u16 k, .int .u16 l, .int .u32 t, .slice A1 n1 c1, .slice A2 n2 c2, .slice A3 n3 c3]] w fun e w' => e = .returned (.tuple #[]) ∧ Within base top w w' := by
  have hI : SpW w base top w.heap.size #[.string x, .int .u16 k, .int .u16 l, .int .u32 t, .slice A1 n1 c1, .slice A2 n2 c2, .slice A3 n3 c3] A1 A2 A3 n1 n2 n3 (w.alloc (.cells #[.string x, .int .u16 k, .int .u16 l, .int .u32 t, .slice A1 n1 c1, .slice A2 n2 c2, .slice A3 n3 c3] 60)) :=
    ⟨wrs_alloc h1 ht _, wrs_alloc h2 ht _, wrs_alloc h3 ht _, heap_alloc_new w _, Within.of_below ((Below.refl _ _).alloc (Nat.le_refl _) _) (Nat.le_trans hb ht)⟩
  have HI := Lib.hid hI
  clear hI h1 h2 h3
  go_enter Try.func38, Try.ntmps38
  go_wp2_with fail
  generalize w.alloc (.cells #[.string x, .int .u16 k, .int .u16 l, .int .u32 t, .slice A1 n1 c1, .slice A2 n2 c2, .slice A3 n3 c3] 60) = wb at *
  generalize w.heap.size = g at *
  go_loopw [2] (fun i wr => ∃ j : Nat, j ≤ n1 ∧ i = .int .i64 j ∧ Hid (SpW w base top g #[.string x, .int .u16 k, .int .u16 l, .int .u32 t, .slice A1 n1 c1, .slice A2 n2 c2, .slice A3 n3 c3] A1 A2 A3 n1 n2 n3 wr)) (fun i _ => n1 - (intOf i).toNat)
  case atStart => exact ⟨0, Nat.zero_le _, rfl, HI⟩
  case round =>
    obtain ⟨j, hj, rfl, hI⟩ := hrel
    have hblk := hI.out.2.2.2.1
    have p4 : wr.cell? ⟨g, 4, none⟩ = some (.slice A1 n1 c1) := by rw [Lib.cell_of_heap hblk]; rfl
    have p5 : wr.cell? ⟨g, 5, none⟩ = some (.slice A2 n2 c2) := by rw [Lib.cell_of_heap hblk]; rfl
    have p6 : wr.cell? ⟨g, 6, none⟩ = some (.slice A3 n3 c3) := by rw [Lib.cell_of_heap hblk]; rfl
    clear hblk
    by_cases hlt : j < n1
    · obtain ⟨bb, hA, hbb, hbg, hcs⟩ := hI.out.1 (by omega)
      obtain ⟨⟨u0, hu0⟩, hfz⟩ := hcs j hlt
      subst hA
      have HN := Lib.hid (spW_set (k := j) hI.out ht hbb hbg (.string ⟨#[63]⟩))
      have hji : (j : Int) < n1 := by omega
      clear hcs hI
      go_wp2_with fail
      go_roundw
      case rel => exact ⟨j + 1, by omega, by go_num, HN⟩
      case measure => simp [intOf]; omega
    · go_wp2_with fail
      go_loopw [3] (fun i wr => ∃ j : Nat, j ≤ n2 ∧ i = .int .i64 j ∧ Hid (SpW w base top g #[.string x, .int .u16 k, .int .u16 l, .int .u32 t, .slice A1 n1 c1, .slice A2 n2 c2, .slice A3 n3 c3] A1 A2 A3 n1 n2 n3 wr)) (fun i _ => n2 - (intOf i).toNat)
      case atStart => exact ⟨0, Nat.zero_le _, rfl, hI⟩
      case round =>
        obtain ⟨j, hj, rfl, hI⟩ := hrel
        have hblk := hI.out.2.2.2.1
        have p4 : wr.cell? ⟨g, 4, none⟩ = some (.slice A1 n1 c1) := by rw [Lib.cell_of_heap hblk]; rfl
        have p5 : wr.cell? ⟨g, 5, none⟩ = some (.slice A2 n2 c2) := by rw [Lib.cell_of_heap hblk]; rfl
        have p6 : wr.cell? ⟨g, 6, none⟩ = some (.slice A3 n3 c3) := by rw [Lib.cell_of_heap hblk]; rfl
        clear hblk
        by_cases hlt : j < n2
        · obtain ⟨bb, hA, hbb, hbg, hcs⟩ := hI.out.2.1 (by omega)
          obtain ⟨⟨u0, hu0⟩, hfz⟩ := hcs j hlt
          subst hA
          have HN := Lib.hid (spW_set (k := j) hI.out ht hbb hbg (.int .u32 77))
          have hji : (j : Int) < n2 := by omega
          clear hcs hI
          go_wp2_with fail
          go_roundw
          case rel => exact ⟨j + 1, by omega, by go_num, HN⟩
          case measure => simp [intOf]; omega
        · go_wp2_with fail
          go_loopw [4] (fun i wr => ∃ j : Nat, j ≤ n3 ∧ i = .int .i64 j ∧ Hid (SpW w base top g #[.string x, .int .u16 k, .int .u16 l, .int .u32 t, .slice A1 n1 c1, .slice A2 n2 c2, .slice A3 n3 c3] A1 A2 A3 n1 n2 n3 wr)) (fun i _ => n3 - (intOf i).toNat)
          case atStart => exact ⟨0, Nat.zero_le _, rfl, hI⟩
          case round =>
            obtain ⟨j, hj, rfl, hI⟩ := hrel
            have hblk := hI.out.2.2.2.1
            have p4 : wr.cell? ⟨g, 4, none⟩ = some (.slice A1 n1 c1) := by rw [Lib.cell_of_heap hblk]; rfl
            have p5 : wr.cell? ⟨g, 5, none⟩ = some (.slice A2 n2 c2) := by rw [Lib.cell_of_heap hblk]; rfl
            have p6 : wr.cell? ⟨g, 6, none⟩ = some (.slice A3 n3 c3) := by rw [Lib.cell_of_heap hblk]; rfl
            clear hblk
            by_cases hlt : j < n3
            · obtain ⟨bb, hA, hbb, hbg, hcs⟩ := hI.out.2.2.1 (by omega)
              obtain ⟨⟨u0, hu0⟩, hfz⟩ := hcs j hlt
              subst hA
              have HN := Lib.hid (spW_set (k := j) hI.out ht hbb hbg (.string ⟨#[63]⟩))
              have hji : (j : Int) < n3 := by omega
              clear hcs hI
              go_wp2_with fail
              go_roundw
              case rel => exact ⟨j + 1, by omega, by go_num, HN⟩
              case measure => simp [intOf]; omega
            · go_wp2_with fail
              go_end0
              exact ⟨rfl, hI.out.2.2.2.2⟩
end Go.Proofs.Ytpmmjmnleoicjaa

/- The contract of the law's own Copied: a record in memory of its own, its lists with spare room. For records of at most 10^5 texts of at most 10^5 bytes. -/
namespace Go.Proofs.Ytpmmjmnleoicjaa
open Go.RowKit Bytes Strs Nums NameMath RecMath

theorem grown_block2 {w0 w2 : World} {o O : Obj} {g : Nat} (h : w0.heap[g]? = some O) (hgrow : (w0.alloc o).drew.grownBy w2 (some w0.heap.size)) : w2.heap[g]? = some O := by
  have hl : g < w0.heap.size := by
    rcases Nat.lt_or_ge g w0.heap.size with hl | hl
    · exact hl
    · rw [Array.getElem?_eq_none hl] at h; cases h
  have e : (w0.alloc o).drew.heap[g]? = some O := (heap_alloc_old w0 o hl).trans h
  rw [hgrow.block g (by simp; omega) (by intro e; injection e with e; omega)]
  exact e
/-- The two blocks of a call that hands back a record: the parameter's, and the result's; nothing below has changed. -/
def CutInv (w : World) (g : Nat) (vals zero : Array Value) (wx : World) : Prop :=
  wx.heap[g]? = some (.cells vals 60 (0, 0)) ∧ wx.heap[g + 1]? = some (.cells zero 60 (0, 0)) ∧ g + 2 ≤ wx.heap.size ∧ Below g w wx
theorem cut_step {w w0 w2 : World} {g i : Nat} {vals ds zero : Array Value} {o : Obj} {u : Value} (h : CutInv w g vals zero w0) (hgrow : (w0.alloc o).drew.grownBy w2 (some w0.heap.size)) (hd : vals.setIfInBounds i u = ds) : CutInv w g ds zero (w2.setCell ⟨g, i, none⟩ u) := by
  obtain ⟨h1, h2, h3, h4⟩ := h
  have hs : w0.heap.size ≤ w2.heap.size := by have := hgrow.size; simp at this; omega
  refine ⟨set_block (grown_block2 h1 hgrow) hd, other_block (grown_block2 h2 hgrow) (by omega), by rw [Go.Deep.nblk_setCell]; omega, ?_⟩
  have hb : Below g w (w0.alloc o).drew := (h4.alloc (by omega) o).drew
  exact (hb.grown hgrow (by simp; omega) (fun k hk => by injection hk with hk; omega)).setCell (p := ⟨g, i, none⟩) (Nat.le_refl g) u
theorem own_step2 {w0 w2 : World} {g i n b : Nat} {e : TypeId} {v u : Value} {xs : List Value} {o : Obj} (h : w0.ownsRow (g + 2) e 1 v n xs) (hgrow : (w0.alloc o).drew.grownBy w2 (some b)) (hb : b = w0.heap.size) : (w2.setCell ⟨g, i, none⟩ u).ownsRow (g + 2) e 1 v n xs := by
  subst hb
  have h1 : (w0.alloc o).drew.ownsRow (g + 2) e 1 v n xs := own_below h ⟨rfl, rfl, rfl, by simp, fun k hk => heap_alloc_old w0 o hk⟩
  have h2 := h1.kept hgrow (by
    rcases hv : v.ownBlock with _ | k
    · exact Or.inl rfl
    · refine Or.inr (fun e => ?_)
      injection e with e
      have := (h.lt k hv).2
      omega)
  exact own_set h2 (by show g < g + 2; omega)

/-- A record came back in memory of the call's own, its names and its texts apart. -/
def RecRes2 (w : World) (R : Rec) (x : ByteArray) (k l t n1 n2 n3 : Nat) (e : Ending) (w' : World) : Prop :=
  ∃ B1 d1 B2 d2 B3 d3, e = .returned (.agg #[.string x, .int .u16 k, .int .u16 l, .int .u32 t, .slice B1 n1 d1, .slice B2 n2 d2, .slice B3 n3 d3]) ∧ w'.ownsRow w.heap.size 9 1 (.slice B1 n1 d1) n1 (strCs R.names) ∧ w'.ownsRow w.heap.size 50 1 (.slice B2 n2 d2) n2 (numCs R.nums) ∧ w'.ownsRow w.heap.size 9 1 (.slice B3 n3 d3) n3 (strCs R.texts) ∧ Below w.heap.size w w' ∧ (∀ a b, B1 = some a → B3 = some b → a.block ≠ b.block)
theorem apart_of {w w2 : World} {b n m c d base : Nat} {e : TypeId} {A B : Option Addr} {xs ys : List Value} (h : w.ownsRow base e 1 (.slice A n c) n xs) (h2 : w2.ownsRow b e 1 (.slice B m d) m ys) (hb : b = w.heap.size) : ∀ p q, A = some p → B = some q → p.block ≠ q.block := fun p q hp hq hpq => by
  subst hp hq hb
  have h1 := (h.lt p.block rfl).2
  have h3 := (h2.lt q.block rfl).1
  omega

attribute [local go_sem ↓] Go.wp_at_zero Go.wp_at_succ

set_option maxHeartbeats 8000000 in
set_option maxRecDepth 100000 in
theorem lawCopied_is (R : Rec) (x : ByteArray) (k l t : Nat) (A1 : Option Addr) (n1 c1 : Nat) (A2 : Option Addr) (n2 c2 : Nat) (A3 : Option Addr) (n3 c3 : Nat) (w : World) (hR : Hid (RecAt w w.heap.size R x k l t A1 n1 A2 n2 A3 n3)) (hS : Hid (Small R)) (hf1 : A1 = none → c1 = 0) (hf2 : A2 = none → c2 = 0) (hf3 : A3 = none → c3 = 0) :
    Calls Try.prog 43 #[.agg #[.string x, .int .u16 k, .int .u16 l, .int .u32 t, .slice A1 n1 c1, .slice A2 n2 c2, .slice A3 n3 c3]] w (RecRes2 w R x k l t n1 n2 n3) := by
  have hm1 := hR.out.m1 hS.out
  have hm2 := hR.out.m2 hS.out
  have hm3 := hR.out.m3 hS.out
  have HF1 := Lib.hid hf1
  have HF2 := Lib.hid hf2
  have HF3 := Lib.hid hf3
  clear hf1 hf2 hf3
  have HL1 := Lib.hid hR.out.len1
  have HL2 := Lib.hid hR.out.len2
  have HL3 := Lib.hid hR.out.len3
  obtain ⟨m1, hm10⟩ : ∃ m, n1 + 1 = m := ⟨_, rfl⟩
  have hw1 : IntKind.i64.wrap ((n1 : Int) + 1) = (m1 : Int) := by rw [IntWalk.i64_in _ (by omega)]; omega
  obtain ⟨M1, hM1, hmk1⟩ := make0_strs m1 (by omega)
  have HM1 := Lib.hid hM1
  have hm1le : m1 ≤ 1000000 := by omega
  clear hM1 hm10
  obtain ⟨m2, hm20⟩ : ∃ m, n2 + 1 = m := ⟨_, rfl⟩
  have hw2 : IntKind.i64.wrap ((n2 : Int) + 1) = (m2 : Int) := by rw [IntWalk.i64_in _ (by omega)]; omega
  obtain ⟨M2, hM2, hmk2⟩ := make0_nums m2 (by omega)
  have HM2 := Lib.hid hM2
  have hm2le : m2 ≤ 1000000 := by omega
  clear hM2 hm20
  obtain ⟨m3, hm30⟩ : ∃ m, n3 + 1 = m := ⟨_, rfl⟩
  have hw3 : IntKind.i64.wrap ((n3 : Int) + 1) = (m3 : Int) := by rw [IntWalk.i64_in _ (by omega)]; omega
  obtain ⟨M3, hM3, hmk3⟩ := make0_strs m3 (by omega)
  have HM3 := Lib.hid hM3
  have hm3le : m3 ≤ 1000000 := by omega
  clear hM3 hm30
  go_enter Try.func43, Try.ntmps43
  go_wp2_with fail
  have hG0 : ((w.alloc (.cells #[.string x, .int .u16 k, .int .u16 l, .int .u32 t, .slice A1 n1 c1, .slice A2 n2 c2, .slice A3 n3 c3] 60)).alloc (.cells #[.string ⟨#[]⟩, .int .u16 0, .int .u16 0, .int .u32 0, .slice none 0 0, .slice none 0 0, .slice none 0 0] 60)).heap[w.heap.size]? = some (.cells #[.string x, .int .u16 k, .int .u16 l, .int .u32 t, .slice A1 n1 c1, .slice A2 n2 c2, .slice A3 n3 c3] 60 (0, 0)) := (heap_alloc_old (w.alloc (.cells #[.string x, .int .u16 k, .int .u16 l, .int .u32 t, .slice A1 n1 c1, .slice A2 n2 c2, .slice A3 n3 c3] 60)) (.cells #[.string ⟨#[]⟩, .int .u16 0, .int .u16 0, .int .u32 0, .slice none 0 0, .slice none 0 0, .slice none 0 0] 60) (by simp)).trans (heap_alloc_new w _)
  have hH0 : ((w.alloc (.cells #[.string x, .int .u16 k, .int .u16 l, .int .u32 t, .slice A1 n1 c1, .slice A2 n2 c2, .slice A3 n3 c3] 60)).alloc (.cells #[.string ⟨#[]⟩, .int .u16 0, .int .u16 0, .int .u32 0, .slice none 0 0, .slice none 0 0, .slice none 0 0] 60)).heap[w.heap.size + 1]? = some (.cells #[.string ⟨#[]⟩, .int .u16 0, .int .u16 0, .int .u32 0, .slice none 0 0, .slice none 0 0, .slice none 0 0] 60 (0, 0)) := by
    have := heap_alloc_new (w.alloc (.cells #[.string x, .int .u16 k, .int .u16 l, .int .u32 t, .slice A1 n1 c1, .slice A2 n2 c2, .slice A3 n3 c3] 60)) (.cells #[.string ⟨#[]⟩, .int .u16 0, .int .u16 0, .int .u32 0, .slice none 0 0, .slice none 0 0, .slice none 0 0] 60)
    simpa using this
  have hB0 : Below w.heap.size w ((w.alloc (.cells #[.string x, .int .u16 k, .int .u16 l, .int .u32 t, .slice A1 n1 c1, .slice A2 n2 c2, .slice A3 n3 c3] 60)).alloc (.cells #[.string ⟨#[]⟩, .int .u16 0, .int .u16 0, .int .u32 0, .slice none 0 0, .slice none 0 0, .slice none 0 0] 60)) := ((Below.refl _ _).alloc (Nat.le_refl _) _).alloc (by simp) _
  have hs0 : w.heap.size + 2 ≤ ((w.alloc (.cells #[.string x, .int .u16 k, .int .u16 l, .int .u32 t, .slice A1 n1 c1, .slice A2 n2 c2, .slice A3 n3 c3] 60)).alloc (.cells #[.string ⟨#[]⟩, .int .u16 0, .int .u16 0, .int .u32 0, .slice none 0 0, .slice none 0 0, .slice none 0 0] 60)).heap.size := by simp
  have HRg := Lib.hid hR.out
  have HC : Hid (CutInv w w.heap.size #[.string x, .int .u16 k, .int .u16 l, .int .u32 t, .slice A1 n1 c1, .slice A2 n2 c2, .slice A3 n3 c3] #[.string ⟨#[]⟩, .int .u16 0, .int .u16 0, .int .u32 0, .slice none 0 0, .slice none 0 0, .slice none 0 0] ((w.alloc (.cells #[.string x, .int .u16 k, .int .u16 l, .int .u32 t, .slice A1 n1 c1, .slice A2 n2 c2, .slice A3 n3 c3] 60)).alloc (.cells #[.string ⟨#[]⟩, .int .u16 0, .int .u16 0, .int .u32 0, .slice none 0 0, .slice none 0 0, .slice none 0 0] 60))) := ⟨hG0, hH0, hs0, hB0⟩
  clear hG0 hH0 hB0 hs0 hR
  generalize ((w.alloc (.cells #[.string x, .int .u16 k, .int .u16 l, .int .u32 t, .slice A1 n1 c1, .slice A2 n2 c2, .slice A3 n3 c3] 60)).alloc (.cells #[.string ⟨#[]⟩, .int .u16 0, .int .u16 0, .int .u32 0, .slice none 0 0, .slice none 0 0, .slice none 0 0] 60)) = w0 at *
  generalize hgw : w.heap.size = g at *
  have HGW := Lib.hid hgw
  clear hgw
  have hcut0 := HC.out
  have hgl : g < w0.heap.size := by have := hcut0.2.2.1; omega
  have hg2 : g + 2 ≤ w0.heap.size := hcut0.2.2.1
  have p4 : w0.cell? ⟨g, 4, none⟩ = some (.slice A1 n1 c1) := by rw [Lib.cell_of_heap hcut0.1]; rfl
  have HSRC := Lib.hid (strs_below (strs_of (HRg.out.on (hcut0.2.2.2) (Nat.le_of_lt hgl)).rd1 HL1.out HF1.out) (w' := (w0.alloc (.cells M1 9)).drew) ((Below.refl _ w0).alloc (Nat.le_refl _) _).drew)
  have hown0 : (w0.alloc (.cells M1 9)).drew.ownsRow w0.heap.size 9 1 (.slice (some ⟨w0.heap.size, 0, none⟩) 0 m1) 0 [] := made0_strs w0 M1 m1 w0.heap.size HM1.out hm1le (Nat.le_refl _)
  have HOWN := Lib.hid hown0
  clear hcut0 hown0
  go_upto_region 1 with fail
  go_cut [] from 3 to 30 (fun wx => ∃ B1 d1, Hid (CutInv w g #[.string x, .int .u16 k, .int .u16 l, .int .u32 t, .slice B1 n1 d1, .slice A2 n2 c2, .slice A3 n3 c3] #[.string ⟨#[]⟩, .int .u16 0, .int .u16 0, .int .u32 0, .slice none 0 0, .slice none 0 0, .slice none 0 0] wx) ∧ Hid (wx.ownsRow (g + 2) 9 1 (.slice B1 n1 d1) n1 (strCs R.names)))
  case first =>
    go_region_law (first
      | (refine step_append_strs (by rfl) _ _ (by rfl) w0.heap.size (.slice (some ⟨w0.heap.size, 0, none⟩) 0 m1) 0 [] (by rfl) HOWN.out (.slice A1 n1 c1) (by rfl) n1 R.names HSRC.out (by omega) (by simp) ?_; intro v' w2 hown2 hgrow; rw [Nat.zero_add, List.nil_append] at hown2; obtain ⟨B1, d1, rfl, _, _, _⟩ := own_rds hown2 HL1.out.symm; have hb2 := grown_block2 HC.out.1 hgrow; have q4 : w2.cell? ⟨g, 4, none⟩ = some (.slice A1 n1 c1) := (by rw [Lib.cell_of_heap hb2]; rfl); have z4 : w2.frozen? ⟨g, 4, none⟩ = false := Lib.frozen_of_heap hb2 4))
    all_goals
      go_wp2_with fail
      go_meet
      exact ⟨B1, d1, Lib.hid (cut_step HC.out hgrow (by rfl)), Lib.hid (own_set (own_low hown2 hg2) (by show g < g + 2; omega))⟩
  case rest =>
    clear HSRC HOWN p4 hgl hg2  HC
    obtain ⟨B1, d1, HC, HO1⟩ := hcut
    generalize wc = w1 at *
    have hcut0 := HC.out
    have hgl : g < w1.heap.size := by have := hcut0.2.2.1; omega
    have hg2 : g + 2 ≤ w1.heap.size := hcut0.2.2.1
    have p5 : w1.cell? ⟨g, 5, none⟩ = some (.slice A2 n2 c2) := by rw [Lib.cell_of_heap hcut0.1]; rfl
    have HSRC := Lib.hid (nums_below (nums_of (HRg.out.on (hcut0.2.2.2) (Nat.le_of_lt hgl)).rd2 HL2.out HF2.out) (w' := (w1.alloc (.cells M2 50)).drew) ((Below.refl _ w1).alloc (Nat.le_refl _) _).drew)
    have hown0 : (w1.alloc (.cells M2 50)).drew.ownsRow w1.heap.size 50 1 (.slice (some ⟨w1.heap.size, 0, none⟩) 0 m2) 0 [] := made0_nums w1 M2 m2 w1.heap.size HM2.out hm2le (Nat.le_refl _)
    have HOWN := Lib.hid hown0
    clear hcut0 hown0
    go_upto_region 2 with fail
    go_cut [] from 3 to 30 (fun wx => ∃ B2 d2, Hid (CutInv w g #[.string x, .int .u16 k, .int .u16 l, .int .u32 t, .slice B1 n1 d1, .slice B2 n2 d2, .slice A3 n3 c3] #[.string ⟨#[]⟩, .int .u16 0, .int .u16 0, .int .u32 0, .slice none 0 0, .slice none 0 0, .slice none 0 0] wx) ∧ Hid (wx.ownsRow (g + 2) 9 1 (.slice B1 n1 d1) n1 (strCs R.names)) ∧ Hid (wx.ownsRow (g + 2) 50 1 (.slice B2 n2 d2) n2 (numCs R.nums)))
    case first =>
      go_region_law (first
        | (refine step_append_nums (by rfl) _ _ (by rfl) w1.heap.size (.slice (some ⟨w1.heap.size, 0, none⟩) 0 m2) 0 [] (by rfl) HOWN.out (.slice A2 n2 c2) (by rfl) n2 R.nums HSRC.out (by omega) (by simp) ?_; intro v' w2 hown2 hgrow; rw [Nat.zero_add, List.nil_append] at hown2; obtain ⟨B2, d2, rfl, _, _, _⟩ := own_rdn hown2 HL2.out.symm; have hb2 := grown_block2 HC.out.1 hgrow; have q4 : w2.cell? ⟨g, 5, none⟩ = some (.slice A2 n2 c2) := (by rw [Lib.cell_of_heap hb2]; rfl); have z4 : w2.frozen? ⟨g, 5, none⟩ = false := Lib.frozen_of_heap hb2 5))
      all_goals
        go_wp2_with fail
        go_meet
        exact ⟨B2, d2, Lib.hid (cut_step HC.out hgrow (by rfl)), Lib.hid (own_step2 HO1.out hgrow rfl), Lib.hid (own_set (own_low hown2 hg2) (by show g < g + 2; omega))⟩
    case rest =>
      clear HSRC HOWN p5 hgl hg2 HO1 HC
      obtain ⟨B2, d2, HC, HO1, HO2⟩ := hcut
      generalize wc = w2 at *
      have hcut0 := HC.out
      have hgl : g < w2.heap.size := by have := hcut0.2.2.1; omega
      have hg2 : g + 2 ≤ w2.heap.size := hcut0.2.2.1
      have p6 : w2.cell? ⟨g, 6, none⟩ = some (.slice A3 n3 c3) := by rw [Lib.cell_of_heap hcut0.1]; rfl
      have HSRC := Lib.hid (strs_below (strs_of (HRg.out.on (hcut0.2.2.2) (Nat.le_of_lt hgl)).rd3 HL3.out HF3.out) (w' := (w2.alloc (.cells M3 9)).drew) ((Below.refl _ w2).alloc (Nat.le_refl _) _).drew)
      have hown0 : (w2.alloc (.cells M3 9)).drew.ownsRow w2.heap.size 9 1 (.slice (some ⟨w2.heap.size, 0, none⟩) 0 m3) 0 [] := made0_strs w2 M3 m3 w2.heap.size HM3.out hm3le (Nat.le_refl _)
      have HOWN := Lib.hid hown0
      clear hcut0 hown0
      go_upto_region 3 with fail
      go_cut [] from 3 to 30 (fun wx => ∃ B3 d3, Hid (CutInv w g #[.string x, .int .u16 k, .int .u16 l, .int .u32 t, .slice B1 n1 d1, .slice B2 n2 d2, .slice B3 n3 d3] #[.string ⟨#[]⟩, .int .u16 0, .int .u16 0, .int .u32 0, .slice none 0 0, .slice none 0 0, .slice none 0 0] wx) ∧ Hid (wx.ownsRow (g + 2) 9 1 (.slice B1 n1 d1) n1 (strCs R.names)) ∧ Hid (wx.ownsRow (g + 2) 50 1 (.slice B2 n2 d2) n2 (numCs R.nums)) ∧ Hid (wx.ownsRow (g + 2) 9 1 (.slice B3 n3 d3) n3 (strCs R.texts)) ∧ Hid (∀ a b, B1 = some a → B3 = some b → a.block ≠ b.block))
      case first =>
        go_region_law (first
          | (refine step_append_strs (by rfl) _ _ (by rfl) w2.heap.size (.slice (some ⟨w2.heap.size, 0, none⟩) 0 m3) 0 [] (by rfl) HOWN.out (.slice A3 n3 c3) (by rfl) n3 R.texts HSRC.out (by omega) (by simp) ?_; intro v' w2 hown2 hgrow; rw [Nat.zero_add, List.nil_append] at hown2; obtain ⟨B3, d3, rfl, _, _, _⟩ := own_rds hown2 HL3.out.symm; have hb2 := grown_block2 HC.out.1 hgrow; have q4 : w2.cell? ⟨g, 6, none⟩ = some (.slice A3 n3 c3) := (by rw [Lib.cell_of_heap hb2]; rfl); have z4 : w2.frozen? ⟨g, 6, none⟩ = false := Lib.frozen_of_heap hb2 6))
        all_goals
          go_wp2_with fail
          go_meet
          exact ⟨B3, d3, Lib.hid (cut_step HC.out hgrow (by rfl)), Lib.hid (own_step2 HO1.out hgrow rfl), Lib.hid (own_step2 HO2.out hgrow rfl), Lib.hid (own_set (own_low hown2 hg2) (by show g < g + 2; omega)), Lib.hid (apart_of HO1.out hown2 rfl)⟩
      case rest =>
        clear HSRC HOWN p6 hgl hg2 HO1 HO2 HC
        obtain ⟨B3, d3, HC, HO1, HO2, HO3, HAP⟩ := hcut
        generalize wc = w3 at *
        have hcut0 := HC.out
        have hh0 := hcut0.2.1
        have p0 : w3.cell? ⟨g, 0, none⟩ = some (.string x) := by rw [Lib.cell_of_heap hcut0.1]; rfl
        have p1 : w3.cell? ⟨g, 1, none⟩ = some (.int .u16 k) := by rw [Lib.cell_of_heap hcut0.1]; rfl
        have p2 : w3.cell? ⟨g, 2, none⟩ = some (.int .u16 l) := by rw [Lib.cell_of_heap hcut0.1]; rfl
        have p3 : w3.cell? ⟨g, 3, none⟩ = some (.int .u32 t) := by rw [Lib.cell_of_heap hcut0.1]; rfl
        have p4 : w3.cell? ⟨g, 4, none⟩ = some (.slice B1 n1 d1) := by rw [Lib.cell_of_heap hcut0.1]; rfl
        have p5 : w3.cell? ⟨g, 5, none⟩ = some (.slice B2 n2 d2) := by rw [Lib.cell_of_heap hcut0.1]; rfl
        have p6 : w3.cell? ⟨g, 6, none⟩ = some (.slice B3 n3 d3) := by rw [Lib.cell_of_heap hcut0.1]; rfl
        have r0 : w3.cell? ⟨(g + 1), 0, none⟩ = some (.string ⟨#[]⟩) := by rw [Lib.cell_of_heap hh0]; rfl
        have r1 : w3.cell? ⟨(g + 1), 1, none⟩ = some (.int .u16 0) := by rw [Lib.cell_of_heap hh0]; rfl
        have r2 : w3.cell? ⟨(g + 1), 2, none⟩ = some (.int .u16 0) := by rw [Lib.cell_of_heap hh0]; rfl
        have r3 : w3.cell? ⟨(g + 1), 3, none⟩ = some (.int .u32 0) := by rw [Lib.cell_of_heap hh0]; rfl
        have r4 : w3.cell? ⟨(g + 1), 4, none⟩ = some (.slice none 0 0) := by rw [Lib.cell_of_heap hh0]; rfl
        have r5 : w3.cell? ⟨(g + 1), 5, none⟩ = some (.slice none 0 0) := by rw [Lib.cell_of_heap hh0]; rfl
        have r6 : w3.cell? ⟨(g + 1), 6, none⟩ = some (.slice none 0 0) := by rw [Lib.cell_of_heap hh0]; rfl
        have rz0 : w3.frozen? ⟨(g + 1), 0, none⟩ = false := Lib.frozen_of_heap hh0 0
        have rz1 : w3.frozen? ⟨(g + 1), 1, none⟩ = false := Lib.frozen_of_heap hh0 1
        have rz2 : w3.frozen? ⟨(g + 1), 2, none⟩ = false := Lib.frozen_of_heap hh0 2
        have rz3 : w3.frozen? ⟨(g + 1), 3, none⟩ = false := Lib.frozen_of_heap hh0 3
        have rz4 : w3.frozen? ⟨(g + 1), 4, none⟩ = false := Lib.frozen_of_heap hh0 4
        have rz5 : w3.frozen? ⟨(g + 1), 5, none⟩ = false := Lib.frozen_of_heap hh0 5
        have rz6 : w3.frozen? ⟨(g + 1), 6, none⟩ = false := Lib.frozen_of_heap hh0 6
        have HH4 := Lib.hid hh0
        have HBw4 := Lib.hid hcut0.2.2.2
        clear hcut0 hh0 HC
        go_wp2_with fail
        have hF : (((((((w3.setCell ⟨g + 1, 0, none⟩ (.string x)).setCell ⟨g + 1, 1, none⟩ (.int .u16 k)).setCell ⟨g + 1, 2, none⟩ (.int .u16 l)).setCell ⟨g + 1, 3, none⟩ (.int .u32 t)).setCell ⟨g + 1, 4, none⟩ (.slice B1 n1 d1)).setCell ⟨g + 1, 5, none⟩ (.slice B2 n2 d2)).setCell ⟨g + 1, 6, none⟩ (.slice B3 n3 d3)).heap[g + 1]? = some (.cells #[.string x, .int .u16 k, .int .u16 l, .int .u32 t, .slice B1 n1 d1, .slice B2 n2 d2, .slice B3 n3 d3] 60 (0, 0)) := (set_block (i := 6) (v := .slice B3 n3 d3) (set_block (i := 5) (v := .slice B2 n2 d2) (set_block (i := 4) (v := .slice B1 n1 d1) (set_block (i := 3) (v := .int .u32 t) (set_block (i := 2) (v := .int .u16 l) (set_block (i := 1) (v := .int .u16 k) (set_block (i := 0) (v := .string x) HH4.out rfl) rfl) rfl) rfl) rfl) rfl) rfl)
        have hU1 : (((((((w3.setCell ⟨g + 1, 0, none⟩ (.string x)).setCell ⟨g + 1, 1, none⟩ (.int .u16 k)).setCell ⟨g + 1, 2, none⟩ (.int .u16 l)).setCell ⟨g + 1, 3, none⟩ (.int .u32 t)).setCell ⟨g + 1, 4, none⟩ (.slice B1 n1 d1)).setCell ⟨g + 1, 5, none⟩ (.slice B2 n2 d2)).setCell ⟨g + 1, 6, none⟩ (.slice B3 n3 d3)).ownsRow (g + 2) 9 1 (.slice B1 n1 d1) n1 (strCs R.names) := (own_set (p := ⟨g + 1, 6, none⟩) (u := .slice B3 n3 d3) (own_set (p := ⟨g + 1, 5, none⟩) (u := .slice B2 n2 d2) (own_set (p := ⟨g + 1, 4, none⟩) (u := .slice B1 n1 d1) (own_set (p := ⟨g + 1, 3, none⟩) (u := .int .u32 t) (own_set (p := ⟨g + 1, 2, none⟩) (u := .int .u16 l) (own_set (p := ⟨g + 1, 1, none⟩) (u := .int .u16 k) (own_set (p := ⟨g + 1, 0, none⟩) (u := .string x) HO1.out (Nat.lt_succ_self (g + 1))) (Nat.lt_succ_self (g + 1))) (Nat.lt_succ_self (g + 1))) (Nat.lt_succ_self (g + 1))) (Nat.lt_succ_self (g + 1))) (Nat.lt_succ_self (g + 1))) (Nat.lt_succ_self (g + 1)))
        have hU2 : (((((((w3.setCell ⟨g + 1, 0, none⟩ (.string x)).setCell ⟨g + 1, 1, none⟩ (.int .u16 k)).setCell ⟨g + 1, 2, none⟩ (.int .u16 l)).setCell ⟨g + 1, 3, none⟩ (.int .u32 t)).setCell ⟨g + 1, 4, none⟩ (.slice B1 n1 d1)).setCell ⟨g + 1, 5, none⟩ (.slice B2 n2 d2)).setCell ⟨g + 1, 6, none⟩ (.slice B3 n3 d3)).ownsRow (g + 2) 50 1 (.slice B2 n2 d2) n2 (numCs R.nums) := (own_set (p := ⟨g + 1, 6, none⟩) (u := .slice B3 n3 d3) (own_set (p := ⟨g + 1, 5, none⟩) (u := .slice B2 n2 d2) (own_set (p := ⟨g + 1, 4, none⟩) (u := .slice B1 n1 d1) (own_set (p := ⟨g + 1, 3, none⟩) (u := .int .u32 t) (own_set (p := ⟨g + 1, 2, none⟩) (u := .int .u16 l) (own_set (p := ⟨g + 1, 1, none⟩) (u := .int .u16 k) (own_set (p := ⟨g + 1, 0, none⟩) (u := .string x) HO2.out (Nat.lt_succ_self (g + 1))) (Nat.lt_succ_self (g + 1))) (Nat.lt_succ_self (g + 1))) (Nat.lt_succ_self (g + 1))) (Nat.lt_succ_self (g + 1))) (Nat.lt_succ_self (g + 1))) (Nat.lt_succ_self (g + 1)))
        have hU3 : (((((((w3.setCell ⟨g + 1, 0, none⟩ (.string x)).setCell ⟨g + 1, 1, none⟩ (.int .u16 k)).setCell ⟨g + 1, 2, none⟩ (.int .u16 l)).setCell ⟨g + 1, 3, none⟩ (.int .u32 t)).setCell ⟨g + 1, 4, none⟩ (.slice B1 n1 d1)).setCell ⟨g + 1, 5, none⟩ (.slice B2 n2 d2)).setCell ⟨g + 1, 6, none⟩ (.slice B3 n3 d3)).ownsRow (g + 2) 9 1 (.slice B3 n3 d3) n3 (strCs R.texts) := (own_set (p := ⟨g + 1, 6, none⟩) (u := .slice B3 n3 d3) (own_set (p := ⟨g + 1, 5, none⟩) (u := .slice B2 n2 d2) (own_set (p := ⟨g + 1, 4, none⟩) (u := .slice B1 n1 d1) (own_set (p := ⟨g + 1, 3, none⟩) (u := .int .u32 t) (own_set (p := ⟨g + 1, 2, none⟩) (u := .int .u16 l) (own_set (p := ⟨g + 1, 1, none⟩) (u := .int .u16 k) (own_set (p := ⟨g + 1, 0, none⟩) (u := .string x) HO3.out (Nat.lt_succ_self (g + 1))) (Nat.lt_succ_self (g + 1))) (Nat.lt_succ_self (g + 1))) (Nat.lt_succ_self (g + 1))) (Nat.lt_succ_self (g + 1))) (Nat.lt_succ_self (g + 1))) (Nat.lt_succ_self (g + 1)))
        have hBL : Below g w (((((((w3.setCell ⟨g + 1, 0, none⟩ (.string x)).setCell ⟨g + 1, 1, none⟩ (.int .u16 k)).setCell ⟨g + 1, 2, none⟩ (.int .u16 l)).setCell ⟨g + 1, 3, none⟩ (.int .u32 t)).setCell ⟨g + 1, 4, none⟩ (.slice B1 n1 d1)).setCell ⟨g + 1, 5, none⟩ (.slice B2 n2 d2)).setCell ⟨g + 1, 6, none⟩ (.slice B3 n3 d3)) := (((((((HBw4.out.setCell (p := ⟨g + 1, 0, none⟩) (Nat.le_succ g) (.string x)).setCell (p := ⟨g + 1, 1, none⟩) (Nat.le_succ g) (.int .u16 k)).setCell (p := ⟨g + 1, 2, none⟩) (Nat.le_succ g) (.int .u16 l)).setCell (p := ⟨g + 1, 3, none⟩) (Nat.le_succ g) (.int .u32 t)).setCell (p := ⟨g + 1, 4, none⟩) (Nat.le_succ g) (.slice B1 n1 d1)).setCell (p := ⟨g + 1, 5, none⟩) (Nat.le_succ g) (.slice B2 n2 d2)).setCell (p := ⟨g + 1, 6, none⟩) (Nat.le_succ g) (.slice B3 n3 d3))
        generalize (((((((w3.setCell ⟨g + 1, 0, none⟩ (.string x)).setCell ⟨g + 1, 1, none⟩ (.int .u16 k)).setCell ⟨g + 1, 2, none⟩ (.int .u16 l)).setCell ⟨g + 1, 3, none⟩ (.int .u32 t)).setCell ⟨g + 1, 4, none⟩ (.slice B1 n1 d1)).setCell ⟨g + 1, 5, none⟩ (.slice B2 n2 d2)).setCell ⟨g + 1, 6, none⟩ (.slice B3 n3 d3)) = w8 at *
        have f0 : w8.cell? ⟨(g + 1), 0, none⟩ = some (.string x) := by rw [Lib.cell_of_heap hF]; rfl
        have f1 : w8.cell? ⟨(g + 1), 1, none⟩ = some (.int .u16 k) := by rw [Lib.cell_of_heap hF]; rfl
        have f2 : w8.cell? ⟨(g + 1), 2, none⟩ = some (.int .u16 l) := by rw [Lib.cell_of_heap hF]; rfl
        have f3 : w8.cell? ⟨(g + 1), 3, none⟩ = some (.int .u32 t) := by rw [Lib.cell_of_heap hF]; rfl
        have f4 : w8.cell? ⟨(g + 1), 4, none⟩ = some (.slice B1 n1 d1) := by rw [Lib.cell_of_heap hF]; rfl
        have f5 : w8.cell? ⟨(g + 1), 5, none⟩ = some (.slice B2 n2 d2) := by rw [Lib.cell_of_heap hF]; rfl
        have f6 : w8.cell? ⟨(g + 1), 6, none⟩ = some (.slice B3 n3 d3) := by rw [Lib.cell_of_heap hF]; rfl
        exact bodyPost_ret (v := .agg #[.string x, .int .u16 k, .int .u16 l, .int .u32 t, .slice B1 n1 d1, .slice B2 n2 d2, .slice B3 n3 d3]) (by simp [results, Try.results43, go_sem, f0, f1, f2, f3, f4, f5, f6]) rfl ⟨_, _, _, _, _, _, rfl, by rw [HGW.out]; exact own_low hU1 (by omega), by rw [HGW.out]; exact own_low hU2 (by omega), by rw [HGW.out]; exact own_low hU3 (by omega), by rw [HGW.out]; exact hBL, HAP.out⟩
end Go.Proofs.Ytpmmjmnleoicjaa

/- The contract of the laws' Copied: a message in memory of the call's own. For messages that can be gone through. -/
namespace Go.Proofs.Ytpmmjmnleoicjaa
open Go.RowKit Bytes Strs Nums NameMath MsgMath RecMath WrMath QrMath
set_option linter.unusedVariables false
set_option linter.unusedSimpArgs false

theorem run_append_nil {P : Program} {w : World} (base : Nat) (t ty e : TypeId) (i : TypeInfo) (size : Nat) (ht : P.underlying t = some (.slice e)) (hi : P.info? e = some i) (v : Value) (n c : Nat) (xs : List Value) (hown : w.ownsRow base e size v n xs) :
    (Builtin.append_ #[t, t] ty #[v, .slice none 0 c]).run P w = .ok v w := by
  rcases hown.2 with ⟨rfl, rfl⟩ | ⟨g, cap, cur, rfl, _, _, hnc, _⟩
  · simp [Builtin.append_, run_underlying ht, sizeOf, typeInfo, hi, Builtin.lenOf, Builtin.firstCells]
  · simp [Builtin.append_, run_underlying ht, sizeOf, typeInfo, hi, Builtin.lenOf, Builtin.firstCells, hnc, storeCells]
set_option maxRecDepth 100000 in
theorem run_append_qnsC (w : World) (ty : TypeId) (g : Nat) (v : Value) (m : Nat) (xs : List Value) (hown : w.ownsRow g 62 3 v m xs) (B : Nat) (A : Option Addr) (n c : Nat) (L : List Qn) (hn : L.length = n) (hsrc : CellsAt w B A (qnCs L)) (hmn : m + n ≤ 1000000) (hg : g ≤ w.heap.size) :
    ∃ v' w', (Builtin.append_ #[23, 23] ty #[v, .slice A n c]).run Try.prog w = .ok v' w' ∧ w'.ownsRow g 62 3 v' (m + n) (xs ++ qnCs L) ∧ w.grownBy w' v.ownBlock := by
  cases A with
  | none =>
    obtain ⟨i0, hi, hz0, hz1, hz2⟩ := info_parts info_qn
    have hL : L = [] := by
      rcases hsrc with h | ⟨b, off, e, _⟩
      · have := congrArg List.length h
        rw [qnCs_len, List.length_nil] at this
        exact List.length_eq_zero_iff.1 (by omega)
      · cases e
    subst hL
    subst hn
    exact ⟨v, w, run_append_nil g 23 ty 62 i0 3 Try.underlying23 hi v m c xs hown, by simpa [qnCs] using hown, World.grownBy.refl w _⟩
  | some ad => exact run_append_qns w ty g v m xs hown B ad n c L hn hsrc hmn hg
/-- A message in memory of the call's own. -/
def CopRet (M : Msg) (w : World) (e : Ending) (w' : World) : Prop :=
  ∃ vq va vn vx, e = .returned (.agg #[.int .u16 M.id, .int .u16 M.flags, vq, va, vn, vx]) ∧ MsgRows w' w.heap.size M vq va vn vx ∧ Below w.heap.size w w'
theorem take_snocR {L : List Rec} {j : Nat} (hj : j < L.length) : L.take (j + 1) = L.take j ++ [L[j]] := List.take_succ_eq_append_getElem hj
theorem own_other' {w : World} {base b i n k : Nat} {e : TypeId} {v u : Value} {xs : List Value} (h : w.ownsRow base e k v n xs) (hb : ∀ j, v.ownBlock = some j → j ≠ b) : (w.setCell ⟨b, i, none⟩ u).ownsRow base e k v n xs := by
  obtain ⟨hl, h | ⟨bb, cap, cur, e1, hbb, hh, h2⟩⟩ := h
  · exact ⟨hl, .inl h⟩
  · exact ⟨hl, .inr ⟨bb, cap, cur, e1, hbb, set_far hh (hb bb (by rw [e1]; rfl)), h2⟩⟩
/-- A row never lies in a block of another element type. -/
theorem row_ne' {w : World} {base n k d j : Nat} {e t : TypeId} {v : Value} {xs : List Value} {cs : Array Value} {fz : Nat × Nat} (h : w.ownsRow base e k v n xs) (hj : v.ownBlock = some j) (hd : w.heap[d]? = some (.cells cs t fz)) (hne : t ≠ e) : j ≠ d := fun e1 => by
  subst e1
  obtain ⟨hl, ⟨h0, _⟩ | ⟨bb, cap, cur, e2, hbb, hh, h2⟩⟩ := h
  · rw [h0] at hj; cases hj
  · rw [e2] at hj
    injection hj with hj
    subst hj
    rw [hh] at hd
    injection hd with hd
    injection hd with _ hd _
    exact hne hd.symm
theorem recIn_other {w : World} {g d i : Nat} {R : Rec} {v1 v2 v3 u : Value} {cs : Array Value} {fz : Nat × Nat} (h : RecIn w g R v1 v2 v3) (hd : w.heap[d]? = some (.cells cs 70 fz)) : RecIn (w.setCell ⟨d, i, none⟩ u) g R v1 v2 v3 :=
  ⟨own_other' h.o1 fun _ hj => row_ne' h.o1 hj hd (by decide), own_other' h.o2 fun _ hj => row_ne' h.o2 hj hd (by decide), own_other' h.o3 fun _ hj => row_ne' h.o3 hj hd (by decide)⟩
theorem recs_other {w : World} {g d i : Nat} {L : List Rec} {v u : Value} {cs : Array Value} {fz : Nat × Nat} (h : RowRecs w g v L) (hd : w.heap[d]? = some (.cells cs 70 fz)) : RowRecs (w.setCell ⟨d, i, none⟩ u) g v L := by
  obtain ⟨Z, h1, h2, h3⟩ := h
  exact ⟨Z, h1, own_other' h2 fun _ hj => row_ne' h2 hj hd (by decide), fun z hz => recIn_other (h3 z hz) hd⟩
theorem recs_drew {w : World} {g : Nat} {v : Value} {L : List Rec} (h : RowRecs w g v L) : RowRecs w.drew g v L := by
  obtain ⟨Z, h1, h2, h3⟩ := h
  exact ⟨Z, h1, h2, fun z hz => ⟨(h3 z hz).o1, (h3 z hz).o2, (h3 z hz).o3⟩⟩
set_option maxHeartbeats 16000000 in
set_option maxRecDepth 100000 in
theorem copiedM_w (M : Msg) (Aq Aa An Ax : Option Addr) (nq na nn nx cq ca cn cx B : Nat) (Za Zn Zx : List RecZ) (w : World) (hv : Hid (MsgV w B M Aq Aa An Ax nq na nn nx ca cn cx Za Zn Zx)) (hB : B ≤ w.heap.size) (hf : Hid (QM M)) (hzn : Hid (ZNil Za ∧ ZNil Zn ∧ ZNil Zx)) :
    Calls Try.prog 14 #[.agg (msgA M.id M.flags Aq nq cq Aa na ca An nn cn Ax nx cx)] w (CopRet M w) := by
  obtain ⟨i0, hi, hz0, hz1, hz2⟩ := info_parts info_rec
  have HI := Lib.hid hi
  have HZ0 := Lib.hid hz0
  have HZ1 := Lib.hid hz1
  have HZ2 := Lib.hid hz2
  clear hi hz0 hz1 hz2
  obtain ⟨id, hid⟩ : ∃ n, M.id = n := ⟨_, rfl⟩
  obtain ⟨fl, hfl⟩ : ∃ n, M.flags = n := ⟨_, rfl⟩
  obtain ⟨g, hg⟩ : ∃ g, w.heap.size = g := ⟨_, rfl⟩
  unfold CopRet
  rw [hid, hfl, hg]
  rw [hg] at hB
  obtain ⟨wa, hwa⟩ : ∃ wa, w.alloc (.cells (msgA id fl Aq nq cq Aa na ca An nn cn Ax nx cx) 26) = wa := ⟨_, rfl⟩
  obtain ⟨wb, hwb⟩ : ∃ wb, wa.alloc (.cells #[.int .u16 0, .int .u16 0, .slice none 0 0, .slice none 0 0, .slice none 0 0, .slice none 0 0] 26) = wb := ⟨_, rfl⟩
  obtain ⟨wc, hwc⟩ : ∃ wc, wb.alloc (.cells #[] 62) = wc := ⟨_, rfl⟩
  have hsa : wa.heap.size = g + 1 := by rw [← hwa, ← hg]; simp
  have hsb : wb.heap.size = g + 2 := by rw [← hwb]; simp [hsa]
  have hba : Below g w wa := by rw [← hwa, ← hg]; exact (Below.refl _ _).alloc (Nat.le_refl _) _
  have hbb : Below g w wb := by rw [← hwb]; exact hba.alloc (by omega) _
  have HBC : Hid (Below g w wc) := by rw [← hwc]; exact hbb.alloc (by omega) _
  have hx0 : wa.heap[g]? = some (.cells (msgA id fl Aq nq cq Aa na ca An nn cn Ax nx cx) 26 (0, 0)) := by rw [← hwa, ← hg]; exact heap_alloc_new w _
  have hx1 : wb.heap[g]? = some (.cells (msgA id fl Aq nq cq Aa na ca An nn cn Ax nx cx) 26 (0, 0)) := by rw [← hwb]; exact old_at hx0
  have hx : wc.heap[g]? = some (.cells (msgA id fl Aq nq cq Aa na ca An nn cn Ax nx cx) 26 (0, 0)) := by rw [← hwc]; exact old_at hx1
  have hy1 : wb.heap[g + 1]? = some (.cells #[.int .u16 0, .int .u16 0, .slice none 0 0, .slice none 0 0, .slice none 0 0, .slice none 0 0] 26 (0, 0)) := by rw [← hwb, ← hsa]; exact heap_alloc_new wa _
  have hy : wc.heap[g + 1]? = some (.cells #[.int .u16 0, .int .u16 0, .slice none 0 0, .slice none 0 0, .slice none 0 0, .slice none 0 0] 26 (0, 0)) := by rw [← hwc]; exact old_at hy1
  have hown : wc.ownsRow (g + 2) 62 3 (.slice (some ⟨g + 2, 0, none⟩) 0 0) 0 [] := by rw [← hwc, ← hsb]; exact World.ownsRow_made wb #[] 0 (Nat.le_refl _) (by decide) rfl
  have hsc : wc.heap.size = g + 3 := by rw [← hwc]; simp [hsb]
  have hnq : nq ≤ 1000 := by rw [← hv.out.eq]; exact hf.out.few.nq
  obtain ⟨v0, w1, hrun, hown1, hgrow⟩ := run_append_qnsC wc 23 (g + 2) _ 0 [] hown B Aq nq cq M.qs hv.out.eq (hv.out.at_.q.on (HBC.out.mono hB) (Nat.le_refl _)) (by omega) (by omega)
  rw [Nat.zero_add, List.nil_append] at hown1
  obtain ⟨qA, qc, e0, _⟩ := cells_own hown1
  subst e0
  have kk : ∀ k, (Value.slice (some (⟨g + 2, 0, none⟩ : Addr)) 0 0).ownBlock = some k → g + 2 ≤ k := fun k hk => by have h : g + 2 = k := Option.some.inj hk; omega
  have n1 : Below (g + 2) wc w1 := (Below.refl _ _).grown hgrow (by omega) kk
  have hx2 := (n1.block g (by omega)).trans hx
  have hy2 := (n1.block (g + 1) (by omega)).trans hy
  have s1 : g + 3 ≤ w1.heap.size := by have h := n1.size; rw [hsc] at h; exact h
  obtain ⟨w2, hw2⟩ : ∃ v, w1.setCell ⟨g, 2, none⟩ (.slice qA nq qc) = v := ⟨_, rfl⟩
  have hx3 : w2.heap[g]? = some (.cells #[.int .u16 id, .int .u16 fl, .slice qA nq qc, .slice Aa na ca, .slice An nn cn, .slice Ax nx cx] 26 (0, 0)) := by rw [← hw2]; exact set_at hx2 rfl
  have hy3 : w2.heap[g + 1]? = some (.cells #[.int .u16 0, .int .u16 0, .slice none 0 0, .slice none 0 0, .slice none 0 0, .slice none 0 0] 26 (0, 0)) := by rw [← hw2]; exact set_far hy2 (by omega)
  have hq3 : w2.ownsRow (g + 2) 62 3 (.slice qA nq qc) nq (qnCs M.qs) := by rw [← hw2]; exact own_far1 hown1 (by omega)
  have s2 : g + 3 ≤ w2.heap.size := by rw [← hw2, Go.Deep.nblk_setCell]; exact s1
  have v2 : Below g w w2 := by rw [← hw2]; exact (HBC.out.trans (n1.mono (by omega))).setCell (p := ⟨g, 2, none⟩) (Nat.le_refl _) _
  obtain ⟨d, hd⟩ : ∃ d, w2.heap.size = d := ⟨_, rfl⟩
  obtain ⟨w3, hw3⟩ : ∃ v, w2.alloc (.cells #[.slice Aa na ca, .slice An nn cn, .slice Ax nx cx] 70) = v := ⟨_, rfl⟩
  have n3 : Below d w2 w3 := by rw [← hw3, ← hd]; exact (Below.refl _ _).alloc (Nat.le_refl _) _
  have gd : g + 3 ≤ d := by omega
  have HGD := Lib.hid gd
  have HD3 : Hid (w3.heap[d]? = some (.cells #[.slice Aa na ca, .slice An nn cn, .slice Ax nx cx] 70 (0, 0))) := by rw [← hw3, ← hd]; exact heap_alloc_new w2 _
  have S3 : Hid (w3.heap.size = d + 1) := by show _ = _; rw [← hw3, ← hd]; simp
  have HX2 := Lib.hid hx3
  have HX3 : Hid (w3.heap[g]? = some (.cells #[.int .u16 id, .int .u16 fl, .slice qA nq qc, .slice Aa na ca, .slice An nn cn, .slice Ax nx cx] 26 (0, 0))) := (n3.block g (by omega)).trans hx3
  have HY3 : Hid (w3.heap[g + 1]? = some (.cells #[.int .u16 0, .int .u16 0, .slice none 0 0, .slice none 0 0, .slice none 0 0, .slice none 0 0] 26 (0, 0))) := (n3.block (g + 1) (by omega)).trans hy3
  have HO3 : Hid (w3.ownsRow (g + 2) 62 3 (.slice qA nq qc) nq (qnCs M.qs)) := row_below hq3 (by rw [hd]; exact n3)
  have V3 : Hid (Below g w w3) := v2.trans (n3.mono (by omega))
  have HX1 := Lib.hid hx2
  have k2 := cell_of_row _ _ 2 _ _ _ hx
  have j2 := cell_of_row _ _ 2 _ _ _ hx2
  have jf : ∀ i, w1.frozen? ⟨g, i, none⟩ = false := Lib.frozen_of_heap hx2
  have HW2 := Lib.hid hw2
  have HW3 := Lib.hid hw3
  have HRUN := Lib.hid hrun
  have HROWS := Lib.hid hv.out.rows
  have hna : na ≤ 1000 := by rw [← hv.out.ea]; exact hf.out.few.na
  have hnn : nn ≤ 1000 := by rw [← hv.out.en]; exact hf.out.few.nn
  have hnx : nx ≤ 1000 := by rw [← hv.out.ex]; exact hf.out.few.nx
  have HZA := Lib.hid hv.out.at_.za
  have HZN := Lib.hid hv.out.at_.zn
  have HZX := Lib.hid hv.out.at_.zx
  have HEA := Lib.hid hv.out.at_.ea
  have HEN := Lib.hid hv.out.at_.en
  have HEX := Lib.hid hv.out.at_.ex
  have HLA := Lib.hid hv.out.ea
  have HLN := Lib.hid hv.out.en
  have HLX := Lib.hid hv.out.ex
  have HLQ := Lib.hid hv.out.eq
  have HID := Lib.hid hid
  have HFL := Lib.hid hfl
  have HG := Lib.hid hg
  clear hba hbb hx0 hx1 hx hy1 hy hown hown1 hgrow kk n1 hx2 hy2 s1 hx3 hy3 hq3 s2 v2 n3 hw2 hw3 hv hid hfl
  go_enter Try.func14, Try.ntmps14
  go_upto_region 2 with (at_builtin; refine wpList_append_run rfl _ _ 23 23 rfl _ _ rfl rfl _ _ hrun ?_)
  rw [HW2.out]
  clear hrun k2 j2 jf hwa hwb hwc hsa hsb hsc hg HX1 HRUN
  have k3 := cell_of_row _ _ 3 _ _ _ HX2.out
  have k4 := cell_of_row _ _ 4 _ _ _ HX2.out
  have k5 := cell_of_row _ _ 5 _ _ _ HX2.out
  go_upto_region 3 with fail
  rw [HW3.out]
  clear hd k3 k4 k5 HX2
  go_wp2_with fail
  go_loopw [4] (fun v wr => ∃ (j : Nat) (va vn vx : Value), j ≤ 3 ∧ v = .int .i64 j ∧ Hid (wr.heap[g]? = some (.cells #[.int .u16 id, .int .u16 fl, .slice qA nq qc, .slice Aa na ca, .slice An nn cn, .slice Ax nx cx] 26 (0, 0))) ∧ Hid (if 0 < j then RowRecs wr (g + 2) va M.an else va = .slice Aa na ca) ∧ Hid (if 1 < j then RowRecs wr (g + 2) vn M.ns else vn = .slice An nn cn) ∧ Hid (if 2 < j then RowRecs wr (g + 2) vx M.ad else vx = .slice Ax nx cx) ∧ Hid (wr.heap[d]? = some (.cells #[va, vn, vx] 70 (0, 0))) ∧ Hid (wr.heap[g + 1]? = some (.cells #[.int .u16 0, .int .u16 0, .slice none 0 0, .slice none 0 0, .slice none 0 0, .slice none 0 0] 26 (0, 0))) ∧ Hid (wr.ownsRow (g + 2) 62 3 (.slice qA nq qc) nq (qnCs M.qs)) ∧ Hid (Below g w wr) ∧ Hid (d + 1 ≤ wr.heap.size)) (fun v _ => 3 - (intOf v).toNat)
  case atStart => exact ⟨0, _, _, _, by decide, rfl, HX3, by (rw [if_neg (by decide)]; exact Lib.hid rfl), by (rw [if_neg (by decide)]; exact Lib.hid rfl), by (rw [if_neg (by decide)]; exact Lib.hid rfl), HD3, HY3, HO3, V3, by (show _ ≤ _; rw [S3.out]; omega)⟩
  case round =>
    obtain ⟨j, va, vn, vx, hj, rfl, hX, hA, hN, hW, hD, hY, hO, hV, hS⟩ := hrel
    obtain ⟨wo, rfl⟩ : ∃ wo : World, wo = wr := ⟨_, rfl⟩
    have hj4 : j = 0 ∨ j = 1 ∨ j = 2 ∨ j = 3 := by omega
    rcases hj4 with rfl | rfl | rfl | rfl
    · have e_va := by have h := hA.out; rw [if_neg (by decide)] at h; exact h
      subst e_va
      have e_vn := by have h := hN.out; rw [if_neg (by decide)] at h; exact h
      subst e_vn
      have e_vx := by have h := hW.out; rw [if_neg (by decide)] at h; exact h
      subst e_vx
      clear hA hN hW
      have HRN : Hid (RowRecs wo wo.heap.size (.slice none 0 0) (M.an.take 0)) := RowRecs.nil _ _
      have HBO : Hid (Below wo.heap.size wo wo) := Below.refl _ _
      obtain ⟨G, hG⟩ : ∃ G, wo.heap.size = G := ⟨_, rfl⟩
      rw [hG] at HRN HBO
      have HGG := Lib.hid hG
      have HGS : Hid (d + 1 ≤ G) := by show _ ≤ _; rw [← hG]; exact hS.out
      clear hG
      go_wp2_with fail
      go_loopw [5, 6] (fun u v wr => ∃ (k : Nat) (o : Value), k ≤ na ∧ u = o ∧ v = .int .i64 k ∧ Hid (RowRecs wr G o (M.an.take k)) ∧ Hid (Below G wo wr)) (fun _ v _ => na - (intOf v).toNat)
      case atStart => exact ⟨0, _, Nat.zero_le _, rfl, rfl, HRN, HBO⟩
      case round =>
        obtain ⟨k, o, hk, rfl, rfl, hO1, hB1⟩ := hrel
        have HSZ : Hid (G ≤ wr.heap.size) := by have h := hB1.out.size; rw [HGG.out] at h; exact h
        have HVR : Hid (Below g w wr) := hV.out.trans (hB1.out.mono (by have := HGS.out; have := HGD.out; omega))
        have hd1 := (hB1.out.block d (by have := HGS.out; omega)).trans hD.out
        have x0 := cell_of_row _ _ 0 _ _ _ hd1
        obtain ⟨oA, om, oc, rfl⟩ := hO1.out.slice
        by_cases hlt : k < na
        · have hkz : k < Za.length := by rw [HROWS.out.1.2.1]; exact hlt
          obtain ⟨b, off, A1, c1, A2, c2, A3, c3, rfl, hbr, f1, f2, f3, hat, p0, p1, p2, p3, p4, p5, p6⟩ := recs_getZ (HROWS.out.1.1.on (HVR.out.mono hB) (Nat.le_refl _)) (HZA.out.on (HVR.out.mono hB) (Nat.le_refl _)) hzn.out.1 hkz
          obtain ⟨hkL, hkR⟩ := zmap HEA.out hkz
          have hsr := (hf.out.recs _ (show (M.an[k]'hkL) ∈ recsM M by unfold recsM; exact List.mem_append_left _ (List.mem_append_left _ (List.getElem_mem hkL)))).1
          have htk := take_snocR hkL
          rw [hkR] at hsr htk
          obtain ⟨R, hR⟩ : ∃ R, (Za[k]'hkz).1 = R := ⟨_, rfl⟩
          rw [hR] at p0 p1 p2 p3 p4 p5 p6 hat hsr htk
          have HTK := Lib.hid htk
          obtain ⟨x, hx⟩ : ∃ k, mk R.name = k := ⟨_, rfl⟩
          obtain ⟨rk, hrk⟩ : ∃ k, R.kind = k := ⟨_, rfl⟩
          obtain ⟨rc, hrc⟩ : ∃ k, R.cls = k := ⟨_, rfl⟩
          obtain ⟨rt, hrt⟩ : ∃ k, R.ttl = k := ⟨_, rfl⟩
          obtain ⟨l1, hl1⟩ : ∃ k, R.names.length = k := ⟨_, rfl⟩
          obtain ⟨l2, hl2⟩ : ∃ k, R.nums.length = k := ⟨_, rfl⟩
          obtain ⟨l3, hl3⟩ : ∃ k, R.texts.length = k := ⟨_, rfl⟩
          rw [hx] at p0
          rw [hrk] at p1
          rw [hrc] at p2
          rw [hrt] at p3
          rw [hl1] at p4
          rw [hl2] at p5
          rw [hl3] at p6
          rw [hx, hrk, hrc, hrt, hl1, hl2, hl3] at hat
          have HSR := Lib.hid hsr
          have HCP := Lib.hid (lawCopied_is R x rk rc rt A1 l1 c1 A2 l2 c2 A3 l3 c3 wr (hat.on (Below.refl _ _) (by have := HVR.out.size; rw [HG.out] at this; omega)) HSR f1 f2 f3)
          have HAG : Hid (∀ v1 v2 v3, recV R v1 v2 v3 = [.string x, .int .u16 rk, .int .u16 rc, .int .u32 rt, v1, v2, v3]) := fun v1 v2 v3 => by unfold recV; rw [hx, hrk, hrc, hrt]
          have HL1 := Lib.hid hl1
          have HL2 := Lib.hid hl2
          have HL3 := Lib.hid hl3
          have HIC := hd1
          have hki : (k : Int) < (na : Int) := by omega
          clear hx hrk hrc hrt hl1 hl2 hl3 hat hsr htk hR hkR hkL hkz f1 f2 f3 hd1 HIC
          go_wp2_with fail
          refine HCP.out.mono ?_
          rintro e w5 ⟨B1, d1, B2, d2, B3, d3, rfl, o1, o2, o3, n5, _⟩
          have S5 : Hid (G ≤ w5.heap.size) := Nat.le_trans HSZ.out n5.size
          have HIN : Hid (RecIn w5 G R (.slice B1 l1 d1) (.slice B2 l2 d2) (.slice B3 l3 d3)) := RecIn.low ⟨by rw [HL1.out]; exact o1, by rw [HL2.out]; exact o2, by rw [HL3.out]; exact o3⟩ HSZ.out
          have V5 : Hid (Below G wo w5) := hB1.out.trans (n5.mono HSZ.out)
          have hOW := Lib.hid (hO1.out.below n5)
          obtain ⟨Z1, hZ1, hZ2, hZ3⟩ := hOW.out
          have hlen1 : (M.an.take k).length = k := by rw [List.length_take, HLA.out]; omega
          rw [hlen1] at hZ2
          have hO5 := Lib.hid hZ2
          have HZA1 := Lib.hid hZ1
          have HZB1 := Lib.hid hZ3
          have HLN1 := Lib.hid hlen1
          have HAGE := Lib.hid (HAG.out (.slice B1 l1 d1) (.slice B2 l2 d2) (.slice B3 l3 d3))
          clear hZ1 hZ2 hZ3 hlen1 o1 o2 o3 n5 HCP p0 p1 p2 p3 p4 p5 p6 x0
          go_wp2_with (at_builtin; refine wpList_append_own _ rfl _ _ 24 rfl G 60 i0 (.agg #[.string ⟨#[]⟩, .int .u16 0, .int .u16 0, .int .u32 0, .slice none 0 0, .slice none 0 0, .slice none 0 0]) 7 96 Try.underlying24 HI.out HZ0.out HZ1.out HZ2.out rfl (by decide) _ _ _ rfl (hO5.out.alloc _) ⟨w5.heap.size, 0, none⟩ 1 1 (recV R (.slice B1 l1 d1) (.slice B2 l2 d2) (.slice B3 l3 d3)) rfl rfl ?CAa ?CAb ?CAc ?CAd ?CAe ?_)
          case CAa =>
            intro j u hj
            rw [HAGE.out] at hj
            match j, hj with
            | 0, hj => simp at hj; subst hj; simp [Addr.add]
            | 1, hj => simp at hj; subst hj; simp [Addr.add]
            | 2, hj => simp at hj; subst hj; simp [Addr.add]
            | 3, hj => simp at hj; subst hj; simp [Addr.add]
            | 4, hj => simp at hj; subst hj; simp [Addr.add]
            | 5, hj => simp at hj; subst hj; simp [Addr.add]
            | 6, hj => simp at hj; subst hj; simp [Addr.add]
          case CAb =>
            intro u hu
            rw [HAGE.out] at hu
            simp at hu
            rcases hu with rfl | rfl | rfl | rfl | rfl | rfl | rfl <;> rfl
          case CAc => unfold maxLen; omega
          case CAd => omega
          case CAe => have := S5.out; simp; omega
          intro v' w9 hown hgrow _
          have E1 : Hid (RowRecs w9 G v' (M.an.take (k + 1))) := by
            show RowRecs _ _ _ _
            rw [HTK.out]
            refine hOW.out.snoc HIN.out Z1 HZA1.out (by rw [HLN1.out]; exact hO5.out) HZB1.out ?_ hgrow
            rw [HLN1.out]
            exact hown
          have E3 : Hid (Below G wo w9) := (V5.out.alloc (by have := S5.out; omega) _).grown hgrow (by have := S5.out; simp; omega) (fun k hk => (hO5.out.lt k hk).1)
          clear hown hgrow
          go_wp2_with fail
          go_roundw
          case rel => exact ⟨_, _, _, _, _, _, _, _, _, _, _, _, _, _, _, _, _, _, _, _, ⟨k + 1, v', by omega, rfl, by go_num, E1, E3⟩, rfl⟩
          case measure => simp [intOf]; omega
        · have hkn : ¬ ((k : Int) < (na : Int)) := by omega
          have hke : k = na := by omega
          have hLn : M.an.take k = M.an := List.take_of_length_le (by rw [HLA.out, hke]; exact Nat.le_refl _)
          have hO' := hO1.out
          rw [hLn] at hO'
          obtain ⟨u, hu⟩ : ∃ u, Value.slice oA om oc = u := ⟨_, rfl⟩
          obtain ⟨w6, hw6⟩ : ∃ v, wr.setCell ⟨d, 0, none⟩ (.slice oA om oc) = v := ⟨_, rfl⟩
          have nwo : Below wo.heap.size wo wr := by rw [HGG.out]; exact hB1.out
          have HD6 : Hid (w6.heap[d]? = some (.cells #[u, .slice An nn cn, .slice Ax nx cx] 70 (0, 0))) := by rw [← hw6, hu]; exact set_at hd1 rfl
          have HX6 : Hid (w6.heap[g]? = some (.cells #[.int .u16 id, .int .u16 fl, .slice qA nq qc, .slice Aa na ca, .slice An nn cn, .slice Ax nx cx] 26 (0, 0))) := by rw [← hw6]; exact set_far ((hB1.out.block g (by have := HGS.out; have := HGD.out; omega)).trans hX.out) (by have := HGD.out; omega)
          have HY6 : Hid (w6.heap[g + 1]? = some (.cells #[.int .u16 0, .int .u16 0, .slice none 0 0, .slice none 0 0, .slice none 0 0, .slice none 0 0] 26 (0, 0))) := by rw [← hw6]; exact set_far ((hB1.out.block (g + 1) (by have := HGS.out; have := HGD.out; omega)).trans hY.out) (by have := HGD.out; omega)
          have HU6 : Hid (RowRecs w6 (g + 2) u M.an) := by rw [← hw6, ← hu]; exact (hO'.far1 (by have := HGS.out; omega)).low (by have := HGS.out; have := HGD.out; omega)
          have HO6 : Hid (w6.ownsRow (g + 2) 62 3 (.slice qA nq qc) nq (qnCs M.qs)) := by rw [← hw6]; exact own_other' (row_below hO.out nwo) (fun j hj => row_ne' (row_below hO.out nwo) hj hd1 (by decide))
          have HV6 : Hid (Below g w w6) := by rw [← hw6]; exact HVR.out.setCell (p := ⟨d, 0, none⟩) (by have := HGD.out; show g ≤ d; omega) _
          have HS6 : Hid (d + 1 ≤ w6.heap.size) := by show _ ≤ _; rw [← hw6, Go.Deep.nblk_setCell]; have := HSZ.out; have := HGS.out; omega
          have HW6 := Lib.hid hw6
          have HU := Lib.hid hu
          have yf : ∀ i, wr.frozen? ⟨d, i, none⟩ = false := Lib.frozen_of_heap hd1
          clear hd1 hu hw6 hO' hLn nwo
          go_upto_region 5 with fail
          rw [HW6.out]
          clear x0 yf
          go_wp2_with fail
          go_roundw
          case rel => exact ⟨1, _, _, _, by decide, by go_num, HX6, by (show _; rw [if_pos (by decide)]; exact HU6.out), by (rw [if_neg (by decide)]; exact Lib.hid rfl), by (rw [if_neg (by decide)]; exact Lib.hid rfl), HD6, HY6, HO6, HV6, HS6⟩
          case measure => simp [intOf]
    · have rBa := by have h := hA.out; rw [if_pos (by decide)] at h; exact h
      obtain ⟨Ea, ma, fa, rfl⟩ := rBa.slice
      have e_vn := by have h := hN.out; rw [if_neg (by decide)] at h; exact h
      subst e_vn
      have e_vx := by have h := hW.out; rw [if_neg (by decide)] at h; exact h
      subst e_vx
      clear hA hN hW
      have RBa := Lib.hid rBa
      clear rBa
      have HRN : Hid (RowRecs wo wo.heap.size (.slice none 0 0) (M.ns.take 0)) := RowRecs.nil _ _
      have HBO : Hid (Below wo.heap.size wo wo) := Below.refl _ _
      obtain ⟨G, hG⟩ : ∃ G, wo.heap.size = G := ⟨_, rfl⟩
      rw [hG] at HRN HBO
      have HGG := Lib.hid hG
      have HGS : Hid (d + 1 ≤ G) := by show _ ≤ _; rw [← hG]; exact hS.out
      clear hG
      go_wp2_with fail
      go_loopw [5, 6] (fun u v wr => ∃ (k : Nat) (o : Value), k ≤ nn ∧ u = o ∧ v = .int .i64 k ∧ Hid (RowRecs wr G o (M.ns.take k)) ∧ Hid (Below G wo wr)) (fun _ v _ => nn - (intOf v).toNat)
      case atStart => exact ⟨0, _, Nat.zero_le _, rfl, rfl, HRN, HBO⟩
      case round =>
        obtain ⟨k, o, hk, rfl, rfl, hO1, hB1⟩ := hrel
        have HSZ : Hid (G ≤ wr.heap.size) := by have h := hB1.out.size; rw [HGG.out] at h; exact h
        have HVR : Hid (Below g w wr) := hV.out.trans (hB1.out.mono (by have := HGS.out; have := HGD.out; omega))
        have hd1 := (hB1.out.block d (by have := HGS.out; omega)).trans hD.out
        have x1 := cell_of_row _ _ 1 _ _ _ hd1
        obtain ⟨oA, om, oc, rfl⟩ := hO1.out.slice
        by_cases hlt : k < nn
        · have hkz : k < Zn.length := by rw [HROWS.out.2.1.2.1]; exact hlt
          obtain ⟨b, off, A1, c1, A2, c2, A3, c3, rfl, hbr, f1, f2, f3, hat, p0, p1, p2, p3, p4, p5, p6⟩ := recs_getZ (HROWS.out.2.1.1.on (HVR.out.mono hB) (Nat.le_refl _)) (HZN.out.on (HVR.out.mono hB) (Nat.le_refl _)) hzn.out.2.1 hkz
          obtain ⟨hkL, hkR⟩ := zmap HEN.out hkz
          have hsr := (hf.out.recs _ (show (M.ns[k]'hkL) ∈ recsM M by unfold recsM; exact List.mem_append_left _ (List.mem_append_right _ (List.getElem_mem hkL)))).1
          have htk := take_snocR hkL
          rw [hkR] at hsr htk
          obtain ⟨R, hR⟩ : ∃ R, (Zn[k]'hkz).1 = R := ⟨_, rfl⟩
          rw [hR] at p0 p1 p2 p3 p4 p5 p6 hat hsr htk
          have HTK := Lib.hid htk
          obtain ⟨x, hx⟩ : ∃ k, mk R.name = k := ⟨_, rfl⟩
          obtain ⟨rk, hrk⟩ : ∃ k, R.kind = k := ⟨_, rfl⟩
          obtain ⟨rc, hrc⟩ : ∃ k, R.cls = k := ⟨_, rfl⟩
          obtain ⟨rt, hrt⟩ : ∃ k, R.ttl = k := ⟨_, rfl⟩
          obtain ⟨l1, hl1⟩ : ∃ k, R.names.length = k := ⟨_, rfl⟩
          obtain ⟨l2, hl2⟩ : ∃ k, R.nums.length = k := ⟨_, rfl⟩
          obtain ⟨l3, hl3⟩ : ∃ k, R.texts.length = k := ⟨_, rfl⟩
          rw [hx] at p0
          rw [hrk] at p1
          rw [hrc] at p2
          rw [hrt] at p3
          rw [hl1] at p4
          rw [hl2] at p5
          rw [hl3] at p6
          rw [hx, hrk, hrc, hrt, hl1, hl2, hl3] at hat
          have HSR := Lib.hid hsr
          have HCP := Lib.hid (lawCopied_is R x rk rc rt A1 l1 c1 A2 l2 c2 A3 l3 c3 wr (hat.on (Below.refl _ _) (by have := HVR.out.size; rw [HG.out] at this; omega)) HSR f1 f2 f3)
          have HAG : Hid (∀ v1 v2 v3, recV R v1 v2 v3 = [.string x, .int .u16 rk, .int .u16 rc, .int .u32 rt, v1, v2, v3]) := fun v1 v2 v3 => by unfold recV; rw [hx, hrk, hrc, hrt]
          have HL1 := Lib.hid hl1
          have HL2 := Lib.hid hl2
          have HL3 := Lib.hid hl3
          have HIC := hd1
          have hki : (k : Int) < (nn : Int) := by omega
          clear hx hrk hrc hrt hl1 hl2 hl3 hat hsr htk hR hkR hkL hkz f1 f2 f3 hd1 HIC
          go_wp2_with fail
          refine HCP.out.mono ?_
          rintro e w5 ⟨B1, d1, B2, d2, B3, d3, rfl, o1, o2, o3, n5, _⟩
          have S5 : Hid (G ≤ w5.heap.size) := Nat.le_trans HSZ.out n5.size
          have HIN : Hid (RecIn w5 G R (.slice B1 l1 d1) (.slice B2 l2 d2) (.slice B3 l3 d3)) := RecIn.low ⟨by rw [HL1.out]; exact o1, by rw [HL2.out]; exact o2, by rw [HL3.out]; exact o3⟩ HSZ.out
          have V5 : Hid (Below G wo w5) := hB1.out.trans (n5.mono HSZ.out)
          have hOW := Lib.hid (hO1.out.below n5)
          obtain ⟨Z1, hZ1, hZ2, hZ3⟩ := hOW.out
          have hlen1 : (M.ns.take k).length = k := by rw [List.length_take, HLN.out]; omega
          rw [hlen1] at hZ2
          have hO5 := Lib.hid hZ2
          have HZA1 := Lib.hid hZ1
          have HZB1 := Lib.hid hZ3
          have HLN1 := Lib.hid hlen1
          have HAGE := Lib.hid (HAG.out (.slice B1 l1 d1) (.slice B2 l2 d2) (.slice B3 l3 d3))
          clear hZ1 hZ2 hZ3 hlen1 o1 o2 o3 n5 HCP p0 p1 p2 p3 p4 p5 p6 x1
          go_wp2_with (at_builtin; refine wpList_append_own _ rfl _ _ 24 rfl G 60 i0 (.agg #[.string ⟨#[]⟩, .int .u16 0, .int .u16 0, .int .u32 0, .slice none 0 0, .slice none 0 0, .slice none 0 0]) 7 96 Try.underlying24 HI.out HZ0.out HZ1.out HZ2.out rfl (by decide) _ _ _ rfl (hO5.out.alloc _) ⟨w5.heap.size, 0, none⟩ 1 1 (recV R (.slice B1 l1 d1) (.slice B2 l2 d2) (.slice B3 l3 d3)) rfl rfl ?CAa ?CAb ?CAc ?CAd ?CAe ?_)
          case CAa =>
            intro j u hj
            rw [HAGE.out] at hj
            match j, hj with
            | 0, hj => simp at hj; subst hj; simp [Addr.add]
            | 1, hj => simp at hj; subst hj; simp [Addr.add]
            | 2, hj => simp at hj; subst hj; simp [Addr.add]
            | 3, hj => simp at hj; subst hj; simp [Addr.add]
            | 4, hj => simp at hj; subst hj; simp [Addr.add]
            | 5, hj => simp at hj; subst hj; simp [Addr.add]
            | 6, hj => simp at hj; subst hj; simp [Addr.add]
          case CAb =>
            intro u hu
            rw [HAGE.out] at hu
            simp at hu
            rcases hu with rfl | rfl | rfl | rfl | rfl | rfl | rfl <;> rfl
          case CAc => unfold maxLen; omega
          case CAd => omega
          case CAe => have := S5.out; simp; omega
          intro v' w9 hown hgrow _
          have E1 : Hid (RowRecs w9 G v' (M.ns.take (k + 1))) := by
            show RowRecs _ _ _ _
            rw [HTK.out]
            refine hOW.out.snoc HIN.out Z1 HZA1.out (by rw [HLN1.out]; exact hO5.out) HZB1.out ?_ hgrow
            rw [HLN1.out]
            exact hown
          have E3 : Hid (Below G wo w9) := (V5.out.alloc (by have := S5.out; omega) _).grown hgrow (by have := S5.out; simp; omega) (fun k hk => (hO5.out.lt k hk).1)
          clear hown hgrow
          go_wp2_with fail
          go_roundw
          case rel => exact ⟨_, _, _, _, _, _, _, _, _, _, _, _, _, _, _, _, _, _, _, _, ⟨k + 1, v', by omega, rfl, by go_num, E1, E3⟩, rfl⟩
          case measure => simp [intOf]; omega
        · have hkn : ¬ ((k : Int) < (nn : Int)) := by omega
          have hke : k = nn := by omega
          have hLn : M.ns.take k = M.ns := List.take_of_length_le (by rw [HLN.out, hke]; exact Nat.le_refl _)
          have hO' := hO1.out
          rw [hLn] at hO'
          obtain ⟨u, hu⟩ : ∃ u, Value.slice oA om oc = u := ⟨_, rfl⟩
          obtain ⟨w6, hw6⟩ : ∃ v, wr.setCell ⟨d, 1, none⟩ (.slice oA om oc) = v := ⟨_, rfl⟩
          have nwo : Below wo.heap.size wo wr := by rw [HGG.out]; exact hB1.out
          have HD6 : Hid (w6.heap[d]? = some (.cells #[.slice Ea ma fa, u, .slice Ax nx cx] 70 (0, 0))) := by rw [← hw6, hu]; exact set_at hd1 rfl
          have HX6 : Hid (w6.heap[g]? = some (.cells #[.int .u16 id, .int .u16 fl, .slice qA nq qc, .slice Aa na ca, .slice An nn cn, .slice Ax nx cx] 26 (0, 0))) := by rw [← hw6]; exact set_far ((hB1.out.block g (by have := HGS.out; have := HGD.out; omega)).trans hX.out) (by have := HGD.out; omega)
          have HY6 : Hid (w6.heap[g + 1]? = some (.cells #[.int .u16 0, .int .u16 0, .slice none 0 0, .slice none 0 0, .slice none 0 0, .slice none 0 0] 26 (0, 0))) := by rw [← hw6]; exact set_far ((hB1.out.block (g + 1) (by have := HGS.out; have := HGD.out; omega)).trans hY.out) (by have := HGD.out; omega)
          have HU6 : Hid (RowRecs w6 (g + 2) u M.ns) := by rw [← hw6, ← hu]; exact (hO'.far1 (by have := HGS.out; omega)).low (by have := HGS.out; have := HGD.out; omega)
          have RCa : Hid (RowRecs w6 (g + 2) (.slice Ea ma fa) M.an) := by rw [← hw6]; exact recs_other (RBa.out.below nwo) hd1
          have HO6 : Hid (w6.ownsRow (g + 2) 62 3 (.slice qA nq qc) nq (qnCs M.qs)) := by rw [← hw6]; exact own_other' (row_below hO.out nwo) (fun j hj => row_ne' (row_below hO.out nwo) hj hd1 (by decide))
          have HV6 : Hid (Below g w w6) := by rw [← hw6]; exact HVR.out.setCell (p := ⟨d, 1, none⟩) (by have := HGD.out; show g ≤ d; omega) _
          have HS6 : Hid (d + 1 ≤ w6.heap.size) := by show _ ≤ _; rw [← hw6, Go.Deep.nblk_setCell]; have := HSZ.out; have := HGS.out; omega
          have HW6 := Lib.hid hw6
          have HU := Lib.hid hu
          have yf : ∀ i, wr.frozen? ⟨d, i, none⟩ = false := Lib.frozen_of_heap hd1
          clear hd1 hu hw6 hO' hLn nwo
          go_upto_region 5 with fail
          rw [HW6.out]
          clear x1 yf
          go_wp2_with fail
          go_roundw
          case rel => exact ⟨2, _, _, _, by decide, by go_num, HX6, by (show _; rw [if_pos (by decide)]; exact RCa.out), by (show _; rw [if_pos (by decide)]; exact HU6.out), by (rw [if_neg (by decide)]; exact Lib.hid rfl), HD6, HY6, HO6, HV6, HS6⟩
          case measure => simp [intOf]
    · have rBa := by have h := hA.out; rw [if_pos (by decide)] at h; exact h
      obtain ⟨Ea, ma, fa, rfl⟩ := rBa.slice
      have rBn := by have h := hN.out; rw [if_pos (by decide)] at h; exact h
      obtain ⟨En, mn, fn, rfl⟩ := rBn.slice
      have e_vx := by have h := hW.out; rw [if_neg (by decide)] at h; exact h
      subst e_vx
      clear hA hN hW
      have RBa := Lib.hid rBa
      clear rBa
      have RBn := Lib.hid rBn
      clear rBn
      have HRN : Hid (RowRecs wo wo.heap.size (.slice none 0 0) (M.ad.take 0)) := RowRecs.nil _ _
      have HBO : Hid (Below wo.heap.size wo wo) := Below.refl _ _
      obtain ⟨G, hG⟩ : ∃ G, wo.heap.size = G := ⟨_, rfl⟩
      rw [hG] at HRN HBO
      have HGG := Lib.hid hG
      have HGS : Hid (d + 1 ≤ G) := by show _ ≤ _; rw [← hG]; exact hS.out
      clear hG
      go_wp2_with fail
      go_loopw [5, 6] (fun u v wr => ∃ (k : Nat) (o : Value), k ≤ nx ∧ u = o ∧ v = .int .i64 k ∧ Hid (RowRecs wr G o (M.ad.take k)) ∧ Hid (Below G wo wr)) (fun _ v _ => nx - (intOf v).toNat)
      case atStart => exact ⟨0, _, Nat.zero_le _, rfl, rfl, HRN, HBO⟩
      case round =>
        obtain ⟨k, o, hk, rfl, rfl, hO1, hB1⟩ := hrel
        have HSZ : Hid (G ≤ wr.heap.size) := by have h := hB1.out.size; rw [HGG.out] at h; exact h
        have HVR : Hid (Below g w wr) := hV.out.trans (hB1.out.mono (by have := HGS.out; have := HGD.out; omega))
        have hd1 := (hB1.out.block d (by have := HGS.out; omega)).trans hD.out
        have x2 := cell_of_row _ _ 2 _ _ _ hd1
        obtain ⟨oA, om, oc, rfl⟩ := hO1.out.slice
        by_cases hlt : k < nx
        · have hkz : k < Zx.length := by rw [HROWS.out.2.2.2.1]; exact hlt
          obtain ⟨b, off, A1, c1, A2, c2, A3, c3, rfl, hbr, f1, f2, f3, hat, p0, p1, p2, p3, p4, p5, p6⟩ := recs_getZ (HROWS.out.2.2.1.on (HVR.out.mono hB) (Nat.le_refl _)) (HZX.out.on (HVR.out.mono hB) (Nat.le_refl _)) hzn.out.2.2 hkz
          obtain ⟨hkL, hkR⟩ := zmap HEX.out hkz
          have hsr := (hf.out.recs _ (show (M.ad[k]'hkL) ∈ recsM M by unfold recsM; exact List.mem_append_right _ (List.getElem_mem hkL))).1
          have htk := take_snocR hkL
          rw [hkR] at hsr htk
          obtain ⟨R, hR⟩ : ∃ R, (Zx[k]'hkz).1 = R := ⟨_, rfl⟩
          rw [hR] at p0 p1 p2 p3 p4 p5 p6 hat hsr htk
          have HTK := Lib.hid htk
          obtain ⟨x, hx⟩ : ∃ k, mk R.name = k := ⟨_, rfl⟩
          obtain ⟨rk, hrk⟩ : ∃ k, R.kind = k := ⟨_, rfl⟩
          obtain ⟨rc, hrc⟩ : ∃ k, R.cls = k := ⟨_, rfl⟩
          obtain ⟨rt, hrt⟩ : ∃ k, R.ttl = k := ⟨_, rfl⟩
          obtain ⟨l1, hl1⟩ : ∃ k, R.names.length = k := ⟨_, rfl⟩
          obtain ⟨l2, hl2⟩ : ∃ k, R.nums.length = k := ⟨_, rfl⟩
          obtain ⟨l3, hl3⟩ : ∃ k, R.texts.length = k := ⟨_, rfl⟩
          rw [hx] at p0
          rw [hrk] at p1
          rw [hrc] at p2
          rw [hrt] at p3
          rw [hl1] at p4
          rw [hl2] at p5
          rw [hl3] at p6
          rw [hx, hrk, hrc, hrt, hl1, hl2, hl3] at hat
          have HSR := Lib.hid hsr
          have HCP := Lib.hid (lawCopied_is R x rk rc rt A1 l1 c1 A2 l2 c2 A3 l3 c3 wr (hat.on (Below.refl _ _) (by have := HVR.out.size; rw [HG.out] at this; omega)) HSR f1 f2 f3)
          have HAG : Hid (∀ v1 v2 v3, recV R v1 v2 v3 = [.string x, .int .u16 rk, .int .u16 rc, .int .u32 rt, v1, v2, v3]) := fun v1 v2 v3 => by unfold recV; rw [hx, hrk, hrc, hrt]
          have HL1 := Lib.hid hl1
          have HL2 := Lib.hid hl2
          have HL3 := Lib.hid hl3
          have HIC := hd1
          have hki : (k : Int) < (nx : Int) := by omega
          clear hx hrk hrc hrt hl1 hl2 hl3 hat hsr htk hR hkR hkL hkz f1 f2 f3 hd1 HIC
          go_wp2_with fail
          refine HCP.out.mono ?_
          rintro e w5 ⟨B1, d1, B2, d2, B3, d3, rfl, o1, o2, o3, n5, _⟩
          have S5 : Hid (G ≤ w5.heap.size) := Nat.le_trans HSZ.out n5.size
          have HIN : Hid (RecIn w5 G R (.slice B1 l1 d1) (.slice B2 l2 d2) (.slice B3 l3 d3)) := RecIn.low ⟨by rw [HL1.out]; exact o1, by rw [HL2.out]; exact o2, by rw [HL3.out]; exact o3⟩ HSZ.out
          have V5 : Hid (Below G wo w5) := hB1.out.trans (n5.mono HSZ.out)
          have hOW := Lib.hid (hO1.out.below n5)
          obtain ⟨Z1, hZ1, hZ2, hZ3⟩ := hOW.out
          have hlen1 : (M.ad.take k).length = k := by rw [List.length_take, HLX.out]; omega
          rw [hlen1] at hZ2
          have hO5 := Lib.hid hZ2
          have HZA1 := Lib.hid hZ1
          have HZB1 := Lib.hid hZ3
          have HLN1 := Lib.hid hlen1
          have HAGE := Lib.hid (HAG.out (.slice B1 l1 d1) (.slice B2 l2 d2) (.slice B3 l3 d3))
          clear hZ1 hZ2 hZ3 hlen1 o1 o2 o3 n5 HCP p0 p1 p2 p3 p4 p5 p6 x2
          go_wp2_with (at_builtin; refine wpList_append_own _ rfl _ _ 24 rfl G 60 i0 (.agg #[.string ⟨#[]⟩, .int .u16 0, .int .u16 0, .int .u32 0, .slice none 0 0, .slice none 0 0, .slice none 0 0]) 7 96 Try.underlying24 HI.out HZ0.out HZ1.out HZ2.out rfl (by decide) _ _ _ rfl (hO5.out.alloc _) ⟨w5.heap.size, 0, none⟩ 1 1 (recV R (.slice B1 l1 d1) (.slice B2 l2 d2) (.slice B3 l3 d3)) rfl rfl ?CAa ?CAb ?CAc ?CAd ?CAe ?_)
          case CAa =>
            intro j u hj
            rw [HAGE.out] at hj
            match j, hj with
            | 0, hj => simp at hj; subst hj; simp [Addr.add]
            | 1, hj => simp at hj; subst hj; simp [Addr.add]
            | 2, hj => simp at hj; subst hj; simp [Addr.add]
            | 3, hj => simp at hj; subst hj; simp [Addr.add]
            | 4, hj => simp at hj; subst hj; simp [Addr.add]
            | 5, hj => simp at hj; subst hj; simp [Addr.add]
            | 6, hj => simp at hj; subst hj; simp [Addr.add]
          case CAb =>
            intro u hu
            rw [HAGE.out] at hu
            simp at hu
            rcases hu with rfl | rfl | rfl | rfl | rfl | rfl | rfl <;> rfl
          case CAc => unfold maxLen; omega
          case CAd => omega
          case CAe => have := S5.out; simp; omega
          intro v' w9 hown hgrow _
          have E1 : Hid (RowRecs w9 G v' (M.ad.take (k + 1))) := by
            show RowRecs _ _ _ _
            rw [HTK.out]
            refine hOW.out.snoc HIN.out Z1 HZA1.out (by rw [HLN1.out]; exact hO5.out) HZB1.out ?_ hgrow
            rw [HLN1.out]
            exact hown
          have E3 : Hid (Below G wo w9) := (V5.out.alloc (by have := S5.out; omega) _).grown hgrow (by have := S5.out; simp; omega) (fun k hk => (hO5.out.lt k hk).1)
          clear hown hgrow
          go_wp2_with fail
          go_roundw
          case rel => exact ⟨_, _, _, _, _, _, _, _, _, _, _, _, _, _, _, _, _, _, _, _, ⟨k + 1, v', by omega, rfl, by go_num, E1, E3⟩, rfl⟩
          case measure => simp [intOf]; omega
        · have hkn : ¬ ((k : Int) < (nx : Int)) := by omega
          have hke : k = nx := by omega
          have hLn : M.ad.take k = M.ad := List.take_of_length_le (by rw [HLX.out, hke]; exact Nat.le_refl _)
          have hO' := hO1.out
          rw [hLn] at hO'
          obtain ⟨u, hu⟩ : ∃ u, Value.slice oA om oc = u := ⟨_, rfl⟩
          obtain ⟨w6, hw6⟩ : ∃ v, wr.setCell ⟨d, 2, none⟩ (.slice oA om oc) = v := ⟨_, rfl⟩
          have nwo : Below wo.heap.size wo wr := by rw [HGG.out]; exact hB1.out
          have HD6 : Hid (w6.heap[d]? = some (.cells #[.slice Ea ma fa, .slice En mn fn, u] 70 (0, 0))) := by rw [← hw6, hu]; exact set_at hd1 rfl
          have HX6 : Hid (w6.heap[g]? = some (.cells #[.int .u16 id, .int .u16 fl, .slice qA nq qc, .slice Aa na ca, .slice An nn cn, .slice Ax nx cx] 26 (0, 0))) := by rw [← hw6]; exact set_far ((hB1.out.block g (by have := HGS.out; have := HGD.out; omega)).trans hX.out) (by have := HGD.out; omega)
          have HY6 : Hid (w6.heap[g + 1]? = some (.cells #[.int .u16 0, .int .u16 0, .slice none 0 0, .slice none 0 0, .slice none 0 0, .slice none 0 0] 26 (0, 0))) := by rw [← hw6]; exact set_far ((hB1.out.block (g + 1) (by have := HGS.out; have := HGD.out; omega)).trans hY.out) (by have := HGD.out; omega)
          have HU6 : Hid (RowRecs w6 (g + 2) u M.ad) := by rw [← hw6, ← hu]; exact (hO'.far1 (by have := HGS.out; omega)).low (by have := HGS.out; have := HGD.out; omega)
          have RCa : Hid (RowRecs w6 (g + 2) (.slice Ea ma fa) M.an) := by rw [← hw6]; exact recs_other (RBa.out.below nwo) hd1
          have RCn : Hid (RowRecs w6 (g + 2) (.slice En mn fn) M.ns) := by rw [← hw6]; exact recs_other (RBn.out.below nwo) hd1
          have HO6 : Hid (w6.ownsRow (g + 2) 62 3 (.slice qA nq qc) nq (qnCs M.qs)) := by rw [← hw6]; exact own_other' (row_below hO.out nwo) (fun j hj => row_ne' (row_below hO.out nwo) hj hd1 (by decide))
          have HV6 : Hid (Below g w w6) := by rw [← hw6]; exact HVR.out.setCell (p := ⟨d, 2, none⟩) (by have := HGD.out; show g ≤ d; omega) _
          have HS6 : Hid (d + 1 ≤ w6.heap.size) := by show _ ≤ _; rw [← hw6, Go.Deep.nblk_setCell]; have := HSZ.out; have := HGS.out; omega
          have HW6 := Lib.hid hw6
          have HU := Lib.hid hu
          have yf : ∀ i, wr.frozen? ⟨d, i, none⟩ = false := Lib.frozen_of_heap hd1
          clear hd1 hu hw6 hO' hLn nwo
          go_upto_region 5 with fail
          rw [HW6.out]
          clear x2 yf
          go_wp2_with fail
          go_roundw
          case rel => exact ⟨3, _, _, _, by decide, by go_num, HX6, by (show _; rw [if_pos (by decide)]; exact RCa.out), by (show _; rw [if_pos (by decide)]; exact RCn.out), by (show _; rw [if_pos (by decide)]; exact HU6.out), HD6, HY6, HO6, HV6, HS6⟩
          case measure => simp [intOf]
    · have rBa := by have h := hA.out; rw [if_pos (by decide)] at h; exact h
      have rBn := by have h := hN.out; rw [if_pos (by decide)] at h; exact h
      have rBx := by have h := hW.out; rw [if_pos (by decide)] at h; exact h
      obtain ⟨A1, m1, c1, rfl⟩ := rBa.slice
      obtain ⟨A2, m2, c2, rfl⟩ := rBn.slice
      obtain ⟨A3, m3, c3, rfl⟩ := rBx.slice
      have HR1 := Lib.hid rBa
      have HR2 := Lib.hid rBn
      have HR3 := Lib.hid rBx
      clear hA hN hW rBa rBn rBx
      have xx0 := cell_of_row _ _ 0 _ _ _ hD.out
      have xx1 := cell_of_row _ _ 1 _ _ _ hD.out
      have xx2 := cell_of_row _ _ 2 _ _ _ hD.out
      have k0 := cell_of_row _ _ 0 _ _ _ hX.out
      have k1 := cell_of_row _ _ 1 _ _ _ hX.out
      have k2 := cell_of_row _ _ 2 _ _ _ hX.out
      have k3 := cell_of_row _ _ 3 _ _ _ hX.out
      have k4 := cell_of_row _ _ 4 _ _ _ hX.out
      have k5 := cell_of_row _ _ 5 _ _ _ hX.out
      have kf : ∀ i, wo.frozen? ⟨g, i, none⟩ = false := Lib.frozen_of_heap hX.out
      have hgdn : g ≠ d := by have := HGD.out; omega
      go_upto_region 12 with fail
      go_region
      obtain ⟨w7, hw7⟩ : ∃ v, (((wo.setCell ⟨g, 3, none⟩ (.slice A1 m1 c1)).setCell ⟨g, 4, none⟩ (.slice A2 m2 c2)).setCell ⟨g, 5, none⟩ (.slice A3 m3 c3)).drew = v := ⟨_, rfl⟩
      rw [hw7]
      have hx3 : (wo.setCell ⟨g, 3, none⟩ (.slice A1 m1 c1)).heap[g]? = some (.cells #[.int .u16 id, .int .u16 fl, .slice qA nq qc, .slice A1 m1 c1, .slice An nn cn, .slice Ax nx cx] 26 (0, 0)) := set_at (w := wo) hX.out rfl
      have hx4 : ((wo.setCell ⟨g, 3, none⟩ (.slice A1 m1 c1)).setCell ⟨g, 4, none⟩ (.slice A2 m2 c2)).heap[g]? = some (.cells #[.int .u16 id, .int .u16 fl, .slice qA nq qc, .slice A1 m1 c1, .slice A2 m2 c2, .slice Ax nx cx] 26 (0, 0)) := set_at hx3 rfl
      have HX7 : Hid (w7.heap[g]? = some (.cells #[.int .u16 id, .int .u16 fl, .slice qA nq qc, .slice A1 m1 c1, .slice A2 m2 c2, .slice A3 m3 c3] 26 (0, 0))) := by rw [← hw7]; exact set_at hx4 rfl
      have HY7 : Hid (w7.heap[g + 1]? = some (.cells #[.int .u16 0, .int .u16 0, .slice none 0 0, .slice none 0 0, .slice none 0 0, .slice none 0 0] 26 (0, 0))) := by rw [← hw7]; exact set_far (set_far (set_far (w := wo) hY.out (by omega)) (by omega)) (by omega)
      have HQ7 : Hid (w7.ownsRow (g + 2) 62 3 (.slice qA nq qc) nq (qnCs M.qs)) := by rw [← hw7]; exact own_far1 (own_far1 (own_far1 (w := wo) hO.out (by omega)) (by omega)) (by omega)
      have H71 : Hid (RowRecs w7 (g + 2) (.slice A1 m1 c1) M.an) := by rw [← hw7]; exact recs_drew (((RowRecs.far1 (w := wo) (b := g) HR1.out (by omega)).far1 (b := g) (by omega)).far1 (b := g) (by omega))
      have H72 : Hid (RowRecs w7 (g + 2) (.slice A2 m2 c2) M.ns) := by rw [← hw7]; exact recs_drew (((RowRecs.far1 (w := wo) (b := g) HR2.out (by omega)).far1 (b := g) (by omega)).far1 (b := g) (by omega))
      have H73 : Hid (RowRecs w7 (g + 2) (.slice A3 m3 c3) M.ad) := by rw [← hw7]; exact recs_drew (((RowRecs.far1 (w := wo) (b := g) HR3.out (by omega)).far1 (b := g) (by omega)).far1 (b := g) (by omega))
      have HV7 : Hid (Below g w w7) := by rw [← hw7]; exact (((hV.out.setCell (p := ⟨g, 3, none⟩) (Nat.le_refl _) _).setCell (p := ⟨g, 4, none⟩) (Nat.le_refl _) _).setCell (p := ⟨g, 5, none⟩) (Nat.le_refl _) _).drew
      clear hx3 hx4 hw7 xx0 xx1 xx2 k0 k1 k2 k3 k4 k5 kf hX hY hO hD hV
      have k0 := cell_of_row _ _ 0 _ _ _ HX7.out
      have k1 := cell_of_row _ _ 1 _ _ _ HX7.out
      have k2 := cell_of_row _ _ 2 _ _ _ HX7.out
      have k3 := cell_of_row _ _ 3 _ _ _ HX7.out
      have k4 := cell_of_row _ _ 4 _ _ _ HX7.out
      have k5 := cell_of_row _ _ 5 _ _ _ HX7.out
      have j0 := cell_of_row _ _ 0 _ _ _ HY7.out
      have j1 := cell_of_row _ _ 1 _ _ _ HY7.out
      have j2 := cell_of_row _ _ 2 _ _ _ HY7.out
      have j3 := cell_of_row _ _ 3 _ _ _ HY7.out
      have j4 := cell_of_row _ _ 4 _ _ _ HY7.out
      have j5 := cell_of_row _ _ 5 _ _ _ HY7.out
      have jf : ∀ i, w7.frozen? ⟨g + 1, i, none⟩ = false := Lib.frozen_of_heap HY7.out
      go_wp2_with fail
      refine bodyPost_ret (v := .agg #[.int .u16 id, .int .u16 fl, .slice qA nq qc, .slice A1 m1 c1, .slice A2 m2 c2, .slice A3 m3 c3]) (by simp [results, Try.results14, go_sem, j0, j1, j2, j3, j4, j5]) rfl ⟨_, _, _, _, rfl, MsgRows.low ⟨by show World.ownsRow _ _ _ _ _ _ _; rw [HLQ.out]; exact own_six HQ7.out (by omega), H71.out.far6 (by omega), H72.out.far6 (by omega), H73.out.far6 (by omega)⟩ (show g ≤ g + 2 by omega), below_set6 HV7.out (Nat.le_succ _) _ _ _ _ _ _⟩
end Go.Proofs.Ytpmmjmnleoicjaa
