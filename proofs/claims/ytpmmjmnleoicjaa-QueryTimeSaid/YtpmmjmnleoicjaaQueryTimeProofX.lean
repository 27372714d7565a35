/- Texts of one proof, one behind the other: MsgFrame, MsgSized, QrTimes. -/
import Derived.Test.YtpmmjmnleoicjaaProg
import Derived.Test.YtpmmjmnleoicjaaQueryFailsProofG1
import Derived.Test.YtpmmjmnleoicjaaMsgMath
import Derived.Test.YtpmmjmnleoicjaaRecMath
import Derived.Test.YtpmmjmnleoicjaaQueryFailsProofG5
import Derived.Test.YtpmmjmnleoicjaaBytes
import Derived.Test.YtpmmjmnleoicjaaQueryFailsProofG2
import Derived.Test.YtpmmjmnleoicjaaNumMath
import Derived.Deep.Slices
import Derived.Deep.Fields
import Derived.ChangeSame
import Derived.ChangeSlices
import Derived.SliceStrings
import Derived.ProofKit
import Derived.OpenShut
import Derived.ShutString
import Derived.SizedLaws

/- How a message that came in reads. No condition. -/
namespace Go.Proofs.Ytpmmjmnleoicjaa
open Go.ChangeShapes Go.WideShapes Go.Deep Go.RowKit
open Bytes Strs Nums MsgMath RecMath

section
variable {H : Type} {enc : TypeId × Value → H} {P : Program} {w : World} {base : Nat} {spare : Nat → Bool} {held : Bool}
theorem open_row_fields {t e : TypeId} {fs : Array Field} {fuel : Nat} {cs : List Value} {x : DataW H × List MemPlace} (ht : P.underlying t = some (.slice e)) (he : P.underlying e = some (.struct fs))
    (hone : oneCellFields P fs = true) (hC : P.cellsOf e = fs.size) (h : DataW.trod enc P w base spare held fuel t cs = some x) :
    cs = [.slice none 0 0] ∨
    ∃ (a : Addr) (len cap : Nat), cs = [.slice (some a) len cap] ∧ len ≤ maxLen ∧
      ∀ i, i < len → ∃ n : Nat, ∀ (j : Nat) (f : Field), fs[j]? = some f → ∃ (v : Value) (y : DataW H × List MemPlace), w.cell? (a.add (i * fs.size + j)) = some v ∧ DataW.trod enc P w base spare held n f.type [v] = some y := by
  rcases open_slice ht h with h0 | ⟨a, len, cap, m, n, D, Pl, hcs, hb, hl, hm, hmm, hx, hi⟩
  · exact .inl h0.1
  · refine .inr ⟨a, len, cap, hcs, by omega, fun i him => ?_⟩
    obtain ⟨cs', hc, ht'⟩ := hi i (by rw [hmm]; split <;> omega)
    rw [hC] at hc
    obtain ⟨ys, n', hn', hy, hlen, hyl, hf⟩ := DataW.trod_struct he ht'
    obtain ⟨_, hcl, hat⟩ := World.cells?_some hc
    refine ⟨n', fun j f hj => ?_⟩
    obtain ⟨ho, hk⟩ := hone_of hone j f hj
    have hjl : j < fs.size := (Array.getElem?_eq_some_iff.1 hj).1
    have hcell := hat j hjl
    have hv : cs'[j]? = some (cs'[j]'(by omega)) := List.getElem?_eq_getElem (by omega)
    have h1 := hf j f hj
    rw [ho, hk] at h1
    have hone' : (cs'.drop j).take 1 = [cs'[j]'(by omega)] := by
      rw [List.drop_eq_getElem_cons (by omega)]
      rfl
    rw [hone'] at h1
    have hys : ys[j]? = some (ys[j]'(by omega)) := List.getElem?_eq_getElem (by omega)
    refine ⟨_, _, ?_, h1.trans hys⟩
    rw [← Go.Deep.add_add, hcell, hv]
end
section
variable {H : Type} {enc : TypeId × Value → H} {w : World} {base : Nat} {spare : Nat → Bool} {held : Bool} {fuel : Nat}
set_option maxRecDepth 100000 in
theorem came_qns {v : Value} {x : DataW H × List MemPlace} (h : DataW.trod enc Try.prog w base spare held fuel 23 [v] = some x) :
    ∃ A n c L, v = .slice A n c ∧ L.length = n ∧ n ≤ maxLen ∧ CellsAt w w.heap.size A (qnCs L) ∧ ∀ q ∈ L, q.name.length ≤ maxLen ∧ q.kind ≤ 65535 ∧ q.cls ≤ 65535 := by
  rcases open_row_fields Try.underlying23 Try.underlying62 (by kernel_rfl) (by kernel_rfl) h with hcs | ⟨a, len, cap, hcs, hl, hf⟩
  · injection hcs with hv
    exact ⟨none, 0, 0, [], hv, rfl, Nat.zero_le _, .inl rfl, fun q hq => by cases hq⟩
  · injection hcs with hv
    have hone : ∀ k, k < len → ∃ q : Qn, (w.cell? (a.add (k * 3)) = some (.string (mk q.name)) ∧ w.cell? (a.add (k * 3 + 1)) = some (.int .u16 q.kind) ∧ w.cell? (a.add (k * 3 + 2)) = some (.int .u16 q.cls)) ∧ q.name.length ≤ maxLen ∧ q.kind ≤ 65535 ∧ q.cls ≤ 65535 := by
      intro k hk
      obtain ⟨n, hfj⟩ := hf k hk
      obtain ⟨v0, y0, hc0, ht0⟩ := hfj 0 _ rfl
      obtain ⟨v1, y1, hc1, ht1⟩ := hfj 1 _ rfl
      obtain ⟨v2, y2, hc2, ht2⟩ := hfj 2 _ rfl
      obtain ⟨s, e0, _, hs⟩ := DataW.trod_string Try.underlying9 ht0
      obtain ⟨z1, e1, _, hz1⟩ := DataW.trod_int Try.underlying22 ht1
      obtain ⟨z2, e2, _, hz2⟩ := DataW.trod_int Try.underlying22 ht2
      injection e0 with e0
      injection e1 with e1
      injection e2 with e2
      subst e0 e1 e2
      obtain ⟨k1, rfl, hk1⟩ := wf_u16 hz1
      obtain ⟨k2, rfl, hk2⟩ := wf_u16 hz2
      refine ⟨⟨s.data.toList, k1, k2⟩, ⟨?_, hc1, hc2⟩, by rw [← Lib.size_eq]; exact hs, hk1, hk2⟩
      rw [mk_data]
      exact hc0
    obtain ⟨L, hL, hP⟩ := list_of len hone
    refine ⟨some a, len, cap, L, hv, hL, hl, ?_, fun q hq => ?_⟩
    · rcases Nat.eq_zero_or_pos len with h0 | hp
      · exact .inl (by rw [List.length_eq_zero_iff.1 (hL.trans h0)]; rfl)
      · obtain ⟨b, off, spot⟩ := a
        have hspot : spot = none := by
          have := (hP 0 (by omega)).1.1
          simpa [Addr.add] using World.cell?_spot this
        subst hspot
        refine .inr ⟨b, off, rfl, ?_, cells_of (m := 3) (by decide) (fun _ => rfl) (C := fun j => w.cell? ⟨b, off + j, none⟩) fun k hk j hj => ?_⟩
        · have := World.block_lt_of_cell? _ _ (hP 0 (by omega)).1.1
          rwa [Strs.add_block] at this
        · obtain ⟨⟨p0, p1, p2⟩, _⟩ := hP k hk
          rw [add_plain] at p0 p1 p2
          match j, hj with
          | 0, _ => exact p0
          | 1, _ => exact p1
          | 2, _ => exact p2
    · obtain ⟨k, hk, rfl⟩ := List.getElem_of_mem hq
      exact (hP k hk).2
set_option maxRecDepth 100000 in
theorem came_recs {v : Value} {x : DataW H × List MemPlace} (h : DataW.trod enc Try.prog w base spare held fuel 24 [v] = some x) :
    ∃ A n c Z, v = .slice A n c ∧ Z.length = n ∧ n ≤ maxLen ∧ CellsAt w w.heap.size A (recCs Z) ∧ ZAt w w.heap.size Z ∧ (A = none → c = 0) ∧ ∀ z ∈ Z, (z.1.name.length ≤ maxLen ∧ z.1.names.length ≤ maxLen ∧ z.1.nums.length ≤ maxLen ∧ z.1.texts.length ≤ maxLen ∧ z.1.kind ≤ 65535 ∧ z.1.cls ≤ 65535 ∧ z.1.ttl ≤ 4294967295) ∧ ∀ k, k < z.1.nums.length → z.1.nums.getD k 0 ≤ 4294967295 := by
  rcases open_row_fields Try.underlying24 Try.underlying60 (by kernel_rfl) (by kernel_rfl) h with hcs | ⟨a, len, cap, hcs, hl, hf⟩
  · injection hcs with hv
    exact ⟨none, 0, 0, [], hv, rfl, Nat.zero_le _, .inl rfl, fun q hq => (by cases hq), fun _ => rfl, fun q hq => by cases hq⟩
  · injection hcs with hv
    have hone : ∀ k, k < len → ∃ z : RecZ, (w.cell? (a.add (k * 7)) = some (.string (mk z.1.name)) ∧ w.cell? (a.add (k * 7 + 1)) = some (.int .u16 z.1.kind) ∧ w.cell? (a.add (k * 7 + 2)) = some (.int .u16 z.1.cls) ∧ w.cell? (a.add (k * 7 + 3)) = some (.int .u32 z.1.ttl) ∧ w.cell? (a.add (k * 7 + 4)) = some z.2.1 ∧ w.cell? (a.add (k * 7 + 5)) = some z.2.2.1 ∧ w.cell? (a.add (k * 7 + 6)) = some z.2.2.2) ∧ (∃ A1 c1 A2 c2 A3 c3, z.2.1 = .slice A1 z.1.names.length c1 ∧ z.2.2.1 = .slice A2 z.1.nums.length c2 ∧ z.2.2.2 = .slice A3 z.1.texts.length c3 ∧ RecAt w w.heap.size z.1 (mk z.1.name) z.1.kind z.1.cls z.1.ttl A1 z.1.names.length A2 z.1.nums.length A3 z.1.texts.length) ∧ (z.1.name.length ≤ maxLen ∧ z.1.names.length ≤ maxLen ∧ z.1.nums.length ≤ maxLen ∧ z.1.texts.length ≤ maxLen ∧ z.1.kind ≤ 65535 ∧ z.1.cls ≤ 65535 ∧ z.1.ttl ≤ 4294967295) ∧ ∀ k, k < z.1.nums.length → z.1.nums.getD k 0 ≤ 4294967295 := by
      intro k hk
      obtain ⟨n, hfj⟩ := hf k hk
      obtain ⟨v0, y0, hc0, ht0⟩ := hfj 0 _ rfl
      obtain ⟨v1, y1, hc1, ht1⟩ := hfj 1 _ rfl
      obtain ⟨v2, y2, hc2, ht2⟩ := hfj 2 _ rfl
      obtain ⟨v3, y3, hc3, ht3⟩ := hfj 3 _ rfl
      obtain ⟨v4, y4, hc4, ht4⟩ := hfj 4 _ rfl
      obtain ⟨v5, y5, hc5, ht5⟩ := hfj 5 _ rfl
      obtain ⟨v6, y6, hc6, ht6⟩ := hfj 6 _ rfl
      obtain ⟨s, e0, _, hs⟩ := DataW.trod_string Try.underlying9 ht0
      obtain ⟨z1, e1, _, hz1⟩ := DataW.trod_int Try.underlying22 ht1
      obtain ⟨z2, e2, _, hz2⟩ := DataW.trod_int Try.underlying22 ht2
      obtain ⟨z3, e3, _, hz3⟩ := DataW.trod_int Try.underlying50 ht3
      obtain ⟨A1, n1, c1, L1, rfl, hl1, hr1, hm1, _⟩ := came_texts ht4
      obtain ⟨A2, n2, c2, L2, rfl, hl2, hr2, hm2, _, hu2⟩ := came_nums ht5
      obtain ⟨A3, n3, c3, L3, rfl, hl3, hr3, hm3, _⟩ := came_texts ht6
      injection e0 with e0
      injection e1 with e1
      injection e2 with e2
      injection e3 with e3
      subst e0 e1 e2 e3
      obtain ⟨k1, rfl, hk1⟩ := wf_u16 hz1
      obtain ⟨k2, rfl, hk2⟩ := wf_u16 hz2
      obtain ⟨k3, rfl, hk3⟩ := wf_u32 hz3
      subst hl1 hl2 hl3
      refine ⟨(⟨s.data.toList, k1, k2, k3, L1, L2, L3⟩, .slice A1 L1.length c1, .slice A2 L2.length c2, .slice A3 L3.length c3), ⟨?_, hc1, hc2, hc3, hc4, hc5, hc6⟩, ⟨A1, c1, A2, c2, A3, c3, rfl, rfl, rfl, ⟨rfl, rfl, rfl, rfl, rfl, rfl, rfl, hr1, hr2, hr3⟩⟩, ⟨by simp only; rw [← Lib.size_eq]; exact hs, hm1, hm2, hm3, hk1, hk2, hk3⟩, hu2⟩
      simp only
      rw [mk_data]
      exact hc0
    obtain ⟨Z, hZ, hP⟩ := list_of len hone
    refine ⟨some a, len, cap, Z, hv, hZ, hl, ?_, fun z hz => ?_, fun e => (by cases e), fun z hz => ?_⟩
    · rcases Nat.eq_zero_or_pos len with h0 | hp
      · exact .inl (by rw [List.length_eq_zero_iff.1 (hZ.trans h0)]; rfl)
      · obtain ⟨b, off, spot⟩ := a
        have hspot : spot = none := by
          have := (hP 0 (by omega)).1.1
          simpa [Addr.add] using World.cell?_spot this
        subst hspot
        refine .inr ⟨b, off, rfl, ?_, cells_of (m := 7) (f := fun z : RecZ => recV z.1 z.2.1 z.2.2.1 z.2.2.2) (by decide) (fun _ => rfl) (C := fun j => w.cell? ⟨b, off + j, none⟩) fun k hk j hj => ?_⟩
        · have := World.block_lt_of_cell? _ _ (hP 0 (by omega)).1.1
          rwa [Strs.add_block] at this
        · obtain ⟨⟨p0, p1, p2, p3, p4, p5, p6⟩, _⟩ := hP k hk
          rw [add_plain] at p0 p1 p2 p3 p4 p5 p6
          match j, hj with
          | 0, _ => exact p0
          | 1, _ => exact p1
          | 2, _ => exact p2
          | 3, _ => exact p3
          | 4, _ => exact p4
          | 5, _ => exact p5
          | 6, _ => exact p6
    · obtain ⟨k, hk, rfl⟩ := List.getElem_of_mem hz
      exact (hP k hk).2.1
    · obtain ⟨k, hk, rfl⟩ := List.getElem_of_mem hz
      exact (hP k hk).2.2
/-- What is known of a message that came in. -/
structure CameMsg (w : World) (v : Value) (M : Msg) (Aq Aa An Ax : Option Addr) (cq ca cn cx : Nat) (Za Zn Zx : List RecZ) : Prop where
  val : v = .agg #[.int .u16 M.id, .int .u16 M.flags, .slice Aq M.qs.length cq, .slice Aa M.an.length ca, .slice An M.ns.length cn, .slice Ax M.ad.length cx]
  at_ : MsgAt w w.heap.size M Aq Aa An Ax Za Zn Zx
  nils : (Aa = none → ca = 0) ∧ (An = none → cn = 0) ∧ (Ax = none → cx = 0)
  id : M.id ≤ 65535
  flags : M.flags ≤ 65535
  lens : M.qs.length ≤ maxLen ∧ M.an.length ≤ maxLen ∧ M.ns.length ≤ maxLen ∧ M.ad.length ≤ maxLen
  qs : ∀ q ∈ M.qs, q.name.length ≤ maxLen ∧ q.kind ≤ 65535 ∧ q.cls ≤ 65535
  recs : ∀ R ∈ M.an ++ M.ns ++ M.ad, (R.name.length ≤ maxLen ∧ R.names.length ≤ maxLen ∧ R.nums.length ≤ maxLen ∧ R.texts.length ≤ maxLen ∧ R.kind ≤ 65535 ∧ R.cls ≤ 65535 ∧ R.ttl ≤ 4294967295) ∧ ∀ k, k < R.nums.length → R.nums.getD k 0 ≤ 4294967295
set_option maxRecDepth 100000 in
theorem came_msg {r : Reach} {b0 : Nat} {v : Value} {d : DataW H} {p : List MemPlace} (hv : Value.okWide Try.prog w r b0 26 v) (h : DataW.Trod enc Try.prog w base spare held 26 v d p) :
    ∃ M Aq Aa An Ax cq ca cn cx Za Zn Zx, CameMsg w v M Aq Aa An Ax cq ca cn cx Za Zn Zx := by
  obtain ⟨cs, rfl, hsz⟩ := okWide_struct Try.underlying26 hv
  obtain ⟨lst⟩ := cs
  match lst, hsz.trans (show Try.prog.cellsOf 26 = 6 by kernel_rfl) with
  | [a0, a1, a2, a3, a4, a5], _ =>
    obtain ⟨fuel, hf⟩ := h
    obtain ⟨xs, n, _, hx, _, hlen, hg⟩ := DataW.trod_struct Try.underlying26 hf
    match xs, hlen with
    | [y0, y1, y2, y3, y4, y5], _ =>
      have cs2 : Try.prog.cellsOf 22 = 1 := by kernel_rfl
      have cs4 : Try.prog.cellsOf 23 = 1 := by kernel_rfl
      have cs5 : Try.prog.cellsOf 24 = 1 := by kernel_rfl
      have g0 : DataW.trod enc Try.prog w base spare held n 22 [a0] = some y0 := by simpa [Value.cells, cs2] using hg 0 _ rfl
      have g1 : DataW.trod enc Try.prog w base spare held n 22 [a1] = some y1 := by simpa [Value.cells, cs2] using hg 1 _ rfl
      have g2 : DataW.trod enc Try.prog w base spare held n 23 [a2] = some y2 := by simpa [Value.cells, cs4] using hg 2 _ rfl
      have g3 : DataW.trod enc Try.prog w base spare held n 24 [a3] = some y3 := by simpa [Value.cells, cs5] using hg 3 _ rfl
      have g4 : DataW.trod enc Try.prog w base spare held n 24 [a4] = some y4 := by simpa [Value.cells, cs5] using hg 4 _ rfl
      have g5 : DataW.trod enc Try.prog w base spare held n 24 [a5] = some y5 := by simpa [Value.cells, cs5] using hg 5 _ rfl
      obtain ⟨z0, e0, _, hz0⟩ := DataW.trod_int Try.underlying22 g0
      obtain ⟨z1, e1, _, hz1⟩ := DataW.trod_int Try.underlying22 g1
      obtain ⟨Aq, nq, cq, L, rfl, hq1, hq2, hq3, hq4⟩ := came_qns g2
      obtain ⟨Aa, na, ca, Za, rfl, ha1, ha2, ha3, ha4, ha6, ha5⟩ := came_recs g3
      obtain ⟨An, nn, cn, Zn, rfl, hn1, hn2, hn3, hn4, hn6, hn5⟩ := came_recs g4
      obtain ⟨Ax, nx, cx, Zx, rfl, hx1, hx2, hx3, hx4, hx6, hx5⟩ := came_recs g5
      injection e0 with e0
      injection e1 with e1
      subst e0 e1
      obtain ⟨k0, rfl, hk0⟩ := wf_u16 hz0
      obtain ⟨k1, rfl, hk1⟩ := wf_u16 hz1
      subst hq1 ha1 hn1 hx1
      refine ⟨⟨k0, k1, L, Za.map (·.1), Zn.map (·.1), Zx.map (·.1)⟩, Aq, Aa, An, Ax, cq, ca, cn, cx, Za, Zn, Zx, by simp only [List.length_map], ⟨hq3, ha3, hn3, hx3, ha4, hn4, hx4, rfl, rfl, rfl⟩, ⟨ha6, hn6, hx6⟩, hk0, hk1, by simp only [List.length_map]; exact ⟨hq2, ha2, hn2, hx2⟩, hq4, fun R hR => ?_⟩
      simp only [List.mem_append, List.mem_map] at hR
      rcases hR with (⟨z, hz, rfl⟩ | ⟨z, hz, rfl⟩) | ⟨z, hz, rfl⟩
      · exact ha5 z hz
      · exact hn5 z hz
      · exact hx5 z hz
end
end Go.Proofs.Ytpmmjmnleoicjaa

/- Messages that came in: their questions' names are no longer than any text that came in; lists that are nil have no room. No condition. -/
namespace Go.Proofs.Ytpmmjmnleoicjaa
open Go.ChangeShapes Go.WideShapes Go.Deep Go.RowKit
open Bytes Strs Nums MsgMath RecMath
set_option linter.unusedVariables false
section
variable {H : Type} {enc : TypeId × Value → H} {P : Program} {w : World} {base : Nat} {spare : Nat → Bool} {held : Bool}
theorem weights_all {t : TypeId} {d : DataW H} : ∀ {ds : List (DataW H)}, d ∈ ds → ∀ n ∈ d.weights P t, n ∈ DataW.weightsAll P t ds
  | d0 :: ds, h, n, hn => by
    simp only [DataW.weightsAll, List.mem_append]
    rcases List.mem_cons.1 h with rfl | h
    · exact .inl hn
    · exact .inr (weights_all h n hn)
/-- A row's element's field, as it lies, and its data. -/
theorem row_field {t e : TypeId} {fs : Array Field} {fuel : Nat} {v : Value} {x : DataW H × List MemPlace} (ht : P.underlying t = some (.slice e)) (he : P.underlying e = some (.struct fs))
    (hone : oneCellFields P fs = true) (hC : P.cellsOf e = fs.size) (h : DataW.trod enc P w base spare held fuel t [v] = some x) {a : Addr} {len cap : Nat} (hv : v = .slice (some a) len cap) {i : Nat} (hi : i < len) :
    ∃ n : Nat, ∀ (j : Nat) (f : Field), fs[j]? = some f → ∃ (u : Value) (y : DataW H × List MemPlace), w.cell? (a.add (i * fs.size + j)) = some u ∧ DataW.trod enc P w base spare held n f.type [u] = some y ∧ ∀ n ∈ y.1.weights P f.type, n ∈ x.1.weights P t := by
  rcases open_slice ht h with h0 | ⟨a', len', cap', m, n, D, Pl, hcs, hb, hl, hm, hmm, hx, hi'⟩
  · rw [hv] at h0; exact absurd h0.1 (by simp)
  · rw [hv] at hcs
    simp only [List.cons.injEq, Value.slice.injEq, Option.some.injEq, and_true] at hcs
    obtain ⟨rfl, rfl, rfl⟩ := hcs
    have him : i < m := by rw [hmm]; split <;> omega
    obtain ⟨cs', hc, ht'⟩ := hi' i him
    rw [hC] at hc
    obtain ⟨ys, n', hn', hy, hlen, hyl, hf⟩ := DataW.trod_struct he ht'
    obtain ⟨_, hcl, hat⟩ := World.cells?_some hc
    refine ⟨n', fun j f hj => ?_⟩
    obtain ⟨ho, hk⟩ := hone_of hone j f hj
    have hjl : j < fs.size := (Array.getElem?_eq_some_iff.1 hj).1
    have hcell := hat j hjl
    have hv : cs'[j]? = some (cs'[j]'(by omega)) := List.getElem?_eq_getElem (by omega)
    have h1 := hf j f hj
    rw [ho, hk] at h1
    have hone' : (cs'.drop j).take 1 = [cs'[j]'(by omega)] := by
      rw [List.drop_eq_getElem_cons (by omega)]
      rfl
    rw [hone'] at h1
    have hys : ys[j]? = some (ys[j]'(by omega)) := List.getElem?_eq_getElem (by omega)
    refine ⟨_, _, ?_, h1.trans hys, fun k hk2 => ?_⟩
    · rw [← Go.Deep.add_add, hcell, hv]
    · have e1 : (D i).weights P e = DataW.weightsEach P (fs.toList.map (·.type)) (ys.map (·.1)) := by
        have e2 : D i = (DataW.agg (ys.map (·.1)) : DataW H) := congrArg Prod.fst hy
        rw [e2]
        simp only [DataW.weights, he]
      have h3 : k ∈ (D i).weights P e := by
        rw [e1]
        exact DataW.weights_mem_each (j := j) (t := f.type) (d := (ys[j]'(by omega)).1) (by rw [List.getElem?_map]; simp only [Array.getElem?_toList]; rw [hj]; rfl) (by rw [List.getElem?_map, hys]; rfl) k hk2
      rw [hx]
      simp only [DataW.weights, ht, List.mem_cons, List.mem_append]
      exact .inr (.inl (weights_all (List.mem_map.2 ⟨i, List.mem_range.2 hi, rfl⟩) k h3))
end
section
variable {H : Type} {enc : TypeId × Value → H} {w : World} {base : Nat} {spare : Nat → Bool} {held : Bool}
/-- The six parts of a message that came in, and their data. -/
theorem msg_parts {v0 v1 v2 v3 v4 v5 : Value} {d : DataW H} {p : List MemPlace} (h : DataW.Trod enc Try.prog w base spare held 26 (.agg #[v0, v1, v2, v3, v4, v5]) d p) :
    ∃ (n : Nat) (y2 y3 y4 y5 : DataW H × List MemPlace), DataW.trod enc Try.prog w base spare held n 23 [v2] = some y2 ∧ DataW.trod enc Try.prog w base spare held n 24 [v3] = some y3 ∧ DataW.trod enc Try.prog w base spare held n 24 [v4] = some y4 ∧ DataW.trod enc Try.prog w base spare held n 24 [v5] = some y5 ∧ ∀ n ∈ y2.1.weights Try.prog 23, n ∈ d.weights Try.prog 26 := by
  obtain ⟨fuel, hf⟩ := h
  obtain ⟨xs, n, _, hx, _, hlen, hg⟩ := DataW.trod_struct Try.underlying26 hf
  match xs, hlen with
  | [y0, y1, y2, y3, y4, y5], _ =>
    have cs1 : Try.prog.cellsOf 22 = 1 := by kernel_rfl
    have cs2 : Try.prog.cellsOf 23 = 1 := by kernel_rfl
    have cs3 : Try.prog.cellsOf 24 = 1 := by kernel_rfl
    have g2 : DataW.trod enc Try.prog w base spare held n 23 [v2] = some y2 := by simpa [Value.cells, cs2] using hg 2 _ rfl
    have g3 : DataW.trod enc Try.prog w base spare held n 24 [v3] = some y3 := by simpa [Value.cells, cs3] using hg 3 _ rfl
    have g4 : DataW.trod enc Try.prog w base spare held n 24 [v4] = some y4 := by simpa [Value.cells, cs3] using hg 4 _ rfl
    have g5 : DataW.trod enc Try.prog w base spare held n 24 [v5] = some y5 := by simpa [Value.cells, cs3] using hg 5 _ rfl
    refine ⟨n, y2, y3, y4, y5, g2, g3, g4, g5, fun k hk => ?_⟩
    have e : d = (DataW.agg [y0.1, y1.1, y2.1, y3.1, y4.1, y5.1] : DataW H) := congrArg Prod.fst hx
    rw [e]
    simp only [DataW.weights, Try.underlying26]
    exact DataW.weights_mem_each (j := 2) (t := 23) (d := y2.1) rfl rfl k hk
set_option maxRecDepth 100000 in
theorem came_sized {M : Msg} {Aq Aa An Ax : Option Addr} {nq na nn nx cq ca cn cx : Nat} {v0 v1 : Value} {Za Zn Zx : List RecZ} {d : DataW H} {p : List MemPlace} (h : DataW.Trod enc Try.prog w base spare held 26 (.agg #[v0, v1, .slice Aq nq cq, .slice Aa na ca, .slice An nn cn, .slice Ax nx cx]) d p) (hv : MsgAt w w.heap.size M Aq Aa An Ax Za Zn Zx) (hq : M.qs.length = nq) {r : Nat} (hr : ∀ n ∈ d.weights Try.prog 26, n ≤ r) : ∀ q ∈ M.qs, q.name.length ≤ r := by
  obtain ⟨n, y2, y3, y4, y5, g2, g3, g4, g5, hw⟩ := msg_parts h
  intro q hqm
  obtain ⟨k, hk, rfl⟩ := List.getElem_of_mem hqm
  obtain ⟨b, off, rfl, hb, c0, c1, c2⟩ := hv.q.qn hk
  obtain ⟨m, hf⟩ := row_field Try.underlying23 Try.underlying62 (by kernel_rfl) (by kernel_rfl) g2 rfl (show k < nq by omega)
  obtain ⟨u, y, hc, ht, hwt⟩ := hf 0 _ rfl
  obtain ⟨s, e0, hy, hs⟩ := DataW.trod_string Try.underlying9 ht
  injection e0 with e0
  subst e0
  have hc2 : w.cell? ((⟨b, off, none⟩ : Addr).add (k * 3 + 0)) = some (.string s) := hc
  rw [add_plain] at hc2
  have e2 : (Value.string s : Value) = .string (mk (M.qs[k]).name) := Option.some.inj (hc2.symm.trans c0)
  injection e2 with e2
  refine hr _ (hw _ (hwt _ ?_))
  rw [hy, e2]
  simp [DataW.weights, mk]
set_option maxRecDepth 100000 in
theorem list_znil {Z : List RecZ} {A : Option Addr} {m c n : Nat} {y : DataW H × List MemPlace} (g : DataW.trod enc Try.prog w base spare held n 24 [.slice A m c] = some y) (hc : CellsAt w w.heap.size A (recCs Z)) (hz : ZAt w w.heap.size Z) (hm : Z.length = m) : ZNil Z := fun z hz' k c' => by
  obtain ⟨i, hi, rfl⟩ := List.getElem_of_mem hz'
  have e := fun j (hj : j < 7) => recCs_at (Z := Z) hi hj
  obtain ⟨b, off, rfl, hl, hcc⟩ := hc.get (e 0 (by decide))
  have p4 := hcc (i * 7 + 4) _ (e 4 (by decide))
  have p5 := hcc (i * 7 + 5) _ (e 5 (by decide))
  have p6 := hcc (i * 7 + 6) _ (e 6 (by decide))
  obtain ⟨m', hf⟩ := row_field Try.underlying24 Try.underlying60 (by kernel_rfl) (by kernel_rfl) g rfl (show i < m by omega)
  obtain ⟨u4, y4, h4, t4, _⟩ := hf 4 _ rfl
  obtain ⟨u5, y5, h5, t5, _⟩ := hf 5 _ rfl
  obtain ⟨u6, y6, h6, t6, _⟩ := hf 6 _ rfl
  have h4 : w.cell? ((⟨b, off, none⟩ : Addr).add (i * 7 + 4)) = some u4 := h4
  have h5 : w.cell? ((⟨b, off, none⟩ : Addr).add (i * 7 + 5)) = some u5 := h5
  have h6 : w.cell? ((⟨b, off, none⟩ : Addr).add (i * 7 + 6)) = some u6 := h6
  rw [add_plain] at h4 h5 h6
  have q4 : u4 = (Z[i]).2.1 := Option.some.inj (h4.symm.trans p4)
  have q5 : u5 = (Z[i]).2.2.1 := Option.some.inj (h5.symm.trans p5)
  have q6 : u6 = (Z[i]).2.2.2 := Option.some.inj (h6.symm.trans p6)
  subst q4 q5 q6
  refine ⟨fun e => ?_, fun e => ?_, fun e => ?_⟩
  · obtain ⟨A1, n1, c1, L1, e1, _, _, _, hn⟩ := came_texts t4
    rw [e] at e1; injection e1 with a1 _ a3; rw [a3]; exact hn a1.symm
  · obtain ⟨A1, n1, c1, L1, e1, _, _, _, hn, _⟩ := came_nums t5
    rw [e] at e1; injection e1 with a1 _ a3; rw [a3]; exact hn a1.symm
  · obtain ⟨A1, n1, c1, L1, e1, _, _, _, hn⟩ := came_texts t6
    rw [e] at e1; injection e1 with a1 _ a3; rw [a3]; exact hn a1.symm
theorem came_znil {M : Msg} {Aq Aa An Ax : Option Addr} {nq na nn nx cq ca cn cx : Nat} {v0 v1 : Value} {Za Zn Zx : List RecZ} {d : DataW H} {p : List MemPlace} (h : DataW.Trod enc Try.prog w base spare held 26 (.agg #[v0, v1, .slice Aq nq cq, .slice Aa na ca, .slice An nn cn, .slice Ax nx cx]) d p) (hv : MsgAt w w.heap.size M Aq Aa An Ax Za Zn Zx) (ha : Za.length = na) (hn : Zn.length = nn) (hx : Zx.length = nx) : ZNil Za ∧ ZNil Zn ∧ ZNil Zx := by
  obtain ⟨n, y2, y3, y4, y5, g2, g3, g4, g5, hw⟩ := msg_parts h
  exact ⟨list_znil g3 hv.a hv.za ha, list_znil g4 hv.n hv.zn hn, list_znil g5 hv.x hv.zx hx⟩
end
end Go.Proofs.Ytpmmjmnleoicjaa

/- What time does to messages: aged twice, aged by nothing, how long they hold. No program, no condition. -/
namespace Go.Proofs.Ytpmmjmnleoicjaa.QrTimes
open Go Bytes NameMath MsgMath RecMath WrMath QrMath NumMath
set_option linter.unusedVariables false
theorem sat_nat (a b : Nat) : ∃ n : Nat, sat64 ((a : Int) + (b : Int)) = (n : Int) := by
  unfold sat64
  split
  · exact ⟨18446744073709551615, rfl⟩
  · exact ⟨a + b, by omega⟩
theorem sat_of {a b n : Nat} (ha : a ≤ 18446744073709551615) (hb : b ≤ 18446744073709551615) (h : sat64 ((a : Int) + (b : Int)) = (n : Int)) : n ≤ 18446744073709551615 ∧ (n = a + b ∨ 4294967295 ≤ n ∧ n ≤ a + b) := by
  unfold sat64 at h
  split at h <;> omega
theorem ageR_twice {a b n : Nat} {R : Rec} (hR : R.ttl ≤ 4294967295) (hn : n = a + b ∨ 4294967295 ≤ n ∧ n ≤ a + b) : ageR b (ageR a R) = ageR n R := by
  unfold ageR
  by_cases h : R.kind = 41
  · rw [if_pos h, if_pos h, if_pos h]
  · rw [if_neg h, if_neg h, if_neg (by simpa using h)]
    simp only [Rec.mk.injEq, true_and, and_true]
    omega
theorem map_twice {a b n : Nat} {L : List Rec} (hL : ∀ R ∈ L, R.ttl ≤ 4294967295) (hn : n = a + b ∨ 4294967295 ≤ n ∧ n ≤ a + b) : (L.map (ageR a)).map (ageR b) = L.map (ageR n) := by
  rw [List.map_map]
  exact List.map_congr_left fun R hR => ageR_twice (hL R hR) hn
theorem age_twice {a b n : Nat} {M : Msg} (hL : ∀ R ∈ recsM M, R.ttl ≤ 4294967295) (hn : n ≤ 18446744073709551615 ∧ (n = a + b ∨ 4294967295 ≤ n ∧ n ≤ a + b)) : ageM b (ageM a M) = ageM n M := by
  unfold ageM
  unfold recsM at hL
  simp only [Msg.mk.injEq, true_and]
  exact ⟨map_twice (fun R hR => hL R (List.mem_append_left _ (List.mem_append_left _ hR))) hn.2, map_twice (fun R hR => hL R (List.mem_append_left _ (List.mem_append_right _ hR))) hn.2, map_twice (fun R hR => hL R (List.mem_append_right _ hR)) hn.2⟩
theorem ageR_zero {R : Rec} : ageR 0 R = R := by unfold ageR; split <;> rfl
theorem age_zero {M : Msg} : ageM 0 M = M := by
  have h : ageR 0 = id := funext fun R => ageR_zero
  unfold ageM
  rw [h, List.map_id, List.map_id, List.map_id]
theorem kind_age {a : Nat} {R : Rec} : (ageR a R).kind = R.kind := by unfold ageR; split <;> rfl
theorem nums_age {a : Nat} {R : Rec} : (ageR a R).nums = R.nums := by unfold ageR; split <;> rfl
theorem ttl_age {a : Nat} {R : Rec} (h : R.kind ≠ 41) : (ageR a R).ttl = R.ttl - a := by unfold ageR; rw [if_neg h]
theorem ttl_le {a : Nat} {R : Rec} : (ageR a R).ttl ≤ R.ttl := by
  unfold ageR
  split
  · exact Nat.le_refl _
  · exact Nat.sub_le _ _
theorem neg_age {a : Nat} {M : Msg} : negM (ageM a M) = negM M := by
  unfold negM ageM
  simp only [List.any_map]
  have h : ∀ q : Qn, ((fun R : Rec => decide (R.kind = q.kind ∨ R.kind = 5)) ∘ ageR a) = fun R : Rec => decide (R.kind = q.kind ∨ R.kind = 5) := fun q => funext fun R => by show decide _ = _; rw [kind_age]
  cases M.qs with
  | nil => rfl
  | cons q L => simp only [h]
theorem first_age {a k : Nat} (hz : ageR a zeroR = zeroR) : ∀ {L : List Rec}, firstR k (L.map (ageR a)) = ageR a (firstR k L)
  | [] => hz.symm
  | R :: L => by
    rw [List.map_cons, firstR, firstR, kind_age]
    split
    · rfl
    · exact first_age hz
theorem zero_age {a : Nat} : ageR a zeroR = zeroR := by
  unfold ageR zeroR
  rw [if_neg (by decide)]
  simp
theorem keep_age {a : Nat} : ∀ {L : List Rec}, (L.map (ageR a)).filter (fun R => decide (R.kind ≠ 41)) = (L.filter fun R => decide (R.kind ≠ 41)).map (ageR a)
  | [] => rfl
  | R :: L => by
    rw [List.map_cons, List.filter_cons, List.filter_cons, kind_age]
    split
    · rw [List.map_cons, keep_age]
    · exact keep_age
theorem fold_age {a : Nat} : ∀ {L : List Rec} {t : Nat}, (∀ R ∈ L, R.kind ≠ 41) → (L.map (ageR a)).foldl (fun a S => if S.ttl < a then S.ttl else a) (t - a) = L.foldl (fun a S => if S.ttl < a then S.ttl else a) t - a
  | [], _, _ => rfl
  | R :: L, t, h => by
    rw [List.map_cons, List.foldl_cons, List.foldl_cons, ttl_age (h R (List.mem_cons_self ..))]
    have e : (if R.ttl - a < t - a then R.ttl - a else t - a) = (if R.ttl < t then R.ttl else t) - a := by
      split <;> split <;> omega
    rw [e]
    exact fold_age fun S hS => h S (List.mem_cons_of_mem _ hS)
theorem leastL_age {a : Nat} : ∀ {L : List Rec}, (∀ R ∈ L, R.kind ≠ 41) → leastL (L.map (ageR a)) = leastL L - a
  | [], _ => (Nat.zero_sub a).symm
  | R :: L, h => by
    rw [List.map_cons, leastL, leastL, ttl_age (h R (List.mem_cons_self ..))]
    exact fold_age fun S hS => h S (List.mem_cons_of_mem _ hS)
theorem map_recs {a : Nat} {M : Msg} : recsM (ageM a M) = (recsM M).map (ageR a) := by unfold recsM ageM; simp
/-- How long it holds falls by just what went by. -/
theorem least_age {a : Nat} {M : Msg} (h : negM M = false) : leastM (ageM a M) = leastM M - a := by
  unfold leastM
  rw [neg_age, h, if_neg (by decide), if_neg (by decide), map_recs, keep_age]
  exact leastL_age fun R hR => of_decide_eq_true (List.mem_filter.1 hR).2
theorem none_age {a : Nat} {M : Msg} : noneM (ageM a M) ≤ noneM M := by
  unfold noneM
  show (let R := firstR 6 (M.ns.map (ageR a)); if R.nums.length ≠ 5 then 0 else min R.ttl (R.nums.getD 4 0)) ≤ _
  rw [first_age zero_age]
  simp only [nums_age]
  split
  · exact Nat.zero_le _
  · have := ttl_le (a := a) (R := firstR 6 M.ns)
    omega
/-- It never rises. -/
theorem least_le {a : Nat} {M : Msg} : leastM (ageM a M) ≤ leastM M := by
  cases h : negM M with
  | false => rw [least_age h]; exact Nat.sub_le _ _
  | true =>
    unfold leastM
    rw [neg_age, h, if_pos rfl, if_pos rfl]
    exact none_age
theorem fold_bound {m : Nat} : ∀ {L : List Rec} {t : Nat}, t ≤ m → L.foldl (fun a S => if S.ttl < a then S.ttl else a) t ≤ m
  | [], _, h => h
  | R :: L, t, h => by
    rw [List.foldl_cons]
    exact fold_bound (by split <;> omega)
theorem least_bound {M : Msg} (hL : ∀ R ∈ recsM M, R.ttl ≤ 4294967295) : leastM M ≤ 4294967295 := by
  unfold leastM
  split
  · unfold noneM
    have hm : ∀ {L : List Rec}, (∀ R ∈ L, R.ttl ≤ 4294967295) → (firstR 6 L).ttl ≤ 4294967295 := by
      intro L
      induction L with
      | nil => intro _; exact Nat.zero_le _
      | cons R L ih =>
        intro h
        unfold firstR
        split
        · exact h R (List.mem_cons_self ..)
        · exact ih fun S hS => h S (List.mem_cons_of_mem _ hS)
    have h2 := hm (L := M.ns) fun R hR => hL R (by unfold recsM; exact List.mem_append_left _ (List.mem_append_right _ hR))
    simp only
    split
    · exact Nat.zero_le _
    · omega
  · have h : ∀ R ∈ (recsM M).filter (fun R => decide (R.kind ≠ 41)), R.ttl ≤ 4294967295 := fun R hR => hL R (List.mem_filter.1 hR).1
    revert h
    cases (recsM M).filter fun R => decide (R.kind ≠ 41) with
    | nil => intro _; exact Nat.zero_le _
    | cons R L => intro h; exact fold_bound (h R (List.mem_cons_self ..))
end Go.Proofs.Ytpmmjmnleoicjaa.QrTimes
