/- How a record that came in reads: its fields, and its lists in memory. No condition. -/
import Derived.Test.YtnpdhfjglfpjcaaProg
import Derived.Test.YtnpdhfjglfpjcaaRecAt
import Derived.Deep.Fields
import Derived.ChangeSame
import Derived.ChangeSlices
import Derived.SliceStrings
import Derived.ProofKit
import Derived.OpenShut
import Derived.ShutString
namespace Go.Proofs.Ytnpdhfjglfpjcaa
open Go.ChangeShapes Go.WideShapes Go.RowKit
open Bytes Strs Nums RecMath

theorem wf_u16 {z : Int} (h : (Lit.int .u16 z).wf = true) : ∃ k : Nat, z = (k : Int) ∧ k ≤ 65535 := by
  have h' : 0 ≤ z ∧ z ≤ 65535 := by
    have h2 : IntKind.u16.min ≤ z ∧ z ≤ IntKind.u16.max := by simpa [Lit.wf] using h
    exact h2
  exact ⟨z.toNat, by omega, by omega⟩
theorem wf_u32 {z : Int} (h : (Lit.int .u32 z).wf = true) : ∃ k : Nat, z = (k : Int) ∧ k ≤ 4294967295 := by
  have h' : 0 ≤ z ∧ z ≤ 4294967295 := by
    have h2 : IntKind.u32.min ≤ z ∧ z ≤ IntKind.u32.max := by simpa [Lit.wf] using h
    exact h2
  exact ⟨z.toNat, by omega, by omega⟩
section
variable {H : Type} {enc : TypeId × Value → H} {w : World} {base : Nat} {spare : Nat → Bool} {held : Bool} {fuel : Nat}
theorem came_texts {v : Value} {x : DataW H × List MemPlace} (h : DataW.trod enc Try.prog w base spare held fuel 24 [v] = some x) :
    ∃ A n c L, v = .slice A n c ∧ L.length = n ∧ RdS w w.heap.size A L ∧ n ≤ maxLen ∧ (A = none → c = 0) := by
  rcases open_strings Try.underlying24 Try.underlying9 (by kernel_rfl) h with ⟨hcs, _⟩ | ⟨ad, l, c, ss, hcs, _, hl, hm, hz, _, hcell, _⟩
  · injection hcs with hv
    exact ⟨none, 0, 0, [], hv, rfl, RdS.void _ _ _, Nat.zero_le _, fun _ => rfl⟩
  · injection hcs with hv
    have hls : l ≤ ss.length := by rw [hz]; split <;> omega
    have hlen : ((ss.take l).map fun s => s.data.toList).length = l := by rw [List.length_map, List.length_take]; omega
    refine ⟨some ad, l, c, (ss.take l).map fun s => s.data.toList, hv, hlen, fun hp => ⟨ad, rfl, ?_, fun k hk => ?_⟩, by omega, fun e => by cases e⟩
    · rw [hlen] at hp
      have := World.block_lt_of_cell? _ _ (hcell 0 (by omega))
      rwa [add_block] at this
    · rw [hlen] at hk
      rw [hcell k (by omega)]
      refine congrArg (fun s => some (Value.string s)) ?_
      have hk2 : k < (ss.take l).length := by rw [List.length_take]; omega
      rw [List.getD_eq_getElem?_getD, List.getD_eq_getElem?_getD, List.getElem?_map, List.getElem?_eq_getElem hk2, List.getElem_take, List.getElem?_eq_getElem (by omega)]
      exact (mk_data _).symm
theorem came_nums {v : Value} {x : DataW H × List MemPlace} (h : DataW.trod enc Try.prog w base spare held fuel 25 [v] = some x) :
    ∃ A n c L, v = .slice A n c ∧ L.length = n ∧ RdN w w.heap.size A L ∧ n ≤ maxLen ∧ (A = none → c = 0) ∧ ∀ k, k < L.length → L.getD k 0 ≤ 4294967295 := by
  rcases open_ints Try.underlying25 Try.underlying23 (by kernel_rfl) h with ⟨hcs, _⟩ | ⟨ad, l, c, zs, hcs, _, hl, hm, hz, _, hcell, hwf⟩
  · injection hcs with hv
    exact ⟨none, 0, 0, [], hv, rfl, RdN.void _ _ _, Nat.zero_le _, fun _ => rfl, fun k hk => absurd hk (Nat.not_lt_zero _)⟩
  · injection hcs with hv
    have hls : l ≤ zs.length := by rw [hz]; split <;> omega
    have hlen : ((zs.take l).map fun z => z.toNat).length = l := by rw [List.length_map, List.length_take]; omega
    have hget : ∀ k, k < l → ∃ m : Nat, zs.getD k 0 = (m : Int) ∧ ((zs.take l).map fun z => z.toNat).getD k 0 = m ∧ m ≤ 4294967295 := by
      intro k hk
      have hk1 : k < zs.length := by omega
      have hk2 : k < (zs.take l).length := by rw [List.length_take]; omega
      obtain ⟨m, hm1, hm2⟩ := wf_u32 (hwf zs[k] (List.getElem_mem hk1))
      refine ⟨m, ?_, ?_, hm2⟩
      · rw [List.getD_eq_getElem?_getD, List.getElem?_eq_getElem hk1]; exact hm1
      · rw [List.getD_eq_getElem?_getD, List.getElem?_map, List.getElem?_eq_getElem hk2, List.getElem_take]
        show zs[k].toNat = m
        rw [hm1]; rfl
    refine ⟨some ad, l, c, (zs.take l).map fun z => z.toNat, hv, hlen, fun hp => ⟨ad, rfl, ?_, fun k hk => ?_⟩, by omega, fun e => (by cases e), fun k hk => ?_⟩
    · rw [hlen] at hp
      have := World.block_lt_of_cell? _ _ (hcell 0 (by omega))
      rwa [add_block] at this
    · rw [hlen] at hk
      rw [hcell k (by omega)]
      obtain ⟨m, h1, h2, _⟩ := hget k hk
      rw [h1, h2]
    · rw [hlen] at hk
      obtain ⟨m, _, h2, h3⟩ := hget k hk
      rw [h2]
      exact h3
/-- What is known of a record that came in. -/
def CameRec (w : World) (v : Value) (R : Rec) (x : ByteArray) (k l t : Nat) (A1 : Option Addr) (n1 c1 : Nat) (A2 : Option Addr) (n2 c2 : Nat) (A3 : Option Addr) (n3 c3 : Nat) : Prop :=
  v = .agg #[.string x, .int .u16 k, .int .u16 l, .int .u32 t, .slice A1 n1 c1, .slice A2 n2 c2, .slice A3 n3 c3] ∧ RecAt w w.heap.size R x k l t A1 n1 A2 n2 A3 n3 ∧
  (k ≤ 65535 ∧ l ≤ 65535 ∧ t ≤ 4294967295 ∧ x.size ≤ maxLen ∧ n1 ≤ maxLen ∧ n2 ≤ maxLen ∧ n3 ≤ maxLen) ∧ ((A1 = none → c1 = 0) ∧ (A2 = none → c2 = 0) ∧ (A3 = none → c3 = 0)) ∧ ∀ k, k < R.nums.length → R.nums.getD k 0 ≤ 4294967295
theorem came_rec {r : Reach} {b0 : Nat} {v : Value} {d : DataW H} {p : List MemPlace} (hv : Value.okWide Try.prog w r b0 27 v) (h : DataW.Trod enc Try.prog w base spare held 27 v d p) :
    ∃ R x k l t A1 n1 c1 A2 n2 c2 A3 n3 c3, CameRec w v R x k l t A1 n1 c1 A2 n2 c2 A3 n3 c3 := by
  obtain ⟨cs, rfl, hsz⟩ := okWide_struct Try.underlying27 hv
  obtain ⟨lst⟩ := cs
  match lst, hsz.trans (show Try.prog.cellsOf 27 = 7 by kernel_rfl) with
  | [a0, a1, a2, a3, a4, a5, a6], _ =>
    obtain ⟨fuel, hf⟩ := h
    obtain ⟨xs, n, _, hx, _, hlen, hg⟩ := DataW.trod_struct Try.underlying27 hf
    match xs, hlen with
    | [y0, y1, y2, y3, y4, y5, y6], _ =>
      have cs1 : Try.prog.cellsOf 9 = 1 := by kernel_rfl
      have cs2 : Try.prog.cellsOf 22 = 1 := by kernel_rfl
      have cs3 : Try.prog.cellsOf 23 = 1 := by kernel_rfl
      have cs4 : Try.prog.cellsOf 24 = 1 := by kernel_rfl
      have cs5 : Try.prog.cellsOf 25 = 1 := by kernel_rfl
      have g0 : DataW.trod enc Try.prog w base spare held n 9 [a0] = some y0 := by simpa [Value.cells, cs1] using hg 0 _ rfl
      have g1 : DataW.trod enc Try.prog w base spare held n 22 [a1] = some y1 := by simpa [Value.cells, cs2] using hg 1 _ rfl
      have g2 : DataW.trod enc Try.prog w base spare held n 22 [a2] = some y2 := by simpa [Value.cells, cs2] using hg 2 _ rfl
      have g3 : DataW.trod enc Try.prog w base spare held n 23 [a3] = some y3 := by simpa [Value.cells, cs3] using hg 3 _ rfl
      have g4 : DataW.trod enc Try.prog w base spare held n 24 [a4] = some y4 := by simpa [Value.cells, cs4] using hg 4 _ rfl
      have g5 : DataW.trod enc Try.prog w base spare held n 25 [a5] = some y5 := by simpa [Value.cells, cs5] using hg 5 _ rfl
      have g6 : DataW.trod enc Try.prog w base spare held n 24 [a6] = some y6 := by simpa [Value.cells, cs4] using hg 6 _ rfl
      obtain ⟨x, e0, _, hxs⟩ := DataW.trod_string Try.underlying9 g0
      obtain ⟨z1, e1, _, hz1⟩ := DataW.trod_int Try.underlying22 g1
      obtain ⟨z2, e2, _, hz2⟩ := DataW.trod_int Try.underlying22 g2
      obtain ⟨z3, e3, _, hz3⟩ := DataW.trod_int Try.underlying23 g3
      obtain ⟨A1, n1, c1, L1, rfl, hl1, hr1, hm1, hc1⟩ := came_texts g4
      obtain ⟨A2, n2, c2, L2, rfl, hl2, hr2, hm2, hc2, hu2⟩ := came_nums g5
      obtain ⟨A3, n3, c3, L3, rfl, hl3, hr3, hm3, hc3⟩ := came_texts g6
      injection e0 with e0
      injection e1 with e1
      injection e2 with e2
      injection e3 with e3
      subst e0 e1 e2 e3
      obtain ⟨k, rfl, hk⟩ := wf_u16 hz1
      obtain ⟨l, rfl, hl⟩ := wf_u16 hz2
      obtain ⟨t, rfl, ht⟩ := wf_u32 hz3
      exact ⟨⟨x.data.toList, k, l, t, L1, L2, L3⟩, x, k, l, t, A1, n1, c1, A2, n2, c2, A3, n3, c3, rfl, ⟨rfl, rfl, rfl, rfl, hl1, hl2, hl3, hr1, hr2, hr3⟩, ⟨hk, hl, ht, hxs, hm1, hm2, hm3⟩, ⟨hc1, hc2, hc3⟩, hu2⟩
end
end Go.Proofs.Ytnpdhfjglfpjcaa
