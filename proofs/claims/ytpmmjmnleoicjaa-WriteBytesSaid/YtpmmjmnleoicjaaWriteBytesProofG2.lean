/- Texts of one proof, one behind the other: RecFrame, MsgAt, MsgFrame, WrMath, WrAll, WrCheck, WrLen. -/
import Derived.Test.YtpmmjmnleoicjaaProg
import Derived.Test.YtpmmjmnleoicjaaRecAt
import Derived.Test.YtpmmjmnleoicjaaBytes
import Derived.Test.YtpmmjmnleoicjaaStrs
import Derived.Test.YtpmmjmnleoicjaaNums
import Derived.Test.YtpmmjmnleoicjaaMsgMath
import Derived.Test.YtpmmjmnleoicjaaRecMath
import Derived.Test.YtpmmjmnleoicjaaOwnRow
import Derived.Test.YtpmmjmnleoicjaaRecRow
import Derived.Test.YtpmmjmnleoicjaaRecAll
import Derived.Test.YtpmmjmnleoicjaaRdrAsk
import Derived.Test.YtpmmjmnleoicjaaRdrRead
import Derived.Test.YtpmmjmnleoicjaaRefSameMsg
import Derived.Test.YtpmmjmnleoicjaaNameMath
import Derived.Test.YtpmmjmnleoicjaaNmMath
import Derived.Test.YtpmmjmnleoicjaaNumBe
import Derived.Test.YtpmmjmnleoicjaaNameIs
import Derived.Test.YtpmmjmnleoicjaaRecCheck
import Derived.Deep.Fields
import Derived.ChangeSame
import Derived.ChangeSlices
import Derived.SliceStrings
import Derived.ProofKit
import Derived.OpenShut
import Derived.ShutString
import Derived.WalkKit
import Derived.Lib.Hide
import Derived.Deep.Slices
import Derived.Laws.Rows
import Derived.Laws.AppendOwn
import Derived.Laws.AppendOwnNone
import Derived.Lib.AppendZerosOnto
import Derived.Outline
import Derived.IntWalk
import Derived.WalkSpells
import Derived.WalkLawsBesides
import Derived.RegionTactic
import Derived.Deep.QuietTactic
import Derived.BigQuiet
import Derived.Deep.Draws

/- How a record that came in reads: its fields, and its lists in memory. No condition. -/
namespace Go.Proofs.Ytpmmjmnleoicjaa
open Go.ChangeShapes Go.WideShapes Go.RowKit
open Bytes Strs Nums RecMath

theorem wf_u16 {z : Int} (h : (Lit.int .u16 z).wf = true) : ∃ k : Nat, z = (k : Int) ∧ k ≤ 65535 := by
  have h' : 0 ≤ z ∧ z ≤ 65535 := by
    have h2 : IntKind.u16.min ≤ z ∧ z ≤ IntKind.u16.max := by simpa [Lit.wf] using h
    exact h2
  exact ⟨z.toNat, by omega, by omega⟩
theorem wf_u32 {z : Int} (h : (Lit.int .u32 z).wf = true) : ∃ k : Nat, z = (k : Int) ∧ k ≤ 4294967295 := by
  have h' : 0 ≤ z ∧ z ≤ 4294967295 := by
    have h2 : IntKind.u32.min ≤ z ∧ z ≤ IntKind.u32.max := by simpa [Lit.wf] using h
    exact h2
  exact ⟨z.toNat, by omega, by omega⟩
section
variable {H : Type} {enc : TypeId × Value → H} {w : World} {base : Nat} {spare : Nat → Bool} {held : Bool} {fuel : Nat}
set_option maxRecDepth 100000 in
theorem came_texts {v : Value} {x : DataW H × List MemPlace} (h : DataW.trod enc Try.prog w base spare held fuel 57 [v] = some x) :
    ∃ A n c L, v = .slice A n c ∧ L.length = n ∧ RdS w w.heap.size A L ∧ n ≤ maxLen ∧ (A = none → c = 0) := by
  rcases open_strings Try.underlying57 Try.underlying9 (by kernel_rfl) h with ⟨hcs, _⟩ | ⟨ad, l, c, ss, hcs, _, hl, hm, hz, _, hcell, _⟩
  · injection hcs with hv
    exact ⟨none, 0, 0, [], hv, rfl, RdS.void _ _ _, Nat.zero_le _, fun _ => rfl⟩
  · injection hcs with hv
    have hls : l ≤ ss.length := by rw [hz]; split <;> omega
    have hlen : ((ss.take l).map fun s => s.data.toList).length = l := by rw [List.length_map, List.length_take]; omega
    refine ⟨some ad, l, c, (ss.take l).map fun s => s.data.toList, hv, hlen, fun hp => ⟨ad, rfl, ?_, fun k hk => ?_⟩, by omega, fun e => by cases e⟩
    · rw [hlen] at hp
      have := World.block_lt_of_cell? _ _ (hcell 0 (by omega))
      rwa [add_block] at this
    · rw [hlen] at hk
      rw [hcell k (by omega)]
      refine congrArg (fun s => some (Value.string s)) ?_
      have hk2 : k < (ss.take l).length := by rw [List.length_take]; omega
      rw [List.getD_eq_getElem?_getD, List.getD_eq_getElem?_getD, List.getElem?_map, List.getElem?_eq_getElem hk2, List.getElem_take, List.getElem?_eq_getElem (by omega)]
      exact (mk_data _).symm
set_option maxRecDepth 100000 in
theorem came_nums {v : Value} {x : DataW H × List MemPlace} (h : DataW.trod enc Try.prog w base spare held fuel 58 [v] = some x) :
    ∃ A n c L, v = .slice A n c ∧ L.length = n ∧ RdN w w.heap.size A L ∧ n ≤ maxLen ∧ (A = none → c = 0) ∧ ∀ k, k < L.length → L.getD k 0 ≤ 4294967295 := by
  rcases open_ints Try.underlying58 Try.underlying50 (by kernel_rfl) h with ⟨hcs, _⟩ | ⟨ad, l, c, zs, hcs, _, hl, hm, hz, _, hcell, hwf⟩
  · injection hcs with hv
    exact ⟨none, 0, 0, [], hv, rfl, RdN.void _ _ _, Nat.zero_le _, fun _ => rfl, fun k hk => absurd hk (Nat.not_lt_zero _)⟩
  · injection hcs with hv
    have hls : l ≤ zs.length := by rw [hz]; split <;> omega
    have hlen : ((zs.take l).map fun z => z.toNat).length = l := by rw [List.length_map, List.length_take]; omega
    have hget : ∀ k, k < l → ∃ m : Nat, zs.getD k 0 = (m : Int) ∧ ((zs.take l).map fun z => z.toNat).getD k 0 = m ∧ m ≤ 4294967295 := by
      intro k hk
      have hk1 : k < zs.length := by omega
      have hk2 : k < (zs.take l).length := by rw [List.length_take]; omega
      obtain ⟨m, hm1, hm2⟩ := wf_u32 (hwf zs[k] (List.getElem_mem hk1))
      refine ⟨m, ?_, ?_, hm2⟩
      · rw [List.getD_eq_getElem?_getD, List.getElem?_eq_getElem hk1]; exact hm1
      · rw [List.getD_eq_getElem?_getD, List.getElem?_map, List.getElem?_eq_getElem hk2, List.getElem_take]
        show zs[k].toNat = m
        rw [hm1]; rfl
    refine ⟨some ad, l, c, (zs.take l).map fun z => z.toNat, hv, hlen, fun hp => ⟨ad, rfl, ?_, fun k hk => ?_⟩, by omega, fun e => (by cases e), fun k hk => ?_⟩
    · rw [hlen] at hp
      have := World.block_lt_of_cell? _ _ (hcell 0 (by omega))
      rwa [add_block] at this
    · rw [hlen] at hk
      rw [hcell k (by omega)]
      obtain ⟨m, h1, h2, _⟩ := hget k hk
      rw [h1, h2]
    · rw [hlen] at hk
      obtain ⟨m, _, h2, h3⟩ := hget k hk
      rw [h2]
      exact h3
/-- What is known of a record that came in. -/
def CameRec (w : World) (v : Value) (R : Rec) (x : ByteArray) (k l t : Nat) (A1 : Option Addr) (n1 c1 : Nat) (A2 : Option Addr) (n2 c2 : Nat) (A3 : Option Addr) (n3 c3 : Nat) : Prop :=
  v = .agg #[.string x, .int .u16 k, .int .u16 l, .int .u32 t, .slice A1 n1 c1, .slice A2 n2 c2, .slice A3 n3 c3] ∧ RecAt w w.heap.size R x k l t A1 n1 A2 n2 A3 n3 ∧
  (k ≤ 65535 ∧ l ≤ 65535 ∧ t ≤ 4294967295 ∧ x.size ≤ maxLen ∧ n1 ≤ maxLen ∧ n2 ≤ maxLen ∧ n3 ≤ maxLen) ∧ ((A1 = none → c1 = 0) ∧ (A2 = none → c2 = 0) ∧ (A3 = none → c3 = 0)) ∧ ∀ k, k < R.nums.length → R.nums.getD k 0 ≤ 4294967295
set_option maxRecDepth 100000 in
theorem came_rec {r : Reach} {b0 : Nat} {v : Value} {d : DataW H} {p : List MemPlace} (hv : Value.okWide Try.prog w r b0 60 v) (h : DataW.Trod enc Try.prog w base spare held 60 v d p) :
    ∃ R x k l t A1 n1 c1 A2 n2 c2 A3 n3 c3, CameRec w v R x k l t A1 n1 c1 A2 n2 c2 A3 n3 c3 := by
  obtain ⟨cs, rfl, hsz⟩ := okWide_struct Try.underlying60 hv
  obtain ⟨lst⟩ := cs
  match lst, hsz.trans (show Try.prog.cellsOf 60 = 7 by kernel_rfl) with
  | [a0, a1, a2, a3, a4, a5, a6], _ =>
    obtain ⟨fuel, hf⟩ := h
    obtain ⟨xs, n, _, hx, _, hlen, hg⟩ := DataW.trod_struct Try.underlying60 hf
    match xs, hlen with
    | [y0, y1, y2, y3, y4, y5, y6], _ =>
      have cs1 : Try.prog.cellsOf 9 = 1 := by kernel_rfl
      have cs2 : Try.prog.cellsOf 22 = 1 := by kernel_rfl
      have cs3 : Try.prog.cellsOf 50 = 1 := by kernel_rfl
      have cs4 : Try.prog.cellsOf 57 = 1 := by kernel_rfl
      have cs5 : Try.prog.cellsOf 58 = 1 := by kernel_rfl
      have g0 : DataW.trod enc Try.prog w base spare held n 9 [a0] = some y0 := by simpa [Value.cells, cs1] using hg 0 _ rfl
      have g1 : DataW.trod enc Try.prog w base spare held n 22 [a1] = some y1 := by simpa [Value.cells, cs2] using hg 1 _ rfl
      have g2 : DataW.trod enc Try.prog w base spare held n 22 [a2] = some y2 := by simpa [Value.cells, cs2] using hg 2 _ rfl
      have g3 : DataW.trod enc Try.prog w base spare held n 50 [a3] = some y3 := by simpa [Value.cells, cs3] using hg 3 _ rfl
      have g4 : DataW.trod enc Try.prog w base spare held n 57 [a4] = some y4 := by simpa [Value.cells, cs4] using hg 4 _ rfl
      have g5 : DataW.trod enc Try.prog w base spare held n 58 [a5] = some y5 := by simpa [Value.cells, cs5] using hg 5 _ rfl
      have g6 : DataW.trod enc Try.prog w base spare held n 57 [a6] = some y6 := by simpa [Value.cells, cs4] using hg 6 _ rfl
      obtain ⟨x, e0, _, hxs⟩ := DataW.trod_string Try.underlying9 g0
      obtain ⟨z1, e1, _, hz1⟩ := DataW.trod_int Try.underlying22 g1
      obtain ⟨z2, e2, _, hz2⟩ := DataW.trod_int Try.underlying22 g2
      obtain ⟨z3, e3, _, hz3⟩ := DataW.trod_int Try.underlying50 g3
      obtain ⟨A1, n1, c1, L1, rfl, hl1, hr1, hm1, hc1⟩ := came_texts g4
      obtain ⟨A2, n2, c2, L2, rfl, hl2, hr2, hm2, hc2, hu2⟩ := came_nums g5
      obtain ⟨A3, n3, c3, L3, rfl, hl3, hr3, hm3, hc3⟩ := came_texts g6
      injection e0 with e0
      injection e1 with e1
      injection e2 with e2
      injection e3 with e3
      subst e0 e1 e2 e3
      obtain ⟨k, rfl, hk⟩ := wf_u16 hz1
      obtain ⟨l, rfl, hl⟩ := wf_u16 hz2
      obtain ⟨t, rfl, ht⟩ := wf_u32 hz3
      exact ⟨⟨x.data.toList, k, l, t, L1, L2, L3⟩, x, k, l, t, A1, n1, c1, A2, n2, c2, A3, n3, c3, rfl, ⟨rfl, rfl, rfl, rfl, hl1, hl2, hl3, hr1, hr2, hr3⟩, ⟨hk, hl, ht, hxs, hm1, hm2, hm3⟩, ⟨hc1, hc2, hc3⟩, hu2⟩
end
end Go.Proofs.Ytpmmjmnleoicjaa

/- Messages as a call has them: rows of questions and of records, anyone's. No condition. -/
namespace Go.Proofs.Ytpmmjmnleoicjaa
open Go Go.RowKit Bytes Strs Nums MsgMath RecMath

/-- These cells stand at a slice's place, below block B. -/
def CellsAt (w : World) (B : Nat) (A : Option Addr) (xs : List Value) : Prop := xs = [] ∨ ∃ b off, A = some ⟨b, off, none⟩ ∧ b < B ∧ ∀ (j : Nat) (u : Value), xs[j]? = some u → w.cell? ⟨b, off + j, none⟩ = some u
/-- The lists of these records lie below block B. -/
def ZAt (w : World) (B : Nat) (Z : List RecZ) : Prop := ∀ z ∈ Z, ∃ A1 c1 A2 c2 A3 c3, z.2.1 = .slice A1 z.1.names.length c1 ∧ z.2.2.1 = .slice A2 z.1.nums.length c2 ∧ z.2.2.2 = .slice A3 z.1.texts.length c3 ∧
  RecAt w B z.1 (mk z.1.name) z.1.kind z.1.cls z.1.ttl A1 z.1.names.length A2 z.1.nums.length A3 z.1.texts.length
/-- A message in memory: questions at Aq, records at Aa, An, Ax. -/
structure MsgAt (w : World) (B : Nat) (M : Msg) (Aq Aa An Ax : Option Addr) (Za Zn Zx : List RecZ) : Prop where
  q : CellsAt w B Aq (qnCs M.qs)
  a : CellsAt w B Aa (recCs Za)
  n : CellsAt w B An (recCs Zn)
  x : CellsAt w B Ax (recCs Zx)
  za : ZAt w B Za
  zn : ZAt w B Zn
  zx : ZAt w B Zx
  ea : Za.map (·.1) = M.an
  en : Zn.map (·.1) = M.ns
  ex : Zx.map (·.1) = M.ad
section
variable {w w' : World} {B B' : Nat} {A Aq Aa An Ax : Option Addr} {xs : List Value} {Z Z' Za Zn Zx : List RecZ} {M : Msg}
theorem CellsAt.on (h : CellsAt w B A xs) (hb : Below B w w') (hB : B ≤ B') : CellsAt w' B' A xs := by
  rcases h with h | ⟨b, off, e, hl, hc⟩
  · exact .inl h
  · exact .inr ⟨b, off, e, by omega, fun j u hu => (hb.cell (p := ⟨b, off + j, none⟩) hl).trans (hc j u hu)⟩
theorem CellsAt.get (h : CellsAt w B A xs) {j : Nat} {u : Value} (hu : xs[j]? = some u) : ∃ b off, A = some ⟨b, off, none⟩ ∧ b < B ∧ ∀ (j : Nat) (u : Value), xs[j]? = some u → w.cell? ⟨b, off + j, none⟩ = some u := by
  rcases h with h | h
  · subst h; cases hu
  · exact h
theorem ZAt.on (h : ZAt w B Z) (hb : Below B w w') (hB : B ≤ B') : ZAt w' B' Z := fun z hz => by
  obtain ⟨A1, c1, A2, c2, A3, c3, e1, e2, e3, hat⟩ := h z hz
  exact ⟨A1, c1, A2, c2, A3, c3, e1, e2, e3, hat.on hb hB⟩
theorem ZAt.app (h : ZAt w B Z) (h' : ZAt w B Z') : ZAt w B (Z ++ Z') := fun z hz => by
  rcases List.mem_append.1 hz with hz | hz
  · exact h z hz
  · exact h' z hz
theorem ZAt.one (h : ZAt w B Z) : ∀ u ∈ recCs Z, u.oneCell' = true := by
  intro u hu
  unfold recCs at hu
  obtain ⟨z, hz, hu⟩ := List.mem_flatMap.1 hu
  obtain ⟨A1, c1, A2, c2, A3, c3, e1, e2, e3, _⟩ := h z hz
  rw [e1, e2, e3] at hu
  simp [recV] at hu
  rcases hu with rfl | rfl | rfl | rfl | rfl | rfl | rfl <;> rfl
theorem MsgAt.on (h : MsgAt w B M Aq Aa An Ax Za Zn Zx) (hb : Below B w w') (hB : B ≤ B') : MsgAt w' B' M Aq Aa An Ax Za Zn Zx :=
  ⟨h.q.on hb hB, h.a.on hb hB, h.n.on hb hB, h.x.on hb hB, h.za.on hb hB, h.zn.on hb hB, h.zx.on hb hB, h.ea, h.en, h.ex⟩
/-- A question of a row. -/
theorem CellsAt.qn {L : List Qn} (h : CellsAt w B A (qnCs L)) {k : Nat} (hk : k < L.length) : ∃ b off, A = some ⟨b, off, none⟩ ∧ b < B ∧ w.cell? ⟨b, off + k * 3, none⟩ = some (.string (mk (L[k]).name)) ∧ w.cell? ⟨b, off + k * 3 + 1, none⟩ = some (.int .u16 (L[k]).kind) ∧ w.cell? ⟨b, off + k * 3 + 2, none⟩ = some (.int .u16 (L[k]).cls) := by
  have e := fun j (hj : j < 3) => qnCs_all (L := L) hk hj
  obtain ⟨b, off, rfl, hl, hc⟩ := h.get (e 0 (by decide))
  exact ⟨b, off, rfl, hl, hc (k * 3) _ (e 0 (by decide)), hc (k * 3 + 1) _ (e 1 (by decide)), hc (k * 3 + 2) _ (e 2 (by decide))⟩
/-- A record of a row. -/
theorem recs_get (h : CellsAt w B A (recCs Z)) (hz : ZAt w B Z) {k : Nat} (hk : k < Z.length) : ∃ b off A1 c1 A2 c2 A3 c3, A = some ⟨b, off, none⟩ ∧ b < B ∧ RecAt w B (Z[k]).1 (mk (Z[k]).1.name) (Z[k]).1.kind (Z[k]).1.cls (Z[k]).1.ttl A1 (Z[k]).1.names.length A2 (Z[k]).1.nums.length A3 (Z[k]).1.texts.length ∧
    w.cell? ⟨b, off + k * 7, none⟩ = some (.string (mk (Z[k]).1.name)) ∧ w.cell? ⟨b, off + k * 7 + 1, none⟩ = some (.int .u16 (Z[k]).1.kind) ∧ w.cell? ⟨b, off + k * 7 + 2, none⟩ = some (.int .u16 (Z[k]).1.cls) ∧ w.cell? ⟨b, off + k * 7 + 3, none⟩ = some (.int .u32 (Z[k]).1.ttl) ∧ w.cell? ⟨b, off + k * 7 + 4, none⟩ = some (.slice A1 (Z[k]).1.names.length c1) ∧ w.cell? ⟨b, off + k * 7 + 5, none⟩ = some (.slice A2 (Z[k]).1.nums.length c2) ∧ w.cell? ⟨b, off + k * 7 + 6, none⟩ = some (.slice A3 (Z[k]).1.texts.length c3) := by
  have e := fun j (hj : j < 7) => recCs_at (Z := Z) hk hj
  obtain ⟨A1, c1, A2, c2, A3, c3, e1, e2, e3, hat⟩ := hz (Z[k]) (List.getElem_mem hk)
  obtain ⟨b, off, rfl, hl, hc⟩ := h.get (e 0 (by decide))
  exact ⟨b, off, A1, c1, A2, c2, A3, c3, rfl, hl, hat, hc (k * 7) _ (e 0 (by decide)), hc (k * 7 + 1) _ (e 1 (by decide)), hc (k * 7 + 2) _ (e 2 (by decide)), hc (k * 7 + 3) _ (e 3 (by decide)), hc (k * 7 + 4) _ ((e 4 (by decide)).trans (by rw [e1]; rfl)), hc (k * 7 + 5) _ ((e 5 (by decide)).trans (by rw [e2]; rfl)), hc (k * 7 + 6) _ ((e 6 (by decide)).trans (by rw [e3]; rfl))⟩
/-- A row of one's own. -/
theorem cells_own {g size n : Nat} {e : TypeId} {v : Value} (h : w.ownsRow g e size v n xs) : ∃ A c, v = .slice A n c ∧ CellsAt w w.heap.size A xs := by
  rcases h.2 with ⟨rfl, h0⟩ | ⟨b, cap, cur, rfl, _, _, _⟩
  · exact ⟨none, 0, by rw [h0], .inl (List.length_eq_zero_iff.1 (by rw [h.1, h0, Nat.zero_mul]))⟩
  · refine ⟨_, cap, rfl, .inr ⟨b, 0, rfl, (h.lt b rfl).2, fun j u hu => ?_⟩⟩
    have := h.cells (g := b) rfl j u hu
    rwa [add_at, ← Nat.zero_add j] at this
theorem zAt_own {g : Nat} (h : ∀ z ∈ Z, RecIn w g z.1 z.2.1 z.2.2.1 z.2.2.2) : ZAt w w.heap.size Z := fun z hz => (h z hz).at_
end
/-- A list out of its places. -/
theorem list_of {α : Type} {P : Nat → α → Prop} : ∀ (n : Nat), (∀ k, k < n → ∃ x, P k x) → ∃ L : List α, L.length = n ∧ ∀ k (h : k < L.length), P k (L[k]) := by
  intro n
  induction n with
  | zero => intro _; exact ⟨[], rfl, fun k h => by cases h⟩
  | succ n ih =>
    intro h
    obtain ⟨L, hl, hL⟩ := ih fun k hk => h k (by omega)
    obtain ⟨x, hx⟩ := h n (by omega)
    refine ⟨L ++ [x], by rw [List.length_append, hl]; rfl, fun k hk => ?_⟩
    rw [List.length_append, List.length_singleton] at hk
    by_cases hkl : k < L.length
    · rw [List.getElem_append_left hkl]; exact hL k hkl
    · have : k = L.length := by omega
      subst this
      rw [List.getElem_append_right (Nat.le_refl _)]
      simp only [Nat.sub_self, List.getElem_cons_zero]
      rw [hl]
      exact hx
/-- Cells out of rows of equal width. -/
theorem cells_of {α : Type} {f : α → List Value} {m : Nat} (_hm : 0 < m) (hf : ∀ a, (f a).length = m) : ∀ {L : List α} {C : Nat → Option Value}, (∀ k (h : k < L.length) j, j < m → C (k * m + j) = (f (L[k]))[j]?) → ∀ j u, (L.flatMap f)[j]? = some u → C j = some u := by
  intro L
  induction L with
  | nil => intro C _ j u h; simp at h
  | cons a L ih =>
    intro C hC j u h
    have e : (a :: L).flatMap f = f a ++ L.flatMap f := rfl
    rw [e] at h
    by_cases hj : j < m
    · rw [List.getElem?_append_left (by rw [hf]; exact hj)] at h
      have := hC 0 (by simp) j hj
      rw [Nat.zero_mul, Nat.zero_add] at this
      rw [this]
      exact h
    · rw [List.getElem?_append_right (by rw [hf]; omega), hf] at h
      have := ih (C := fun i => C (m + i)) (fun k hk j hj => by
        have := hC (k + 1) (by simp; omega) j hj
        rw [Nat.add_mul, Nat.one_mul] at this
        simp only [List.getElem_cons_succ] at this
        rw [← this]
        congr 1
        omega) (j - m) u h
      rwa [show m + (j - m) = j by omega] at this
end Go.Proofs.Ytpmmjmnleoicjaa

/- How a message that came in reads. No condition. -/
namespace Go.Proofs.Ytpmmjmnleoicjaa
open Go.ChangeShapes Go.WideShapes Go.Deep Go.RowKit
open Bytes Strs Nums MsgMath RecMath

section
variable {H : Type} {enc : TypeId × Value → H} {P : Program} {w : World} {base : Nat} {spare : Nat → Bool} {held : Bool}
theorem open_row_fields {t e : TypeId} {fs : Array Field} {fuel : Nat} {cs : List Value} {x : DataW H × List MemPlace} (ht : P.underlying t = some (.slice e)) (he : P.underlying e = some (.struct fs))
    (hone : oneCellFields P fs = true) (hC : P.cellsOf e = fs.size) (h : DataW.trod enc P w base spare held fuel t cs = some x) :
    cs = [.slice none 0 0] ∨
    ∃ (a : Addr) (len cap : Nat), cs = [.slice (some a) len cap] ∧ len ≤ maxLen ∧
      ∀ i, i < len → ∃ n : Nat, ∀ (j : Nat) (f : Field), fs[j]? = some f → ∃ (v : Value) (y : DataW H × List MemPlace), w.cell? (a.add (i * fs.size + j)) = some v ∧ DataW.trod enc P w base spare held n f.type [v] = some y := by
  rcases open_slice ht h with h0 | ⟨a, len, cap, m, n, D, Pl, hcs, hb, hl, hm, hmm, hx, hi⟩
  · exact .inl h0.1
  · refine .inr ⟨a, len, cap, hcs, by omega, fun i him => ?_⟩
    obtain ⟨cs', hc, ht'⟩ := hi i (by rw [hmm]; split <;> omega)
    rw [hC] at hc
    obtain ⟨ys, n', hn', hy, hlen, hyl, hf⟩ := DataW.trod_struct he ht'
    obtain ⟨_, hcl, hat⟩ := World.cells?_some hc
    refine ⟨n', fun j f hj => ?_⟩
    obtain ⟨ho, hk⟩ := hone_of hone j f hj
    have hjl : j < fs.size := (Array.getElem?_eq_some_iff.1 hj).1
    have hcell := hat j hjl
    have hv : cs'[j]? = some (cs'[j]'(by omega)) := List.getElem?_eq_getElem (by omega)
    have h1 := hf j f hj
    rw [ho, hk] at h1
    have hone' : (cs'.drop j).take 1 = [cs'[j]'(by omega)] := by
      rw [List.drop_eq_getElem_cons (by omega)]
      rfl
    rw [hone'] at h1
    have hys : ys[j]? = some (ys[j]'(by omega)) := List.getElem?_eq_getElem (by omega)
    refine ⟨_, _, ?_, h1.trans hys⟩
    rw [← Go.Deep.add_add, hcell, hv]
end
section
variable {H : Type} {enc : TypeId × Value → H} {w : World} {base : Nat} {spare : Nat → Bool} {held : Bool} {fuel : Nat}
set_option maxRecDepth 100000 in
theorem came_qns {v : Value} {x : DataW H × List MemPlace} (h : DataW.trod enc Try.prog w base spare held fuel 23 [v] = some x) :
    ∃ A n c L, v = .slice A n c ∧ L.length = n ∧ n ≤ maxLen ∧ CellsAt w w.heap.size A (qnCs L) ∧ ∀ q ∈ L, q.name.length ≤ maxLen ∧ q.kind ≤ 65535 ∧ q.cls ≤ 65535 := by
  rcases open_row_fields Try.underlying23 Try.underlying62 (by kernel_rfl) (by kernel_rfl) h with hcs | ⟨a, len, cap, hcs, hl, hf⟩
  · injection hcs with hv
    exact ⟨none, 0, 0, [], hv, rfl, Nat.zero_le _, .inl rfl, fun q hq => by cases hq⟩
  · injection hcs with hv
    have hone : ∀ k, k < len → ∃ q : Qn, (w.cell? (a.add (k * 3)) = some (.string (mk q.name)) ∧ w.cell? (a.add (k * 3 + 1)) = some (.int .u16 q.kind) ∧ w.cell? (a.add (k * 3 + 2)) = some (.int .u16 q.cls)) ∧ q.name.length ≤ maxLen ∧ q.kind ≤ 65535 ∧ q.cls ≤ 65535 := by
      intro k hk
      obtain ⟨n, hfj⟩ := hf k hk
      obtain ⟨v0, y0, hc0, ht0⟩ := hfj 0 _ rfl
      obtain ⟨v1, y1, hc1, ht1⟩ := hfj 1 _ rfl
      obtain ⟨v2, y2, hc2, ht2⟩ := hfj 2 _ rfl
      obtain ⟨s, e0, _, hs⟩ := DataW.trod_string Try.underlying9 ht0
      obtain ⟨z1, e1, _, hz1⟩ := DataW.trod_int Try.underlying22 ht1
      obtain ⟨z2, e2, _, hz2⟩ := DataW.trod_int Try.underlying22 ht2
      injection e0 with e0
      injection e1 with e1
      injection e2 with e2
      subst e0 e1 e2
      obtain ⟨k1, rfl, hk1⟩ := wf_u16 hz1
      obtain ⟨k2, rfl, hk2⟩ := wf_u16 hz2
      refine ⟨⟨s.data.toList, k1, k2⟩, ⟨?_, hc1, hc2⟩, by rw [← Lib.size_eq]; exact hs, hk1, hk2⟩
      rw [mk_data]
      exact hc0
    obtain ⟨L, hL, hP⟩ := list_of len hone
    refine ⟨some a, len, cap, L, hv, hL, hl, ?_, fun q hq => ?_⟩
    · rcases Nat.eq_zero_or_pos len with h0 | hp
      · exact .inl (by rw [List.length_eq_zero_iff.1 (hL.trans h0)]; rfl)
      · obtain ⟨b, off, spot⟩ := a
        have hspot : spot = none := by
          have := (hP 0 (by omega)).1.1
          simpa [Addr.add] using World.cell?_spot this
        subst hspot
        refine .inr ⟨b, off, rfl, ?_, cells_of (m := 3) (by decide) (fun _ => rfl) (C := fun j => w.cell? ⟨b, off + j, none⟩) fun k hk j hj => ?_⟩
        · have := World.block_lt_of_cell? _ _ (hP 0 (by omega)).1.1
          rwa [Strs.add_block] at this
        · obtain ⟨⟨p0, p1, p2⟩, _⟩ := hP k hk
          rw [add_plain] at p0 p1 p2
          match j, hj with
          | 0, _ => exact p0
          | 1, _ => exact p1
          | 2, _ => exact p2
    · obtain ⟨k, hk, rfl⟩ := List.getElem_of_mem hq
      exact (hP k hk).2
set_option maxRecDepth 100000 in
theorem came_recs {v : Value} {x : DataW H × List MemPlace} (h : DataW.trod enc Try.prog w base spare held fuel 24 [v] = some x) :
    ∃ A n c Z, v = .slice A n c ∧ Z.length = n ∧ n ≤ maxLen ∧ CellsAt w w.heap.size A (recCs Z) ∧ ZAt w w.heap.size Z ∧ (A = none → c = 0) ∧ ∀ z ∈ Z, (z.1.name.length ≤ maxLen ∧ z.1.names.length ≤ maxLen ∧ z.1.nums.length ≤ maxLen ∧ z.1.texts.length ≤ maxLen ∧ z.1.kind ≤ 65535 ∧ z.1.cls ≤ 65535 ∧ z.1.ttl ≤ 4294967295) ∧ ∀ k, k < z.1.nums.length → z.1.nums.getD k 0 ≤ 4294967295 := by
  rcases open_row_fields Try.underlying24 Try.underlying60 (by kernel_rfl) (by kernel_rfl) h with hcs | ⟨a, len, cap, hcs, hl, hf⟩
  · injection hcs with hv
    exact ⟨none, 0, 0, [], hv, rfl, Nat.zero_le _, .inl rfl, fun q hq => (by cases hq), fun _ => rfl, fun q hq => by cases hq⟩
  · injection hcs with hv
    have hone : ∀ k, k < len → ∃ z : RecZ, (w.cell? (a.add (k * 7)) = some (.string (mk z.1.name)) ∧ w.cell? (a.add (k * 7 + 1)) = some (.int .u16 z.1.kind) ∧ w.cell? (a.add (k * 7 + 2)) = some (.int .u16 z.1.cls) ∧ w.cell? (a.add (k * 7 + 3)) = some (.int .u32 z.1.ttl) ∧ w.cell? (a.add (k * 7 + 4)) = some z.2.1 ∧ w.cell? (a.add (k * 7 + 5)) = some z.2.2.1 ∧ w.cell? (a.add (k * 7 + 6)) = some z.2.2.2) ∧ (∃ A1 c1 A2 c2 A3 c3, z.2.1 = .slice A1 z.1.names.length c1 ∧ z.2.2.1 = .slice A2 z.1.nums.length c2 ∧ z.2.2.2 = .slice A3 z.1.texts.length c3 ∧ RecAt w w.heap.size z.1 (mk z.1.name) z.1.kind z.1.cls z.1.ttl A1 z.1.names.length A2 z.1.nums.length A3 z.1.texts.length) ∧ (z.1.name.length ≤ maxLen ∧ z.1.names.length ≤ maxLen ∧ z.1.nums.length ≤ maxLen ∧ z.1.texts.length ≤ maxLen ∧ z.1.kind ≤ 65535 ∧ z.1.cls ≤ 65535 ∧ z.1.ttl ≤ 4294967295) ∧ ∀ k, k < z.1.nums.length → z.1.nums.getD k 0 ≤ 4294967295 := by
      intro k hk
      obtain ⟨n, hfj⟩ := hf k hk
      obtain ⟨v0, y0, hc0, ht0⟩ := hfj 0 _ rfl
      obtain ⟨v1, y1, hc1, ht1⟩ := hfj 1 _ rfl
      obtain ⟨v2, y2, hc2, ht2⟩ := hfj 2 _ rfl
      obtain ⟨v3, y3, hc3, ht3⟩ := hfj 3 _ rfl
      obtain ⟨v4, y4, hc4, ht4⟩ := hfj 4 _ rfl
      obtain ⟨v5, y5, hc5, ht5⟩ := hfj 5 _ rfl
      obtain ⟨v6, y6, hc6, ht6⟩ := hfj 6 _ rfl
      obtain ⟨s, e0, _, hs⟩ := DataW.trod_string Try.underlying9 ht0
      obtain ⟨z1, e1, _, hz1⟩ := DataW.trod_int Try.underlying22 ht1
      obtain ⟨z2, e2, _, hz2⟩ := DataW.trod_int Try.underlying22 ht2
      obtain ⟨z3, e3, _, hz3⟩ := DataW.trod_int Try.underlying50 ht3
      obtain ⟨A1, n1, c1, L1, rfl, hl1, hr1, hm1, _⟩ := came_texts ht4
      obtain ⟨A2, n2, c2, L2, rfl, hl2, hr2, hm2, _, hu2⟩ := came_nums ht5
      obtain ⟨A3, n3, c3, L3, rfl, hl3, hr3, hm3, _⟩ := came_texts ht6
      injection e0 with e0
      injection e1 with e1
      injection e2 with e2
      injection e3 with e3
      subst e0 e1 e2 e3
      obtain ⟨k1, rfl, hk1⟩ := wf_u16 hz1
      obtain ⟨k2, rfl, hk2⟩ := wf_u16 hz2
      obtain ⟨k3, rfl, hk3⟩ := wf_u32 hz3
      subst hl1 hl2 hl3
      refine ⟨(⟨s.data.toList, k1, k2, k3, L1, L2, L3⟩, .slice A1 L1.length c1, .slice A2 L2.length c2, .slice A3 L3.length c3), ⟨?_, hc1, hc2, hc3, hc4, hc5, hc6⟩, ⟨A1, c1, A2, c2, A3, c3, rfl, rfl, rfl, ⟨rfl, rfl, rfl, rfl, rfl, rfl, rfl, hr1, hr2, hr3⟩⟩, ⟨by simp only; rw [← Lib.size_eq]; exact hs, hm1, hm2, hm3, hk1, hk2, hk3⟩, hu2⟩
      simp only
      rw [mk_data]
      exact hc0
    obtain ⟨Z, hZ, hP⟩ := list_of len hone
    refine ⟨some a, len, cap, Z, hv, hZ, hl, ?_, fun z hz => ?_, fun e => (by cases e), fun z hz => ?_⟩
    · rcases Nat.eq_zero_or_pos len with h0 | hp
      · exact .inl (by rw [List.length_eq_zero_iff.1 (hZ.trans h0)]; rfl)
      · obtain ⟨b, off, spot⟩ := a
        have hspot : spot = none := by
          have := (hP 0 (by omega)).1.1
          simpa [Addr.add] using World.cell?_spot this
        subst hspot
        refine .inr ⟨b, off, rfl, ?_, cells_of (m := 7) (f := fun z : RecZ => recV z.1 z.2.1 z.2.2.1 z.2.2.2) (by decide) (fun _ => rfl) (C := fun j => w.cell? ⟨b, off + j, none⟩) fun k hk j hj => ?_⟩
        · have := World.block_lt_of_cell? _ _ (hP 0 (by omega)).1.1
          rwa [Strs.add_block] at this
        · obtain ⟨⟨p0, p1, p2, p3, p4, p5, p6⟩, _⟩ := hP k hk
          rw [add_plain] at p0 p1 p2 p3 p4 p5 p6
          match j, hj with
          | 0, _ => exact p0
          | 1, _ => exact p1
          | 2, _ => exact p2
          | 3, _ => exact p3
          | 4, _ => exact p4
          | 5, _ => exact p5
          | 6, _ => exact p6
    · obtain ⟨k, hk, rfl⟩ := List.getElem_of_mem hz
      exact (hP k hk).2.1
    · obtain ⟨k, hk, rfl⟩ := List.getElem_of_mem hz
      exact (hP k hk).2.2
/-- What is known of a message that came in. -/
structure CameMsg (w : World) (v : Value) (M : Msg) (Aq Aa An Ax : Option Addr) (cq ca cn cx : Nat) (Za Zn Zx : List RecZ) : Prop where
  val : v = .agg #[.int .u16 M.id, .int .u16 M.flags, .slice Aq M.qs.length cq, .slice Aa M.an.length ca, .slice An M.ns.length cn, .slice Ax M.ad.length cx]
  at_ : MsgAt w w.heap.size M Aq Aa An Ax Za Zn Zx
  nils : (Aa = none → ca = 0) ∧ (An = none → cn = 0) ∧ (Ax = none → cx = 0)
  id : M.id ≤ 65535
  flags : M.flags ≤ 65535
  lens : M.qs.length ≤ maxLen ∧ M.an.length ≤ maxLen ∧ M.ns.length ≤ maxLen ∧ M.ad.length ≤ maxLen
  qs : ∀ q ∈ M.qs, q.name.length ≤ maxLen ∧ q.kind ≤ 65535 ∧ q.cls ≤ 65535
  recs : ∀ R ∈ M.an ++ M.ns ++ M.ad, (R.name.length ≤ maxLen ∧ R.names.length ≤ maxLen ∧ R.nums.length ≤ maxLen ∧ R.texts.length ≤ maxLen ∧ R.kind ≤ 65535 ∧ R.cls ≤ 65535 ∧ R.ttl ≤ 4294967295) ∧ ∀ k, k < R.nums.length → R.nums.getD k 0 ≤ 4294967295
set_option maxRecDepth 100000 in
theorem came_msg {r : Reach} {b0 : Nat} {v : Value} {d : DataW H} {p : List MemPlace} (hv : Value.okWide Try.prog w r b0 26 v) (h : DataW.Trod enc Try.prog w base spare held 26 v d p) :
    ∃ M Aq Aa An Ax cq ca cn cx Za Zn Zx, CameMsg w v M Aq Aa An Ax cq ca cn cx Za Zn Zx := by
  obtain ⟨cs, rfl, hsz⟩ := okWide_struct Try.underlying26 hv
  obtain ⟨lst⟩ := cs
  match lst, hsz.trans (show Try.prog.cellsOf 26 = 6 by kernel_rfl) with
  | [a0, a1, a2, a3, a4, a5], _ =>
    obtain ⟨fuel, hf⟩ := h
    obtain ⟨xs, n, _, hx, _, hlen, hg⟩ := DataW.trod_struct Try.underlying26 hf
    match xs, hlen with
    | [y0, y1, y2, y3, y4, y5], _ =>
      have cs2 : Try.prog.cellsOf 22 = 1 := by kernel_rfl
      have cs4 : Try.prog.cellsOf 23 = 1 := by kernel_rfl
      have cs5 : Try.prog.cellsOf 24 = 1 := by kernel_rfl
      have g0 : DataW.trod enc Try.prog w base spare held n 22 [a0] = some y0 := by simpa [Value.cells, cs2] using hg 0 _ rfl
      have g1 : DataW.trod enc Try.prog w base spare held n 22 [a1] = some y1 := by simpa [Value.cells, cs2] using hg 1 _ rfl
      have g2 : DataW.trod enc Try.prog w base spare held n 23 [a2] = some y2 := by simpa [Value.cells, cs4] using hg 2 _ rfl
      have g3 : DataW.trod enc Try.prog w base spare held n 24 [a3] = some y3 := by simpa [Value.cells, cs5] using hg 3 _ rfl
      have g4 : DataW.trod enc Try.prog w base spare held n 24 [a4] = some y4 := by simpa [Value.cells, cs5] using hg 4 _ rfl
      have g5 : DataW.trod enc Try.prog w base spare held n 24 [a5] = some y5 := by simpa [Value.cells, cs5] using hg 5 _ rfl
      obtain ⟨z0, e0, _, hz0⟩ := DataW.trod_int Try.underlying22 g0
      obtain ⟨z1, e1, _, hz1⟩ := DataW.trod_int Try.underlying22 g1
      obtain ⟨Aq, nq, cq, L, rfl, hq1, hq2, hq3, hq4⟩ := came_qns g2
      obtain ⟨Aa, na, ca, Za, rfl, ha1, ha2, ha3, ha4, ha6, ha5⟩ := came_recs g3
      obtain ⟨An, nn, cn, Zn, rfl, hn1, hn2, hn3, hn4, hn6, hn5⟩ := came_recs g4
      obtain ⟨Ax, nx, cx, Zx, rfl, hx1, hx2, hx3, hx4, hx6, hx5⟩ := came_recs g5
      injection e0 with e0
      injection e1 with e1
      subst e0 e1
      obtain ⟨k0, rfl, hk0⟩ := wf_u16 hz0
      obtain ⟨k1, rfl, hk1⟩ := wf_u16 hz1
      subst hq1 ha1 hn1 hx1
      refine ⟨⟨k0, k1, L, Za.map (·.1), Zn.map (·.1), Zx.map (·.1)⟩, Aq, Aa, An, Ax, cq, ca, cn, cx, Za, Zn, Zx, by simp only [List.length_map], ⟨hq3, ha3, hn3, hx3, ha4, hn4, hx4, rfl, rfl, rfl⟩, ⟨ha6, hn6, hx6⟩, hk0, hk1, by simp only [List.length_map]; exact ⟨hq2, ha2, hn2, hx2⟩, hq4, fun R hR => ?_⟩
      simp only [List.mem_append, List.mem_map] at hR
      rcases hR with (⟨z, hz, rfl⟩ | ⟨z, hz, rfl⟩) | ⟨z, hz, rfl⟩
      · exact ha5 z hz
      · exact hn5 z hz
      · exact hx5 z hz
end
end Go.Proofs.Ytpmmjmnleoicjaa

/- Messages as bytes that are written, with what is known of names. No program, no condition. -/
namespace Go.Proofs.Ytpmmjmnleoicjaa.WrMath
open Go Bytes NameMath NmMath RecMath MsgMath

/-- Rests of names and their places, in the order in which they were written. -/
abbrev Known := List (List UInt8 × Nat)
def fnd : Known → List UInt8 → Option Nat
  | [], _ => none
  | (t, p) :: K, s => if t = s then some p else fnd K s
theorem fnd_app (K K' : Known) (s : List UInt8) : fnd (K ++ K') s = (fnd K s).or (fnd K' s) := by
  induction K with
  | nil => rfl
  | cons x K ih =>
    obtain ⟨t, p⟩ := x
    show (if t = s then some p else fnd (K ++ K') s) = _
    show _ = (if t = s then some p else fnd K s).or (fnd K' s)
    by_cases h : t = s
    · rw [if_pos h, if_pos h]; rfl
    · rw [if_neg h, if_neg h, ih]
theorem fnd_mem {K : Known} {s : List UInt8} {p : Nat} (h : fnd K s = some p) : (s, p) ∈ K := by
  induction K with
  | nil => cases h
  | cons x K ih =>
    obtain ⟨t, q⟩ := x
    unfold fnd at h
    by_cases ht : t = s
    · rw [if_pos ht] at h; injection h with h; subst h ht; simp
    · rw [if_neg ht] at h; exact List.mem_cons_of_mem _ (ih h)
/-- What is written, and what is known. -/
abbrev Wr := List UInt8 × Known
/-- What is known behind a rest that wasn't. -/
def learn (out : List UInt8) (K : Known) (rest : List UInt8) : Known := if out.length < 16384 then K ++ [(rest, out.length)] else K
def wName (out : List UInt8) (K : Known) (rest : List UInt8) : Wr :=
  if h : bt rest 0 = 0 then (out ++ [0], K)
  else match fnd K rest with
    | some p => (out ++ beTail (49152 + p) 2, K)
    | none => wName (out ++ rest.take (1 + bt rest 0)) (learn out K rest) (rest.drop (1 + bt rest 0))
termination_by rest.length
decreasing_by
  have : rest ≠ [] := fun e => by subst e; exact h rfl
  have := List.length_pos_iff.2 this
  rw [List.length_drop]
  omega
section
variable {out rest : List UInt8} {K : Known} {p : Nat}
theorem wName_root (h : bt rest 0 = 0) : wName out K rest = (out ++ [0], K) := by rw [wName, dif_pos h]
theorem wName_known (h : bt rest 0 ≠ 0) (hf : fnd K rest = some p) : wName out K rest = (out ++ beTail (49152 + p) 2, K) := by rw [wName, dif_neg h, hf]
theorem wName_new (h : bt rest 0 ≠ 0) (hf : fnd K rest = none) : wName out K rest = wName (out ++ rest.take (1 + bt rest 0)) (learn out K rest) (rest.drop (1 + bt rest 0)) := by rw [wName, dif_neg h, hf]
end
def nameW (n : List UInt8) (s : Wr) : Wr := wName s.1 s.2 n
def numW (n size : Nat) (s : Wr) : Wr := (s.1 ++ beTail n size, s.2)
def numsW (size : Nat) (L : List Nat) (s : Wr) : Wr := (s.1 ++ numsL size L, s.2)
theorem numsW_nil (size : Nat) (s : Wr) : numsW size [] s = s := by unfold numsW numsL; simp
theorem numsW_cons (size n : Nat) (L : List Nat) (s : Wr) : numsW size (n :: L) s = numsW size L (numW n size s) := by unfold numsW numW numsL; simp
/-- A record's data. -/
def dataW (R : Rec) (s : Wr) : Wr :=
  if R.kind = 2 ∨ R.kind = 5 ∨ R.kind = 12 then nameW (R.names.getD 0 []) s
  else if R.kind = 6 then numsW 4 R.nums (nameW (R.names.getD 1 []) (nameW (R.names.getD 0 []) s))
  else if R.kind = 15 then nameW (R.names.getD 0 []) (numsW 2 R.nums s)
  else (s.1 ++ plainO R, s.2)
/-- What stands ahead of a record's data, but for its length. -/
def headW (R : Rec) (s : Wr) : Wr := numW R.ttl 4 (numW R.cls 2 (numW R.kind 2 (nameW R.name s)))
/-- The length of the data, told where two bytes were kept for it. -/
def fillW (at_ : Nat) (out : List UInt8) : List UInt8 := out.take at_ ++ beTail (out.length - (at_ + 2)) 2 ++ out.drop (at_ + 2)
def recW (R : Rec) (s : Wr) : Wr :=
  let b := headW R s
  let d := dataW R (numW 0 2 b)
  (fillW b.1.length d.1, d.2)
def qnW (q : Qn) (s : Wr) : Wr := numW q.cls 2 (numW q.kind 2 (nameW q.name s))
def recsM (M : Msg) : List Rec := M.an ++ M.ns ++ M.ad
def startW (M : Msg) : Wr := numW M.ad.length 2 (numW M.ns.length 2 (numW M.an.length 2 (numW M.qs.length 2 (numW M.flags 2 (numW M.id 2 ([], []))))))
def qnsW (L : List Qn) (s : Wr) : Wr := L.foldl (fun s q => qnW q s) s
def recsW (L : List Rec) (s : Wr) : Wr := L.foldl (fun s R => recW R s) s
def msgW (M : Msg) : Wr := recsW (recsM M) (qnsW M.qs (startW M))
theorem qnsW_cons (q : Qn) (L : List Qn) (s : Wr) : qnsW (q :: L) s = qnsW L (qnW q s) := rfl
theorem recsW_cons (R : Rec) (L : List Rec) (s : Wr) : recsW (R :: L) s = recsW L (recW R s) := rfl
theorem qnsW_app (A B : List Qn) (s : Wr) : qnsW (A ++ B) s = qnsW B (qnsW A s) := by unfold qnsW; rw [List.foldl_append]
theorem recsW_app (A B : List Rec) (s : Wr) : recsW (A ++ B) s = recsW B (recsW A s) := by unfold recsW; rw [List.foldl_append]
/-- The first record's error. -/
def firstE : List Rec → Nat
  | [] => 0
  | R :: L => if checkE R = 0 then firstE L else checkE R
def checkM (M : Msg) : Nat := if 256 < M.qs.length + M.an.length + M.ns.length + M.ad.length then 6 else if M.qs.any (fun q => badName q.name) then 40 else firstE (recsM M)
def writeM (M : Msg) : List UInt8 × Nat := if checkM M = 0 then (if 65535 < (msgW M).1.length then ([], 3) else ((msgW M).1, 0)) else ([], checkM M)
theorem firstE_drop {L : List Rec} {k : Nat} (hk : k < L.length) : firstE (L.drop k) = if checkE (L[k]) = 0 then firstE (L.drop (k + 1)) else checkE (L[k]) := by
  rw [List.drop_eq_getElem_cons hk]
  rfl
theorem qnsW_drop {L : List Qn} {k : Nat} (hk : k < L.length) (s : Wr) : qnsW (L.drop k) s = qnsW (L.drop (k + 1)) (qnW (L[k]) s) := by
  rw [List.drop_eq_getElem_cons hk]
  rfl
theorem recsW_drop {L : List Rec} {k : Nat} (hk : k < L.length) (s : Wr) : recsW (L.drop k) s = recsW (L.drop (k + 1)) (recW (L[k]) s) := by
  rw [List.drop_eq_getElem_cons hk]
  rfl
theorem checkM_ok {M : Msg} (h : checkM M = 0) : M.qs.length + M.an.length + M.ns.length + M.ad.length ≤ 256 ∧ (∀ q ∈ M.qs, isN q.name = true) ∧ ∀ R ∈ recsM M, checkE R = 0 := by
  unfold checkM at h
  split at h
  · cases h
  · split at h
    · cases h
    · next h1 h2 =>
      refine ⟨by omega, fun q hq => ?_, ?_⟩
      · have : M.qs.any (fun q => badName q.name) = false := by simpa using h2
        have := List.any_eq_false.1 this q hq
        simpa [badName] using this
      · have key : ∀ L : List Rec, firstE L = 0 → ∀ R ∈ L, checkE R = 0 := by
          intro L
          induction L with
          | nil => intro _ R hR; cases hR
          | cons R L ih =>
            intro h S hS
            unfold firstE at h
            split at h
            · next h0 =>
              rcases List.mem_cons.1 hS with e | hS
              · subst e; exact h0
              · exact ih h S hS
            · next h0 => exact absurd h h0
        exact key _ h
/-- A rest of a name, as the program's checks leave it: a label that stands whole, or the root. -/
def Rests (l : List UInt8) : Prop := ∃ L : List (List UInt8), L.all okLab = true ∧ l = wire L ++ [0]
theorem rests_of {l : List UInt8} (h : isN l = true) : Rests l := by
  obtain ⟨L, hL⟩ := isN_some h
  obtain ⟨h1, h2, h3⟩ := labels_some hL
  exact ⟨L, by first | exact h2 | exact h1, by first | exact h1 | exact h2 | exact h1.symm⟩
theorem rests_cases {l : List UInt8} (h : Rests l) : (l = [0]) ∨ (bt l 0 ≠ 0 ∧ bt l 0 ≤ 63 ∧ 1 + bt l 0 < l.length ∧ Rests (l.drop (1 + bt l 0))) := by
  obtain ⟨L, h1, rfl⟩ := h
  cases L with
  | nil => exact .inl rfl
  | cons a L =>
    right
    rw [List.all_cons, Bool.and_eq_true] at h1
    have ha := okLab_iff.1 h1.1
    have e : wire (a :: L) ++ [0] = UInt8.ofNat a.length :: (a ++ (wire L ++ [0])) := by simp [wire]
    rw [e]
    have hb : bt (UInt8.ofNat a.length :: (a ++ (wire L ++ [0]))) 0 = a.length := ofNat_len h1.1
    rw [hb]
    refine ⟨by omega, by omega, by simp; omega, L, h1.2, ?_⟩
    rw [show 1 + a.length = a.length + 1 by omega, List.drop_succ_cons, List.drop_left]
end Go.Proofs.Ytpmmjmnleoicjaa.WrMath

/- The contracts of slices.Grow (of nil), slices.Concat (of three rows of records), and of the message's records. For rows of at most 100000. -/
namespace Go.Proofs.Ytpmmjmnleoicjaa
open Go.RowKit Bytes MsgMath RecMath

/-- append, by its run's equation, at the operation. -/
theorem wpList_append_run {P : Program} {w : World} {ops : Array Oper} {rest : List Oper} {o : Oper} {a : Act} {Q : Exit → Act → World → Prop} (hgd : o.guard = none) (s x : Operand) (t u : TypeId) (ho : o.op = .call { callee := .builtin .append, args := #[s, x], argTypes := #[t, u] })
    (v y : Value) (hs : a.eval s = v) (hx : a.eval x = y) (v' : Value) (w' : World) (hrun : (Builtin.append_ #[t, u] o.type #[v, y]).run P w = .ok v' w') (h : wpList P ops Q rest (a.put o.dst v') w') : wpList P ops Q (o :: rest) a w := by
  refine wpList_plain hgd fun K hK => ?_
  unfold Oper.wp execOp
  simp only [ho, resolve, invoke, builtin, Sem.run_bind, Sem.run_pure, Result.andThen_ok, List.map_toArray, List.map_cons, List.map_nil, hs, hx, hrun]
  exact hK _ _ h
set_option maxHeartbeats 2000000 in
set_option maxRecDepth 100000 in
theorem grow_nil (n : Nat) (w : World) (hn : n ≤ 1000000) :
    Calls Try.prog 107 #[.slice none 0 0, .int .i64 n] w fun e w' => ∃ v, e = .returned v ∧ w'.ownsRow w.heap.size 60 7 v 0 [] ∧ Below w.heap.size w w' := by
  by_cases h0 : 0 < n
  · obtain ⟨i0, hi, hz0, hz1, hz2⟩ := info_parts info_rec
    obtain ⟨G, hG⟩ : ∃ G, grownCap w n 0 60 = G := ⟨_, rfl⟩
    have hrun : ∀ ty, (Builtin.append_ #[24, 3] ty #[.slice none 0 0, .int .i64 n]).run Try.prog w = .ok (.slice (some ⟨w.heap.size, 0, none⟩) n G) (w.drew.alloc (.cells (Builtin.zeroCells (Value.agg #[.string ⟨#[]⟩, .int .u16 0, .int .u16 0, .int .u32 0, .slice none 0 0, .slice none 0 0, .slice none 0 0]).cells n ++ Builtin.zeroCells (Value.agg #[.string ⟨#[]⟩, .int .u16 0, .int .u16 0, .int .u32 0, .slice none 0 0, .slice none 0 0, .slice none 0 0]).cells (G - n)) 60)) := fun ty => by
      have h := Lib.run_append_grow_zeros (P := Try.prog) w 24 3 ty 60 i0 _ .i64 .i64 Try.underlying24 Try.underlying3 hi hz0 none 0 0 [] (run_firstCells_none w.drew i0.size 0 0 0) n h0 (by rw [hz1]; decide) (by omega) (by omega) (by rw [hz2]; omega) (by rw [hz2]; exact growslice_fits (by omega) (by omega))
      simp only [Nat.zero_add, hG] at h
      rw [h]
      simp
    have hge : n ≤ G := by rw [← hG]; exact grownCap_ge w n 0 _
    have hmax : G ≤ maxLen := by rw [← hG]; exact grownCap_le_maxLen w n 0 _ (by unfold maxLen; omega)
    have HSZ : Hid ((Builtin.zeroCells (Value.agg #[.string ⟨#[]⟩, .int .u16 0, .int .u16 0, .int .u32 0, .slice none 0 0, .slice none 0 0, .slice none 0 0]).cells n ++ Builtin.zeroCells (Value.agg #[.string ⟨#[]⟩, .int .u16 0, .int .u16 0, .int .u32 0, .slice none 0 0, .slice none 0 0, .slice none 0 0]).cells (G - n)).size = G * 7) := by
      show _ = _
      rw [Array.size_append, size_zeroCells, size_zeroCells, show (Value.agg #[.string ⟨#[]⟩, .int .u16 0, .int .u16 0, .int .u32 0, .slice none 0 0, .slice none 0 0, .slice none 0 0]).cells.size = 7 from rfl]
      omega
    generalize Builtin.zeroCells (Value.agg #[.string ⟨#[]⟩, .int .u16 0, .int .u16 0, .int .u32 0, .slice none 0 0, .slice none 0 0, .slice none 0 0]).cells n ++ Builtin.zeroCells (Value.agg #[.string ⟨#[]⟩, .int .u16 0, .int .u16 0, .int .u32 0, .slice none 0 0, .slice none 0 0, .slice none 0 0]).cells (G - n) = CS at *
    have hG63 : G ≤ 9223372036854775807 := by unfold maxLen at hmax; omega
    have HMX := Lib.hid hmax
    clear hG hi hz0 hz1 hz2 hmax
    go_enter Try.func107, Try.ntmps107
    go_wp2_with (at_builtin; refine wpList_append_run rfl _ _ 24 3 rfl _ _ rfl rfl _ _ (hrun _) ?_)
    go_ret
    exact ⟨_, rfl, ⟨rfl, .inr ⟨w.heap.size, G, CS, rfl, Nat.le_refl _, heap_alloc_new w.drew _, Nat.zero_le _, HMX.out, HSZ.out, by simp⟩⟩, (Below.refl _ _).drew.alloc (Nat.le_refl _) _⟩
  · obtain rfl : n = 0 := by omega
    go_enter Try.func107, Try.ntmps107
    go_wp2_with fail
    go_ret
    exact ⟨_, rfl, World.ownsRow_nil _ _ _ _, Below.refl _ _⟩

set_option maxRecDepth 100000 in
theorem run_append_recsA (w : World) (ty : TypeId) (g : Nat) (v : Value) (m : Nat) (xs : List Value) (hown : w.ownsRow g 60 7 v m xs) (B : Nat) (A : Option Addr) (n c : Nat) (ys : List Value) (hn : ys.length = n * 7) (hA : A = none → n = 0 ∧ c = 0) (hsrc : CellsAt w B A ys) (h1 : ∀ u ∈ ys, u.oneCell' = true) (hmn : m + n ≤ 1000000) (hg : g ≤ w.heap.size) :
    ∃ v' w', (Builtin.append_ #[24, 24] ty #[v, .slice A n c]).run Try.prog w = .ok v' w' ∧ w'.ownsRow g 60 7 v' (m + n) (xs ++ ys) ∧ w.grownBy w' v.ownBlock := by
  obtain ⟨i0, hi, hz0, hz1, hz2⟩ := info_parts info_rec
  cases A with
  | none =>
    obtain ⟨rfl, rfl⟩ := hA rfl
    have hy : ys = [] := List.length_eq_zero_iff.1 (by rw [hn])
    subst hy
    exact ⟨v, w, run_append_owned_none w g 24 ty 60 i0 7 Try.underlying24 hi v m xs hown, by simpa using hown, World.grownBy.refl w _⟩
  | some ad =>
    obtain ⟨v', w', hr, h2, h3, _⟩ := run_append_own (P := Try.prog) w g 24 ty 60 i0 (.agg #[.string ⟨#[]⟩, .int .u16 0, .int .u16 0, .int .u32 0, .slice none 0 0, .slice none 0 0, .slice none 0 0]) 7 96 Try.underlying24 hi hz0 hz1 hz2 rfl (by decide) v m xs hown ad n c ys hn (fun j u hj => by
      obtain ⟨b, off, e, _, hc⟩ := hsrc.get hj
      injection e with e
      subst e
      rw [Go.WideShapes.add_plain]
      exact hc j u hj) h1 (by unfold maxLen; omega) (by omega) hg
    exact ⟨v', w', hr, h2, h3⟩
/-- Three rows of records, one behind the other: what the loop has come to. -/
theorem own_recsA {w w1 : World} {g m : Nat} {v v' : Value} {xs ys : List Value} {n : Nat} (hown : w.ownsRow g 60 7 v m xs) (h2 : w1.ownsRow g 60 7 v' (m + n) (xs ++ ys)) (h3 : w.grownBy w1 v.ownBlock) {w0 : World} (hB : Below g w0 w) (hg : g ≤ w.heap.size) : Below g w0 w1 := by
  have _ := h2
  exact hB.grown h3 hg (fun k hk => (hown.lt k hk).1)
theorem wpList_append_recsA {w : World} {ops : Array Oper} {rest : List Oper} {o : Oper} {a : Act} {Q : Exit → Act → World → Prop} (hgd : o.guard = none) (s x : Operand) (ho : o.op = .call { callee := .builtin .append, args := #[s, x], argTypes := #[24, 24] })
    (g : Nat) (v : Value) (m : Nat) (Z : List RecZ) (hs : a.eval s = v) (hown : w.ownsRow g 60 7 v m (recCs Z)) (B : Nat) (A : Option Addr) (n c : Nat) (Y : List RecZ) (hx : a.eval x = .slice A n c) (hn : Y.length = n) (hA : A = none → n = 0 ∧ c = 0) (hsrc : CellsAt w B A (recCs Y)) (h1 : ∀ u ∈ recCs Y, u.oneCell' = true) (hmn : m + n ≤ 1000000) (hg : g ≤ w.heap.size) (w0 : World) (hB : Below g w0 w) (ZY : List RecZ) (hZY : Hid (Z ++ Y = ZY)) (mn : Nat) (hmn2 : m + n = mn)
    (h : ∀ v' w', w'.ownsRow g 60 7 v' mn (recCs ZY) → Below g w0 w' → wpList Try.prog ops Q rest (a.put o.dst v') w') : wpList Try.prog ops Q (o :: rest) a w := by
  obtain ⟨v', w', hr, h2, h3⟩ := run_append_recsA w o.type g v m _ hown B A n c (recCs Y) (by rw [recCs_len, hn]) hA hsrc h1 hmn hg
  have hZY2 := hZY.out
  subst hZY2
  subst hmn2
  refine wpList_append_run hgd s x _ _ ho v _ hs hx v' w' hr (h v' w' (by rw [recCs_app]; exact h2) (own_recsA hown h2 h3 hB hg))
set_option maxHeartbeats 4000000 in
set_option maxRecDepth 100000 in
theorem concat_any (Aa An Ax : Option Addr) (na nn nx ca cn cx bk B : Nat) (Za Zn Zx : List RecZ) (w : World) (hbk : w.heap[bk]? = some (.cells #[.slice Aa na ca, .slice An nn cn, .slice Ax nx cx] 24 (0, 0))) (hB : B ≤ w.heap.size)
    (ha : Hid (CellsAt w B Aa (recCs Za) ∧ Za.length = na ∧ (Aa = none → na = 0 ∧ ca = 0) ∧ ∀ u ∈ recCs Za, u.oneCell' = true))
    (hn : Hid (CellsAt w B An (recCs Zn) ∧ Zn.length = nn ∧ (An = none → nn = 0 ∧ cn = 0) ∧ ∀ u ∈ recCs Zn, u.oneCell' = true))
    (hx : Hid (CellsAt w B Ax (recCs Zx) ∧ Zx.length = nx ∧ (Ax = none → nx = 0 ∧ cx = 0) ∧ ∀ u ∈ recCs Zx, u.oneCell' = true)) (h1 : na ≤ 100000) (h2 : nn ≤ 100000) (h3 : nx ≤ 100000) :
    Calls Try.prog 73 #[.slice (some ⟨bk, 0, none⟩) 3 3] w fun e w' => ∃ v, e = .returned v ∧ w'.ownsRow w.heap.size 60 7 v (na + nn + nx) (recCs (Za ++ Zn ++ Zx)) ∧ Below w.heap.size w w' := by
  have hbl : bk < w.heap.size := (Array.getElem?_eq_some_iff.1 hbk).1
  have k0 := cell_of_row _ _ 0 _ _ _ hbk
  have k1 := cell_of_row _ _ 1 _ _ _ hbk
  have k2 := cell_of_row _ _ 2 _ _ _ hbk
  have HBK := Lib.hid hbk
  obtain ⟨g, hg⟩ : ∃ g, w.heap.size = g := ⟨_, rfl⟩
  have HG := Lib.hid hg
  have HGN := Lib.hid (grow_nil (na + nn + nx) w (by omega))
  obtain ⟨Z2, hZ2⟩ : ∃ Z, Za ++ Zn = Z := ⟨_, rfl⟩
  obtain ⟨Z3, hZ3⟩ : ∃ Z, Z2 ++ Zx = Z := ⟨_, rfl⟩
  obtain ⟨m2, hm2⟩ : ∃ m, na + nn = m := ⟨_, rfl⟩
  obtain ⟨m3, hm3⟩ : ∃ m, m2 + nx = m := ⟨_, rfl⟩
  have HZ2 := Lib.hid hZ2
  have HZ3 := Lib.hid hZ3
  have HZ4 : Hid (Za ++ Zn ++ Zx = Z3) := by show _ = _; rw [hZ2, hZ3]
  have HM2 := Lib.hid hm2
  have HM3 := Lib.hid hm3
  have HM4 : Hid (na + nn + nx = m3) := by show _ = _; omega
  have hcp : m2 + nx ≤ 1000000 ∧ na + nn ≤ 1000000 := by omega
  rw [HZ4.out, HM4.out]
  rw [HM4.out] at HGN
  clear hZ2 hZ3 hm2 hm3
  rw [hg] at hB hbl HGN ⊢
  clear hbk hg
  go_enter Try.func73, Try.ntmps73
  go_wp2_with fail
  go_loop [3, 11] (fun z i => ∃ k m : Nat, i = .int .i64 k ∧ z = .int .i64 m ∧ ((k = 0 ∧ m = 0) ∨ (k = 1 ∧ na = m) ∨ (k = 2 ∧ m2 = m) ∨ (k = 3 ∧ m3 = m))) (fun _ i => 3 - (intOf i).toNat)
  case atStart => exact ⟨0, 0, rfl, rfl, .inl ⟨rfl, rfl⟩⟩
  case round =>
    obtain ⟨k, m, rfl, rfl, hk⟩ := hrel
    rcases hk with ⟨rfl, rfl⟩ | ⟨rfl, rfl⟩ | ⟨rfl, rfl⟩ | ⟨rfl, rfl⟩
    · go_wp2_with fail
      go_round
      case rel => exact ⟨1, na, by go_num, by go_num, .inr (.inl ⟨rfl, rfl⟩)⟩
      case measure => simp [intOf]
    · go_wp2_with fail
      go_round
      case rel => exact ⟨2, m2, by go_num, by rw [← HM2.out]; go_num, .inr (.inr (.inl ⟨rfl, rfl⟩))⟩
      case measure => simp [intOf]
    · go_wp2_with fail
      go_round
      case rel => exact ⟨3, m3, by go_num, by rw [← HM3.out]; go_num, .inr (.inr (.inr ⟨rfl, rfl⟩))⟩
      case measure => simp [intOf]
    · go_wp2_with fail
      refine HGN.out.mono ?_
      rintro e w1 ⟨v1, rfl, hO, hBB⟩
      have HO := Lib.hid hO
      have HB1 := Lib.hid hBB
      clear hO hBB
      go_wp2_with fail
      go_loopw [6, 27] (fun v i wr => ∃ (k m : Nat) (Z : List RecZ), i = .int .i64 k ∧ ((k = 0 ∧ m = 0 ∧ Z = []) ∨ (k = 1 ∧ na = m ∧ Za = Z) ∨ (k = 2 ∧ m2 = m ∧ Z2 = Z) ∨ (k = 3 ∧ m3 = m ∧ Z3 = Z)) ∧ Hid (wr.ownsRow g 60 7 v m (recCs Z)) ∧ Hid (Below g w wr)) (fun _ i _ => 3 - (intOf i).toNat)
      case atStart => exact ⟨0, 0, [], rfl, .inl ⟨rfl, rfl, rfl⟩, HO, HB1⟩
      case round =>
        obtain ⟨k, m, Z, rfl, hk, hO, hW⟩ := hrel
        have HGR : Hid (g ≤ wr.heap.size) := by have := hW.out.size; rw [HG.out] at this; exact this
        have q0 : wr.cell? ⟨bk, 0, none⟩ = some (.slice Aa na ca) := (hW.out.cell (p := ⟨bk, 0, none⟩) hbl).trans k0
        have q1 : wr.cell? ⟨bk, 1, none⟩ = some (.slice An nn cn) := (hW.out.cell (p := ⟨bk, 1, none⟩) hbl).trans k1
        have q2 : wr.cell? ⟨bk, 2, none⟩ = some (.slice Ax nx cx) := (hW.out.cell (p := ⟨bk, 2, none⟩) hbl).trans k2
        rcases hk with ⟨rfl, rfl, rfl⟩ | ⟨rfl, rfl, rfl⟩ | ⟨rfl, rfl, rfl⟩ | ⟨rfl, rfl, rfl⟩
        · go_wp2_with (at_builtin; refine wpList_append_recsA rfl _ _ rfl g _ 0 [] rfl hO.out B Aa na ca Za rfl ha.out.2.1 ha.out.2.2.1 (ha.out.1.on (hW.out.mono hB) (Nat.le_refl _)) ha.out.2.2.2 (by omega) HGR.out w hW.out Za rfl na (Nat.zero_add _) ?_)
          intro v2 w2 hown hbel
          have E1 := Lib.hid hown
          have E2 := Lib.hid hbel
          clear hown hbel hO hW q0 q1 q2
          go_wp2_with fail
          go_roundw
          case rel => exact ⟨1, _, _, by go_num, .inr (.inl ⟨rfl, rfl, rfl⟩), E1, E2⟩
          case measure => simp [intOf]
        · go_wp2_with (at_builtin; refine wpList_append_recsA rfl _ _ rfl g _ na Za rfl hO.out B An nn cn Zn rfl hn.out.2.1 hn.out.2.2.1 (hn.out.1.on (hW.out.mono hB) (Nat.le_refl _)) hn.out.2.2.2 hcp.2 HGR.out w hW.out Z2 HZ2 m2 HM2.out ?_)
          intro v2 w2 hown hbel
          have E1 := Lib.hid hown
          have E2 := Lib.hid hbel
          clear hown hbel hO hW q0 q1 q2
          go_wp2_with fail
          go_roundw
          case rel => exact ⟨2, _, _, by go_num, .inr (.inr (.inl ⟨rfl, rfl, rfl⟩)), E1, E2⟩
          case measure => simp [intOf]
        · go_wp2_with (at_builtin; refine wpList_append_recsA rfl _ _ rfl g _ m2 Z2 rfl hO.out B Ax nx cx Zx rfl hx.out.2.1 hx.out.2.2.1 (hx.out.1.on (hW.out.mono hB) (Nat.le_refl _)) hx.out.2.2.2 hcp.1 HGR.out w hW.out Z3 HZ3 m3 HM3.out ?_)
          intro v2 w2 hown hbel
          have E1 := Lib.hid hown
          have E2 := Lib.hid hbel
          clear hown hbel hO hW q0 q1 q2
          go_wp2_with fail
          go_roundw
          case rel => exact ⟨3, _, _, by go_num, .inr (.inr (.inr ⟨rfl, rfl, rfl⟩)), E1, E2⟩
          case measure => simp [intOf]
        · go_wp2_with fail
          go_ret
          exact ⟨_, rfl, hO.out, hW.out⟩
end Go.Proofs.Ytpmmjmnleoicjaa

/- The contracts of dnswrite's records and Check. For messages that can be gone through. -/
namespace Go.Proofs.Ytpmmjmnleoicjaa
open Go.RowKit Bytes MsgMath NameMath RecMath WrMath

/-- A message that can be gone through. -/
structure FewM (M : Msg) : Prop where
  id : M.id ≤ 65535
  flags : M.flags ≤ 65535
  nq : M.qs.length ≤ 1000
  na : M.an.length ≤ 1000
  nn : M.ns.length ≤ 1000
  nx : M.ad.length ≤ 1000
  qs : ∀ q ∈ M.qs, q.name.length ≤ maxLen ∧ q.kind ≤ 65535 ∧ q.cls ≤ 65535
  recs : (∀ q ∈ M.qs, isN q.name = true) → ∀ R ∈ recsM M, Small R ∧ R.kind ≤ 65535 ∧ R.cls ≤ 65535 ∧ R.ttl ≤ 4294967295
/-- A message as a call is handed it. -/
structure MsgV (w : World) (B : Nat) (M : Msg) (Aq Aa An Ax : Option Addr) (nq na nn nx ca cn cx : Nat) (Za Zn Zx : List RecZ) : Prop where
  at_ : MsgAt w B M Aq Aa An Ax Za Zn Zx
  eq : M.qs.length = nq
  ea : M.an.length = na
  en : M.ns.length = nn
  ex : M.ad.length = nx
  ha : Aa = none → ca = 0
  hn : An = none → cn = 0
  hx : Ax = none → cx = 0
theorem MsgV.on {w w' : World} {B B' : Nat} {M : Msg} {Aq Aa An Ax : Option Addr} {nq na nn nx ca cn cx : Nat} {Za Zn Zx : List RecZ} (h : MsgV w B M Aq Aa An Ax nq na nn nx ca cn cx Za Zn Zx) (hb : Below B w w') (hB : B ≤ B') : MsgV w' B' M Aq Aa An Ax nq na nn nx ca cn cx Za Zn Zx :=
  ⟨h.at_.on hb hB, h.eq, h.ea, h.en, h.ex, h.ha, h.hn, h.hx⟩
theorem nil_cells {w : World} {B : Nat} {A : Option Addr} {Z : List RecZ} {n c : Nat} (h : CellsAt w B A (recCs Z)) (hn : Z.length = n) (hc : A = none → c = 0) : A = none → n = 0 ∧ c = 0 := fun e => by
  refine ⟨?_, hc e⟩
  rcases h with h | ⟨b, off, e2, _⟩
  · have := congrArg List.length h
    rw [recCs_len, List.length_nil] at this
    omega
  · rw [e] at e2; cases e2
theorem MsgV.rows {w : World} {B : Nat} {M : Msg} {Aq Aa An Ax : Option Addr} {nq na nn nx ca cn cx : Nat} {Za Zn Zx : List RecZ} (h : MsgV w B M Aq Aa An Ax nq na nn nx ca cn cx Za Zn Zx) :
    (CellsAt w B Aa (recCs Za) ∧ Za.length = na ∧ (Aa = none → na = 0 ∧ ca = 0) ∧ ∀ u ∈ recCs Za, u.oneCell' = true) ∧ (CellsAt w B An (recCs Zn) ∧ Zn.length = nn ∧ (An = none → nn = 0 ∧ cn = 0) ∧ ∀ u ∈ recCs Zn, u.oneCell' = true) ∧ (CellsAt w B Ax (recCs Zx) ∧ Zx.length = nx ∧ (Ax = none → nx = 0 ∧ cx = 0) ∧ ∀ u ∈ recCs Zx, u.oneCell' = true) := by
  have la : Za.length = na := by rw [← h.ea, ← h.at_.ea, List.length_map]
  have ln : Zn.length = nn := by rw [← h.en, ← h.at_.en, List.length_map]
  have lx : Zx.length = nx := by rw [← h.ex, ← h.at_.ex, List.length_map]
  exact ⟨⟨h.at_.a, la, nil_cells h.at_.a la h.ha, h.at_.za.one⟩, ⟨h.at_.n, ln, nil_cells h.at_.n ln h.hn, h.at_.zn.one⟩, ⟨h.at_.x, lx, nil_cells h.at_.x lx h.hx, h.at_.zx.one⟩⟩
theorem MsgV.all {w : World} {B : Nat} {M : Msg} {Aq Aa An Ax : Option Addr} {nq na nn nx ca cn cx : Nat} {Za Zn Zx : List RecZ} (h : MsgV w B M Aq Aa An Ax nq na nn nx ca cn cx Za Zn Zx) : (Za ++ Zn ++ Zx).map (·.1) = recsM M ∧ ZAt w B (Za ++ Zn ++ Zx) ∧ (Za ++ Zn ++ Zx).length = na + nn + nx := by
  refine ⟨by rw [List.map_append, List.map_append, h.at_.ea, h.at_.en, h.at_.ex]; rfl, (h.at_.za.app h.at_.zn).app h.at_.zx, ?_⟩
  rw [List.length_append, List.length_append, h.rows.1.2.1, h.rows.2.1.2.1, h.rows.2.2.2.1]
abbrev msgA (id fl : Nat) (Aq : Option Addr) (nq cq : Nat) (Aa : Option Addr) (na ca : Nat) (An : Option Addr) (nn cn : Nat) (Ax : Option Addr) (nx cx : Nat) : Array Value := #[.int .u16 id, .int .u16 fl, .slice Aq nq cq, .slice Aa na ca, .slice An nn cn, .slice Ax nx cx]
set_option maxHeartbeats 2000000 in
set_option maxRecDepth 100000 in
theorem records_w (M : Msg) (id fl : Nat) (Aq Aa An Ax : Option Addr) (nq na nn nx cq ca cn cx B : Nat) (Za Zn Zx : List RecZ) (w : World) (hv : Hid (MsgV w B M Aq Aa An Ax nq na nn nx ca cn cx Za Zn Zx)) (hB : B ≤ w.heap.size) (hf : Hid (FewM M)) :
    Calls Try.prog 50 #[.agg (msgA id fl Aq nq cq Aa na ca An nn cn Ax nx cx)] w fun e w' => ∃ v, e = .returned v ∧ w'.ownsRow w.heap.size 60 7 v (na + nn + nx) (recCs (Za ++ Zn ++ Zx)) ∧ Below w.heap.size w w' := by
  obtain ⟨wa, hwa⟩ : ∃ wa, w.alloc (.cells (msgA id fl Aq nq cq Aa na ca An nn cn Ax nx cx) 26) = wa := ⟨_, rfl⟩
  obtain ⟨wb, hwb⟩ : ∃ wb, wa.alloc (.cells #[.slice Aa na ca, .slice An nn cn, .slice Ax nx cx] 24) = wb := ⟨_, rfl⟩
  have hba : Below w.heap.size w wa := by rw [← hwa]; exact (Below.refl _ _).alloc (Nat.le_refl _) _
  have hbb : Below w.heap.size w wb := by rw [← hwb]; exact hba.alloc hba.size _
  have hsz : wa.heap.size = w.heap.size + 1 := by rw [← hwa]; simp
  have hsb : wb.heap.size = w.heap.size + 2 := by rw [← hwb]; simp [hsz]
  have hbk : wb.heap[w.heap.size + 1]? = some (.cells #[.slice Aa na ca, .slice An nn cn, .slice Ax nx cx] 24 (0, 0)) := by rw [← hwb, ← hsz]; exact heap_alloc_new wa _
  have hr := (hv.out.on (hbb.mono hB) (Nat.le_refl _)).rows
  have hc := concat_any Aa An Ax na nn nx ca cn cx (w.heap.size + 1) B Za Zn Zx wb hbk (by omega) hr.1 hr.2.1 hr.2.2 (by have := hf.out.na; have := hv.out.ea; omega) (by have := hf.out.nn; have := hv.out.en; omega) (by have := hf.out.nx; have := hv.out.ex; omega)
  have HC := Lib.hid hc
  have HBB := Lib.hid hbb
  have HSB := Lib.hid hsb
  have hbx : wa.heap[w.heap.size]? = some (.cells (msgA id fl Aq nq cq Aa na ca An nn cn Ax nx cx) 26 (0, 0)) := by rw [← hwa]; exact heap_alloc_new w _
  have k3 := cell_of_row _ _ 3 _ _ _ hbx
  have k4 := cell_of_row _ _ 4 _ _ _ hbx
  have k5 := cell_of_row _ _ 5 _ _ _ hbx
  clear hc hr hbk hba hbb hsb hbx
  go_enter Try.func50, Try.ntmps50
  go_wp2_with fail
  refine HC.out.mono ?_
  rintro e w2 ⟨v, rfl, hO, hB2⟩
  have H2 : Hid (w2.ownsRow w.heap.size 60 7 v (na + nn + nx) (recCs (Za ++ Zn ++ Zx)) ∧ Below w.heap.size w w2) := ⟨row_low hO (by rw [HSB.out]; omega), HBB.out.trans (hB2.mono (by rw [HSB.out]; omega))⟩
  clear hO hB2
  go_wp2_with fail
  go_ret
  exact ⟨_, rfl, H2.out.1, H2.out.2⟩
/-- Of the first questions each has a name that is one. -/
theorem qs_any {L : List Qn} {k : Nat} (hk : k < L.length) (h : badName (L[k]).name = true) : L.any (fun q => badName q.name) = true := List.any_eq_true.2 ⟨_, List.getElem_mem hk, h⟩
theorem qs_all {L : List Qn} (h : ∀ j (hj : j < L.length), isN (L[j]).name = true) : L.any (fun q => badName q.name) = false := by
  rw [List.any_eq_false]
  intro q hq
  obtain ⟨j, hj, rfl⟩ := List.getElem_of_mem hq
  rw [badName, h j hj]
  decide
theorem get_map {Z : List RecZ} {L : List Rec} (h : Z.map (·.1) = L) {k : Nat} (hk : k < Z.length) : ∃ hk' : k < L.length, (Z[k]).1 = L[k]'hk' := by
  subst h
  exact ⟨by rw [List.length_map]; exact hk, by rw [List.getElem_map]⟩
set_option maxRecDepth 100000 in
theorem is_w (s : ByteArray) (q : Bool) (w : World) (hs : s.size ≤ maxLen) (hq : Hid (isN s.data.toList = q)) : Calls Try.prog 49 #[.string s] w fun e w' => e = .returned (.bool q) ∧ w = w' := by
  by_cases h : s.size ≤ 1000000
  · exact is_is s q w h hq
  · have hl : (255 : Int) < s.size := by omega
    have hs2 : (s.size : Int) ≤ 9223372036854775807 := by unfold maxLen at hs; omega
    obtain rfl : q = false := by rw [← hq.out]; exact isN_long (by rw [← Lib.size_eq]; omega)
    clear hq hs h
    go_enter Try.func49, Try.ntmps49
    go_wp2_with fail
    go_ret
    exact ⟨rfl, rfl⟩
set_option maxHeartbeats 4000000 in
set_option maxRecDepth 100000 in
theorem check_w (M : Msg) (id fl : Nat) (Aq Aa An Ax : Option Addr) (nq na nn nx cq ca cn cx B E : Nat) (Za Zn Zx : List RecZ) (w : World) (hv : Hid (MsgV w B M Aq Aa An Ax nq na nn nx ca cn cx Za Zn Zx)) (hB : B ≤ w.heap.size) (hf : Hid (FewM M)) (hE : Hid (checkM M = E)) :
    Calls Try.prog 17 #[.agg (msgA id fl Aq nq cq Aa na ca An nn cn Ax nx cx)] w fun e w' => e = .returned (.int .i64 E) ∧ Below w.heap.size w w' := by
  obtain ⟨g, hg⟩ : ∃ g, w.heap.size = g := ⟨_, rfl⟩
  obtain ⟨wa, hwa⟩ : ∃ wa, w.alloc (.cells (msgA id fl Aq nq cq Aa na ca An nn cn Ax nx cx) 26) = wa := ⟨_, rfl⟩
  have hba : Below g w wa := by rw [← hwa, ← hg]; exact (Below.refl _ _).alloc (Nat.le_refl _) _
  have hbx : wa.heap[g]? = some (.cells (msgA id fl Aq nq cq Aa na ca An nn cn Ax nx cx) 26 (0, 0)) := by rw [← hwa, ← hg]; exact heap_alloc_new w _
  have hsa : wa.heap.size = g + 1 := by rw [← hwa, ← hg]; simp
  have hva := hv.out.on (hba.mono (by omega)) (Nat.le_refl _)
  have HG := Lib.hid hg
  have HBA := Lib.hid hba
  have HVA := Lib.hid hva
  have HSA := Lib.hid hsa
  have HRC := Lib.hid (fun W (hW : Below (g + 1) wa W) (hs : g + 1 ≤ W.heap.size) => records_w M id fl Aq Aa An Ax nq na nn nx cq ca cn cx B Za Zn Zx W (hva.on (hW.mono (by omega)) (Nat.le_refl _)) (by omega) hf)
  have hcnt : nq ≤ 1000 ∧ na ≤ 1000 ∧ nn ≤ 1000 ∧ nx ≤ 1000 := by
    have := hf.out.nq; have := hf.out.na; have := hf.out.nn; have := hf.out.nx
    have := hv.out.eq; have := hv.out.ea; have := hv.out.en; have := hv.out.ex
    omega
  have hsumE : 256 < M.qs.length + M.an.length + M.ns.length + M.ad.length ↔ 256 < nq + na + nn + nx := by rw [hv.out.eq, hv.out.ea, hv.out.en, hv.out.ex]
  have HBX := Lib.hid hbx
  have k0 := cell_of_row _ _ 0 _ _ _ hbx
  have k1 := cell_of_row _ _ 1 _ _ _ hbx
  have k2 := cell_of_row _ _ 2 _ _ _ hbx
  have k3 := cell_of_row _ _ 3 _ _ _ hbx
  have k4 := cell_of_row _ _ 4 _ _ _ hbx
  have k5 := cell_of_row _ _ 5 _ _ _ hbx
  rw [hg]
  clear hbx hba hva hsa
  by_cases hsum : 256 < nq + na + nn + nx
  · have hE6 : E = 6 := by rw [← hE.out]; unfold checkM; rw [if_pos (hsumE.2 hsum)]
    subst hE6
    have hsi : (256 : Int) < (nq : Int) + na + nn + nx := by omega
    clear hsumE
    go_enter Try.func17, Try.ntmps17
    go_wp2_with fail
    go_ret
    exact ⟨rfl, HBA.out⟩
  have hE2 : Hid ((if M.qs.any (fun q => badName q.name) then 40 else firstE (recsM M)) = E) := by show _ = _; rw [← hE.out]; unfold checkM; rw [if_neg (fun h => hsum (hsumE.1 h))]
  have hsi : ¬ ((256 : Int) < (nq : Int) + na + nn + nx) := by omega
  clear hsumE hsum
  go_enter Try.func17, Try.ntmps17
  go_wp2_with fail
  go_loopw [27] (fun i wr => ∃ j : Nat, i = .int .i64 j ∧ j ≤ nq ∧ Hid (Below (g + 1) wa wr) ∧ Hid (∀ i (hi : i < M.qs.length), i < j → isN (M.qs[i]).name = true)) (fun i _ => nq - (intOf i).toNat)
  case atStart => exact ⟨0, rfl, Nat.zero_le _, by (show Below _ _ _; exact Below.refl _ _), fun i hi h => absurd h (Nat.not_lt_zero _)⟩
  case round =>
    obtain ⟨j, rfl, hj, hW, hN⟩ := hrel
    have hgl : g < g + 1 := Nat.lt_succ_self _
    have q2 := (hW.out.cell (p := ⟨g, 2, none⟩) hgl).trans k2
    have HGR : Hid (g + 1 ≤ wr.heap.size) := by have := hW.out.size; rw [HSA.out] at this; exact this
    by_cases hlt : j < nq
    · have hjl : j < M.qs.length := by rw [hv.out.eq]; exact hlt
      obtain ⟨b, off, rfl, hbl, p0, p1, p2⟩ := (HVA.out.at_.q.on (hW.out.mono (by omega)) (Nat.le_refl _)).qn hjl
      have hqn := hf.out.qs _ (List.getElem_mem hjl)
      obtain ⟨QQ, hQQ⟩ : ∃ Q, M.qs[j]'hjl = Q := ⟨_, rfl⟩
      rw [hQQ] at p0 p1 p2 hqn
      obtain ⟨x, hx⟩ : ∃ x, mk QQ.name = x := ⟨_, rfl⟩
      obtain ⟨bb, hbb⟩ : ∃ q, isN QQ.name = q := ⟨_, rfl⟩
      have hxs : x.size ≤ maxLen := by rw [← hx, mk_size]; exact hqn.1
      have hxN : isN x.data.toList = bb := by rw [← hx, mk_list]; exact hbb
      have HIS := Lib.hid (fun w => is_w x bb w hxs hxN)
      rw [hx] at p0
      generalize QQ.kind = qk at *
      generalize QQ.cls = qc at *
      cases bb with
      | true =>
        have HN2 : Hid (∀ i (hi : i < M.qs.length), i < j + 1 → isN (M.qs[i]).name = true) := fun i hi h => by
          by_cases h2 : i < j
          · exact hN.out i hi h2
          · obtain rfl : i = j := by omega
            rw [hQQ]; exact hbb
        clear hx hbb hxN hQQ hqn hN hjl
        go_wp2_with fail
        refine (HIS.out _).mono ?_
        rintro e w2 ⟨rfl, rfl⟩
        have HW2 : Hid (Below (g + 1) wa (wr.alloc (.cells #[.string x, .int .u16 qk, .int .u16 qc] 62))) := hW.out.alloc HGR.out _
        clear hW p0 p1 p2 q2
        go_wp2_with fail
        go_roundw
        case rel => exact ⟨j + 1, by go_num, by omega, HW2, HN2⟩
        case measure => simp [intOf]; omega
      | false =>
        have hE40 : Hid (E = 40) := by
          show _ = _
          rw [← hE2.out, if_pos (qs_any hjl (by rw [hQQ, badName, hbb]; rfl))]
        clear hx hbb hxN hQQ hqn hN hjl
        go_wp2_with fail
        refine (HIS.out _).mono ?_
        rintro e w2 ⟨rfl, rfl⟩
        have HW2 : Hid (Below g w (wr.alloc (.cells #[.string x, .int .u16 qk, .int .u16 qc] 62))) := HBA.out.trans ((hW.out.alloc HGR.out _).mono (Nat.le_succ _))
        clear hW p0 p1 p2 q2
        go_wp2_with fail
        go_ret
        rw [hE40.out]
        exact ⟨rfl, HW2.out⟩
    · have HQA : Hid (∀ q ∈ M.qs, isN q.name = true) := fun q hq => by
        obtain ⟨i, hi, rfl⟩ := List.getElem_of_mem hq
        exact hN.out i hi (by rw [hv.out.eq] at hi; omega)
      have hE3 : Hid (firstE (recsM M) = E) := by
        show _ = _
        rw [← hE2.out, qs_all (fun i hi => hN.out i hi (by rw [hv.out.eq] at hi; omega))]
        rfl
      have q0 := (hW.out.cell (p := ⟨g, 0, none⟩) hgl).trans k0
      have q1 := (hW.out.cell (p := ⟨g, 1, none⟩) hgl).trans k1
      have q3 := (hW.out.cell (p := ⟨g, 3, none⟩) hgl).trans k3
      have q4 := (hW.out.cell (p := ⟨g, 4, none⟩) hgl).trans k4
      have q5 := (hW.out.cell (p := ⟨g, 5, none⟩) hgl).trans k5
      have hjn : ¬ ((j : Int) < (nq : Int)) := by omega
      clear hlt hN hE2
      go_wp2_with fail
      refine (HRC.out wr hW.out HGR.out).mono ?_
      rintro e w2 ⟨v2, rfl, hO, hB2⟩
      have hall := HVA.out.all
      obtain ⟨ZZ, hZZ⟩ : ∃ Z, Za ++ Zn ++ Zx = Z := ⟨_, rfl⟩
      obtain ⟨nz, hnz⟩ : ∃ n, na + nn + nx = n := ⟨_, rfl⟩
      rw [hZZ] at hall hO
      rw [hnz] at hall hO
      obtain ⟨Ar, cr, rfl, hcell⟩ := cells_own hO
      have HCE := Lib.hid hcell
      have HALL := Lib.hid hall
      have HW2 : Hid (Below (g + 1) wa w2) := hW.out.trans (hB2.mono HGR.out)
      have hnz2 : nz ≤ 3000 := by omega
      obtain ⟨g2, hg2⟩ : ∃ n, w2.heap.size = n := ⟨_, rfl⟩
      have HG2 := Lib.hid hg2
      have HGG2 : Hid (g + 1 ≤ g2) := by have := HW2.out.size; rw [HSA.out, hg2] at this; exact this
      rw [hg2] at HCE
      clear hO hB2 hW hall hcell q0 q1 q2 q3 q4 q5 hZZ hnz hg2
      go_wp2_with fail
      go_loopw [39] (fun i ws => ∃ k : Nat, i = .int .i64 k ∧ k ≤ nz ∧ Hid (Below g2 w2 ws) ∧ Hid (firstE ((recsM M).drop k) = E)) (fun i _ => nz - (intOf i).toNat)
      case atStart => exact ⟨0, rfl, Nat.zero_le _, Below.refl _ _, hE3⟩
      case round =>
        obtain ⟨k, rfl, hk, hV, hF⟩ := hrel
        have HGV : Hid (g2 ≤ wr.heap.size) := by have := hV.out.size; rw [HG2.out] at this; exact this
        by_cases hlk : k < nz
        · have hkz : k < ZZ.length := by rw [HALL.out.2.2]; exact hlk
          have hz1 : ZAt wr B ZZ := HALL.out.2.1.on ((HW2.out.mono (by have := hB; omega)).trans (hV.out.mono (by have := HGG2.out; omega))) (Nat.le_refl _)
          obtain ⟨br, off, B1, e1, B2, e2, B3, e3, rfl, hbr, hat, p0, p1, p2, p3, p4, p5, p6⟩ := recs_get (HCE.out.on hV.out (Nat.le_refl _)) (hz1.on (Below.refl _ _) (show B ≤ g2 by have := HGG2.out; omega)) hkz
          obtain ⟨hkM, hkR⟩ := get_map HALL.out.1 hkz
          have hsm := (hf.out.recs HQA.out _ (List.getElem_mem hkM)).1
          have hFk := hF.out
          rw [firstE_drop hkM] at hFk
          rw [← hkR] at hsm hFk
          obtain ⟨RR, hRR⟩ : ∃ R, (ZZ[k]'hkz).1 = R := ⟨_, rfl⟩
          rw [hRR] at hat p0 p1 p2 p3 p4 p5 p6 hsm hFk
          obtain ⟨xn, hxn⟩ : ∃ x, mk RR.name = x := ⟨_, rfl⟩
          obtain ⟨rk, hrk⟩ : ∃ n, RR.kind = n := ⟨_, rfl⟩
          obtain ⟨rc, hrc⟩ : ∃ n, RR.cls = n := ⟨_, rfl⟩
          obtain ⟨rt, hrt⟩ : ∃ n, RR.ttl = n := ⟨_, rfl⟩
          obtain ⟨l1, hl1⟩ : ∃ n, RR.names.length = n := ⟨_, rfl⟩
          obtain ⟨l2, hl2⟩ : ∃ n, RR.nums.length = n := ⟨_, rfl⟩
          obtain ⟨l3, hl3⟩ : ∃ n, RR.texts.length = n := ⟨_, rfl⟩
          obtain ⟨ck, hck⟩ : ∃ n, checkE RR = n := ⟨_, rfl⟩
          rw [hxn] at p0
          rw [hrk] at p1
          rw [hrc] at p2
          rw [hrt] at p3
          rw [hl1] at p4
          rw [hl2] at p5
          rw [hl3] at p6
          rw [hxn, hrk, hrc, hrt, hl1, hl2, hl3] at hat
          rw [hck] at hFk
          have HCK := Lib.hid (fun W (hW : Below wr.heap.size wr W) => check_is RR xn rk rc rt B1 l1 e1 B2 l2 e2 B3 l3 e3 ck W (hat.on (hW.mono HGV.out) (Nat.le_trans HGV.out hW.size)) hsm hck)
          have HB9 : Hid (Below wr.heap.size wr (wr.alloc (.cells #[.string xn, .int .u16 rk, .int .u16 rc, .int .u32 rt, .slice B1 l1 e1, .slice B2 l2 e2, .slice B3 l3 e3] 60))) := (Below.refl _ _).alloc (Nat.le_refl _) _
          clear hRR hxn hrk hrc hrt hl1 hl2 hl3 hat hsm hkR hkM hck hz1
          by_cases hc0 : ck = 0
          · subst hc0
            rw [if_pos rfl] at hFk
            have HFK := Lib.hid hFk
            clear hFk
            go_wp2_with fail
            refine (HCK.out _ HB9.out).mono ?_
            rintro e w5 ⟨rfl, hB5⟩
            have HV5 : Hid (Below g2 w2 w5) := hV.out.trans ((HB9.out.trans (hB5.mono HB9.out.size)).mono HGV.out)
            clear hB5 hV HCK p0 p1 p2 p3 p4 p5 p6 hF HB9
            go_wp2_with fail
            go_roundw
            case rel => exact ⟨k + 1, by go_num, by omega, HV5, HFK⟩
            case measure => simp [intOf]; omega
          · rw [if_neg hc0] at hFk
            subst hFk
            have hcz : ((ck : Int) != 0) = true := bne_iff_ne.2 (by omega)
            clear hF
            go_wp2_with fail
            refine (HCK.out _ HB9.out).mono ?_
            rintro e w5 ⟨rfl, hB5⟩
            have HV5 : Hid (Below g w w5) := HBA.out.trans ((HW2.out.mono (Nat.le_succ _)).trans ((hV.out.trans ((HB9.out.trans (hB5.mono HB9.out.size)).mono HGV.out)).mono (by have := HGG2.out; omega)))
            clear hB5 hV HCK p0 p1 p2 p3 p4 p5 p6 HB9
            go_wp2_with fail
            go_ret
            exact ⟨rfl, HV5.out⟩
        · have hE0 : Hid (E = 0) := by
            show _ = _
            have hl := HALL.out.1
            have hl2 : (recsM M).length = nz := by rw [← hl, List.length_map]; exact HALL.out.2.2
            rw [← hF.out, List.drop_eq_nil_of_le (by omega)]
            rfl
          have HV5 : Hid (Below g w wr) := HBA.out.trans ((HW2.out.mono (Nat.le_succ _)).trans (hV.out.mono (by have := HGG2.out; omega)))
          have hkn : ¬ ((k : Int) < (nz : Int)) := by omega
          clear hlk hF hV
          go_wp2_with fail
          go_ret
          rw [hE0.out]
          exact ⟨rfl, HV5.out⟩
end Go.Proofs.Ytpmmjmnleoicjaa

/- How long what is written is; what stays ahead. No program, no condition. -/
namespace Go.Proofs.Ytpmmjmnleoicjaa.WrMath
open Go Bytes NameMath NmMath RecMath MsgMath

/-- What is known lies where pointers lead, and is no more than the bytes. -/
def Inv (s : Wr) : Prop := (∀ y ∈ s.2, y.2 < 16384) ∧ s.2.length ≤ s.1.length
theorem learn_inv {out rest : List UInt8} {K : Known} {n : Nat} (h : Inv (out, K)) (hn : 1 ≤ n) (l : List UInt8) (hl : l.length = n) : Inv (out ++ l, learn out K rest) := by
  obtain ⟨h1, h2⟩ := h
  unfold learn
  split
  · next hlt =>
    refine ⟨fun y hy => ?_, ?_⟩
    · rcases List.mem_append.1 hy with hy | hy
      · exact h1 y hy
      · rw [List.mem_singleton] at hy; subst hy; exact hlt
    · simp only [List.length_append, List.length_singleton] at h2 ⊢; omega
  · refine ⟨h1, ?_⟩
    simp only [List.length_append] at h2 ⊢; omega
/-- More bytes, as many as 'most' at most; all else as it was. -/
structure Longer (s s' : Wr) (most : Nat) : Prop where
  inv : Inv s → Inv s'
  pre : ∃ l, s'.1 = s.1 ++ l ∧ l.length ≤ most
theorem Longer.refl (s : Wr) : Longer s s 0 := ⟨id, [], by simp, Nat.le_refl _⟩
theorem Longer.trans {s s' t : Wr} {a b : Nat} (h : Longer s s' a) (k : Longer s' t b) : Longer s t (a + b) := by
  obtain ⟨l, e, hl⟩ := h.pre
  obtain ⟨l', e', hl'⟩ := k.pre
  exact ⟨k.inv ∘ h.inv, l ++ l', by rw [e', e, List.append_assoc], by rw [List.length_append]; omega⟩
theorem Longer.len {s s' : Wr} {a : Nat} (h : Longer s s' a) : s.1.length ≤ s'.1.length ∧ s'.1.length ≤ s.1.length + a := by
  obtain ⟨l, e, hl⟩ := h.pre
  rw [e, List.length_append]
  omega
theorem Longer.mono {s s' : Wr} {a b : Nat} (h : Longer s s' a) (hab : a ≤ b) : Longer s s' b := by
  obtain ⟨l, e, hl⟩ := h.pre
  exact ⟨h.inv, l, e, by omega⟩
theorem put_longer (l : List UInt8) (s : Wr) : Longer s (s.1 ++ l, s.2) l.length := ⟨fun h => ⟨h.1, by simp only [List.length_append]; have := h.2; omega⟩, l, rfl, Nat.le_refl _⟩
theorem numW_longer (n size : Nat) (s : Wr) : Longer s (numW n size s) size := by have := put_longer (beTail n size) s; rwa [beTail_length] at this
theorem numsW_longer (size : Nat) (L : List Nat) (s : Wr) : Longer s (numsW size L s) (size * L.length) := by have := put_longer (numsL size L) s; rwa [numsL_len] at this
theorem rests_pos {l : List UInt8} (h : Rests l) : 1 ≤ l.length := by
  rcases rests_cases h with e | ⟨_, _, e, _⟩
  · rw [e]; decide
  · omega
theorem nameW_longer (n : List UInt8) (hn : Rests n) (s : Wr) : Longer s (nameW n s) n.length := by
  obtain ⟨out, K⟩ := s
  unfold nameW
  show Longer (out, K) (wName out K n) n.length
  fun_induction wName out K n with
  | case1 out K rest h =>
    have := put_longer [0] (out, K)
    exact this.mono (rests_pos hn)
  | case2 out K rest h p hf =>
    have := put_longer (beTail (49152 + p) 2) (out, K)
    refine this.mono ?_
    rw [beTail_length]
    rcases rests_cases hn with e | ⟨_, _, e, _⟩
    · rw [e] at h; exact absurd rfl h
    · have : 1 ≤ bt rest 0 := by omega
      omega
  | case3 out K rest h hf ih =>
    rcases rests_cases hn with e | ⟨_, _, e, e2⟩
    · rw [e] at h; exact absurd rfl h
    · have h1 := ih e2
      have hlen : (rest.take (1 + bt rest 0)).length = 1 + bt rest 0 := by rw [List.length_take]; omega
      obtain ⟨l, el, hl⟩ := h1.pre
      refine ⟨fun hi => h1.inv (learn_inv hi (by omega) _ hlen), rest.take (1 + bt rest 0) ++ l, by rw [el, List.append_assoc], ?_⟩
      rw [List.length_append, hlen]
      rw [List.length_drop] at hl
      omega
theorem Longer.of_eq {s s' t : Wr} {a : Nat} (h : Longer s t a) (e : t = s') : Longer s s' a := e ▸ h
/-- The names of a record that is right. -/
theorem right_names {R : Rec} (h : checkE R = 0) : Rests R.name ∧ R.name.length ≤ 255 ∧ ∀ k, k < R.names.length → Rests (R.names.getD k []) ∧ (R.names.getD k []).length ≤ 255 := by
  obtain ⟨h1, _, _⟩ := check_ok h
  have le : ∀ {l : List UInt8}, isN l = true → l.length ≤ 255 := fun h => by
    obtain ⟨L, hL⟩ := isN_some h
    exact (labels_some hL).2.2
  unfold namesB at h1
  rw [Bool.and_eq_true] at h1
  have h2 : isN R.name = true := by have := h1.1; simpa [badName] using this
  refine ⟨rests_of h2, le h2, fun k hk => ?_⟩
  have h3 : R.names.any badName = false := by simpa using h1.2
  have h4 := List.any_eq_false.1 h3 (R.names.getD k []) (by rw [List.getD_eq_getElem?_getD, List.getElem?_eq_getElem hk]; exact List.getElem_mem hk)
  have h5 : isN (R.names.getD k []) = true := by simpa [badName] using h4
  exact ⟨rests_of h5, le h5⟩
theorem right_counts {R : Rec} (h : checkE R = 0) : R.names.length = shA R.kind ∧ R.nums.length = shB R.kind ∧ bulk R.kind R.texts ≤ 65535 := by
  obtain ⟨_, h2, _⟩ := check_ok h
  obtain ⟨h3, _, _, h4⟩ := okB_cnt h2
  obtain ⟨h5, h6, _⟩ := cnt_of h3
  exact ⟨h5, h6, h4⟩
theorem plain_bound {R : Rec} (h : checkE R = 0) : (plainL R).length ≤ 300000 := by
  obtain ⟨_, h2, _⟩ := check_ok h
  obtain ⟨h3, _, _, h4⟩ := okB_cnt h2
  exact plain_len h3 h4 fun j hj => by have := ((right_names h).2.2 j hj).2; omega
theorem dataW_longer {R : Rec} (h : checkE R = 0) (s : Wr) : Longer s (dataW R s) (plainL R).length := by
  obtain ⟨_, _, hn⟩ := right_names h
  obtain ⟨c1, c2, _⟩ := right_counts h
  unfold dataW
  split
  · next hk =>
    have hA : R.names.length = 1 := by rw [c1]; unfold shA; rw [if_pos hk]
    have := nameW_longer _ (hn 0 (by omega)).1 s
    refine this.mono ?_
    have e : R.names.flatten = R.names.getD 0 [] := by
      match hN : R.names, hA with
      | [a], _ => simp
    rw [plainL_not (by omega), List.length_append, List.length_append, e]
    omega
  · split
    · next hk1 hk =>
      have hA : R.names.length = 2 := by rw [c1, hk]; rfl
      have e : R.names.flatten = R.names.getD 0 [] ++ R.names.getD 1 [] := by
        match hN : R.names, hA with
        | [a, b], _ => simp
      have := ((nameW_longer _ (hn 0 (by omega)).1 s).trans (nameW_longer _ (hn 1 (by omega)).1 _)).trans (numsW_longer 4 R.nums _)
      refine this.mono ?_
      rw [plainL_6 hk, List.length_append, List.length_append, e, List.length_append, numsL_len]
      omega
    · split
      · next hk1 hk2 hk =>
        have hA : R.names.length = 1 := by rw [c1, hk]; rfl
        have e : R.names.flatten = R.names.getD 0 [] := by
          match hN : R.names, hA with
          | [a], _ => simp
        have := (numsW_longer 2 R.nums s).trans (nameW_longer _ (hn 0 (by omega)).1 _)
        refine this.mono ?_
        rw [plainL_not (by omega), List.length_append, List.length_append, e, numsL_len]
        omega
      · have := put_longer (plainO R) s
        rw [plainO_ok h] at this ⊢
        exact this
theorem headW_longer {R : Rec} (h : checkE R = 0) (s : Wr) : Longer s (headW R s) (R.name.length + 8) :=
  (((nameW_longer _ (right_names h).1 s).trans (numW_longer _ _ _)).trans (numW_longer _ _ _)).trans (numW_longer _ _ _)
theorem fill_len {k : Nat} {out : List UInt8} (h : k + 2 ≤ out.length) : (fillW k out).length = out.length := by
  unfold fillW
  rw [List.length_append, List.length_append, List.length_take, List.length_drop, beTail_length]
  omega
/-- A record behind what is written: its head, the length of its data, its data. -/
theorem recW_parts {R : Rec} (h : checkE R = 0) (s : Wr) : ∃ l, l.length ≤ (plainL R).length ∧ dataW R (numW 0 2 (headW R s)) = ((numW 0 2 (headW R s)).1 ++ l, (dataW R (numW 0 2 (headW R s))).2) ∧ recW R s = ((headW R s).1 ++ (beTail l.length 2 ++ l), (dataW R (numW 0 2 (headW R s))).2) := by
  obtain ⟨l, e, hl⟩ := (dataW_longer h (numW 0 2 (headW R s))).pre
  refine ⟨l, hl, Prod.ext e rfl, ?_⟩
  unfold recW
  simp only
  rw [e]
  have e1 : (numW 0 2 (headW R s)).1 = (headW R s).1 ++ beTail 0 2 := rfl
  rw [e1]
  unfold fillW
  have hb : (beTail 0 2).length = 2 := beTail_length _ _
  have e2 : ((headW R s).1 ++ beTail 0 2 ++ l).take (headW R s).1.length = (headW R s).1 := by rw [List.append_assoc, List.take_left]
  have e3 : ((headW R s).1 ++ beTail 0 2 ++ l).drop ((headW R s).1.length + 2) = l := by
    have : (headW R s).1.length + 2 = ((headW R s).1 ++ beTail 0 2).length := by rw [List.length_append, hb]
    rw [this, List.drop_left]
  rw [e2, e3]
  have e4 : ((headW R s).1 ++ beTail 0 2 ++ l).length - ((headW R s).1.length + 2) = l.length := by rw [List.length_append, List.length_append, hb]; omega
  rw [e4, List.append_assoc]
theorem recW_longer {R : Rec} (h : checkE R = 0) (s : Wr) : Longer s (recW R s) (R.name.length + 10 + (plainL R).length) := by
  obtain ⟨l, hl, e1, e2⟩ := recW_parts h s
  have h1 := headW_longer h s
  have h2 := (numW_longer 0 2 (headW R s)).inv
  have h3 := (dataW_longer h (numW 0 2 (headW R s))).inv
  rw [e2]
  obtain ⟨a, ea, ha⟩ := h1.pre
  refine ⟨fun hi => ?_, a ++ (beTail l.length 2 ++ l), by simp only [ea, List.append_assoc], by rw [List.length_append, List.length_append, beTail_length]; omega⟩
  have h4 := h3 (h2 (h1.inv hi))
  refine ⟨h4.1, ?_⟩
  have h5 := h4.2
  rw [e1] at h5
  simp only [List.length_append, beTail_length] at h5 ⊢
  have e6 : (numW 0 2 (headW R s)).1.length = (headW R s).1.length + 2 := by show ((headW R s).1 ++ beTail 0 2).length = _; rw [List.length_append, beTail_length]
  omega
theorem qnW_longer {q : Qn} (h : isN q.name = true) (s : Wr) : Longer s (qnW q s) (q.name.length + 4) :=
  ((nameW_longer _ (rests_of h) s).trans (numW_longer _ _ _)).trans (numW_longer _ _ _)
theorem isN_le {l : List UInt8} (h : isN l = true) : l.length ≤ 255 := by
  obtain ⟨L, hL⟩ := isN_some h
  exact (labels_some hL).2.2
theorem start_inv (M : Msg) : Inv (startW M) ∧ (startW M).1.length = 12 := by
  refine ⟨⟨fun y hy => (by cases hy), Nat.zero_le _⟩, ?_⟩
  unfold startW numW
  simp only [List.length_append, beTail_length]
  rfl
/-- How many bytes a message has without pointers. -/
def plainM (M : Msg) : Nat := 12 + (M.qs.map fun q => q.name.length + 4).sum + ((recsM M).map fun R => R.name.length + 10 + (plainO R).length).sum
theorem qnsW_longer {L : List Qn} : ∀ (s : Wr), (∀ q ∈ L, isN q.name = true) → Longer s (qnsW L s) (L.map fun q => q.name.length + 4).sum := by
  induction L with
  | nil => intro s _; exact Longer.refl s
  | cons q L ih =>
    intro s h
    rw [qnsW_cons, List.map_cons, List.sum_cons]
    exact (qnW_longer (h q (by simp)) s).trans (ih _ fun q hq => h q (by simp [hq]))
theorem recsW_longer {L : List Rec} : ∀ (s : Wr), (∀ R ∈ L, checkE R = 0) → Longer s (recsW L s) (L.map fun R => R.name.length + 10 + (plainO R).length).sum := by
  induction L with
  | nil => intro s _; exact Longer.refl s
  | cons R L ih =>
    intro s h
    rw [recsW_cons, List.map_cons, List.sum_cons]
    have h0 := h R (by simp)
    have := recW_longer h0 s
    rw [← plainO_ok h0] at this
    exact this.trans (ih _ fun q hq => h q (by simp [hq]))
theorem msgW_len {M : Msg} (h : checkM M = 0) : (msgW M).1.length ≤ plainM M ∧ Inv (msgW M) := by
  obtain ⟨_, h1, h2⟩ := checkM_ok h
  have h3 := (qnsW_longer (startW M) h1).trans (recsW_longer _ h2)
  refine ⟨?_, h3.inv (start_inv M).1⟩
  have := h3.len.2
  rw [(start_inv M).2] at this
  unfold plainM
  unfold msgW
  omega
end Go.Proofs.Ytpmmjmnleoicjaa.WrMath
