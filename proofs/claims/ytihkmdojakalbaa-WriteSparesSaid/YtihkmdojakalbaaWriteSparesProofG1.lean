/- Texts of one proof, one behind the other: RecFrame, NmMath, MsgMath, Grown, NumMath, NumGet, Shelf, Clone, NumPart, Quiet, Rdr. -/
import Derived.Test.YtihkmdojakalbaaProg
import Derived.Test.YtihkmdojakalbaaRecAt
import Derived.Test.YtihkmdojakalbaaBytes
import Derived.Test.YtihkmdojakalbaaNameMath
import Derived.Test.YtihkmdojakalbaaNumBe
import Derived.Test.YtihkmdojakalbaaRecMath
import Derived.Deep.Fields
import Derived.ChangeSame
import Derived.ChangeSlices
import Derived.SliceStrings
import Derived.ProofKit
import Derived.OpenShut
import Derived.ShutString
import Derived.WalkKit
import Derived.Lib.Hide
import Derived.Laws.Rows
import Derived.Laws.AppendOwn
import Derived.Deep.QuietTactic
import Derived.Deep.Draws
import Derived.Laws.Bits64b
import Derived.Outline
import Derived.WalkSpells
import Derived.IntWalk
import Derived.Shelf.Strings.Builder1
import Derived.Shelf.Strings.BuilderF
import Derived.Shelf.Strings.BuilderK
import Derived.Shelf.LaysM
import Derived.Shelf.Strconv.Clone
import Derived.WalkLawsBesides
import Derived.BigQuiet
import Derived.Deep.RegionHeld3
import Derived.Defers
import Derived.Recover

/- How a record that came in reads: its fields, and its lists in memory. No condition. -/
namespace Go.Proofs.Ytihkmdojakalbaa
open Go.ChangeShapes Go.WideShapes Go.RowKit
open Bytes Strs Nums RecMath

theorem wf_u16 {z : Int} (h : (Lit.int .u16 z).wf = true) : ∃ k : Nat, z = (k : Int) ∧ k ≤ 65535 := by
  have h' : 0 ≤ z ∧ z ≤ 65535 := by
    have h2 : IntKind.u16.min ≤ z ∧ z ≤ IntKind.u16.max := by simpa [Lit.wf] using h
    exact h2
  exact ⟨z.toNat, by omega, by omega⟩
theorem wf_u32 {z : Int} (h : (Lit.int .u32 z).wf = true) : ∃ k : Nat, z = (k : Int) ∧ k ≤ 4294967295 := by
  have h' : 0 ≤ z ∧ z ≤ 4294967295 := by
    have h2 : IntKind.u32.min ≤ z ∧ z ≤ IntKind.u32.max := by simpa [Lit.wf] using h
    exact h2
  exact ⟨z.toNat, by omega, by omega⟩
section
variable {H : Type} {enc : TypeId × Value → H} {w : World} {base : Nat} {spare : Nat → Bool} {held : Bool} {fuel : Nat}
set_option maxRecDepth 100000 in
theorem came_texts {v : Value} {x : DataW H × List MemPlace} (h : DataW.trod enc Try.prog w base spare held fuel 45 [v] = some x) :
    ∃ A n c L, v = .slice A n c ∧ L.length = n ∧ RdS w w.heap.size A L ∧ n ≤ maxLen ∧ (A = none → c = 0) := by
  rcases open_strings Try.underlying45 Try.underlying9 (by kernel_rfl) h with ⟨hcs, _⟩ | ⟨ad, l, c, ss, hcs, _, hl, hm, hz, _, hcell, _⟩
  · injection hcs with hv
    exact ⟨none, 0, 0, [], hv, rfl, RdS.void _ _ _, Nat.zero_le _, fun _ => rfl⟩
  · injection hcs with hv
    have hls : l ≤ ss.length := by rw [hz]; split <;> omega
    have hlen : ((ss.take l).map fun s => s.data.toList).length = l := by rw [List.length_map, List.length_take]; omega
    refine ⟨some ad, l, c, (ss.take l).map fun s => s.data.toList, hv, hlen, fun hp => ⟨ad, rfl, ?_, fun k hk => ?_⟩, by omega, fun e => by cases e⟩
    · rw [hlen] at hp
      have := World.block_lt_of_cell? _ _ (hcell 0 (by omega))
      rwa [add_block] at this
    · rw [hlen] at hk
      rw [hcell k (by omega)]
      refine congrArg (fun s => some (Value.string s)) ?_
      have hk2 : k < (ss.take l).length := by rw [List.length_take]; omega
      rw [List.getD_eq_getElem?_getD, List.getD_eq_getElem?_getD, List.getElem?_map, List.getElem?_eq_getElem hk2, List.getElem_take, List.getElem?_eq_getElem (by omega)]
      exact (mk_data _).symm
set_option maxRecDepth 100000 in
theorem came_nums {v : Value} {x : DataW H × List MemPlace} (h : DataW.trod enc Try.prog w base spare held fuel 47 [v] = some x) :
    ∃ A n c L, v = .slice A n c ∧ L.length = n ∧ RdN w w.heap.size A L ∧ n ≤ maxLen ∧ (A = none → c = 0) ∧ ∀ k, k < L.length → L.getD k 0 ≤ 4294967295 := by
  rcases open_ints Try.underlying47 Try.underlying46 (by kernel_rfl) h with ⟨hcs, _⟩ | ⟨ad, l, c, zs, hcs, _, hl, hm, hz, _, hcell, hwf⟩
  · injection hcs with hv
    exact ⟨none, 0, 0, [], hv, rfl, RdN.void _ _ _, Nat.zero_le _, fun _ => rfl, fun k hk => absurd hk (Nat.not_lt_zero _)⟩
  · injection hcs with hv
    have hls : l ≤ zs.length := by rw [hz]; split <;> omega
    have hlen : ((zs.take l).map fun z => z.toNat).length = l := by rw [List.length_map, List.length_take]; omega
    have hget : ∀ k, k < l → ∃ m : Nat, zs.getD k 0 = (m : Int) ∧ ((zs.take l).map fun z => z.toNat).getD k 0 = m ∧ m ≤ 4294967295 := by
      intro k hk
      have hk1 : k < zs.length := by omega
      have hk2 : k < (zs.take l).length := by rw [List.length_take]; omega
      obtain ⟨m, hm1, hm2⟩ := wf_u32 (hwf zs[k] (List.getElem_mem hk1))
      refine ⟨m, ?_, ?_, hm2⟩
      · rw [List.getD_eq_getElem?_getD, List.getElem?_eq_getElem hk1]; exact hm1
      · rw [List.getD_eq_getElem?_getD, List.getElem?_map, List.getElem?_eq_getElem hk2, List.getElem_take]
        show zs[k].toNat = m
        rw [hm1]; rfl
    refine ⟨some ad, l, c, (zs.take l).map fun z => z.toNat, hv, hlen, fun hp => ⟨ad, rfl, ?_, fun k hk => ?_⟩, by omega, fun e => (by cases e), fun k hk => ?_⟩
    · rw [hlen] at hp
      have := World.block_lt_of_cell? _ _ (hcell 0 (by omega))
      rwa [add_block] at this
    · rw [hlen] at hk
      rw [hcell k (by omega)]
      obtain ⟨m, h1, h2, _⟩ := hget k hk
      rw [h1, h2]
    · rw [hlen] at hk
      obtain ⟨m, _, h2, h3⟩ := hget k hk
      rw [h2]
      exact h3
/-- What is known of a record that came in. -/
def CameRec (w : World) (v : Value) (R : Rec) (x : ByteArray) (k l t : Nat) (A1 : Option Addr) (n1 c1 : Nat) (A2 : Option Addr) (n2 c2 : Nat) (A3 : Option Addr) (n3 c3 : Nat) : Prop :=
  v = .agg #[.string x, .int .u16 k, .int .u16 l, .int .u32 t, .slice A1 n1 c1, .slice A2 n2 c2, .slice A3 n3 c3] ∧ RecAt w w.heap.size R x k l t A1 n1 A2 n2 A3 n3 ∧
  (k ≤ 65535 ∧ l ≤ 65535 ∧ t ≤ 4294967295 ∧ x.size ≤ maxLen ∧ n1 ≤ maxLen ∧ n2 ≤ maxLen ∧ n3 ≤ maxLen) ∧ ((A1 = none → c1 = 0) ∧ (A2 = none → c2 = 0) ∧ (A3 = none → c3 = 0)) ∧ ∀ k, k < R.nums.length → R.nums.getD k 0 ≤ 4294967295
set_option maxRecDepth 100000 in
theorem came_rec {r : Reach} {b0 : Nat} {v : Value} {d : DataW H} {p : List MemPlace} (hv : Value.okWide Try.prog w r b0 49 v) (h : DataW.Trod enc Try.prog w base spare held 49 v d p) :
    ∃ R x k l t A1 n1 c1 A2 n2 c2 A3 n3 c3, CameRec w v R x k l t A1 n1 c1 A2 n2 c2 A3 n3 c3 := by
  obtain ⟨cs, rfl, hsz⟩ := okWide_struct Try.underlying49 hv
  obtain ⟨lst⟩ := cs
  match lst, hsz.trans (show Try.prog.cellsOf 49 = 7 by kernel_rfl) with
  | [a0, a1, a2, a3, a4, a5, a6], _ =>
    obtain ⟨fuel, hf⟩ := h
    obtain ⟨xs, n, _, hx, _, hlen, hg⟩ := DataW.trod_struct Try.underlying49 hf
    match xs, hlen with
    | [y0, y1, y2, y3, y4, y5, y6], _ =>
      have cs1 : Try.prog.cellsOf 9 = 1 := by kernel_rfl
      have cs2 : Try.prog.cellsOf 23 = 1 := by kernel_rfl
      have cs3 : Try.prog.cellsOf 46 = 1 := by kernel_rfl
      have cs4 : Try.prog.cellsOf 45 = 1 := by kernel_rfl
      have cs5 : Try.prog.cellsOf 47 = 1 := by kernel_rfl
      have g0 : DataW.trod enc Try.prog w base spare held n 9 [a0] = some y0 := by simpa [Value.cells, cs1] using hg 0 _ rfl
      have g1 : DataW.trod enc Try.prog w base spare held n 23 [a1] = some y1 := by simpa [Value.cells, cs2] using hg 1 _ rfl
      have g2 : DataW.trod enc Try.prog w base spare held n 23 [a2] = some y2 := by simpa [Value.cells, cs2] using hg 2 _ rfl
      have g3 : DataW.trod enc Try.prog w base spare held n 46 [a3] = some y3 := by simpa [Value.cells, cs3] using hg 3 _ rfl
      have g4 : DataW.trod enc Try.prog w base spare held n 45 [a4] = some y4 := by simpa [Value.cells, cs4] using hg 4 _ rfl
      have g5 : DataW.trod enc Try.prog w base spare held n 47 [a5] = some y5 := by simpa [Value.cells, cs5] using hg 5 _ rfl
      have g6 : DataW.trod enc Try.prog w base spare held n 45 [a6] = some y6 := by simpa [Value.cells, cs4] using hg 6 _ rfl
      obtain ⟨x, e0, _, hxs⟩ := DataW.trod_string Try.underlying9 g0
      obtain ⟨z1, e1, _, hz1⟩ := DataW.trod_int Try.underlying23 g1
      obtain ⟨z2, e2, _, hz2⟩ := DataW.trod_int Try.underlying23 g2
      obtain ⟨z3, e3, _, hz3⟩ := DataW.trod_int Try.underlying46 g3
      obtain ⟨A1, n1, c1, L1, rfl, hl1, hr1, hm1, hc1⟩ := came_texts g4
      obtain ⟨A2, n2, c2, L2, rfl, hl2, hr2, hm2, hc2, hu2⟩ := came_nums g5
      obtain ⟨A3, n3, c3, L3, rfl, hl3, hr3, hm3, hc3⟩ := came_texts g6
      injection e0 with e0
      injection e1 with e1
      injection e2 with e2
      injection e3 with e3
      subst e0 e1 e2 e3
      obtain ⟨k, rfl, hk⟩ := wf_u16 hz1
      obtain ⟨l, rfl, hl⟩ := wf_u16 hz2
      obtain ⟨t, rfl, ht⟩ := wf_u32 hz3
      exact ⟨⟨x.data.toList, k, l, t, L1, L2, L3⟩, x, k, l, t, A1, n1, c1, A2, n2, c2, A3, n3, c3, rfl, ⟨rfl, rfl, rfl, rfl, hl1, hl2, hl3, hr1, hr2, hr3⟩, ⟨hk, hl, ht, hxs, hm1, hm2, hm3⟩, ⟨hc1, hc2, hc3⟩, hu2⟩
end
end Go.Proofs.Ytihkmdojakalbaa

/- Names in a message as lists of bytes: a run of labels, and how pointers lead it on. No program, no condition. -/
namespace Go.Proofs.Ytihkmdojakalbaa.NmMath
open Go Bytes NameMath

/-- The byte at a place. -/
def bt (l : List UInt8) (k : Nat) : Nat := (l.getD k 0).toNat
theorem bt_lt (l : List UInt8) (k : Nat) : bt l k < 256 := UInt8.toNat_lt _
/-- The piece of c bytes behind a place. -/
def cut (l : List UInt8) (p n : Nat) : List UInt8 := (l.drop p).take n
theorem cut_len {l : List UInt8} {p n : Nat} (h : p + n ≤ l.length) : (cut l p n).length = n := by unfold cut; rw [List.length_take, List.length_drop]; omega
/-- Labels from a place on, ahead of place E: what they are with those in front, and where they end (at a byte 0, or the first of a pointer); or the error. K: what is told where bytes are lacking. -/
def run (l : List UInt8) (E K : Nat) (p : Nat) (o : List UInt8) : Except Nat (List UInt8 × Nat) :=
  if p < E then
    if bt l p = 0 ∨ 192 ≤ bt l p then .ok (o, p)
    else if 64 ≤ bt l p then .error 41
    else if p + 1 + bt l p ≤ E then
      if 255 < o.length + (bt l p + 1) + 1 then .error 40
      else run l E K (p + 1 + bt l p) (o ++ cut l p (bt l p + 1))
    else .error K
  else .error K
  termination_by E - p
  decreasing_by omega
section
variable {l : List UInt8} {E K p : Nat} {o : List UInt8}
theorem run_lack (h : E ≤ p) : run l E K p o = .error K := by rw [run, if_neg (by omega)]
theorem run_end (h : p < E) (h0 : bt l p = 0 ∨ 192 ≤ bt l p) : run l E K p o = .ok (o, p) := by rw [run, if_pos h, if_pos h0]
theorem run_label (h : p < E) (h1 : 64 ≤ bt l p) (h2 : bt l p < 192) : run l E K p o = .error 41 := by rw [run, if_pos h, if_neg (by omega), if_pos h1]
theorem run_short (h : p < E) (h1 : bt l p < 64) (h2 : E < p + 1 + bt l p) : run l E K p o = .error K := by rw [run, if_pos h, if_neg (by omega), if_neg (by omega), if_neg (by omega)]
theorem run_long (h0 : bt l p ≠ 0) (h1 : bt l p < 64) (h2 : p + 1 + bt l p ≤ E) (h3 : 253 < o.length + bt l p) : run l E K p o = .error 40 := by rw [run, if_pos (by omega), if_neg (by omega), if_neg (by omega), if_pos h2, if_pos (by omega)]
theorem run_more (h0 : bt l p ≠ 0) (h1 : bt l p < 64) (h2 : p + 1 + bt l p ≤ E) (h3 : o.length + bt l p ≤ 253) : run l E K p o = run l E K (p + 1 + bt l p) (o ++ cut l p (bt l p + 1)) := by rw [run, if_pos (by omega), if_neg (by omega), if_neg (by omega), if_pos h2, if_neg (by omega)]
end
/-- Where a run ends. -/
theorem run_ok {l : List UInt8} {E K p : Nat} {o : List UInt8} : ∀ {o' : List UInt8} {q : Nat}, run l E K p o = .ok (o', q) → p ≤ q ∧ q < E ∧ (bt l q = 0 ∨ 192 ≤ bt l q) ∧ (o.length ≤ 254 → o'.length ≤ 254) := by
  fun_induction run l E K p o with
  | case1 p o h h0 => intro o' q e; injection e with e; injection e with e1 e2; subst e1; subst e2; exact ⟨Nat.le_refl _, h, h0, id⟩
  | case2 => intro o' q e; cases e
  | case3 => intro o' q e; cases e
  | case4 p o h h0 h1 h2 h3 ih =>
    intro o' q e
    obtain ⟨i1, i2, i3, i4⟩ := ih e
    refine ⟨by omega, i2, i3, fun ho => i4 ?_⟩
    rw [List.length_append]
    have : (cut l p (bt l p + 1)).length ≤ bt l p + 1 := by unfold cut; rw [List.length_take]; omega
    omega
  | case5 => intro o' q e; cases e
  | case6 => intro o' q e; cases e
theorem run_err {l : List UInt8} {E K p : Nat} {o : List UInt8} : ∀ {k : Nat}, run l E K p o = .error k → k = 40 ∨ k = 41 ∨ k = K := by
  fun_induction run l E K p o with
  | case1 => intro k e; cases e
  | case2 => intro k e; injection e with e; omega
  | case3 => intro k e; injection e with e; omega
  | case4 p o h h0 h1 h2 h3 ih => intro k e; exact ih e
  | case5 => intro k e; injection e with e; omega
  | case6 => intro k e; injection e with e; omega
theorem run_at {l : List UInt8} {E K p : Nat} {o o' : List UInt8} {q : Nat} (h : run l E K p o = .ok (o', q)) : run l E K q o' = .ok (o', q) := by
  obtain ⟨_, h2, h3, _⟩ := run_ok h
  exact run_end h2 h3

/-- The place that a pointer tells. -/
def place (l : List UInt8) (q : Nat) : Nat := (bt l q - 192) * 256 + bt l (q + 1)
theorem place_lt (l : List UInt8) (q : Nat) : place l q < 16384 := by have := bt_lt l q; have := bt_lt l (q + 1); unfold place; omega
/-- The name at place p of a part that began at b, with the labels o in front; behind it is 'next', where a pointer told that already. -/
def nm (l : List UInt8) (E K p b : Nat) (next : Option Nat) (o : List UInt8) : Except Nat (List UInt8 × Nat) :=
  match run l E K p o with
  | .error k => .error k
  | .ok (o', q) =>
    if bt l q = 0 then .ok (o' ++ [0], next.getD (q + 1))
    else if q + 2 ≤ E then
      if h : place l q < b then nm l l.length 2 (place l q) (place l q) (some (next.getD (q + 2))) o' else .error 42
    else .error K
  termination_by b
section
variable {l : List UInt8} {E K p b q : Nat} {next : Option Nat} {o o' : List UInt8}
theorem nm_err {k : Nat} (h : run l E K p o = .error k) : nm l E K p b next o = .error k := by rw [nm, h]
theorem nm_run (h : run l E K p o = .ok (o', q)) : nm l E K p b next o = nm l E K q b next o' := by
  rw [nm, h]
  conv => rhs; rw [nm, run_at h]
theorem nm_lack (h : E ≤ p) : nm l E K p b next o = .error K := nm_err (run_lack h)
theorem nm_zero (h : p < E) (h0 : bt l p = 0) : nm l E K p b next o = .ok (o ++ [0], next.getD (p + 1)) := by rw [nm, run_end h (.inl h0)]; simp only [h0, if_true]
theorem nm_cut (h : p < E) (h0 : 192 ≤ bt l p) (h1 : E < p + 2) : nm l E K p b next o = .error K := by rw [nm, run_end h (.inr h0)]; simp only; rw [if_neg (by omega), if_neg (by omega)]
theorem nm_ahead (h0 : 192 ≤ bt l p) (h1 : p + 2 ≤ E) (h2 : b ≤ place l p) : nm l E K p b next o = .error 42 := by rw [nm, run_end (by omega) (.inr h0)]; simp only; rw [if_neg (by omega), if_pos h1, dif_neg (by omega)]
theorem nm_back (h0 : 192 ≤ bt l p) (h1 : p + 2 ≤ E) (h2 : place l p < b) : nm l E K p b next o = nm l l.length 2 (place l p) (place l p) (some (next.getD (p + 2))) o := by rw [nm, run_end (by omega) (.inr h0)]; simp only; rw [if_neg (by omega), if_pos h1, dif_pos h2]
theorem nm_label (h : p < E) (h1 : 64 ≤ bt l p) (h2 : bt l p < 192) : nm l E K p b next o = .error 41 := nm_err (run_label h h1 h2)
theorem nm_short (h : p < E) (h1 : bt l p < 64) (h2 : E < p + 1 + bt l p) : nm l E K p b next o = .error K := nm_err (run_short h h1 h2)
theorem nm_long (h0 : bt l p ≠ 0) (h1 : bt l p < 64) (h2 : p + 1 + bt l p ≤ E) (h3 : 253 < o.length + bt l p) : nm l E K p b next o = .error 40 := nm_err (run_long h0 h1 h2 h3)
theorem nm_more (h0 : bt l p ≠ 0) (h1 : bt l p < 64) (h2 : p + 1 + bt l p ≤ E) (h3 : o.length + bt l p ≤ 253) : nm l E K p b next o = nm l E K (p + 1 + bt l p) b next (o ++ cut l p (bt l p + 1)) := by
  rw [nm, run_more h0 h1 h2 h3]
  conv => rhs; rw [nm]
end
/-- What is behind a name: no more than the bytes that there are. -/
theorem nm_next {l : List UInt8} {E K p b : Nat} {next : Option Nat} {o : List UInt8} (hE : E ≤ l.length) (hn : ∀ x, next = some x → x ≤ l.length) : ∀ {o' : List UInt8} {n : Nat}, nm l E K p b next o = .ok (o', n) → n ≤ l.length := by
  fun_induction nm l E K p b next o with
  | case1 => intro o' n e; cases e
  | case2 E K p b next o o1 q hr h0 =>
    intro o' n e
    injection e with e
    injection e with e1 e2
    subst e2
    have := (run_ok hr).2.1
    cases next with
    | none => show q + 1 ≤ _; omega
    | some x => exact hn x rfl
  | case3 E K p b next o o1 q hr h0 h1 h2 ih =>
    refine ih (Nat.le_refl _) (fun x e => ?_)
    injection e with e
    subst e
    cases next with
    | none => show q + 2 ≤ _; omega
    | some x => exact hn x rfl
  | case4 => intro o' n e; cases e
  | case5 => intro o' n e; cases e
/-- A name without pointers. -/
def bare (l : List UInt8) (E K p : Nat) (o : List UInt8) : Except Nat (List UInt8 × Nat) :=
  match run l E K p o with
  | .error k => .error k
  | .ok (o', q) => if bt l q = 0 then .ok (o' ++ [0], q + 1) else .error 50
section
variable {l : List UInt8} {E K p q : Nat} {o o' : List UInt8}
theorem bare_err {k : Nat} (h : run l E K p o = .error k) : bare l E K p o = .error k := by unfold bare; rw [h]
theorem bare_zero (h : p < E) (h0 : bt l p = 0) : bare l E K p o = .ok (o ++ [0], p + 1) := by unfold bare; rw [run_end h (.inl h0)]; simp only [h0, if_true]
theorem bare_ptr (h : p < E) (h0 : 192 ≤ bt l p) : bare l E K p o = .error 50 := by unfold bare; rw [run_end h (.inr h0)]; simp only; rw [if_neg (by omega)]
theorem bare_more (h0 : bt l p ≠ 0) (h1 : bt l p < 64) (h2 : p + 1 + bt l p ≤ E) (h3 : o.length + bt l p ≤ 253) : bare l E K p o = bare l E K (p + 1 + bt l p) (o ++ cut l p (bt l p + 1)) := by unfold bare; rw [run_more h0 h1 h2 h3]
end
end Go.Proofs.Ytihkmdojakalbaa.NmMath

/- Messages as lists of bytes: questions, rows of things, the whole. No program, no condition. -/
namespace Go.Proofs.Ytihkmdojakalbaa.MsgMath
open Go Bytes NmMath RecMath

structure Qn where
  name : List UInt8
  kind : Nat
  cls : Nat
structure Msg where
  id : Nat
  flags : Nat
  qs : List Qn
  an : List Rec
  ns : List Rec
  ad : List Rec

/-- The number in n bytes at a place. -/
def nu (l : List UInt8) (p n : Nat) : Nat := be (cut l p n)
theorem nu2_lt (l : List UInt8) (p : Nat) : nu l p 2 < 65536 := by
  have h := be_lt (cut l p 2)
  have h2 : (cut l p 2).length ≤ 2 := by unfold cut; rw [List.length_take]; omega
  have h3 : 256 ^ (cut l p 2).length ≤ 256 ^ 2 := Nat.pow_le_pow_right (by omega) h2
  unfold nu
  omega
theorem nu4_lt (l : List UInt8) (p : Nat) : nu l p 4 < 4294967296 := by
  have h := be_lt (cut l p 4)
  have h2 : (cut l p 4).length ≤ 4 := by unfold cut; rw [List.length_take]; omega
  have h3 : 256 ^ (cut l p 4).length ≤ 256 ^ 4 := Nat.pow_le_pow_right (by omega) h2
  unfold nu
  omega
/-- The question at a place. -/
def qn (l : List UInt8) (p : Nat) : Except Nat (Qn × Nat) :=
  match nm l l.length 2 p p none [] with
  | .error k => .error k
  | .ok (o, q) => if q + 4 ≤ l.length then .ok (⟨o, nu l q 2, nu l (q + 2) 2⟩, q + 4) else .error 2
theorem qn_err {l : List UInt8} {p k : Nat} (h : nm l l.length 2 p p none [] = .error k) : qn l p = .error k := by unfold qn; rw [h]
theorem qn_ok {l o : List UInt8} {p q : Nat} (h : nm l l.length 2 p p none [] = .ok (o, q)) (h2 : q + 4 ≤ l.length) : qn l p = .ok (⟨o, nu l q 2, nu l (q + 2) 2⟩, q + 4) := by unfold qn; rw [h]; exact if_pos h2
theorem qn_short {l o : List UInt8} {p q : Nat} (h : nm l l.length 2 p p none [] = .ok (o, q)) (h2 : l.length < q + 4) : qn l p = .error 2 := by unfold qn; rw [h]; exact if_neg (by omega)
section
variable {α : Type}
/-- So many things, one behind the other. -/
def many (f : Nat → Except Nat (α × Nat)) : Nat → Nat → Except Nat (List α × Nat)
  | 0, p => .ok ([], p)
  | n + 1, p =>
    match f p with
    | .error k => .error k
    | .ok (x, q) =>
      match many f n q with
      | .error k => .error k
      | .ok (xs, r) => .ok (x :: xs, r)
/-- Behind some that were read. -/
def more (f : Nat → Except Nat (α × Nat)) (A : List α) (n p : Nat) : Except Nat (List α × Nat) :=
  match many f n p with
  | .error k => .error k
  | .ok (xs, r) => .ok (A ++ xs, r)
theorem more_none (f : Nat → Except Nat (α × Nat)) (n p : Nat) : more f [] n p = many f n p := by
  unfold more
  cases many f n p with
  | error k => rfl
  | ok x => rfl
theorem more_end (f : Nat → Except Nat (α × Nat)) (A : List α) (p : Nat) : more f A 0 p = .ok (A, p) := by
  simp [more, many]
theorem more_err {f : Nat → Except Nat (α × Nat)} {A : List α} {n p k : Nat} (h : f p = .error k) : more f A (n + 1) p = .error k := by
  unfold more many
  rw [h]
theorem more_one {f : Nat → Except Nat (α × Nat)} {A : List α} {n p q : Nat} {x : α} (h : f p = .ok (x, q)) : more f A (n + 1) p = more f (A ++ [x]) n q := by
  unfold more
  rw [many, h]
  simp only
  cases many f n q with
  | error k => rfl
  | ok y => simp
theorem many_len {f : Nat → Except Nat (α × Nat)} : ∀ {n p r : Nat} {xs : List α}, many f n p = .ok (xs, r) → xs.length = n := by
  intro n
  induction n with
  | zero =>
    intro p r xs h
    injection h with h
    injection h with h1 h2
    subst h1
    rfl
  | succ n ih =>
    intro p r xs h
    rw [many] at h
    cases hf : f p with
    | error k => rw [hf] at h; cases h
    | ok y =>
      obtain ⟨x, q⟩ := y
      rw [hf] at h
      simp only at h
      cases hm : many f n q with
      | error k => rw [hm] at h; cases h
      | ok z =>
        obtain ⟨ys, s⟩ := z
        rw [hm] at h
        simp only at h
        injection h with h
        injection h with h1 h2
        subst h1
        rw [List.length_cons, ih hm]
end
theorem many_le {α : Type} {f : Nat → Except Nat (α × Nat)} {N : Nat} : ∀ {n p r : Nat} {xs : List α}, (0 < n → ∀ a x b, f a = .ok (x, b) → b ≤ N) → p ≤ N → many f n p = .ok (xs, r) → r ≤ N := by
  intro n
  induction n with
  | zero =>
    intro p r xs _ hp h
    injection h with h
    injection h with h1 h2
    omega
  | succ n ih =>
    intro p r xs hf hp h
    rw [many] at h
    cases h1 : f p with
    | error k => rw [h1] at h; cases h
    | ok y =>
      obtain ⟨x, q⟩ := y
      rw [h1] at h
      simp only at h
      cases hm : many f n q with
      | error k => rw [hm] at h; cases h
      | ok z =>
        obtain ⟨ys, s⟩ := z
        rw [hm] at h
        simp only at h
        injection h with h
        injection h with _ h2
        subst h2
        exact ih (fun _ => hf (by omega)) (hf (by omega) _ _ _ h1) hm
/-- The last records, and what is behind them. -/
def msg4 (rec : Nat → Except Nat (Rec × Nat)) (l : List UInt8) (qs : List Qn) (an ns : List Rec) (p : Nat) : Except Nat Msg :=
  match many rec (nu l 10 2) p with
  | .error k => .error k
  | .ok (ad, q) => if q < l.length then .error 7 else .ok ⟨nu l 0 2, nu l 2 2, qs, an, ns, ad⟩
def msg3 (rec : Nat → Except Nat (Rec × Nat)) (l : List UInt8) (qs : List Qn) (an : List Rec) (p : Nat) : Except Nat Msg :=
  match many rec (nu l 8 2) p with
  | .error k => .error k
  | .ok (ns, q) => msg4 rec l qs an ns q
def msg2 (rec : Nat → Except Nat (Rec × Nat)) (l : List UInt8) (qs : List Qn) (p : Nat) : Except Nat Msg :=
  match many rec (nu l 6 2) p with
  | .error k => .error k
  | .ok (an, q) => msg3 rec l qs an q
def msg1 (rec : Nat → Except Nat (Rec × Nat)) (l : List UInt8) : Except Nat Msg :=
  match many (qn l) (nu l 4 2) 12 with
  | .error k => .error k
  | .ok (qs, q) => msg2 rec l qs q
/-- The message of bytes (no more than may be), whose records are read by 'rec'. -/
def msg (rec : Nat → Except Nat (Rec × Nat)) (l : List UInt8) : Except Nat Msg :=
  if l.length < 12 then .error 2 else if 256 < nu l 4 2 + nu l 6 2 + nu l 8 2 + nu l 10 2 then .error 6 else msg1 rec l
section
variable {rec : Nat → Except Nat (Rec × Nat)} {l : List UInt8} {qs : List Qn} {an ns ad : List Rec} {p q k : Nat}
theorem msg_short (h : l.length < 12) : msg rec l = .error 2 := if_pos h
theorem msg_full (h : 12 ≤ l.length) (h2 : 256 < nu l 4 2 + nu l 6 2 + nu l 8 2 + nu l 10 2) : msg rec l = .error 6 := by unfold msg; rw [if_neg (by omega), if_pos h2]
theorem msg_some (h : 12 ≤ l.length) (h2 : nu l 4 2 + nu l 6 2 + nu l 8 2 + nu l 10 2 ≤ 256) : msg rec l = msg1 rec l := by unfold msg; rw [if_neg (by omega), if_neg (by omega)]
theorem msg1_err (h : many (qn l) (nu l 4 2) 12 = .error k) : msg1 rec l = .error k := by unfold msg1; rw [h]
theorem msg1_ok (h : many (qn l) (nu l 4 2) 12 = .ok (qs, q)) : msg1 rec l = msg2 rec l qs q := by unfold msg1; rw [h]
theorem msg2_err (h : many rec (nu l 6 2) p = .error k) : msg2 rec l qs p = .error k := by unfold msg2; rw [h]
theorem msg2_ok (h : many rec (nu l 6 2) p = .ok (an, q)) : msg2 rec l qs p = msg3 rec l qs an q := by unfold msg2; rw [h]
theorem msg3_err (h : many rec (nu l 8 2) p = .error k) : msg3 rec l qs an p = .error k := by unfold msg3; rw [h]
theorem msg3_ok (h : many rec (nu l 8 2) p = .ok (ns, q)) : msg3 rec l qs an p = msg4 rec l qs an ns q := by unfold msg3; rw [h]
theorem msg4_err (h : many rec (nu l 10 2) p = .error k) : msg4 rec l qs an ns p = .error k := by unfold msg4; rw [h]
theorem msg4_more (h : many rec (nu l 10 2) p = .ok (ad, q)) (h2 : q < l.length) : msg4 rec l qs an ns p = .error 7 := by unfold msg4; rw [h]; exact if_pos h2
theorem msg4_ok (h : many rec (nu l 10 2) p = .ok (ad, q)) (h2 : l.length ≤ q) : msg4 rec l qs an ns p = .ok ⟨nu l 0 2, nu l 2 2, qs, an, ns, ad⟩ := by unfold msg4; rw [h]; exact if_neg (by omega)
end
end Go.Proofs.Ytihkmdojakalbaa.MsgMath

/- What a call may have written: one block that stood, and new ones. No condition. -/
namespace Go.Proofs.Ytihkmdojakalbaa
open Go Go.RowKit

theorem only_setCell {a w : World} {g : Nat} (h : a.grownBy w (some g)) {p : Addr} (hp : p.block = g ∨ a.heap.size ≤ p.block) (u : Value) : a.grownBy (w.setCell p u) (some g) :=
  ⟨h.os, h.tape, h.output, by simpa [World.setCell] using h.size, fun i hi hne => (Below.heap_setCell w p u i (by
    rintro rfl
    rcases hp with hp | hp
    · exact hne (by rw [hp])
    · omega)).trans (h.block i hi hne)⟩
theorem only_of_below {a w : World} (h : Below a.heap.size a w) (row : Option Nat) : a.grownBy w row := ⟨h.os, h.tape, h.output, h.size, fun i hi _ => h.block i hi⟩
theorem grown_block {a b : World} {r k : Nat} (h : a.grownBy b (some r)) (hk : k < a.heap.size) (hne : k ≠ r) : b.heap[k]? = a.heap[k]? :=
  h.block k hk (fun e => by injection e with e; exact hne e)
theorem grown_drewN {a w : World} {row : Option Nat} (h : a.grownBy w row) (n : Nat) : a.grownBy (w.drewN n) row := ⟨h.os, h.tape, h.output, h.size, h.block⟩
theorem grown_refl (a : World) (row : Option Nat) : a.grownBy a row := ⟨rfl, rfl, rfl, Nat.le_refl _, fun _ _ _ => rfl⟩
theorem grown_trans {a b c : World} {r : Nat} (h : a.grownBy b (some r)) (k : b.grownBy c (some r)) : a.grownBy c (some r) :=
  ⟨k.os.trans h.os, k.tape.trans h.tape, k.output.trans h.output, Nat.le_trans h.size k.size, fun i hi hne => (k.block i (Nat.lt_of_lt_of_le hi h.size) hne).trans (h.block i hi hne)⟩
/-- What wrote a block that is new, behind what wrote one that stood. -/
theorem grown_new {a b c : World} {r q : Nat} (h : a.grownBy b (some r)) (k : b.grownBy c (some q)) (hq : a.heap.size ≤ q) : a.grownBy c (some r) :=
  ⟨k.os.trans h.os, k.tape.trans h.tape, k.output.trans h.output, Nat.le_trans h.size k.size, fun i hi hne => (k.block i (Nat.lt_of_lt_of_le hi h.size) (by intro e; injection e with e; omega)).trans (h.block i hi hne)⟩
/-- The written block is a new one: nothing that stood has changed. -/
theorem below_of_grown {a b c : World} {q B : Nat} (h : Below B a b) (k : b.grownBy c (some q)) (hq : B ≤ q) (hB : B ≤ b.heap.size) : Below B a c :=
  h.grown k (by omega) (fun x hx => by injection hx with hx; omega)
theorem new_at (W : World) (o : Obj) (k : Nat) (hk : k = W.heap.size) : (W.alloc o).heap[k]? = some o := by rw [hk]; exact heap_alloc_new W o
theorem old_at {W : World} {o x : Obj} {k : Nat} (h : W.heap[k]? = some x) : (W.alloc o).heap[k]? = some x := by
  have hk : k < W.heap.size := by
    rcases Nat.lt_or_ge k W.heap.size with hlt | hge
    · exact hlt
    · rw [Array.getElem?_eq_none hge] at h; cases h
  rw [Below.heap_alloc W o k hk]
  exact h
end Go.Proofs.Ytihkmdojakalbaa

/- Plain arithmetic of layer 1: sums and products that stay at the greatest number. No condition. -/
namespace Go.Proofs.Ytihkmdojakalbaa.NumMath

/-- The greatest of 64 bits. -/
def top64 : Int := 18446744073709551615
def sat64 (x : Int) : Int := if 18446744073709551615 < x then 18446744073709551615 else x
def sat32 (x : Int) : Int := if 4294967295 < x then 4294967295 else x

theorem sat64_bd {x : Int} (h : 0 ≤ x) : 0 ≤ sat64 x ∧ sat64 x ≤ 18446744073709551615 := by
  unfold sat64; split <;> omega
theorem sat64_of_le {x : Int} (h : x ≤ 18446744073709551615) : sat64 x = x := by
  unfold sat64; rw [if_neg (by omega)]
theorem sat64_of_lt {x : Int} (h : 18446744073709551615 < x) : sat64 x = 18446744073709551615 := by
  unfold sat64; rw [if_pos h]
theorem sat64_of_ge {x : Int} (h : 18446744073709551615 ≤ x) : sat64 x = 18446744073709551615 := by
  unfold sat64; split <;> omega
theorem sat64_mono {x y : Int} (h : x ≤ y) : sat64 x ≤ sat64 y := by
  unfold sat64; split <;> split <;> omega
theorem sat32_bd {x : Int} (h : 0 ≤ x) : 0 ≤ sat32 x ∧ sat32 x ≤ 4294967295 := by
  unfold sat32; split <;> omega
theorem sat64_add (x y : Int) (hy : 0 ≤ y) : sat64 (sat64 x + y) = sat64 (x + y) := by
  unfold sat64
  by_cases h1 : 18446744073709551615 < x
  · rw [if_pos h1, if_pos (show 18446744073709551615 < x + y by omega)]; split <;> omega
  · rw [if_neg h1]

/-- One round of the product by sums, with a further one behind it. -/
theorem round_more (o a b : Int) (ho : 0 ≤ o) (ha : 0 ≤ a) (hb : 1 ≤ b / 2) :
    sat64 ((if b % 2 = 1 then sat64 (o + a) else o) + sat64 (a + a) * (b / 2)) = sat64 (o + a * b) := by
  obtain ⟨q, hq⟩ : ∃ q, q = b / 2 := ⟨_, rfl⟩
  have hr : b % 2 = 0 ∨ b % 2 = 1 := by omega
  rw [← hq] at hb ⊢
  have e : a * b = (a + a) * q + a * (b % 2) := by
    have h : b = 2 * q + b % 2 := by omega
    have h2 : a * (2 * q) = (a + a) * q := by rw [← Int.mul_assoc, Int.mul_comm a 2, Int.two_mul]
    calc a * b = a * (2 * q + b % 2) := by rw [← h]
      _ = (a + a) * q + a * (b % 2) := by rw [Int.mul_add, h2]
  rw [e]
  have hpos : 0 ≤ (a + a) * q := Int.mul_nonneg (by omega) (by omega)
  have hle : a + a ≤ (a + a) * q := by
    have := Int.mul_le_mul_of_nonneg_left hb (show 0 ≤ a + a by omega)
    simpa using this
  by_cases hs : 18446744073709551615 < a + a
  · rw [sat64_of_lt hs]
    have h1 : (18446744073709551615 : Int) ≤ 18446744073709551615 * q := by omega
    rcases hr with h0 | h0
    · rw [h0, if_neg (by omega), sat64_of_ge (by omega), sat64_of_ge (by omega)]
    · rw [h0, if_pos rfl]
      have := (sat64_bd (show 0 ≤ o + a by omega)).1
      rw [sat64_of_ge (by omega), sat64_of_ge (by omega)]
  · rw [sat64_of_le (show a + a ≤ _ by omega)]
    rcases hr with h0 | h0
    · rw [h0, if_neg (by omega)]; simp
    · rw [h0, if_pos rfl, sat64_add _ _ hpos]
      congr 1; omega

/-- The last round. -/
theorem round_last (o a b : Int) (hb1 : 0 < b) (hb : b / 2 = 0) :
    (if b % 2 = 1 then sat64 (o + a) else o) = sat64 (o + a * b) := by
  have h : b = 1 := by omega
  subst h
  simp
end Go.Proofs.Ytihkmdojakalbaa.NumMath

/- The contracts of num's holds and Get, and of the document's Part and Get: what stands at a place of a text, big-endian. No condition. -/
namespace Go.Proofs.Ytihkmdojakalbaa
open Go.RowKit NumMath

/-- Has a text of n bytes that many from the place on? -/
def holdsB (n : Nat) (at_ size : Int) : Bool := decide (0 ≤ at_ ∧ 0 ≤ size ∧ at_ + size ≤ n)

set_option maxHeartbeats 400000 in
theorem holds_any (s : ByteArray) (at_ size : Int) (w : World) (hs : s.size ≤ maxLen) (hz1 : -9223372036854775808 ≤ size) (hz : size ≤ 9223372036854775807) (ha1 : -9223372036854775808 ≤ at_) (ha : at_ ≤ 9223372036854775807) :
    Calls Try.prog 87 #[.string s, .int .i64 at_, .int .i64 size] w fun e w' => e = .returned (.bool (holdsB s.size at_ size)) ∧ w = w' := by
  unfold maxLen at hs
  by_cases h1 : 0 ≤ at_
  · by_cases h2 : 0 ≤ size
    · by_cases h3 : size ≤ s.size - at_
      · have e : holdsB s.size at_ size = true := by simp [holdsB]; omega
        have E := Lib.hid e; clear e
        go_enter Try.func87, Try.ntmps87
        go_wp2
        go_ret
        exact ⟨by rw [E.out]; rfl, rfl⟩
      · have e : holdsB s.size at_ size = false := by simp [holdsB]; omega
        have E := Lib.hid e; clear e
        go_enter Try.func87, Try.ntmps87
        go_wp2
        go_ret
        exact ⟨by rw [E.out]; rfl, rfl⟩
    · have e : holdsB s.size at_ size = false := by simp [holdsB]; omega
      have E := Lib.hid e; clear e
      go_enter Try.func87, Try.ntmps87
      go_wp2
      go_ret
      exact ⟨by rw [E.out]; rfl, rfl⟩
  · have e : holdsB s.size at_ size = false := by simp [holdsB]; omega
    have E := Lib.hid e; clear e
    go_enter Try.func87, Try.ntmps87
    go_wp2
    go_ret
    exact ⟨by rw [E.out]; rfl, rfl⟩

theorem be_or (x c : Nat) (hx : x < 72057594037927936) (hc : c < 256) : bits .or .u64 (IntKind.u64.wrap ((x : Int) * 256)) (c : Int) = ((x * 256 + c : Nat) : Int) := by
  have e : IntKind.u64.wrap ((x : Int) * 256) = ((x * 256 : Nat) : Int) := by rw [IntKind.wrap_u64]; omega
  rw [e, bits_or_u64_nat _ _ (by omega) (by omega)]
  have h := Nat.shiftLeft_add_eq_or_of_lt (i := 8) (b := c) (by omega) x
  rw [Nat.shiftLeft_eq] at h
  rw [← h]

theorem get_no (s : ByteArray) (at_ size : Int) (w : World) (hs : s.size ≤ maxLen) (hz1 : -9223372036854775808 ≤ size) (hz : size ≤ 9223372036854775807) (ha1 : -9223372036854775808 ≤ at_) (ha : at_ ≤ 9223372036854775807)
    (hno : size < 1 ∨ 8 < size ∨ holdsB s.size at_ size = false) :
    Calls Try.prog 70 #[.string s, .int .i64 at_, .int .i64 size] w fun e w' => e = .returned (.tuple #[.int .u64 0, .bool false]) ∧ w = w' := by
  by_cases h1 : size < 1
  · clear hno
    go_enter Try.func70, Try.ntmps70
    go_wp2_with fail
    go_ret2
    exact ⟨rfl, rfl⟩
  · by_cases h2 : 8 < size
    · clear hno
      go_enter Try.func70, Try.ntmps70
      go_wp2_with fail
      go_ret2
      exact ⟨rfl, rfl⟩
    · have h3 : holdsB s.size at_ size = false := by
        rcases hno with h | h | h
        · omega
        · omega
        · exact h
      clear hno
      have H := Lib.hid h3; clear h3
      go_enter Try.func70, Try.ntmps70
      go_wp2_with fail
      refine (holds_any s at_ size _ hs hz1 hz ha1 ha).mono ?_
      rw [H.out]
      rintro e w' ⟨rfl, rfl⟩
      go_wp2_with fail
      go_ret2
      exact ⟨rfl, rfl⟩

theorem take_snoc (s : ByteArray) (i k : Nat) (h : i + k < s.size) : (s.data.toList.drop i).take (k + 1) = (s.data.toList.drop i).take k ++ [s[i + k]] := by
  rw [List.take_succ_eq_append_getElem (by simp; have : s.data.size = s.size := rfl; omega)]; simp; rfl

theorem be_take_lt (l : List UInt8) (j : Nat) (hj : j < 8) : be (l.take j) < 72057594037927936 := by
  have h1 := be_lt (l.take j)
  have h2 : (l.take j).length ≤ 7 := by rw [List.length_take]; omega
  have h3 : 256 ^ (l.take j).length ≤ 256 ^ 7 := Nat.pow_le_pow_right (by omega) h2
  omega
theorem get_round (s : ByteArray) (i j : Nat) (h : i + j < s.size) (hj : j < 8) :
    bits BinOp.or IntKind.u64 (IntKind.u64.wrap (↑(be (List.take j (List.drop i s.data.toList))) * 256)) (IntKind.u64.wrap ↑(s[i + j]'h).toNat) = ((be (List.take (j + 1) (List.drop i s.data.toList)) : Nat) : Int) := by
  have hc := (s[i + j]'h).toNat_lt
  have e : IntKind.u64.wrap ((s[i + j]'h).toNat : Int) = ((s[i + j]'h).toNat : Int) := by rw [IntKind.wrap_u64]; omega
  rw [e, be_or _ _ (be_take_lt _ _ hj) (by omega), take_snoc s i j h, be_snoc]
theorem mul_round (s : ByteArray) (i j : Nat) (h : i + j < s.size) (hj : j < 8) :
    IntKind.u64.wrap (IntKind.u64.wrap (↑(be (List.take j (List.drop i s.data.toList))) * 256) + IntKind.u64.wrap ↑(s[i + j]'h).toNat) = ((be (List.take (j + 1) (List.drop i s.data.toList)) : Nat) : Int) := by
  have hc := (s[i + j]'h).toNat_lt
  have hb := be_take_lt (s.data.toList.drop i) j hj
  rw [take_snoc s i j h, be_snoc, IntKind.wrap_u64, IntKind.wrap_u64, IntKind.wrap_u64]
  omega

theorem get_yes (s : ByteArray) (i n : Nat) (w : World) (hs : s.size ≤ maxLen) (hn1 : 1 ≤ n) (hn : n ≤ 8) (hi : i + n ≤ s.size) :
    Calls Try.prog 70 #[.string s, .int .i64 i, .int .i64 n] w fun e w' => e = .returned (.tuple #[.int .u64 (be ((s.data.toList.drop i).take n) : Nat), .bool true]) ∧ w = w' := by
  unfold maxLen at hs
  have h3 : holdsB s.size i n = true := by simp [holdsB]; omega
  have H := Lib.hid h3; clear h3
  go_enter Try.func70, Try.ntmps70
  go_wp2_with fail
  refine (holds_any s i n _ (by unfold maxLen; omega) (by omega) (by omega) (by omega) (by omega)).mono ?_
  rw [H.out]
  rintro e w' ⟨rfl, rfl⟩
  go_wp2_with fail
  go_loop [8, 24, 9] (fun r k _ => ∃ j : Nat, j ≤ n ∧ k = .int .i64 j ∧ r = .int .u64 (be ((s.data.toList.drop i).take j) : Nat)) (fun _ k _ => n - (intOf k).toNat)
  case atStart => exact ⟨0, Nat.zero_le _, rfl, rfl⟩
  case round =>
    obtain ⟨j, hj, rfl, rfl⟩ := hrel
    by_cases hlt : j < n
    · have hl : (i : Int) + j < s.size := by omega
      go_wp2_with fail
      go_round
      case rel => exact ⟨j + 1, by omega, by go_num, by rw [get_round s i j (by omega) (by omega)]⟩
      case measure => simp [intOf]; omega
    · go_wp2_with fail
      have : j = n := by omega
      subst this
      go_ret2
      exact ⟨rfl, rfl⟩

theorem refpart_no (s : ByteArray) (at_ size : Int) (w : World) (hs : s.size ≤ maxLen)
    (hno : holdsB s.size at_ size = false) :
    Calls Try.prog 73 #[.string s, .int .i64 at_, .int .i64 size] w fun e w' => e = .returned (.tuple #[.string ⟨#[]⟩, .bool false]) ∧ w = w' := by
  unfold maxLen at hs
  have hn : ¬ (0 ≤ at_ ∧ 0 ≤ size ∧ at_ + size ≤ s.size) := by simpa [holdsB] using hno
  clear hno
  by_cases h1 : at_ < 0
  · clear hn
    go_enter Try.func73, Try.ntmps73
    go_wp2_with fail
    go_ret2
    exact ⟨rfl, rfl⟩
  · by_cases h2 : size < 0
    · clear hn
      go_enter Try.func73, Try.ntmps73
      go_wp2_with fail
      go_ret2
      exact ⟨rfl, rfl⟩
    · by_cases h3 : (s.size : Int) < at_
      · clear hn
        go_enter Try.func73, Try.ntmps73
        go_wp2_with fail
        go_ret2
        exact ⟨rfl, rfl⟩
      · have h4 : s.size - at_ < size := by omega
        clear hn
        go_enter Try.func73, Try.ntmps73
        go_wp2_with fail
        go_ret2
        exact ⟨rfl, rfl⟩

theorem refpart_yes (s : ByteArray) (i n : Nat) (w : World) (hs : s.size ≤ maxLen) (hi : i + n ≤ s.size) :
    Calls Try.prog 73 #[.string s, .int .i64 i, .int .i64 n] w fun e w' => e = .returned (.tuple #[.string (s.extract i (i + n)), .bool true]) ∧ w = w' := by
  unfold maxLen at hs
  have h0 : (0 : Int) ≤ i := by omega
  have h1 : (0 : Int) ≤ n := by omega
  have h2 : (i : Int) ≤ s.size := by omega
  have h3 : (n : Int) ≤ s.size - i := by omega
  have h4 : (i : Int) + n ≤ s.size := by omega
  go_enter Try.func73, Try.ntmps73
  go_wp2_with fail
  go_ret2
  exact ⟨rfl, rfl⟩
end Go.Proofs.Ytihkmdojakalbaa

/-
  DERIVED: THE SHELF's CONTRACTS AT THIS DUMP, IN PLAIN WORDS (tools/lay-plain.mjs out of 'TryShelf.lean', which tools/lay-shelf.mjs wrote): THE SAME DECLARATIONS UNDER THE SAME NAMES: 'import', 'namespace', 'open', 'def', 'theorem' AND NOTHING ELSE: no command of the shelf's: FOR A HAND-IN. Each laying: the table of numbers ('.._ren') and one theorem, a field a fact of the dump's own or the kernel's comparison; each contract: ONE APPLICATION.
-/
namespace Go.Proofs
open Go.Shelf
def Try.lays169_ren : Go.Shelf.Ren := ⟨fun | 169 => 112 | n => n, fun | 70 => 145 | 9 => 9 | 0 => 0 | 72 => 147 | 37 => 71 | 127 => 153 | 3 => 3 | 5 => 5 | n => n, fun | n => n⟩
theorem Try.lays169 : Go.Proofs.Lays.n169 Try.prog Try.lays169_ren := {
  mixed := by kernel_rfl
  f169 := Try.func112.trans (congrArg some (by kernel_rfl))
  t0 := Try.underlying0
  a0 := Try.isAgg0
  z0 := Try.sizeOf0
  v0 := Try.zeroValue0
  t3 := Try.underlying3
  a3 := Try.isAgg3
  z3 := Try.sizeOf3
  v3 := Try.zeroValue3
  t9 := Try.underlying9
  a9 := Try.isAgg9
  z9 := Try.sizeOf9
  v9 := Try.zeroValue9
  t37 := Try.underlying71
  a37 := Try.isAgg71
  z37 := Try.sizeOf71
  v37 := Try.zeroValue71
  t70 := Try.underlying145
  a70 := Try.isAgg145
  z70 := Try.sizeOf145
  v70 := Try.zeroValue145
  t72 := Try.underlying147
  a72 := Try.isAgg147
  z72 := Try.sizeOf147
  v72 := Try.zeroValue147
  t127 := Try.underlying153
  a127 := Try.isAgg153
  z127 := Try.sizeOf153
  v127 := Try.zeroValue153 }
theorem Try.Builder_Extra_169 : Builder.Extra Try.prog Try.lays169_ren := {
  sizeBuilder := by kernel_rfl
  liesBuilder := by kernel_rfl
  t5 := Try.underlying5
  a5 := Try.isAgg5
  z5 := Try.sizeOf5
  v5 := Try.zeroValue5
  infoByte := by kernel_rfl
  cellsByte := by kernel_rfl
  sizeByte := by kernel_rfl
  neB5 := by decide }
open Go.RowKit in
/-- (*strings.Builder).String: "String returns the accumulated string.": OF A BUILDER THAT HOLDS AT LEAST ONE BYTE. ✋ THE MODEL FREEZES THOSE BYTES IN THE BUFFER (unsafe.String): a later write INTO them ends the model's run without an answer; a later append BEHIND them goes on. The statement's order of evaluation is drawn: one draw. (LAID: no walk: one application.) -/
theorem Try.Builder_String (B b : Nat) (l : List UInt8) (w : World) (h : Lib.IsBuilder 147 5 B b (Lib.byteCells l) w) (h0 : l ≠ []) :
    Calls Try.prog 112 #[.pointer (some ⟨b, 0, none⟩)] w fun e w' => e = .returned (.string ⟨l.toArray⟩) ∧ Below B w w' := Any.Builder_String Try.lays169 Try.Builder_Extra_169 B b l w h h0
open Go.RowKit in
/-- (*strings.Builder).String OF A BUILDER THAT HOLDS NO BYTE: the empty string. (Its buffer is nil, or a row of which it has taken nothing yet; where that row has NO capacity the model lays one new block for unsafe.SliceData's 'some address'.) One draw. (LAID: no walk: one application.) -/
theorem Try.Builder_String_empty (B b : Nat) (w : World) (h : Lib.IsBuilder 147 5 B b [] w) (hBw : B ≤ w.heap.size) :
    Calls Try.prog 112 #[.pointer (some ⟨b, 0, none⟩)] w fun e w' => e = .returned (.string ⟨#[]⟩) ∧ Below B w w' := Any.Builder_String_empty Try.lays169 Try.Builder_Extra_169 B b w h hBw
open Go.RowKit in
/-- (*strings.Builder).String: "String returns the accumulated string.": WHATEVER THE BUILDER HOLDS. (LAID: no walk: one application.) -/
theorem Try.Builder_String_any (B b : Nat) (l : List UInt8) (w : World) (h : Lib.IsBuilder 147 5 B b (Lib.byteCells l) w) (hBw : B ≤ w.heap.size) :
    Calls Try.prog 112 #[.pointer (some ⟨b, 0, none⟩)] w fun e w' => e = .returned (.string ⟨l.toArray⟩) ∧ Below B w w' := Any.Builder_String_any Try.lays169 Try.Builder_Extra_169 B b l w h hBw
open Go.RowKit in
/-- (*strings.Builder).String: "String returns the accumulated string.": OF A BUILDER THAT HOLDS AT LEAST ONE BYTE. ✋ THE MODEL FREEZES THOSE BYTES IN THE BUFFER (unsafe.String): a later write INTO them ends the model's run without an answer; a later append BEHIND them goes on. The statement's order of evaluation is drawn: one draw. THE FORM '_f': IT SAYS BESIDES THAT THE BUILDER IS A BUILDER STILL ('Lib.IsBuilderF', the same bytes): SO IT CAN BE WRITTEN ON: 'b.WriteString(b.String()[:k])'. (LAID: no walk: one application.) -/
theorem Try.Builder_String_f (B b : Nat) (l : List UInt8) (w : World) (h : Lib.IsBuilderF 147 5 B b (Lib.byteCells l) w) (h0 : l ≠ []) :
    Calls Try.prog 112 #[.pointer (some ⟨b, 0, none⟩)] w fun e w' => e = .returned (.string ⟨l.toArray⟩) ∧ (Lib.IsBuilderF 147 5 B b (Lib.byteCells l) w' ∧ Below B w w') := Any.Builder_String_f Try.lays169 Try.Builder_Extra_169 B b l w h h0
open Go.RowKit in
/-- (*strings.Builder).String OF A BUILDER THAT HOLDS NO BYTE: the empty string; THE FORM '_f': a builder still. (LAID: no walk: one application.) -/
theorem Try.Builder_String_empty_f (B b : Nat) (w : World) (h : Lib.IsBuilderF 147 5 B b [] w) (hBw : B ≤ w.heap.size) :
    Calls Try.prog 112 #[.pointer (some ⟨b, 0, none⟩)] w fun e w' => e = .returned (.string ⟨#[]⟩) ∧ (Lib.IsBuilderF 147 5 B b [] w' ∧ Below B w w') := Any.Builder_String_empty_f Try.lays169 Try.Builder_Extra_169 B b w h hBw
open Go.RowKit in
/-- (*strings.Builder).String: "String returns the accumulated string.": WHATEVER THE BUILDER HOLDS; THE FORM '_f': OF A BUILDER THAT MAY HAVE BEEN READ BEFORE; AND IT IS A BUILDER STILL, holding the same bytes: it can be written on. (LAID: no walk: one application.) -/
theorem Try.Builder_String_any_f (B b : Nat) (l : List UInt8) (w : World) (h : Lib.IsBuilderF 147 5 B b (Lib.byteCells l) w) (hBw : B ≤ w.heap.size) :
    Calls Try.prog 112 #[.pointer (some ⟨b, 0, none⟩)] w fun e w' => e = .returned (.string ⟨l.toArray⟩) ∧ (Lib.IsBuilderF 147 5 B b (Lib.byteCells l) w' ∧ Below B w w') := Any.Builder_String_any_f Try.lays169 Try.Builder_Extra_169 B b l w h hBw
open Go.RowKit in
/-- (*strings.Builder).String: "String returns the accumulated string.": OF A BUILDER THAT HOLDS AT LEAST ONE BYTE. ✋ THE MODEL FREEZES THOSE BYTES IN THE BUFFER (unsafe.String): a later write INTO them ends the model's run without an answer; a later append BEHIND them goes on. The statement's order of evaluation is drawn: one draw. THE FORM '_k': OVER 'Lib.IsBuilderF' (a builder that 'String()' may have read), AND WITH THE FRAME THAT REACHES ABOVE THE BUILDER: 'Lib.OthersKept': every block that is not b and is no row of uint8's stands as it stood: the iterator of a range among them. (LAID: no walk: one application.) -/
theorem Try.Builder_String_k (B b : Nat) (l : List UInt8) (w : World) (h : Lib.IsBuilderF 147 5 B b (Lib.byteCells l) w) (h0 : l ≠ []) :
    Calls Try.prog 112 #[.pointer (some ⟨b, 0, none⟩)] w fun e w' => e = .returned (.string ⟨l.toArray⟩) ∧ (Lib.IsBuilderF 147 5 B b (Lib.byteCells l) w' ∧ Below B w w' ∧ Lib.OthersKept 5 (some b) w w') := Any.Builder_String_k Try.lays169 Try.Builder_Extra_169 B b l w h h0
open Go.RowKit in
/-- (*strings.Builder).String OF A BUILDER THAT HOLDS NO BYTE: the empty string; THE FORM '_k': OVER 'Lib.IsBuilderF' (a builder that 'String()' may have read), AND WITH THE FRAME THAT REACHES ABOVE THE BUILDER: 'Lib.OthersKept': every block that is not b and is no row of uint8's stands as it stood: the iterator of a range among them. (LAID: no walk: one application.) -/
theorem Try.Builder_String_empty_k (B b : Nat) (w : World) (h : Lib.IsBuilderF 147 5 B b [] w) (hBw : B ≤ w.heap.size) :
    Calls Try.prog 112 #[.pointer (some ⟨b, 0, none⟩)] w fun e w' => e = .returned (.string ⟨#[]⟩) ∧ (Lib.IsBuilderF 147 5 B b [] w' ∧ Below B w w' ∧ Lib.OthersKept 5 (some b) w w') := Any.Builder_String_empty_k Try.lays169 Try.Builder_Extra_169 B b w h hBw
open Go.RowKit in
/-- (*strings.Builder).String: "String returns the accumulated string.": WHATEVER THE BUILDER HOLDS; THE FORM '_k': OVER 'Lib.IsBuilderF' (a builder that 'String()' may have read), AND WITH THE FRAME THAT REACHES ABOVE THE BUILDER: 'Lib.OthersKept': every block that is not b and is no row of uint8's stands as it stood: the iterator of a range among them. (LAID: no walk: one application.) -/
theorem Try.Builder_String_any_k (B b : Nat) (l : List UInt8) (w : World) (h : Lib.IsBuilderF 147 5 B b (Lib.byteCells l) w) (hBw : B ≤ w.heap.size) :
    Calls Try.prog 112 #[.pointer (some ⟨b, 0, none⟩)] w fun e w' => e = .returned (.string ⟨l.toArray⟩) ∧ (Lib.IsBuilderF 147 5 B b (Lib.byteCells l) w' ∧ Below B w w' ∧ Lib.OthersKept 5 (some b) w w') := Any.Builder_String_any_k Try.lays169 Try.Builder_Extra_169 B b l w h hBw
def Try.laysM316_ren : Go.Shelf.Ren := ⟨fun | 316 => 109 | n => n, fun | 9 => 9 | 3 => 3 | 4 => 4 | 37 => 71 | 0 => 0 | 127 => 153 | 5 => 5 | n => n, fun | n => n⟩
theorem Try.laysM316 : Go.Proofs.LaysM.n316 Try.prog Try.laysM316_ren := {
  mixed := by kernel_rfl
  f316 := Try.func109.trans (congrArg some (by kernel_rfl))
  t0 := Try.underlying0
  a0 := Try.isAgg0
  z0 := Try.sizeOf0
  v0 := Try.zeroValue0
  t3 := Try.underlying3
  a3 := Try.isAgg3
  z3 := Try.sizeOf3
  v3 := Try.zeroValue3
  t4 := Try.underlying4
  a4 := Try.isAgg4
  z4 := Try.sizeOf4
  v4 := Try.zeroValue4
  t9 := Try.underlying9
  a9 := Try.isAgg9
  z9 := Try.sizeOf9
  v9 := Try.zeroValue9
  t37 := Try.underlying71
  a37 := Try.isAgg71
  z37 := Try.sizeOf71
  v37 := Try.zeroValue71
  t127 := Try.underlying153
  a127 := Try.isAgg153
  z127 := Try.sizeOf153
  v127 := Try.zeroValue153
  t5 := Try.underlying5
  a5 := Try.isAgg5
  z5 := Try.sizeOf5
  v5 := Try.zeroValue5
  i0 := by kernel_rfl
  i3 := by kernel_rfl
  i4 := by kernel_rfl
  i5 := by kernel_rfl
  i9 := by kernel_rfl
  i37 := by kernel_rfl
  i127 := by kernel_rfl }
open Go.RowKit in
/-- internal/stringslite.Clone (what strings.Clone calls): "Clone returns a fresh copy of s.": THE SAME BYTES. Of what was there nothing has turned (a new row is laid, and frozen, where s is not empty). (LAID: no walk: one application.) -/
theorem Try.stringslite_Clone (s : ByteArray) (w : World) (hlim : s.size ≤ 281474976710656) :
    Calls Try.prog 109 #[.string s] w fun e w' => e = .returned (.string s) ∧ Below w.heap.size w w' := Any.stringslite_Clone Try.laysM316 s w hlim
end Go.Proofs

/- The contract of strings.Clone. For texts of at most 10^6 bytes. -/
namespace Go.Proofs.Ytihkmdojakalbaa
open Go.RowKit

theorem clone_any (s : ByteArray) (w : World) (hs : s.size ≤ 1000000) :
    Calls Try.prog 106 #[.string s] w fun e w' => e = .returned (.string s) ∧ Below w.heap.size w w' := by
  go_enter Try.func106, Try.ntmps106
  go_wp2_with fail
  refine (Try.stringslite_Clone s _ (by omega)).mono ?_
  rintro e w1 ⟨rfl, hB⟩
  go_wp2_with fail
  go_ret
  exact ⟨rfl, hB⟩

end Go.Proofs.Ytihkmdojakalbaa

/- The contracts of num's Part. For texts of at most 10^6 bytes. -/
namespace Go.Proofs.Ytihkmdojakalbaa
open Go.RowKit NumMath

theorem part_no (s : ByteArray) (at_ size : Int) (w : World) (hs : s.size ≤ 1000000) (hz1 : -9223372036854775808 ≤ size) (hz : size ≤ 9223372036854775807) (ha1 : -9223372036854775808 ≤ at_) (ha : at_ ≤ 9223372036854775807)
    (h3 : holdsB s.size at_ size = false) :
    Calls Try.prog 104 #[.string s, .int .i64 at_, .int .i64 size] w fun e w' => e = .returned (.tuple #[.string ⟨#[]⟩, .bool false]) ∧ w = w' := by
  have H := Lib.hid h3; clear h3
  go_enter Try.func104, Try.ntmps104
  go_wp2_with fail
  refine (holds_any s at_ size _ (by unfold maxLen; omega) hz1 hz ha1 ha).mono ?_
  rw [H.out]
  rintro e w' ⟨rfl, rfl⟩
  go_wp2_with fail
  go_ret2
  exact ⟨rfl, rfl⟩

theorem part_yes (s : ByteArray) (i n : Nat) (w : World) (hs : s.size ≤ 1000000) (hi : i + n ≤ s.size) :
    Calls Try.prog 104 #[.string s, .int .i64 i, .int .i64 n] w fun e w' => e = .returned (.tuple #[.string (s.extract i (i + n)), .bool true]) ∧ Below w.heap.size w w' := by
  have h3 : holdsB s.size i n = true := by simp [holdsB]; omega
  have H := Lib.hid h3; clear h3
  have h0 : (0 : Int) ≤ i := by omega
  have h1 : (0 : Int) ≤ n := by omega
  have h4 : (i : Int) + n ≤ s.size := by omega
  go_enter Try.func104, Try.ntmps104
  go_wp2_with fail
  refine (holds_any s i n _ (by unfold maxLen; omega) (by omega) (by omega) (by omega) (by omega)).mono ?_
  rw [H.out]
  rintro e w' ⟨rfl, rfl⟩
  go_wp2_with fail
  refine (clone_any _ _ (by simp only [ByteArray.size_extract]; omega)).mono ?_
  rintro e w1 ⟨rfl, hB⟩
  go_wp2_with fail
  go_ret2
  exact ⟨rfl, hB⟩
end Go.Proofs.Ytihkmdojakalbaa

/- A quiet call behind some draws. No condition. -/
namespace Go.Proofs.Ytihkmdojakalbaa
open Go Go.RowKit
theorem quiet_left {P : Program} {f : FuncId} {args : Array Value} {w : World} {n : Nat} {v : Value}
    (h : Calls P f args (w.drewN n) fun e w' => e = .returned v ∧ w.drewN n = w') : Calls P f args (w.drewN n) fun e w'' => e = .returned v ∧ ∃ m, w'' = w.drewN m :=
  h.mono fun _ _ ⟨he, hm⟩ => ⟨he, n, hm.symm⟩
end Go.Proofs.Ytihkmdojakalbaa

/- The contracts of a message's reader: the next number, the next bytes, what is left. For texts of at most 10^6 bytes. -/
namespace Go.Proofs.Ytihkmdojakalbaa
open Go.RowKit NumMath

/-- A reader of a message: the message, that up to where the reading ends, the place, what is told where bytes are lacking. -/
def RdrAt (W : World) (r : Nat) (a s : ByteArray) (p : Int) (k : Nat) : Prop := W.heap[r]? = some (.cells #[.string a, .string s, .int .i64 p, .int .i64 k] 56 (0, 0))
section
variable {W W' : World} {r B : Nat} {a s : ByteArray} {p : Int} {k : Nat}
theorem RdrAt.c0 (h : RdrAt W r a s p k) : W.cell? ⟨r, 0, none⟩ = some (.string a) := cell_of_row W r 0 _ _ _ h
theorem RdrAt.c1 (h : RdrAt W r a s p k) : W.cell? ⟨r, 1, none⟩ = some (.string s) := cell_of_row W r 1 _ _ _ h
theorem RdrAt.c2 (h : RdrAt W r a s p k) : W.cell? ⟨r, 2, none⟩ = some (.int .i64 p) := cell_of_row W r 2 _ _ _ h
theorem RdrAt.c3 (h : RdrAt W r a s p k) : W.cell? ⟨r, 3, none⟩ = some (.int .i64 k) := cell_of_row W r 3 _ _ _ h
theorem RdrAt.f2 (h : RdrAt W r a s p k) (i : Nat) : W.frozen? ⟨r, i, none⟩ = false := by
  unfold RdrAt at h
  simp [World.frozen?, h]
theorem RdrAt.lt (h : RdrAt W r a s p k) : r < W.heap.size := by
  rcases Nat.lt_or_ge r W.heap.size with hlt | hge
  · exact hlt
  · unfold RdrAt at h; rw [Array.getElem?_eq_none hge] at h; cases h
theorem RdrAt.drewN (h : RdrAt W r a s p k) (n : Nat) : RdrAt (W.drewN n) r a s p k := h
theorem RdrAt.drew (h : RdrAt W r a s p k) : RdrAt W.drew r a s p k := h
theorem RdrAt.below (h : RdrAt W r a s p k) (hb : Below B W W') (hr : r < B) : RdrAt W' r a s p k := (hb.block r hr).trans h
theorem RdrAt.held (h : RdrAt W r a s p k) (hb : Below W.heap.size W W') : RdrAt W' r a s p k := h.below hb h.lt
theorem RdrAt.set (h : RdrAt W r a s p k) (q : Int) : RdrAt (W.setCell ⟨r, 2, none⟩ (.int .i64 q)) r a s q k := by
  unfold RdrAt at h ⊢
  simp [World.setCell, Array.getElem?_modify, h]
theorem RdrAt.far (h : RdrAt W r a s p k) {q : Addr} (hq : r ≠ q.block) (v : Value) : RdrAt (W.setCell q v) r a s p k := (Below.heap_setCell W q v r hq).trans h
theorem RdrAt.other (h : RdrAt W r a s p k) {q : Nat} (hg : W.grownBy W' (some q)) (hq : r ≠ q) : RdrAt W' r a s p k := (grown_block hg h.lt hq).trans h
end

/-- A reading that gives up with an error. -/
abbrev gave (k : Nat) : Ending := .panicked [{ v := .iface 28 (.int .i64 k), recovered := false }]

theorem be_take_lt4 (l : List UInt8) (n : Nat) (hn : n ≤ 4) : be (l.take n) < 4294967296 := by
  have h1 := be_lt (l.take n)
  have h2 : (l.take n).length ≤ 4 := by rw [List.length_take]; omega
  have h3 : 256 ^ (l.take n).length ≤ 256 ^ 4 := Nat.pow_le_pow_right (by omega) h2
  omega

theorem number_yes (a s : ByteArray) (r p n k x : Nat) (w : World) (h : RdrAt w r a s p k) (hn1 : 1 ≤ n) (hn : n ≤ 4) (hp : p + n ≤ s.size) (hs : s.size ≤ 1000000) (hx : Hid (be ((s.data.toList.drop p).take n) = x)) :
    Calls Try.prog 46 #[.pointer (some ⟨r, 0, none⟩), .int .i64 n] w fun e w' => e = .returned (.int .u32 x) ∧ RdrAt w' r a s (p + n) k ∧ w.grownBy w' (some r) := by
  have h1 := h.c1
  have h2 := h.c2
  have hf := h.f2 2
  have H := Lib.hid h
  clear h
  have hxl : x < 4294967296 := by rw [← hx.out]; exact be_take_lt4 _ _ hn
  have hget := fun m : Nat => get_yes s p n (w.drewN m) (by unfold maxLen; omega) hn1 (by omega) hp
  rw [hx.out] at hget
  have HG := Lib.hid hget
  clear hget
  go_enter Try.func46, Try.ntmps46
  go_wp2_with fail
  go_quiet ((go_at_call 70; exact quiet_left (HG.out _)))
  go_wp2_with fail
  go_ret
  refine ⟨rfl, ?_, ?_⟩
  · exact (H.out.drewN _).set _
  · exact only_setCell (g := r) (grown_drewN (grown_refl w _) _) (p := ⟨r, 2, none⟩) (.inl rfl) _

theorem number_no (a s : ByteArray) (r k : Nat) (p : Int) (n : Nat) (w : World) (h : RdrAt w r a s p k) (hs : s.size ≤ 1000000) (hn : n ≤ 4) (ha1 : -9223372036854775808 ≤ p) (ha : p ≤ 9223372036854775807)
    (hno : Hid (holdsB s.size p n = false)) :
    Calls Try.prog 46 #[.pointer (some ⟨r, 0, none⟩), .int .i64 n] w fun e w' => e = gave k ∧ ∃ m, w' = w.drewN m := by
  have h1 := h.c1
  have h2 := h.c2
  have h3 := h.c3
  clear h
  go_enter Try.func46, Try.ntmps46
  go_wp2_with fail
  go_quiet ((go_at_call 70; exact quiet_left (get_no s p n _ (by unfold maxLen; omega) (by omega) (by omega) (by omega) (by omega) (.inr (.inr hno.out)))))
  go_wp2_with fail
  exact ⟨rfl, rfl, _, rfl⟩
end Go.Proofs.Ytihkmdojakalbaa
