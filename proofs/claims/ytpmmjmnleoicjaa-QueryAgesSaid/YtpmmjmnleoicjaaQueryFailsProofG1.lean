/- Texts of one proof, one behind the other: RecFrame, WrMath, MsgAt, WrAll, WrCheck, RecFew, WrFew, RefSameAny. -/
import Derived.Test.YtpmmjmnleoicjaaProg
import Derived.Test.YtpmmjmnleoicjaaRecAt
import Derived.Test.YtpmmjmnleoicjaaBytes
import Derived.Test.YtpmmjmnleoicjaaNameMath
import Derived.Test.YtpmmjmnleoicjaaNmMath
import Derived.Test.YtpmmjmnleoicjaaNumBe
import Derived.Test.YtpmmjmnleoicjaaRecMath
import Derived.Test.YtpmmjmnleoicjaaMsgMath
import Derived.Test.YtpmmjmnleoicjaaStrs
import Derived.Test.YtpmmjmnleoicjaaNums
import Derived.Test.YtpmmjmnleoicjaaOwnRow
import Derived.Test.YtpmmjmnleoicjaaRecRow
import Derived.Test.YtpmmjmnleoicjaaRecAll
import Derived.Test.YtpmmjmnleoicjaaRdrAsk
import Derived.Test.YtpmmjmnleoicjaaRdrRead
import Derived.Test.YtpmmjmnleoicjaaRefSameMsg
import Derived.Test.YtpmmjmnleoicjaaNameIs
import Derived.Test.YtpmmjmnleoicjaaRecCheck
import Derived.Test.YtpmmjmnleoicjaaRecsRow
import Derived.Test.YtpmmjmnleoicjaaGrown
import Derived.Test.YtpmmjmnleoicjaaRecRefSame
import Derived.Deep.Fields
import Derived.ChangeSame
import Derived.ChangeSlices
import Derived.SliceStrings
import Derived.ProofKit
import Derived.OpenShut
import Derived.ShutString
import Derived.WalkKit
import Derived.Lib.Hide
import Derived.Laws.Rows
import Derived.Laws.AppendOwn
import Derived.Laws.AppendOwnNone
import Derived.Lib.AppendZerosOnto
import Derived.Outline
import Derived.IntWalk
import Derived.WalkSpells
import Derived.WalkLawsBesides
import Derived.RegionTactic
import Derived.Deep.QuietTactic
import Derived.BigQuiet
import Derived.Deep.Draws
import Derived.Lib.MinMax
import Derived.Deep.RegionHeld3
import Derived.Deep.RegionWith

/- How a record that came in reads: its fields, and its lists in memory. No condition. -/
namespace Go.Proofs.Ytpmmjmnleoicjaa
open Go.ChangeShapes Go.WideShapes Go.RowKit
open Bytes Strs Nums RecMath

theorem wf_u16 {z : Int} (h : (Lit.int .u16 z).wf = true) : ∃ k : Nat, z = (k : Int) ∧ k ≤ 65535 := by
  have h' : 0 ≤ z ∧ z ≤ 65535 := by
    have h2 : IntKind.u16.min ≤ z ∧ z ≤ IntKind.u16.max := by simpa [Lit.wf] using h
    exact h2
  exact ⟨z.toNat, by omega, by omega⟩
theorem wf_u32 {z : Int} (h : (Lit.int .u32 z).wf = true) : ∃ k : Nat, z = (k : Int) ∧ k ≤ 4294967295 := by
  have h' : 0 ≤ z ∧ z ≤ 4294967295 := by
    have h2 : IntKind.u32.min ≤ z ∧ z ≤ IntKind.u32.max := by simpa [Lit.wf] using h
    exact h2
  exact ⟨z.toNat, by omega, by omega⟩
section
variable {H : Type} {enc : TypeId × Value → H} {w : World} {base : Nat} {spare : Nat → Bool} {held : Bool} {fuel : Nat}
set_option maxRecDepth 100000 in
theorem came_texts {v : Value} {x : DataW H × List MemPlace} (h : DataW.trod enc Try.prog w base spare held fuel 57 [v] = some x) :
    ∃ A n c L, v = .slice A n c ∧ L.length = n ∧ RdS w w.heap.size A L ∧ n ≤ maxLen ∧ (A = none → c = 0) := by
  rcases open_strings Try.underlying57 Try.underlying9 (by kernel_rfl) h with ⟨hcs, _⟩ | ⟨ad, l, c, ss, hcs, _, hl, hm, hz, _, hcell, _⟩
  · injection hcs with hv
    exact ⟨none, 0, 0, [], hv, rfl, RdS.void _ _ _, Nat.zero_le _, fun _ => rfl⟩
  · injection hcs with hv
    have hls : l ≤ ss.length := by rw [hz]; split <;> omega
    have hlen : ((ss.take l).map fun s => s.data.toList).length = l := by rw [List.length_map, List.length_take]; omega
    refine ⟨some ad, l, c, (ss.take l).map fun s => s.data.toList, hv, hlen, fun hp => ⟨ad, rfl, ?_, fun k hk => ?_⟩, by omega, fun e => by cases e⟩
    · rw [hlen] at hp
      have := World.block_lt_of_cell? _ _ (hcell 0 (by omega))
      rwa [add_block] at this
    · rw [hlen] at hk
      rw [hcell k (by omega)]
      refine congrArg (fun s => some (Value.string s)) ?_
      have hk2 : k < (ss.take l).length := by rw [List.length_take]; omega
      rw [List.getD_eq_getElem?_getD, List.getD_eq_getElem?_getD, List.getElem?_map, List.getElem?_eq_getElem hk2, List.getElem_take, List.getElem?_eq_getElem (by omega)]
      exact (mk_data _).symm
set_option maxRecDepth 100000 in
theorem came_nums {v : Value} {x : DataW H × List MemPlace} (h : DataW.trod enc Try.prog w base spare held fuel 58 [v] = some x) :
    ∃ A n c L, v = .slice A n c ∧ L.length = n ∧ RdN w w.heap.size A L ∧ n ≤ maxLen ∧ (A = none → c = 0) ∧ ∀ k, k < L.length → L.getD k 0 ≤ 4294967295 := by
  rcases open_ints Try.underlying58 Try.underlying50 (by kernel_rfl) h with ⟨hcs, _⟩ | ⟨ad, l, c, zs, hcs, _, hl, hm, hz, _, hcell, hwf⟩
  · injection hcs with hv
    exact ⟨none, 0, 0, [], hv, rfl, RdN.void _ _ _, Nat.zero_le _, fun _ => rfl, fun k hk => absurd hk (Nat.not_lt_zero _)⟩
  · injection hcs with hv
    have hls : l ≤ zs.length := by rw [hz]; split <;> omega
    have hlen : ((zs.take l).map fun z => z.toNat).length = l := by rw [List.length_map, List.length_take]; omega
    have hget : ∀ k, k < l → ∃ m : Nat, zs.getD k 0 = (m : Int) ∧ ((zs.take l).map fun z => z.toNat).getD k 0 = m ∧ m ≤ 4294967295 := by
      intro k hk
      have hk1 : k < zs.length := by omega
      have hk2 : k < (zs.take l).length := by rw [List.length_take]; omega
      obtain ⟨m, hm1, hm2⟩ := wf_u32 (hwf zs[k] (List.getElem_mem hk1))
      refine ⟨m, ?_, ?_, hm2⟩
      · rw [List.getD_eq_getElem?_getD, List.getElem?_eq_getElem hk1]; exact hm1
      · rw [List.getD_eq_getElem?_getD, List.getElem?_map, List.getElem?_eq_getElem hk2, List.getElem_take]
        show zs[k].toNat = m
        rw [hm1]; rfl
    refine ⟨some ad, l, c, (zs.take l).map fun z => z.toNat, hv, hlen, fun hp => ⟨ad, rfl, ?_, fun k hk => ?_⟩, by omega, fun e => (by cases e), fun k hk => ?_⟩
    · rw [hlen] at hp
      have := World.block_lt_of_cell? _ _ (hcell 0 (by omega))
      rwa [add_block] at this
    · rw [hlen] at hk
      rw [hcell k (by omega)]
      obtain ⟨m, h1, h2, _⟩ := hget k hk
      rw [h1, h2]
    · rw [hlen] at hk
      obtain ⟨m, _, h2, h3⟩ := hget k hk
      rw [h2]
      exact h3
/-- What is known of a record that came in. -/
def CameRec (w : World) (v : Value) (R : Rec) (x : ByteArray) (k l t : Nat) (A1 : Option Addr) (n1 c1 : Nat) (A2 : Option Addr) (n2 c2 : Nat) (A3 : Option Addr) (n3 c3 : Nat) : Prop :=
  v = .agg #[.string x, .int .u16 k, .int .u16 l, .int .u32 t, .slice A1 n1 c1, .slice A2 n2 c2, .slice A3 n3 c3] ∧ RecAt w w.heap.size R x k l t A1 n1 A2 n2 A3 n3 ∧
  (k ≤ 65535 ∧ l ≤ 65535 ∧ t ≤ 4294967295 ∧ x.size ≤ maxLen ∧ n1 ≤ maxLen ∧ n2 ≤ maxLen ∧ n3 ≤ maxLen) ∧ ((A1 = none → c1 = 0) ∧ (A2 = none → c2 = 0) ∧ (A3 = none → c3 = 0)) ∧ ∀ k, k < R.nums.length → R.nums.getD k 0 ≤ 4294967295
set_option maxRecDepth 100000 in
theorem came_rec {r : Reach} {b0 : Nat} {v : Value} {d : DataW H} {p : List MemPlace} (hv : Value.okWide Try.prog w r b0 60 v) (h : DataW.Trod enc Try.prog w base spare held 60 v d p) :
    ∃ R x k l t A1 n1 c1 A2 n2 c2 A3 n3 c3, CameRec w v R x k l t A1 n1 c1 A2 n2 c2 A3 n3 c3 := by
  obtain ⟨cs, rfl, hsz⟩ := okWide_struct Try.underlying60 hv
  obtain ⟨lst⟩ := cs
  match lst, hsz.trans (show Try.prog.cellsOf 60 = 7 by kernel_rfl) with
  | [a0, a1, a2, a3, a4, a5, a6], _ =>
    obtain ⟨fuel, hf⟩ := h
    obtain ⟨xs, n, _, hx, _, hlen, hg⟩ := DataW.trod_struct Try.underlying60 hf
    match xs, hlen with
    | [y0, y1, y2, y3, y4, y5, y6], _ =>
      have cs1 : Try.prog.cellsOf 9 = 1 := by kernel_rfl
      have cs2 : Try.prog.cellsOf 22 = 1 := by kernel_rfl
      have cs3 : Try.prog.cellsOf 50 = 1 := by kernel_rfl
      have cs4 : Try.prog.cellsOf 57 = 1 := by kernel_rfl
      have cs5 : Try.prog.cellsOf 58 = 1 := by kernel_rfl
      have g0 : DataW.trod enc Try.prog w base spare held n 9 [a0] = some y0 := by simpa [Value.cells, cs1] using hg 0 _ rfl
      have g1 : DataW.trod enc Try.prog w base spare held n 22 [a1] = some y1 := by simpa [Value.cells, cs2] using hg 1 _ rfl
      have g2 : DataW.trod enc Try.prog w base spare held n 22 [a2] = some y2 := by simpa [Value.cells, cs2] using hg 2 _ rfl
      have g3 : DataW.trod enc Try.prog w base spare held n 50 [a3] = some y3 := by simpa [Value.cells, cs3] using hg 3 _ rfl
      have g4 : DataW.trod enc Try.prog w base spare held n 57 [a4] = some y4 := by simpa [Value.cells, cs4] using hg 4 _ rfl
      have g5 : DataW.trod enc Try.prog w base spare held n 58 [a5] = some y5 := by simpa [Value.cells, cs5] using hg 5 _ rfl
      have g6 : DataW.trod enc Try.prog w base spare held n 57 [a6] = some y6 := by simpa [Value.cells, cs4] using hg 6 _ rfl
      obtain ⟨x, e0, _, hxs⟩ := DataW.trod_string Try.underlying9 g0
      obtain ⟨z1, e1, _, hz1⟩ := DataW.trod_int Try.underlying22 g1
      obtain ⟨z2, e2, _, hz2⟩ := DataW.trod_int Try.underlying22 g2
      obtain ⟨z3, e3, _, hz3⟩ := DataW.trod_int Try.underlying50 g3
      obtain ⟨A1, n1, c1, L1, rfl, hl1, hr1, hm1, hc1⟩ := came_texts g4
      obtain ⟨A2, n2, c2, L2, rfl, hl2, hr2, hm2, hc2, hu2⟩ := came_nums g5
      obtain ⟨A3, n3, c3, L3, rfl, hl3, hr3, hm3, hc3⟩ := came_texts g6
      injection e0 with e0
      injection e1 with e1
      injection e2 with e2
      injection e3 with e3
      subst e0 e1 e2 e3
      obtain ⟨k, rfl, hk⟩ := wf_u16 hz1
      obtain ⟨l, rfl, hl⟩ := wf_u16 hz2
      obtain ⟨t, rfl, ht⟩ := wf_u32 hz3
      exact ⟨⟨x.data.toList, k, l, t, L1, L2, L3⟩, x, k, l, t, A1, n1, c1, A2, n2, c2, A3, n3, c3, rfl, ⟨rfl, rfl, rfl, rfl, hl1, hl2, hl3, hr1, hr2, hr3⟩, ⟨hk, hl, ht, hxs, hm1, hm2, hm3⟩, ⟨hc1, hc2, hc3⟩, hu2⟩
end
end Go.Proofs.Ytpmmjmnleoicjaa

/- Messages as bytes that are written, with what is known of names. No program, no condition. -/
namespace Go.Proofs.Ytpmmjmnleoicjaa.WrMath
open Go Bytes NameMath NmMath RecMath MsgMath

/-- Rests of names and their places, in the order in which they were written. -/
abbrev Known := List (List UInt8 × Nat)
def fnd : Known → List UInt8 → Option Nat
  | [], _ => none
  | (t, p) :: K, s => if t = s then some p else fnd K s
theorem fnd_app (K K' : Known) (s : List UInt8) : fnd (K ++ K') s = (fnd K s).or (fnd K' s) := by
  induction K with
  | nil => rfl
  | cons x K ih =>
    obtain ⟨t, p⟩ := x
    show (if t = s then some p else fnd (K ++ K') s) = _
    show _ = (if t = s then some p else fnd K s).or (fnd K' s)
    by_cases h : t = s
    · rw [if_pos h, if_pos h]; rfl
    · rw [if_neg h, if_neg h, ih]
theorem fnd_mem {K : Known} {s : List UInt8} {p : Nat} (h : fnd K s = some p) : (s, p) ∈ K := by
  induction K with
  | nil => cases h
  | cons x K ih =>
    obtain ⟨t, q⟩ := x
    unfold fnd at h
    by_cases ht : t = s
    · rw [if_pos ht] at h; injection h with h; subst h ht; simp
    · rw [if_neg ht] at h; exact List.mem_cons_of_mem _ (ih h)
/-- What is written, and what is known. -/
abbrev Wr := List UInt8 × Known
/-- What is known behind a rest that wasn't. -/
def learn (out : List UInt8) (K : Known) (rest : List UInt8) : Known := if out.length < 16384 then K ++ [(rest, out.length)] else K
def wName (out : List UInt8) (K : Known) (rest : List UInt8) : Wr :=
  if h : bt rest 0 = 0 then (out ++ [0], K)
  else match fnd K rest with
    | some p => (out ++ beTail (49152 + p) 2, K)
    | none => wName (out ++ rest.take (1 + bt rest 0)) (learn out K rest) (rest.drop (1 + bt rest 0))
termination_by rest.length
decreasing_by
  have : rest ≠ [] := fun e => by subst e; exact h rfl
  have := List.length_pos_iff.2 this
  rw [List.length_drop]
  omega
section
variable {out rest : List UInt8} {K : Known} {p : Nat}
theorem wName_root (h : bt rest 0 = 0) : wName out K rest = (out ++ [0], K) := by rw [wName, dif_pos h]
theorem wName_known (h : bt rest 0 ≠ 0) (hf : fnd K rest = some p) : wName out K rest = (out ++ beTail (49152 + p) 2, K) := by rw [wName, dif_neg h, hf]
theorem wName_new (h : bt rest 0 ≠ 0) (hf : fnd K rest = none) : wName out K rest = wName (out ++ rest.take (1 + bt rest 0)) (learn out K rest) (rest.drop (1 + bt rest 0)) := by rw [wName, dif_neg h, hf]
end
def nameW (n : List UInt8) (s : Wr) : Wr := wName s.1 s.2 n
def numW (n size : Nat) (s : Wr) : Wr := (s.1 ++ beTail n size, s.2)
def numsW (size : Nat) (L : List Nat) (s : Wr) : Wr := (s.1 ++ numsL size L, s.2)
theorem numsW_nil (size : Nat) (s : Wr) : numsW size [] s = s := by unfold numsW numsL; simp
theorem numsW_cons (size n : Nat) (L : List Nat) (s : Wr) : numsW size (n :: L) s = numsW size L (numW n size s) := by unfold numsW numW numsL; simp
/-- A record's data. -/
def dataW (R : Rec) (s : Wr) : Wr :=
  if R.kind = 2 ∨ R.kind = 5 ∨ R.kind = 12 then nameW (R.names.getD 0 []) s
  else if R.kind = 6 then numsW 4 R.nums (nameW (R.names.getD 1 []) (nameW (R.names.getD 0 []) s))
  else if R.kind = 15 then nameW (R.names.getD 0 []) (numsW 2 R.nums s)
  else (s.1 ++ plainO R, s.2)
/-- What stands ahead of a record's data, but for its length. -/
def headW (R : Rec) (s : Wr) : Wr := numW R.ttl 4 (numW R.cls 2 (numW R.kind 2 (nameW R.name s)))
/-- The length of the data, told where two bytes were kept for it. -/
def fillW (at_ : Nat) (out : List UInt8) : List UInt8 := out.take at_ ++ beTail (out.length - (at_ + 2)) 2 ++ out.drop (at_ + 2)
def recW (R : Rec) (s : Wr) : Wr :=
  let b := headW R s
  let d := dataW R (numW 0 2 b)
  (fillW b.1.length d.1, d.2)
def qnW (q : Qn) (s : Wr) : Wr := numW q.cls 2 (numW q.kind 2 (nameW q.name s))
def recsM (M : Msg) : List Rec := M.an ++ M.ns ++ M.ad
def startW (M : Msg) : Wr := numW M.ad.length 2 (numW M.ns.length 2 (numW M.an.length 2 (numW M.qs.length 2 (numW M.flags 2 (numW M.id 2 ([], []))))))
def qnsW (L : List Qn) (s : Wr) : Wr := L.foldl (fun s q => qnW q s) s
def recsW (L : List Rec) (s : Wr) : Wr := L.foldl (fun s R => recW R s) s
def msgW (M : Msg) : Wr := recsW (recsM M) (qnsW M.qs (startW M))
theorem qnsW_cons (q : Qn) (L : List Qn) (s : Wr) : qnsW (q :: L) s = qnsW L (qnW q s) := rfl
theorem recsW_cons (R : Rec) (L : List Rec) (s : Wr) : recsW (R :: L) s = recsW L (recW R s) := rfl
theorem qnsW_app (A B : List Qn) (s : Wr) : qnsW (A ++ B) s = qnsW B (qnsW A s) := by unfold qnsW; rw [List.foldl_append]
theorem recsW_app (A B : List Rec) (s : Wr) : recsW (A ++ B) s = recsW B (recsW A s) := by unfold recsW; rw [List.foldl_append]
/-- The first record's error. -/
def firstE : List Rec → Nat
  | [] => 0
  | R :: L => if checkE R = 0 then firstE L else checkE R
def checkM (M : Msg) : Nat := if 256 < M.qs.length + M.an.length + M.ns.length + M.ad.length then 6 else if M.qs.any (fun q => badName q.name) then 40 else firstE (recsM M)
def writeM (M : Msg) : List UInt8 × Nat := if checkM M = 0 then (if 65535 < (msgW M).1.length then ([], 3) else ((msgW M).1, 0)) else ([], checkM M)
theorem firstE_drop {L : List Rec} {k : Nat} (hk : k < L.length) : firstE (L.drop k) = if checkE (L[k]) = 0 then firstE (L.drop (k + 1)) else checkE (L[k]) := by
  rw [List.drop_eq_getElem_cons hk]
  rfl
theorem qnsW_drop {L : List Qn} {k : Nat} (hk : k < L.length) (s : Wr) : qnsW (L.drop k) s = qnsW (L.drop (k + 1)) (qnW (L[k]) s) := by
  rw [List.drop_eq_getElem_cons hk]
  rfl
theorem recsW_drop {L : List Rec} {k : Nat} (hk : k < L.length) (s : Wr) : recsW (L.drop k) s = recsW (L.drop (k + 1)) (recW (L[k]) s) := by
  rw [List.drop_eq_getElem_cons hk]
  rfl
theorem checkM_ok {M : Msg} (h : checkM M = 0) : M.qs.length + M.an.length + M.ns.length + M.ad.length ≤ 256 ∧ (∀ q ∈ M.qs, isN q.name = true) ∧ ∀ R ∈ recsM M, checkE R = 0 := by
  unfold checkM at h
  split at h
  · cases h
  · split at h
    · cases h
    · next h1 h2 =>
      refine ⟨by omega, fun q hq => ?_, ?_⟩
      · have : M.qs.any (fun q => badName q.name) = false := by simpa using h2
        have := List.any_eq_false.1 this q hq
        simpa [badName] using this
      · have key : ∀ L : List Rec, firstE L = 0 → ∀ R ∈ L, checkE R = 0 := by
          intro L
          induction L with
          | nil => intro _ R hR; cases hR
          | cons R L ih =>
            intro h S hS
            unfold firstE at h
            split at h
            · next h0 =>
              rcases List.mem_cons.1 hS with e | hS
              · subst e; exact h0
              · exact ih h S hS
            · next h0 => exact absurd h h0
        exact key _ h
/-- A rest of a name, as the program's checks leave it: a label that stands whole, or the root. -/
def Rests (l : List UInt8) : Prop := ∃ L : List (List UInt8), L.all okLab = true ∧ l = wire L ++ [0]
theorem rests_of {l : List UInt8} (h : isN l = true) : Rests l := by
  obtain ⟨L, hL⟩ := isN_some h
  obtain ⟨h1, h2, h3⟩ := labels_some hL
  exact ⟨L, by first | exact h2 | exact h1, by first | exact h1 | exact h2 | exact h1.symm⟩
theorem rests_cases {l : List UInt8} (h : Rests l) : (l = [0]) ∨ (bt l 0 ≠ 0 ∧ bt l 0 ≤ 63 ∧ 1 + bt l 0 < l.length ∧ Rests (l.drop (1 + bt l 0))) := by
  obtain ⟨L, h1, rfl⟩ := h
  cases L with
  | nil => exact .inl rfl
  | cons a L =>
    right
    rw [List.all_cons, Bool.and_eq_true] at h1
    have ha := okLab_iff.1 h1.1
    have e : wire (a :: L) ++ [0] = UInt8.ofNat a.length :: (a ++ (wire L ++ [0])) := by simp [wire]
    rw [e]
    have hb : bt (UInt8.ofNat a.length :: (a ++ (wire L ++ [0]))) 0 = a.length := ofNat_len h1.1
    rw [hb]
    refine ⟨by omega, by omega, by simp; omega, L, h1.2, ?_⟩
    rw [show 1 + a.length = a.length + 1 by omega, List.drop_succ_cons, List.drop_left]
end Go.Proofs.Ytpmmjmnleoicjaa.WrMath

/- Messages as a call has them: rows of questions and of records, anyone's. No condition. -/
namespace Go.Proofs.Ytpmmjmnleoicjaa
open Go Go.RowKit Bytes Strs Nums MsgMath RecMath

/-- These cells stand at a slice's place, below block B. -/
def CellsAt (w : World) (B : Nat) (A : Option Addr) (xs : List Value) : Prop := xs = [] ∨ ∃ b off, A = some ⟨b, off, none⟩ ∧ b < B ∧ ∀ (j : Nat) (u : Value), xs[j]? = some u → w.cell? ⟨b, off + j, none⟩ = some u
/-- The lists of these records lie below block B. -/
def ZAt (w : World) (B : Nat) (Z : List RecZ) : Prop := ∀ z ∈ Z, ∃ A1 c1 A2 c2 A3 c3, z.2.1 = .slice A1 z.1.names.length c1 ∧ z.2.2.1 = .slice A2 z.1.nums.length c2 ∧ z.2.2.2 = .slice A3 z.1.texts.length c3 ∧
  RecAt w B z.1 (mk z.1.name) z.1.kind z.1.cls z.1.ttl A1 z.1.names.length A2 z.1.nums.length A3 z.1.texts.length
/-- A message in memory: questions at Aq, records at Aa, An, Ax. -/
structure MsgAt (w : World) (B : Nat) (M : Msg) (Aq Aa An Ax : Option Addr) (Za Zn Zx : List RecZ) : Prop where
  q : CellsAt w B Aq (qnCs M.qs)
  a : CellsAt w B Aa (recCs Za)
  n : CellsAt w B An (recCs Zn)
  x : CellsAt w B Ax (recCs Zx)
  za : ZAt w B Za
  zn : ZAt w B Zn
  zx : ZAt w B Zx
  ea : Za.map (·.1) = M.an
  en : Zn.map (·.1) = M.ns
  ex : Zx.map (·.1) = M.ad
section
variable {w w' : World} {B B' : Nat} {A Aq Aa An Ax : Option Addr} {xs : List Value} {Z Z' Za Zn Zx : List RecZ} {M : Msg}
theorem CellsAt.on (h : CellsAt w B A xs) (hb : Below B w w') (hB : B ≤ B') : CellsAt w' B' A xs := by
  rcases h with h | ⟨b, off, e, hl, hc⟩
  · exact .inl h
  · exact .inr ⟨b, off, e, by omega, fun j u hu => (hb.cell (p := ⟨b, off + j, none⟩) hl).trans (hc j u hu)⟩
theorem CellsAt.get (h : CellsAt w B A xs) {j : Nat} {u : Value} (hu : xs[j]? = some u) : ∃ b off, A = some ⟨b, off, none⟩ ∧ b < B ∧ ∀ (j : Nat) (u : Value), xs[j]? = some u → w.cell? ⟨b, off + j, none⟩ = some u := by
  rcases h with h | h
  · subst h; cases hu
  · exact h
theorem ZAt.on (h : ZAt w B Z) (hb : Below B w w') (hB : B ≤ B') : ZAt w' B' Z := fun z hz => by
  obtain ⟨A1, c1, A2, c2, A3, c3, e1, e2, e3, hat⟩ := h z hz
  exact ⟨A1, c1, A2, c2, A3, c3, e1, e2, e3, hat.on hb hB⟩
theorem ZAt.app (h : ZAt w B Z) (h' : ZAt w B Z') : ZAt w B (Z ++ Z') := fun z hz => by
  rcases List.mem_append.1 hz with hz | hz
  · exact h z hz
  · exact h' z hz
theorem ZAt.one (h : ZAt w B Z) : ∀ u ∈ recCs Z, u.oneCell' = true := by
  intro u hu
  unfold recCs at hu
  obtain ⟨z, hz, hu⟩ := List.mem_flatMap.1 hu
  obtain ⟨A1, c1, A2, c2, A3, c3, e1, e2, e3, _⟩ := h z hz
  rw [e1, e2, e3] at hu
  simp [recV] at hu
  rcases hu with rfl | rfl | rfl | rfl | rfl | rfl | rfl <;> rfl
theorem MsgAt.on (h : MsgAt w B M Aq Aa An Ax Za Zn Zx) (hb : Below B w w') (hB : B ≤ B') : MsgAt w' B' M Aq Aa An Ax Za Zn Zx :=
  ⟨h.q.on hb hB, h.a.on hb hB, h.n.on hb hB, h.x.on hb hB, h.za.on hb hB, h.zn.on hb hB, h.zx.on hb hB, h.ea, h.en, h.ex⟩
/-- A question of a row. -/
theorem CellsAt.qn {L : List Qn} (h : CellsAt w B A (qnCs L)) {k : Nat} (hk : k < L.length) : ∃ b off, A = some ⟨b, off, none⟩ ∧ b < B ∧ w.cell? ⟨b, off + k * 3, none⟩ = some (.string (mk (L[k]).name)) ∧ w.cell? ⟨b, off + k * 3 + 1, none⟩ = some (.int .u16 (L[k]).kind) ∧ w.cell? ⟨b, off + k * 3 + 2, none⟩ = some (.int .u16 (L[k]).cls) := by
  have e := fun j (hj : j < 3) => qnCs_all (L := L) hk hj
  obtain ⟨b, off, rfl, hl, hc⟩ := h.get (e 0 (by decide))
  exact ⟨b, off, rfl, hl, hc (k * 3) _ (e 0 (by decide)), hc (k * 3 + 1) _ (e 1 (by decide)), hc (k * 3 + 2) _ (e 2 (by decide))⟩
/-- A record of a row. -/
theorem recs_get (h : CellsAt w B A (recCs Z)) (hz : ZAt w B Z) {k : Nat} (hk : k < Z.length) : ∃ b off A1 c1 A2 c2 A3 c3, A = some ⟨b, off, none⟩ ∧ b < B ∧ RecAt w B (Z[k]).1 (mk (Z[k]).1.name) (Z[k]).1.kind (Z[k]).1.cls (Z[k]).1.ttl A1 (Z[k]).1.names.length A2 (Z[k]).1.nums.length A3 (Z[k]).1.texts.length ∧
    w.cell? ⟨b, off + k * 7, none⟩ = some (.string (mk (Z[k]).1.name)) ∧ w.cell? ⟨b, off + k * 7 + 1, none⟩ = some (.int .u16 (Z[k]).1.kind) ∧ w.cell? ⟨b, off + k * 7 + 2, none⟩ = some (.int .u16 (Z[k]).1.cls) ∧ w.cell? ⟨b, off + k * 7 + 3, none⟩ = some (.int .u32 (Z[k]).1.ttl) ∧ w.cell? ⟨b, off + k * 7 + 4, none⟩ = some (.slice A1 (Z[k]).1.names.length c1) ∧ w.cell? ⟨b, off + k * 7 + 5, none⟩ = some (.slice A2 (Z[k]).1.nums.length c2) ∧ w.cell? ⟨b, off + k * 7 + 6, none⟩ = some (.slice A3 (Z[k]).1.texts.length c3) := by
  have e := fun j (hj : j < 7) => recCs_at (Z := Z) hk hj
  obtain ⟨A1, c1, A2, c2, A3, c3, e1, e2, e3, hat⟩ := hz (Z[k]) (List.getElem_mem hk)
  obtain ⟨b, off, rfl, hl, hc⟩ := h.get (e 0 (by decide))
  exact ⟨b, off, A1, c1, A2, c2, A3, c3, rfl, hl, hat, hc (k * 7) _ (e 0 (by decide)), hc (k * 7 + 1) _ (e 1 (by decide)), hc (k * 7 + 2) _ (e 2 (by decide)), hc (k * 7 + 3) _ (e 3 (by decide)), hc (k * 7 + 4) _ ((e 4 (by decide)).trans (by rw [e1]; rfl)), hc (k * 7 + 5) _ ((e 5 (by decide)).trans (by rw [e2]; rfl)), hc (k * 7 + 6) _ ((e 6 (by decide)).trans (by rw [e3]; rfl))⟩
/-- A row of one's own. -/
theorem cells_own {g size n : Nat} {e : TypeId} {v : Value} (h : w.ownsRow g e size v n xs) : ∃ A c, v = .slice A n c ∧ CellsAt w w.heap.size A xs := by
  rcases h.2 with ⟨rfl, h0⟩ | ⟨b, cap, cur, rfl, _, _, _⟩
  · exact ⟨none, 0, by rw [h0], .inl (List.length_eq_zero_iff.1 (by rw [h.1, h0, Nat.zero_mul]))⟩
  · refine ⟨_, cap, rfl, .inr ⟨b, 0, rfl, (h.lt b rfl).2, fun j u hu => ?_⟩⟩
    have := h.cells (g := b) rfl j u hu
    rwa [add_at, ← Nat.zero_add j] at this
theorem zAt_own {g : Nat} (h : ∀ z ∈ Z, RecIn w g z.1 z.2.1 z.2.2.1 z.2.2.2) : ZAt w w.heap.size Z := fun z hz => (h z hz).at_
end
/-- A list out of its places. -/
theorem list_of {α : Type} {P : Nat → α → Prop} : ∀ (n : Nat), (∀ k, k < n → ∃ x, P k x) → ∃ L : List α, L.length = n ∧ ∀ k (h : k < L.length), P k (L[k]) := by
  intro n
  induction n with
  | zero => intro _; exact ⟨[], rfl, fun k h => by cases h⟩
  | succ n ih =>
    intro h
    obtain ⟨L, hl, hL⟩ := ih fun k hk => h k (by omega)
    obtain ⟨x, hx⟩ := h n (by omega)
    refine ⟨L ++ [x], by rw [List.length_append, hl]; rfl, fun k hk => ?_⟩
    rw [List.length_append, List.length_singleton] at hk
    by_cases hkl : k < L.length
    · rw [List.getElem_append_left hkl]; exact hL k hkl
    · have : k = L.length := by omega
      subst this
      rw [List.getElem_append_right (Nat.le_refl _)]
      simp only [Nat.sub_self, List.getElem_cons_zero]
      rw [hl]
      exact hx
/-- Cells out of rows of equal width. -/
theorem cells_of {α : Type} {f : α → List Value} {m : Nat} (_hm : 0 < m) (hf : ∀ a, (f a).length = m) : ∀ {L : List α} {C : Nat → Option Value}, (∀ k (h : k < L.length) j, j < m → C (k * m + j) = (f (L[k]))[j]?) → ∀ j u, (L.flatMap f)[j]? = some u → C j = some u := by
  intro L
  induction L with
  | nil => intro C _ j u h; simp at h
  | cons a L ih =>
    intro C hC j u h
    have e : (a :: L).flatMap f = f a ++ L.flatMap f := rfl
    rw [e] at h
    by_cases hj : j < m
    · rw [List.getElem?_append_left (by rw [hf]; exact hj)] at h
      have := hC 0 (by simp) j hj
      rw [Nat.zero_mul, Nat.zero_add] at this
      rw [this]
      exact h
    · rw [List.getElem?_append_right (by rw [hf]; omega), hf] at h
      have := ih (C := fun i => C (m + i)) (fun k hk j hj => by
        have := hC (k + 1) (by simp; omega) j hj
        rw [Nat.add_mul, Nat.one_mul] at this
        simp only [List.getElem_cons_succ] at this
        rw [← this]
        congr 1
        omega) (j - m) u h
      rwa [show m + (j - m) = j by omega] at this
end Go.Proofs.Ytpmmjmnleoicjaa

/- The contracts of slices.Grow (of nil), slices.Concat (of three rows of records), and of the message's records. For rows of at most 100000. -/
namespace Go.Proofs.Ytpmmjmnleoicjaa
open Go.RowKit Bytes MsgMath RecMath

/-- append, by its run's equation, at the operation. -/
theorem wpList_append_run {P : Program} {w : World} {ops : Array Oper} {rest : List Oper} {o : Oper} {a : Act} {Q : Exit → Act → World → Prop} (hgd : o.guard = none) (s x : Operand) (t u : TypeId) (ho : o.op = .call { callee := .builtin .append, args := #[s, x], argTypes := #[t, u] })
    (v y : Value) (hs : a.eval s = v) (hx : a.eval x = y) (v' : Value) (w' : World) (hrun : (Builtin.append_ #[t, u] o.type #[v, y]).run P w = .ok v' w') (h : wpList P ops Q rest (a.put o.dst v') w') : wpList P ops Q (o :: rest) a w := by
  refine wpList_plain hgd fun K hK => ?_
  unfold Oper.wp execOp
  simp only [ho, resolve, invoke, builtin, Sem.run_bind, Sem.run_pure, Result.andThen_ok, List.map_toArray, List.map_cons, List.map_nil, hs, hx, hrun]
  exact hK _ _ h
set_option maxHeartbeats 2000000 in
set_option maxRecDepth 100000 in
theorem grow_nil (n : Nat) (w : World) (hn : n ≤ 1000000) :
    Calls Try.prog 107 #[.slice none 0 0, .int .i64 n] w fun e w' => ∃ v, e = .returned v ∧ w'.ownsRow w.heap.size 60 7 v 0 [] ∧ Below w.heap.size w w' := by
  by_cases h0 : 0 < n
  · obtain ⟨i0, hi, hz0, hz1, hz2⟩ := info_parts info_rec
    obtain ⟨G, hG⟩ : ∃ G, grownCap w n 0 60 = G := ⟨_, rfl⟩
    have hrun : ∀ ty, (Builtin.append_ #[24, 3] ty #[.slice none 0 0, .int .i64 n]).run Try.prog w = .ok (.slice (some ⟨w.heap.size, 0, none⟩) n G) (w.drew.alloc (.cells (Builtin.zeroCells (Value.agg #[.string ⟨#[]⟩, .int .u16 0, .int .u16 0, .int .u32 0, .slice none 0 0, .slice none 0 0, .slice none 0 0]).cells n ++ Builtin.zeroCells (Value.agg #[.string ⟨#[]⟩, .int .u16 0, .int .u16 0, .int .u32 0, .slice none 0 0, .slice none 0 0, .slice none 0 0]).cells (G - n)) 60)) := fun ty => by
      have h := Lib.run_append_grow_zeros (P := Try.prog) w 24 3 ty 60 i0 _ .i64 .i64 Try.underlying24 Try.underlying3 hi hz0 none 0 0 [] (run_firstCells_none w.drew i0.size 0 0 0) n h0 (by rw [hz1]; decide) (by omega) (by omega) (by rw [hz2]; omega) (by rw [hz2]; exact growslice_fits (by omega) (by omega))
      simp only [Nat.zero_add, hG] at h
      rw [h]
      simp
    have hge : n ≤ G := by rw [← hG]; exact grownCap_ge w n 0 _
    have hmax : G ≤ maxLen := by rw [← hG]; exact grownCap_le_maxLen w n 0 _ (by unfold maxLen; omega)
    have HSZ : Hid ((Builtin.zeroCells (Value.agg #[.string ⟨#[]⟩, .int .u16 0, .int .u16 0, .int .u32 0, .slice none 0 0, .slice none 0 0, .slice none 0 0]).cells n ++ Builtin.zeroCells (Value.agg #[.string ⟨#[]⟩, .int .u16 0, .int .u16 0, .int .u32 0, .slice none 0 0, .slice none 0 0, .slice none 0 0]).cells (G - n)).size = G * 7) := by
      show _ = _
      rw [Array.size_append, size_zeroCells, size_zeroCells, show (Value.agg #[.string ⟨#[]⟩, .int .u16 0, .int .u16 0, .int .u32 0, .slice none 0 0, .slice none 0 0, .slice none 0 0]).cells.size = 7 from rfl]
      omega
    generalize Builtin.zeroCells (Value.agg #[.string ⟨#[]⟩, .int .u16 0, .int .u16 0, .int .u32 0, .slice none 0 0, .slice none 0 0, .slice none 0 0]).cells n ++ Builtin.zeroCells (Value.agg #[.string ⟨#[]⟩, .int .u16 0, .int .u16 0, .int .u32 0, .slice none 0 0, .slice none 0 0, .slice none 0 0]).cells (G - n) = CS at *
    have hG63 : G ≤ 9223372036854775807 := by unfold maxLen at hmax; omega
    have HMX := Lib.hid hmax
    clear hG hi hz0 hz1 hz2 hmax
    go_enter Try.func107, Try.ntmps107
    go_wp2_with (at_builtin; refine wpList_append_run rfl _ _ 24 3 rfl _ _ rfl rfl _ _ (hrun _) ?_)
    go_ret
    exact ⟨_, rfl, ⟨rfl, .inr ⟨w.heap.size, G, CS, rfl, Nat.le_refl _, heap_alloc_new w.drew _, Nat.zero_le _, HMX.out, HSZ.out, by simp⟩⟩, (Below.refl _ _).drew.alloc (Nat.le_refl _) _⟩
  · obtain rfl : n = 0 := by omega
    go_enter Try.func107, Try.ntmps107
    go_wp2_with fail
    go_ret
    exact ⟨_, rfl, World.ownsRow_nil _ _ _ _, Below.refl _ _⟩

set_option maxRecDepth 100000 in
theorem run_append_recsA (w : World) (ty : TypeId) (g : Nat) (v : Value) (m : Nat) (xs : List Value) (hown : w.ownsRow g 60 7 v m xs) (B : Nat) (A : Option Addr) (n c : Nat) (ys : List Value) (hn : ys.length = n * 7) (hA : A = none → n = 0 ∧ c = 0) (hsrc : CellsAt w B A ys) (h1 : ∀ u ∈ ys, u.oneCell' = true) (hmn : m + n ≤ 1000000) (hg : g ≤ w.heap.size) :
    ∃ v' w', (Builtin.append_ #[24, 24] ty #[v, .slice A n c]).run Try.prog w = .ok v' w' ∧ w'.ownsRow g 60 7 v' (m + n) (xs ++ ys) ∧ w.grownBy w' v.ownBlock := by
  obtain ⟨i0, hi, hz0, hz1, hz2⟩ := info_parts info_rec
  cases A with
  | none =>
    obtain ⟨rfl, rfl⟩ := hA rfl
    have hy : ys = [] := List.length_eq_zero_iff.1 (by rw [hn])
    subst hy
    exact ⟨v, w, run_append_owned_none w g 24 ty 60 i0 7 Try.underlying24 hi v m xs hown, by simpa using hown, World.grownBy.refl w _⟩
  | some ad =>
    obtain ⟨v', w', hr, h2, h3, _⟩ := run_append_own (P := Try.prog) w g 24 ty 60 i0 (.agg #[.string ⟨#[]⟩, .int .u16 0, .int .u16 0, .int .u32 0, .slice none 0 0, .slice none 0 0, .slice none 0 0]) 7 96 Try.underlying24 hi hz0 hz1 hz2 rfl (by decide) v m xs hown ad n c ys hn (fun j u hj => by
      obtain ⟨b, off, e, _, hc⟩ := hsrc.get hj
      injection e with e
      subst e
      rw [Go.WideShapes.add_plain]
      exact hc j u hj) h1 (by unfold maxLen; omega) (by omega) hg
    exact ⟨v', w', hr, h2, h3⟩
/-- Three rows of records, one behind the other: what the loop has come to. -/
theorem own_recsA {w w1 : World} {g m : Nat} {v v' : Value} {xs ys : List Value} {n : Nat} (hown : w.ownsRow g 60 7 v m xs) (h2 : w1.ownsRow g 60 7 v' (m + n) (xs ++ ys)) (h3 : w.grownBy w1 v.ownBlock) {w0 : World} (hB : Below g w0 w) (hg : g ≤ w.heap.size) : Below g w0 w1 := by
  have _ := h2
  exact hB.grown h3 hg (fun k hk => (hown.lt k hk).1)
theorem wpList_append_recsA {w : World} {ops : Array Oper} {rest : List Oper} {o : Oper} {a : Act} {Q : Exit → Act → World → Prop} (hgd : o.guard = none) (s x : Operand) (ho : o.op = .call { callee := .builtin .append, args := #[s, x], argTypes := #[24, 24] })
    (g : Nat) (v : Value) (m : Nat) (Z : List RecZ) (hs : a.eval s = v) (hown : w.ownsRow g 60 7 v m (recCs Z)) (B : Nat) (A : Option Addr) (n c : Nat) (Y : List RecZ) (hx : a.eval x = .slice A n c) (hn : Y.length = n) (hA : A = none → n = 0 ∧ c = 0) (hsrc : CellsAt w B A (recCs Y)) (h1 : ∀ u ∈ recCs Y, u.oneCell' = true) (hmn : m + n ≤ 1000000) (hg : g ≤ w.heap.size) (w0 : World) (hB : Below g w0 w) (ZY : List RecZ) (hZY : Hid (Z ++ Y = ZY)) (mn : Nat) (hmn2 : m + n = mn)
    (h : ∀ v' w', w'.ownsRow g 60 7 v' mn (recCs ZY) → Below g w0 w' → wpList Try.prog ops Q rest (a.put o.dst v') w') : wpList Try.prog ops Q (o :: rest) a w := by
  obtain ⟨v', w', hr, h2, h3⟩ := run_append_recsA w o.type g v m _ hown B A n c (recCs Y) (by rw [recCs_len, hn]) hA hsrc h1 hmn hg
  have hZY2 := hZY.out
  subst hZY2
  subst hmn2
  refine wpList_append_run hgd s x _ _ ho v _ hs hx v' w' hr (h v' w' (by rw [recCs_app]; exact h2) (own_recsA hown h2 h3 hB hg))
set_option maxHeartbeats 4000000 in
set_option maxRecDepth 100000 in
theorem concat_any (Aa An Ax : Option Addr) (na nn nx ca cn cx bk B : Nat) (Za Zn Zx : List RecZ) (w : World) (hbk : w.heap[bk]? = some (.cells #[.slice Aa na ca, .slice An nn cn, .slice Ax nx cx] 24 (0, 0))) (hB : B ≤ w.heap.size)
    (ha : Hid (CellsAt w B Aa (recCs Za) ∧ Za.length = na ∧ (Aa = none → na = 0 ∧ ca = 0) ∧ ∀ u ∈ recCs Za, u.oneCell' = true))
    (hn : Hid (CellsAt w B An (recCs Zn) ∧ Zn.length = nn ∧ (An = none → nn = 0 ∧ cn = 0) ∧ ∀ u ∈ recCs Zn, u.oneCell' = true))
    (hx : Hid (CellsAt w B Ax (recCs Zx) ∧ Zx.length = nx ∧ (Ax = none → nx = 0 ∧ cx = 0) ∧ ∀ u ∈ recCs Zx, u.oneCell' = true)) (h1 : na ≤ 100000) (h2 : nn ≤ 100000) (h3 : nx ≤ 100000) :
    Calls Try.prog 73 #[.slice (some ⟨bk, 0, none⟩) 3 3] w fun e w' => ∃ v, e = .returned v ∧ w'.ownsRow w.heap.size 60 7 v (na + nn + nx) (recCs (Za ++ Zn ++ Zx)) ∧ Below w.heap.size w w' := by
  have hbl : bk < w.heap.size := (Array.getElem?_eq_some_iff.1 hbk).1
  have k0 := cell_of_row _ _ 0 _ _ _ hbk
  have k1 := cell_of_row _ _ 1 _ _ _ hbk
  have k2 := cell_of_row _ _ 2 _ _ _ hbk
  have HBK := Lib.hid hbk
  obtain ⟨g, hg⟩ : ∃ g, w.heap.size = g := ⟨_, rfl⟩
  have HG := Lib.hid hg
  have HGN := Lib.hid (grow_nil (na + nn + nx) w (by omega))
  obtain ⟨Z2, hZ2⟩ : ∃ Z, Za ++ Zn = Z := ⟨_, rfl⟩
  obtain ⟨Z3, hZ3⟩ : ∃ Z, Z2 ++ Zx = Z := ⟨_, rfl⟩
  obtain ⟨m2, hm2⟩ : ∃ m, na + nn = m := ⟨_, rfl⟩
  obtain ⟨m3, hm3⟩ : ∃ m, m2 + nx = m := ⟨_, rfl⟩
  have HZ2 := Lib.hid hZ2
  have HZ3 := Lib.hid hZ3
  have HZ4 : Hid (Za ++ Zn ++ Zx = Z3) := by show _ = _; rw [hZ2, hZ3]
  have HM2 := Lib.hid hm2
  have HM3 := Lib.hid hm3
  have HM4 : Hid (na + nn + nx = m3) := by show _ = _; omega
  have hcp : m2 + nx ≤ 1000000 ∧ na + nn ≤ 1000000 := by omega
  rw [HZ4.out, HM4.out]
  rw [HM4.out] at HGN
  clear hZ2 hZ3 hm2 hm3
  rw [hg] at hB hbl HGN ⊢
  clear hbk hg
  go_enter Try.func73, Try.ntmps73
  go_wp2_with fail
  go_loop [3, 11] (fun z i => ∃ k m : Nat, i = .int .i64 k ∧ z = .int .i64 m ∧ ((k = 0 ∧ m = 0) ∨ (k = 1 ∧ na = m) ∨ (k = 2 ∧ m2 = m) ∨ (k = 3 ∧ m3 = m))) (fun _ i => 3 - (intOf i).toNat)
  case atStart => exact ⟨0, 0, rfl, rfl, .inl ⟨rfl, rfl⟩⟩
  case round =>
    obtain ⟨k, m, rfl, rfl, hk⟩ := hrel
    rcases hk with ⟨rfl, rfl⟩ | ⟨rfl, rfl⟩ | ⟨rfl, rfl⟩ | ⟨rfl, rfl⟩
    · go_wp2_with fail
      go_round
      case rel => exact ⟨1, na, by go_num, by go_num, .inr (.inl ⟨rfl, rfl⟩)⟩
      case measure => simp [intOf]
    · go_wp2_with fail
      go_round
      case rel => exact ⟨2, m2, by go_num, by rw [← HM2.out]; go_num, .inr (.inr (.inl ⟨rfl, rfl⟩))⟩
      case measure => simp [intOf]
    · go_wp2_with fail
      go_round
      case rel => exact ⟨3, m3, by go_num, by rw [← HM3.out]; go_num, .inr (.inr (.inr ⟨rfl, rfl⟩))⟩
      case measure => simp [intOf]
    · go_wp2_with fail
      refine HGN.out.mono ?_
      rintro e w1 ⟨v1, rfl, hO, hBB⟩
      have HO := Lib.hid hO
      have HB1 := Lib.hid hBB
      clear hO hBB
      go_wp2_with fail
      go_loopw [6, 27] (fun v i wr => ∃ (k m : Nat) (Z : List RecZ), i = .int .i64 k ∧ ((k = 0 ∧ m = 0 ∧ Z = []) ∨ (k = 1 ∧ na = m ∧ Za = Z) ∨ (k = 2 ∧ m2 = m ∧ Z2 = Z) ∨ (k = 3 ∧ m3 = m ∧ Z3 = Z)) ∧ Hid (wr.ownsRow g 60 7 v m (recCs Z)) ∧ Hid (Below g w wr)) (fun _ i _ => 3 - (intOf i).toNat)
      case atStart => exact ⟨0, 0, [], rfl, .inl ⟨rfl, rfl, rfl⟩, HO, HB1⟩
      case round =>
        obtain ⟨k, m, Z, rfl, hk, hO, hW⟩ := hrel
        have HGR : Hid (g ≤ wr.heap.size) := by have := hW.out.size; rw [HG.out] at this; exact this
        have q0 : wr.cell? ⟨bk, 0, none⟩ = some (.slice Aa na ca) := (hW.out.cell (p := ⟨bk, 0, none⟩) hbl).trans k0
        have q1 : wr.cell? ⟨bk, 1, none⟩ = some (.slice An nn cn) := (hW.out.cell (p := ⟨bk, 1, none⟩) hbl).trans k1
        have q2 : wr.cell? ⟨bk, 2, none⟩ = some (.slice Ax nx cx) := (hW.out.cell (p := ⟨bk, 2, none⟩) hbl).trans k2
        rcases hk with ⟨rfl, rfl, rfl⟩ | ⟨rfl, rfl, rfl⟩ | ⟨rfl, rfl, rfl⟩ | ⟨rfl, rfl, rfl⟩
        · go_wp2_with (at_builtin; refine wpList_append_recsA rfl _ _ rfl g _ 0 [] rfl hO.out B Aa na ca Za rfl ha.out.2.1 ha.out.2.2.1 (ha.out.1.on (hW.out.mono hB) (Nat.le_refl _)) ha.out.2.2.2 (by omega) HGR.out w hW.out Za rfl na (Nat.zero_add _) ?_)
          intro v2 w2 hown hbel
          have E1 := Lib.hid hown
          have E2 := Lib.hid hbel
          clear hown hbel hO hW q0 q1 q2
          go_wp2_with fail
          go_roundw
          case rel => exact ⟨1, _, _, by go_num, .inr (.inl ⟨rfl, rfl, rfl⟩), E1, E2⟩
          case measure => simp [intOf]
        · go_wp2_with (at_builtin; refine wpList_append_recsA rfl _ _ rfl g _ na Za rfl hO.out B An nn cn Zn rfl hn.out.2.1 hn.out.2.2.1 (hn.out.1.on (hW.out.mono hB) (Nat.le_refl _)) hn.out.2.2.2 hcp.2 HGR.out w hW.out Z2 HZ2 m2 HM2.out ?_)
          intro v2 w2 hown hbel
          have E1 := Lib.hid hown
          have E2 := Lib.hid hbel
          clear hown hbel hO hW q0 q1 q2
          go_wp2_with fail
          go_roundw
          case rel => exact ⟨2, _, _, by go_num, .inr (.inr (.inl ⟨rfl, rfl, rfl⟩)), E1, E2⟩
          case measure => simp [intOf]
        · go_wp2_with (at_builtin; refine wpList_append_recsA rfl _ _ rfl g _ m2 Z2 rfl hO.out B Ax nx cx Zx rfl hx.out.2.1 hx.out.2.2.1 (hx.out.1.on (hW.out.mono hB) (Nat.le_refl _)) hx.out.2.2.2 hcp.1 HGR.out w hW.out Z3 HZ3 m3 HM3.out ?_)
          intro v2 w2 hown hbel
          have E1 := Lib.hid hown
          have E2 := Lib.hid hbel
          clear hown hbel hO hW q0 q1 q2
          go_wp2_with fail
          go_roundw
          case rel => exact ⟨3, _, _, by go_num, .inr (.inr (.inr ⟨rfl, rfl, rfl⟩)), E1, E2⟩
          case measure => simp [intOf]
        · go_wp2_with fail
          go_ret
          exact ⟨_, rfl, hO.out, hW.out⟩
end Go.Proofs.Ytpmmjmnleoicjaa

/- The contracts of dnswrite's records and Check. For messages that can be gone through. -/
namespace Go.Proofs.Ytpmmjmnleoicjaa
open Go.RowKit Bytes MsgMath NameMath RecMath WrMath

/-- A message that can be gone through. -/
structure FewM (M : Msg) : Prop where
  id : M.id ≤ 65535
  flags : M.flags ≤ 65535
  nq : M.qs.length ≤ 1000
  na : M.an.length ≤ 1000
  nn : M.ns.length ≤ 1000
  nx : M.ad.length ≤ 1000
  qs : ∀ q ∈ M.qs, q.name.length ≤ maxLen ∧ q.kind ≤ 65535 ∧ q.cls ≤ 65535
  recs : (∀ q ∈ M.qs, isN q.name = true) → ∀ R ∈ recsM M, Small R ∧ R.kind ≤ 65535 ∧ R.cls ≤ 65535 ∧ R.ttl ≤ 4294967295
/-- A message as a call is handed it. -/
structure MsgV (w : World) (B : Nat) (M : Msg) (Aq Aa An Ax : Option Addr) (nq na nn nx ca cn cx : Nat) (Za Zn Zx : List RecZ) : Prop where
  at_ : MsgAt w B M Aq Aa An Ax Za Zn Zx
  eq : M.qs.length = nq
  ea : M.an.length = na
  en : M.ns.length = nn
  ex : M.ad.length = nx
  ha : Aa = none → ca = 0
  hn : An = none → cn = 0
  hx : Ax = none → cx = 0
theorem MsgV.on {w w' : World} {B B' : Nat} {M : Msg} {Aq Aa An Ax : Option Addr} {nq na nn nx ca cn cx : Nat} {Za Zn Zx : List RecZ} (h : MsgV w B M Aq Aa An Ax nq na nn nx ca cn cx Za Zn Zx) (hb : Below B w w') (hB : B ≤ B') : MsgV w' B' M Aq Aa An Ax nq na nn nx ca cn cx Za Zn Zx :=
  ⟨h.at_.on hb hB, h.eq, h.ea, h.en, h.ex, h.ha, h.hn, h.hx⟩
theorem nil_cells {w : World} {B : Nat} {A : Option Addr} {Z : List RecZ} {n c : Nat} (h : CellsAt w B A (recCs Z)) (hn : Z.length = n) (hc : A = none → c = 0) : A = none → n = 0 ∧ c = 0 := fun e => by
  refine ⟨?_, hc e⟩
  rcases h with h | ⟨b, off, e2, _⟩
  · have := congrArg List.length h
    rw [recCs_len, List.length_nil] at this
    omega
  · rw [e] at e2; cases e2
theorem MsgV.rows {w : World} {B : Nat} {M : Msg} {Aq Aa An Ax : Option Addr} {nq na nn nx ca cn cx : Nat} {Za Zn Zx : List RecZ} (h : MsgV w B M Aq Aa An Ax nq na nn nx ca cn cx Za Zn Zx) :
    (CellsAt w B Aa (recCs Za) ∧ Za.length = na ∧ (Aa = none → na = 0 ∧ ca = 0) ∧ ∀ u ∈ recCs Za, u.oneCell' = true) ∧ (CellsAt w B An (recCs Zn) ∧ Zn.length = nn ∧ (An = none → nn = 0 ∧ cn = 0) ∧ ∀ u ∈ recCs Zn, u.oneCell' = true) ∧ (CellsAt w B Ax (recCs Zx) ∧ Zx.length = nx ∧ (Ax = none → nx = 0 ∧ cx = 0) ∧ ∀ u ∈ recCs Zx, u.oneCell' = true) := by
  have la : Za.length = na := by rw [← h.ea, ← h.at_.ea, List.length_map]
  have ln : Zn.length = nn := by rw [← h.en, ← h.at_.en, List.length_map]
  have lx : Zx.length = nx := by rw [← h.ex, ← h.at_.ex, List.length_map]
  exact ⟨⟨h.at_.a, la, nil_cells h.at_.a la h.ha, h.at_.za.one⟩, ⟨h.at_.n, ln, nil_cells h.at_.n ln h.hn, h.at_.zn.one⟩, ⟨h.at_.x, lx, nil_cells h.at_.x lx h.hx, h.at_.zx.one⟩⟩
theorem MsgV.all {w : World} {B : Nat} {M : Msg} {Aq Aa An Ax : Option Addr} {nq na nn nx ca cn cx : Nat} {Za Zn Zx : List RecZ} (h : MsgV w B M Aq Aa An Ax nq na nn nx ca cn cx Za Zn Zx) : (Za ++ Zn ++ Zx).map (·.1) = recsM M ∧ ZAt w B (Za ++ Zn ++ Zx) ∧ (Za ++ Zn ++ Zx).length = na + nn + nx := by
  refine ⟨by rw [List.map_append, List.map_append, h.at_.ea, h.at_.en, h.at_.ex]; rfl, (h.at_.za.app h.at_.zn).app h.at_.zx, ?_⟩
  rw [List.length_append, List.length_append, h.rows.1.2.1, h.rows.2.1.2.1, h.rows.2.2.2.1]
abbrev msgA (id fl : Nat) (Aq : Option Addr) (nq cq : Nat) (Aa : Option Addr) (na ca : Nat) (An : Option Addr) (nn cn : Nat) (Ax : Option Addr) (nx cx : Nat) : Array Value := #[.int .u16 id, .int .u16 fl, .slice Aq nq cq, .slice Aa na ca, .slice An nn cn, .slice Ax nx cx]
set_option maxHeartbeats 2000000 in
set_option maxRecDepth 100000 in
theorem records_w (M : Msg) (id fl : Nat) (Aq Aa An Ax : Option Addr) (nq na nn nx cq ca cn cx B : Nat) (Za Zn Zx : List RecZ) (w : World) (hv : Hid (MsgV w B M Aq Aa An Ax nq na nn nx ca cn cx Za Zn Zx)) (hB : B ≤ w.heap.size) (hf : Hid (FewM M)) :
    Calls Try.prog 50 #[.agg (msgA id fl Aq nq cq Aa na ca An nn cn Ax nx cx)] w fun e w' => ∃ v, e = .returned v ∧ w'.ownsRow w.heap.size 60 7 v (na + nn + nx) (recCs (Za ++ Zn ++ Zx)) ∧ Below w.heap.size w w' := by
  obtain ⟨wa, hwa⟩ : ∃ wa, w.alloc (.cells (msgA id fl Aq nq cq Aa na ca An nn cn Ax nx cx) 26) = wa := ⟨_, rfl⟩
  obtain ⟨wb, hwb⟩ : ∃ wb, wa.alloc (.cells #[.slice Aa na ca, .slice An nn cn, .slice Ax nx cx] 24) = wb := ⟨_, rfl⟩
  have hba : Below w.heap.size w wa := by rw [← hwa]; exact (Below.refl _ _).alloc (Nat.le_refl _) _
  have hbb : Below w.heap.size w wb := by rw [← hwb]; exact hba.alloc hba.size _
  have hsz : wa.heap.size = w.heap.size + 1 := by rw [← hwa]; simp
  have hsb : wb.heap.size = w.heap.size + 2 := by rw [← hwb]; simp [hsz]
  have hbk : wb.heap[w.heap.size + 1]? = some (.cells #[.slice Aa na ca, .slice An nn cn, .slice Ax nx cx] 24 (0, 0)) := by rw [← hwb, ← hsz]; exact heap_alloc_new wa _
  have hr := (hv.out.on (hbb.mono hB) (Nat.le_refl _)).rows
  have hc := concat_any Aa An Ax na nn nx ca cn cx (w.heap.size + 1) B Za Zn Zx wb hbk (by omega) hr.1 hr.2.1 hr.2.2 (by have := hf.out.na; have := hv.out.ea; omega) (by have := hf.out.nn; have := hv.out.en; omega) (by have := hf.out.nx; have := hv.out.ex; omega)
  have HC := Lib.hid hc
  have HBB := Lib.hid hbb
  have HSB := Lib.hid hsb
  have hbx : wa.heap[w.heap.size]? = some (.cells (msgA id fl Aq nq cq Aa na ca An nn cn Ax nx cx) 26 (0, 0)) := by rw [← hwa]; exact heap_alloc_new w _
  have k3 := cell_of_row _ _ 3 _ _ _ hbx
  have k4 := cell_of_row _ _ 4 _ _ _ hbx
  have k5 := cell_of_row _ _ 5 _ _ _ hbx
  clear hc hr hbk hba hbb hsb hbx
  go_enter Try.func50, Try.ntmps50
  go_wp2_with fail
  refine HC.out.mono ?_
  rintro e w2 ⟨v, rfl, hO, hB2⟩
  have H2 : Hid (w2.ownsRow w.heap.size 60 7 v (na + nn + nx) (recCs (Za ++ Zn ++ Zx)) ∧ Below w.heap.size w w2) := ⟨row_low hO (by rw [HSB.out]; omega), HBB.out.trans (hB2.mono (by rw [HSB.out]; omega))⟩
  clear hO hB2
  go_wp2_with fail
  go_ret
  exact ⟨_, rfl, H2.out.1, H2.out.2⟩
/-- Of the first questions each has a name that is one. -/
theorem qs_any {L : List Qn} {k : Nat} (hk : k < L.length) (h : badName (L[k]).name = true) : L.any (fun q => badName q.name) = true := List.any_eq_true.2 ⟨_, List.getElem_mem hk, h⟩
theorem qs_all {L : List Qn} (h : ∀ j (hj : j < L.length), isN (L[j]).name = true) : L.any (fun q => badName q.name) = false := by
  rw [List.any_eq_false]
  intro q hq
  obtain ⟨j, hj, rfl⟩ := List.getElem_of_mem hq
  rw [badName, h j hj]
  decide
theorem get_map {Z : List RecZ} {L : List Rec} (h : Z.map (·.1) = L) {k : Nat} (hk : k < Z.length) : ∃ hk' : k < L.length, (Z[k]).1 = L[k]'hk' := by
  subst h
  exact ⟨by rw [List.length_map]; exact hk, by rw [List.getElem_map]⟩
set_option maxRecDepth 100000 in
theorem is_w (s : ByteArray) (q : Bool) (w : World) (hs : s.size ≤ maxLen) (hq : Hid (isN s.data.toList = q)) : Calls Try.prog 49 #[.string s] w fun e w' => e = .returned (.bool q) ∧ w = w' := by
  by_cases h : s.size ≤ 1000000
  · exact is_is s q w h hq
  · have hl : (255 : Int) < s.size := by omega
    have hs2 : (s.size : Int) ≤ 9223372036854775807 := by unfold maxLen at hs; omega
    obtain rfl : q = false := by rw [← hq.out]; exact isN_long (by rw [← Lib.size_eq]; omega)
    clear hq hs h
    go_enter Try.func49, Try.ntmps49
    go_wp2_with fail
    go_ret
    exact ⟨rfl, rfl⟩
set_option maxHeartbeats 4000000 in
set_option maxRecDepth 100000 in
theorem check_w (M : Msg) (id fl : Nat) (Aq Aa An Ax : Option Addr) (nq na nn nx cq ca cn cx B E : Nat) (Za Zn Zx : List RecZ) (w : World) (hv : Hid (MsgV w B M Aq Aa An Ax nq na nn nx ca cn cx Za Zn Zx)) (hB : B ≤ w.heap.size) (hf : Hid (FewM M)) (hE : Hid (checkM M = E)) :
    Calls Try.prog 17 #[.agg (msgA id fl Aq nq cq Aa na ca An nn cn Ax nx cx)] w fun e w' => e = .returned (.int .i64 E) ∧ Below w.heap.size w w' := by
  obtain ⟨g, hg⟩ : ∃ g, w.heap.size = g := ⟨_, rfl⟩
  obtain ⟨wa, hwa⟩ : ∃ wa, w.alloc (.cells (msgA id fl Aq nq cq Aa na ca An nn cn Ax nx cx) 26) = wa := ⟨_, rfl⟩
  have hba : Below g w wa := by rw [← hwa, ← hg]; exact (Below.refl _ _).alloc (Nat.le_refl _) _
  have hbx : wa.heap[g]? = some (.cells (msgA id fl Aq nq cq Aa na ca An nn cn Ax nx cx) 26 (0, 0)) := by rw [← hwa, ← hg]; exact heap_alloc_new w _
  have hsa : wa.heap.size = g + 1 := by rw [← hwa, ← hg]; simp
  have hva := hv.out.on (hba.mono (by omega)) (Nat.le_refl _)
  have HG := Lib.hid hg
  have HBA := Lib.hid hba
  have HVA := Lib.hid hva
  have HSA := Lib.hid hsa
  have HRC := Lib.hid (fun W (hW : Below (g + 1) wa W) (hs : g + 1 ≤ W.heap.size) => records_w M id fl Aq Aa An Ax nq na nn nx cq ca cn cx B Za Zn Zx W (hva.on (hW.mono (by omega)) (Nat.le_refl _)) (by omega) hf)
  have hcnt : nq ≤ 1000 ∧ na ≤ 1000 ∧ nn ≤ 1000 ∧ nx ≤ 1000 := by
    have := hf.out.nq; have := hf.out.na; have := hf.out.nn; have := hf.out.nx
    have := hv.out.eq; have := hv.out.ea; have := hv.out.en; have := hv.out.ex
    omega
  have hsumE : 256 < M.qs.length + M.an.length + M.ns.length + M.ad.length ↔ 256 < nq + na + nn + nx := by rw [hv.out.eq, hv.out.ea, hv.out.en, hv.out.ex]
  have HBX := Lib.hid hbx
  have k0 := cell_of_row _ _ 0 _ _ _ hbx
  have k1 := cell_of_row _ _ 1 _ _ _ hbx
  have k2 := cell_of_row _ _ 2 _ _ _ hbx
  have k3 := cell_of_row _ _ 3 _ _ _ hbx
  have k4 := cell_of_row _ _ 4 _ _ _ hbx
  have k5 := cell_of_row _ _ 5 _ _ _ hbx
  rw [hg]
  clear hbx hba hva hsa
  by_cases hsum : 256 < nq + na + nn + nx
  · have hE6 : E = 6 := by rw [← hE.out]; unfold checkM; rw [if_pos (hsumE.2 hsum)]
    subst hE6
    have hsi : (256 : Int) < (nq : Int) + na + nn + nx := by omega
    clear hsumE
    go_enter Try.func17, Try.ntmps17
    go_wp2_with fail
    go_ret
    exact ⟨rfl, HBA.out⟩
  have hE2 : Hid ((if M.qs.any (fun q => badName q.name) then 40 else firstE (recsM M)) = E) := by show _ = _; rw [← hE.out]; unfold checkM; rw [if_neg (fun h => hsum (hsumE.1 h))]
  have hsi : ¬ ((256 : Int) < (nq : Int) + na + nn + nx) := by omega
  clear hsumE hsum
  go_enter Try.func17, Try.ntmps17
  go_wp2_with fail
  go_loopw [27] (fun i wr => ∃ j : Nat, i = .int .i64 j ∧ j ≤ nq ∧ Hid (Below (g + 1) wa wr) ∧ Hid (∀ i (hi : i < M.qs.length), i < j → isN (M.qs[i]).name = true)) (fun i _ => nq - (intOf i).toNat)
  case atStart => exact ⟨0, rfl, Nat.zero_le _, by (show Below _ _ _; exact Below.refl _ _), fun i hi h => absurd h (Nat.not_lt_zero _)⟩
  case round =>
    obtain ⟨j, rfl, hj, hW, hN⟩ := hrel
    have hgl : g < g + 1 := Nat.lt_succ_self _
    have q2 := (hW.out.cell (p := ⟨g, 2, none⟩) hgl).trans k2
    have HGR : Hid (g + 1 ≤ wr.heap.size) := by have := hW.out.size; rw [HSA.out] at this; exact this
    by_cases hlt : j < nq
    · have hjl : j < M.qs.length := by rw [hv.out.eq]; exact hlt
      obtain ⟨b, off, rfl, hbl, p0, p1, p2⟩ := (HVA.out.at_.q.on (hW.out.mono (by omega)) (Nat.le_refl _)).qn hjl
      have hqn := hf.out.qs _ (List.getElem_mem hjl)
      obtain ⟨QQ, hQQ⟩ : ∃ Q, M.qs[j]'hjl = Q := ⟨_, rfl⟩
      rw [hQQ] at p0 p1 p2 hqn
      obtain ⟨x, hx⟩ : ∃ x, mk QQ.name = x := ⟨_, rfl⟩
      obtain ⟨bb, hbb⟩ : ∃ q, isN QQ.name = q := ⟨_, rfl⟩
      have hxs : x.size ≤ maxLen := by rw [← hx, mk_size]; exact hqn.1
      have hxN : isN x.data.toList = bb := by rw [← hx, mk_list]; exact hbb
      have HIS := Lib.hid (fun w => is_w x bb w hxs hxN)
      rw [hx] at p0
      generalize QQ.kind = qk at *
      generalize QQ.cls = qc at *
      cases bb with
      | true =>
        have HN2 : Hid (∀ i (hi : i < M.qs.length), i < j + 1 → isN (M.qs[i]).name = true) := fun i hi h => by
          by_cases h2 : i < j
          · exact hN.out i hi h2
          · obtain rfl : i = j := by omega
            rw [hQQ]; exact hbb
        clear hx hbb hxN hQQ hqn hN hjl
        go_wp2_with fail
        refine (HIS.out _).mono ?_
        rintro e w2 ⟨rfl, rfl⟩
        have HW2 : Hid (Below (g + 1) wa (wr.alloc (.cells #[.string x, .int .u16 qk, .int .u16 qc] 62))) := hW.out.alloc HGR.out _
        clear hW p0 p1 p2 q2
        go_wp2_with fail
        go_roundw
        case rel => exact ⟨j + 1, by go_num, by omega, HW2, HN2⟩
        case measure => simp [intOf]; omega
      | false =>
        have hE40 : Hid (E = 40) := by
          show _ = _
          rw [← hE2.out, if_pos (qs_any hjl (by rw [hQQ, badName, hbb]; rfl))]
        clear hx hbb hxN hQQ hqn hN hjl
        go_wp2_with fail
        refine (HIS.out _).mono ?_
        rintro e w2 ⟨rfl, rfl⟩
        have HW2 : Hid (Below g w (wr.alloc (.cells #[.string x, .int .u16 qk, .int .u16 qc] 62))) := HBA.out.trans ((hW.out.alloc HGR.out _).mono (Nat.le_succ _))
        clear hW p0 p1 p2 q2
        go_wp2_with fail
        go_ret
        rw [hE40.out]
        exact ⟨rfl, HW2.out⟩
    · have HQA : Hid (∀ q ∈ M.qs, isN q.name = true) := fun q hq => by
        obtain ⟨i, hi, rfl⟩ := List.getElem_of_mem hq
        exact hN.out i hi (by rw [hv.out.eq] at hi; omega)
      have hE3 : Hid (firstE (recsM M) = E) := by
        show _ = _
        rw [← hE2.out, qs_all (fun i hi => hN.out i hi (by rw [hv.out.eq] at hi; omega))]
        rfl
      have q0 := (hW.out.cell (p := ⟨g, 0, none⟩) hgl).trans k0
      have q1 := (hW.out.cell (p := ⟨g, 1, none⟩) hgl).trans k1
      have q3 := (hW.out.cell (p := ⟨g, 3, none⟩) hgl).trans k3
      have q4 := (hW.out.cell (p := ⟨g, 4, none⟩) hgl).trans k4
      have q5 := (hW.out.cell (p := ⟨g, 5, none⟩) hgl).trans k5
      have hjn : ¬ ((j : Int) < (nq : Int)) := by omega
      clear hlt hN hE2
      go_wp2_with fail
      refine (HRC.out wr hW.out HGR.out).mono ?_
      rintro e w2 ⟨v2, rfl, hO, hB2⟩
      have hall := HVA.out.all
      obtain ⟨ZZ, hZZ⟩ : ∃ Z, Za ++ Zn ++ Zx = Z := ⟨_, rfl⟩
      obtain ⟨nz, hnz⟩ : ∃ n, na + nn + nx = n := ⟨_, rfl⟩
      rw [hZZ] at hall hO
      rw [hnz] at hall hO
      obtain ⟨Ar, cr, rfl, hcell⟩ := cells_own hO
      have HCE := Lib.hid hcell
      have HALL := Lib.hid hall
      have HW2 : Hid (Below (g + 1) wa w2) := hW.out.trans (hB2.mono HGR.out)
      have hnz2 : nz ≤ 3000 := by omega
      obtain ⟨g2, hg2⟩ : ∃ n, w2.heap.size = n := ⟨_, rfl⟩
      have HG2 := Lib.hid hg2
      have HGG2 : Hid (g + 1 ≤ g2) := by have := HW2.out.size; rw [HSA.out, hg2] at this; exact this
      rw [hg2] at HCE
      clear hO hB2 hW hall hcell q0 q1 q2 q3 q4 q5 hZZ hnz hg2
      go_wp2_with fail
      go_loopw [39] (fun i ws => ∃ k : Nat, i = .int .i64 k ∧ k ≤ nz ∧ Hid (Below g2 w2 ws) ∧ Hid (firstE ((recsM M).drop k) = E)) (fun i _ => nz - (intOf i).toNat)
      case atStart => exact ⟨0, rfl, Nat.zero_le _, Below.refl _ _, hE3⟩
      case round =>
        obtain ⟨k, rfl, hk, hV, hF⟩ := hrel
        have HGV : Hid (g2 ≤ wr.heap.size) := by have := hV.out.size; rw [HG2.out] at this; exact this
        by_cases hlk : k < nz
        · have hkz : k < ZZ.length := by rw [HALL.out.2.2]; exact hlk
          have hz1 : ZAt wr B ZZ := HALL.out.2.1.on ((HW2.out.mono (by have := hB; omega)).trans (hV.out.mono (by have := HGG2.out; omega))) (Nat.le_refl _)
          obtain ⟨br, off, B1, e1, B2, e2, B3, e3, rfl, hbr, hat, p0, p1, p2, p3, p4, p5, p6⟩ := recs_get (HCE.out.on hV.out (Nat.le_refl _)) (hz1.on (Below.refl _ _) (show B ≤ g2 by have := HGG2.out; omega)) hkz
          obtain ⟨hkM, hkR⟩ := get_map HALL.out.1 hkz
          have hsm := (hf.out.recs HQA.out _ (List.getElem_mem hkM)).1
          have hFk := hF.out
          rw [firstE_drop hkM] at hFk
          rw [← hkR] at hsm hFk
          obtain ⟨RR, hRR⟩ : ∃ R, (ZZ[k]'hkz).1 = R := ⟨_, rfl⟩
          rw [hRR] at hat p0 p1 p2 p3 p4 p5 p6 hsm hFk
          obtain ⟨xn, hxn⟩ : ∃ x, mk RR.name = x := ⟨_, rfl⟩
          obtain ⟨rk, hrk⟩ : ∃ n, RR.kind = n := ⟨_, rfl⟩
          obtain ⟨rc, hrc⟩ : ∃ n, RR.cls = n := ⟨_, rfl⟩
          obtain ⟨rt, hrt⟩ : ∃ n, RR.ttl = n := ⟨_, rfl⟩
          obtain ⟨l1, hl1⟩ : ∃ n, RR.names.length = n := ⟨_, rfl⟩
          obtain ⟨l2, hl2⟩ : ∃ n, RR.nums.length = n := ⟨_, rfl⟩
          obtain ⟨l3, hl3⟩ : ∃ n, RR.texts.length = n := ⟨_, rfl⟩
          obtain ⟨ck, hck⟩ : ∃ n, checkE RR = n := ⟨_, rfl⟩
          rw [hxn] at p0
          rw [hrk] at p1
          rw [hrc] at p2
          rw [hrt] at p3
          rw [hl1] at p4
          rw [hl2] at p5
          rw [hl3] at p6
          rw [hxn, hrk, hrc, hrt, hl1, hl2, hl3] at hat
          rw [hck] at hFk
          have HCK := Lib.hid (fun W (hW : Below wr.heap.size wr W) => check_is RR xn rk rc rt B1 l1 e1 B2 l2 e2 B3 l3 e3 ck W (hat.on (hW.mono HGV.out) (Nat.le_trans HGV.out hW.size)) hsm hck)
          have HB9 : Hid (Below wr.heap.size wr (wr.alloc (.cells #[.string xn, .int .u16 rk, .int .u16 rc, .int .u32 rt, .slice B1 l1 e1, .slice B2 l2 e2, .slice B3 l3 e3] 60))) := (Below.refl _ _).alloc (Nat.le_refl _) _
          clear hRR hxn hrk hrc hrt hl1 hl2 hl3 hat hsm hkR hkM hck hz1
          by_cases hc0 : ck = 0
          · subst hc0
            rw [if_pos rfl] at hFk
            have HFK := Lib.hid hFk
            clear hFk
            go_wp2_with fail
            refine (HCK.out _ HB9.out).mono ?_
            rintro e w5 ⟨rfl, hB5⟩
            have HV5 : Hid (Below g2 w2 w5) := hV.out.trans ((HB9.out.trans (hB5.mono HB9.out.size)).mono HGV.out)
            clear hB5 hV HCK p0 p1 p2 p3 p4 p5 p6 hF HB9
            go_wp2_with fail
            go_roundw
            case rel => exact ⟨k + 1, by go_num, by omega, HV5, HFK⟩
            case measure => simp [intOf]; omega
          · rw [if_neg hc0] at hFk
            subst hFk
            have hcz : ((ck : Int) != 0) = true := bne_iff_ne.2 (by omega)
            clear hF
            go_wp2_with fail
            refine (HCK.out _ HB9.out).mono ?_
            rintro e w5 ⟨rfl, hB5⟩
            have HV5 : Hid (Below g w w5) := HBA.out.trans ((HW2.out.mono (Nat.le_succ _)).trans ((hV.out.trans ((HB9.out.trans (hB5.mono HB9.out.size)).mono HGV.out)).mono (by have := HGG2.out; omega)))
            clear hB5 hV HCK p0 p1 p2 p3 p4 p5 p6 HB9
            go_wp2_with fail
            go_ret
            exact ⟨rfl, HV5.out⟩
        · have hE0 : Hid (E = 0) := by
            show _ = _
            have hl := HALL.out.1
            have hl2 : (recsM M).length = nz := by rw [← hl, List.length_map]; exact HALL.out.2.2
            rw [← hF.out, List.drop_eq_nil_of_le (by omega)]
            rfl
          have HV5 : Hid (Below g w wr) := HBA.out.trans ((HW2.out.mono (Nat.le_succ _)).trans (hV.out.mono (by have := HGG2.out; omega)))
          have hkn : ¬ ((k : Int) < (nz : Int)) := by omega
          clear hlk hF hV
          go_wp2_with fail
          go_ret
          rw [hE0.out]
          exact ⟨rfl, HV5.out⟩
end Go.Proofs.Ytpmmjmnleoicjaa

/- The contracts of the laws' own looks at lists of texts and at records: is one small enough to go through it? -/
namespace Go.Proofs.Ytpmmjmnleoicjaa
open Go.RowKit Bytes Strs Nums NameMath RecMath

def FewTexts (L : List (List UInt8)) (w : World) (e : Ending) (w' : World) : Prop := ∃ b : Bool, e = .returned (.bool b) ∧ (b = true → L.length < 5000 ∧ ∀ j, j < L.length → (L.getD j []).length < 5000) ∧ w = w'
set_option maxHeartbeats 2000000 in
set_option maxRecDepth 100000 in
theorem fewTexts_any (A : Option Addr) (c n : Nat) (L : List (List UInt8)) (w : World) (hr : RdS w w.heap.size A L) (hn0 : Hid (L.length = n)) (hn : n ≤ maxLen) :
    Calls Try.prog 83 #[.slice A n c] w (FewTexts L w) := by
  have HR := Lib.hid hr; clear hr
  unfold maxLen at hn
  have hmin : ∃ m : Nat, min (n : Int) 5000 = (m : Int) ∧ m ≤ 5000 ∧ (n < 5000 ∨ 5000 ≤ m) := ⟨min n 5000, by omega, by omega, by omega⟩
  obtain ⟨m0, hm0, hm1, hm2⟩ := hmin
  have HM2 := Lib.hid hm2; clear hm2
  go_enter Try.func83, Try.ntmps83
  go_wp2_with fail
  clear hm0
  go_loop [3, 4] (fun v i => ∃ k m : Nat, k ≤ n ∧ i = .int .i64 k ∧ v = .int .i64 m ∧ m ≤ 10000 ∧ Hid ((n < 5000 ∨ 5000 ≤ m) ∧ ∀ j, j < k → (L.getD j []).length < 5000 ∨ 5000 ≤ m)) (fun _ i => n - (intOf i).toNat)
  case atStart => exact ⟨0, m0, Nat.zero_le _, rfl, rfl, by omega, Lib.hid ⟨HM2.out, fun j hj => absurd hj (Nat.not_lt_zero _)⟩⟩
  case round =>
    obtain ⟨k, m, hk, rfl, rfl, hm, hH⟩ := hrel
    by_cases hlt : k < n
    · by_cases hml : (m : Int) < 5000
      · have hkl : k < L.length := by rw [hn0.out]; exact hlt
        obtain ⟨a, rfl, hab, hcell⟩ := HR.out.get hkl
        have hsz := mk_size (L.getD k [])
        have hmin : ∃ y : Nat, min ((mk (L.getD k [])).size : Int) 5000 = (y : Int) ∧ y ≤ 5000 ∧ ((L.getD k []).length < 5000 ∨ 5000 ≤ y) := ⟨min (mk (L.getD k [])).size 5000, by omega, by omega, by omega⟩
        obtain ⟨y, hy, hy1, hy2⟩ := hmin
        have hH2 : Hid ((n < 5000 ∨ 5000 ≤ m + y) ∧ ∀ j, j < k + 1 → (L.getD j []).length < 5000 ∨ 5000 ≤ m + y) := by
          refine ⟨by have := hH.out.1; omega, fun j hj => ?_⟩
          rcases Nat.lt_or_ge j k with h | h
          · have := hH.out.2 j h; omega
          · obtain rfl : j = k := by omega
            omega
        generalize mk (L.getD k []) = x at *
        clear hkl hsz hy2 hH
        go_wp2_with fail
        go_round
        case rel => exact ⟨k + 1, m + y, by omega, by go_num, by go_num, by omega, hH2⟩
        case measure => simp [intOf]; omega
      · go_wp2_with fail
        go_ret
        exact ⟨false, rfl, fun h => (by cases h), rfl⟩
    · by_cases hml : (m : Int) < 5000
      · have hok : L.length < 5000 ∧ ∀ j, j < L.length → (L.getD j []).length < 5000 := by
          rw [hn0.out]
          refine ⟨by have := hH.out.1; omega, fun j hj => ?_⟩
          have := hH.out.2 j (by omega)
          omega
        have HOK := Lib.hid hok
        have hd : decide ((m : Int) < 5000) = true := decide_eq_true hml
        clear hok hH
        go_wp2_with fail
        go_ret
        exact ⟨true, rfl, fun _ => HOK.out, rfl⟩
      · have hd : decide ((m : Int) < 5000) = false := decide_eq_false hml
        go_wp2_with fail
        go_ret
        exact ⟨false, rfl, fun h => (by cases h), rfl⟩

/-- A record that came in: no list longer than a machine has room for. -/
def FewRec (R : Rec) (w : World) (e : Ending) (w' : World) : Prop := ∃ b : Bool, e = .returned (.bool b) ∧ (b = true → Small R ∧ R.name.length ≤ 5000) ∧ Below w.heap.size w w'
set_option maxHeartbeats 2000000 in
set_option maxRecDepth 100000 in
theorem few_any (R : Rec) (x : ByteArray) (k l t : Nat) (A1 : Option Addr) (n1 c1 : Nat) (A2 : Option Addr) (n2 c2 : Nat) (A3 : Option Addr) (n3 c3 : Nat) (w : World) (hR : Hid (RecAt w w.heap.size R x k l t A1 n1 A2 n2 A3 n3)) (hu : Hid (∀ k, k < R.nums.length → R.nums.getD k 0 ≤ 4294967295)) (hm1 : n1 ≤ maxLen) (hm2 : n2 ≤ maxLen) (hm3 : n3 ≤ maxLen) :
    Calls Try.prog 42 #[.agg #[.string x, .int .u16 k, .int .u16 l, .int .u32 t, .slice A1 n1 c1, .slice A2 n2 c2, .slice A3 n3 c3]] w (FewRec R w) := by
  have HR2 := Lib.hid (hR.out.box (.cells #[.string x, .int .u16 k, .int .u16 l, .int .u32 t, .slice A1 n1 c1, .slice A2 n2 c2, .slice A3 n3 c3] 60))
  have HB0 : Hid (Below w.heap.size w (w.alloc (.cells #[.string x, .int .u16 k, .int .u16 l, .int .u32 t, .slice A1 n1 c1, .slice A2 n2 c2, .slice A3 n3 c3] 60))) := (Below.refl _ _).alloc (Nat.le_refl _) _
  have hxl := Lib.hid (show x.size = R.name.length by rw [Lib.size_eq, hR.out.name])
  have HM1 := Lib.hid hm1
  have HM3 := Lib.hid hm3
  unfold maxLen at hm1 hm2 hm3
  go_enter Try.func42, Try.ntmps42
  go_wp2_with fail
  refine (fewTexts_any A1 c1 n1 R.names _ HR2.out.rd1 (Lib.hid HR2.out.len1) HM1.out).mono ?_
  rintro e w' ⟨b1, rfl, hb1, rfl⟩
  have HB1 := Lib.hid hb1
  clear hb1
  cases b1 with
  | false =>
    go_wp2_with fail
    go_ret
    exact ⟨false, rfl, fun h => (by cases h), HB0.out⟩
  | true =>
    go_wp2_with fail
    refine (fewTexts_any A3 c3 n3 R.texts _ HR2.out.rd3 (Lib.hid HR2.out.len3) HM3.out).mono ?_
    rintro e w' ⟨b3, rfl, hb3, rfl⟩
    have HB3 := Lib.hid hb3
    clear hb3
    cases b3 with
    | false =>
      go_wp2_with fail
      go_ret
      exact ⟨false, rfl, fun h => (by cases h), HB0.out⟩
    | true =>
      by_cases h2 : (n2 : Int) ≤ 5000
      · by_cases hx : (x.size : Int) ≤ 5000
        · have hok : Small R ∧ R.name.length ≤ 5000 := by
            have h1 := HB1.out (by trivial)
            have h3 := HB3.out (by trivial)
            have hl := hxl.out
            have hn2 := HR2.out.len2
            exact ⟨⟨by omega, by omega, fun k hk => by have := h1.2 k hk; omega, by omega, hu.out, by omega, fun k hk => by have := h3.2 k hk; omega⟩, by omega⟩
          have HOK := Lib.hid hok
          have hd : decide ((x.size : Int) ≤ 5000) = true := decide_eq_true hx
          clear hok
          go_wp2_with fail
          go_ret
          exact ⟨true, rfl, fun _ => HOK.out, HB0.out⟩
        · have hd : decide ((x.size : Int) ≤ 5000) = false := decide_eq_false hx
          go_wp2_with fail
          go_ret
          exact ⟨false, rfl, fun h => (by cases h), HB0.out⟩
      · have hd : decide ((n2 : Int) ≤ 5000) = false := decide_eq_false h2
        go_wp2_with fail
        go_ret
        exact ⟨false, rfl, fun h => (by cases h), HB0.out⟩
end Go.Proofs.Ytpmmjmnleoicjaa

/- The contracts of the document's Records, and of the laws' own look at messages: is one small enough to go through it? -/
namespace Go.Proofs.Ytpmmjmnleoicjaa
open Go.RowKit Bytes Strs Nums MsgMath NameMath RecMath WrMath

/-- The same step for a row that is whosever. -/
theorem step_append_recsC {w3 w : World} {ops : Array Oper} {o : Oper} {a : Act} {K : Act → World → Prop} {Q : Exit → Act → World → Prop} {E : Prop} (hgd : o.guard = none) (s x : Operand)
    (ho : o.op = .call { callee := .builtin .append, args := #[s, x], argTypes := #[24, 24] })
    (v : Value) (Z : List RecZ) (hs : a.eval s = v) (hown : AllAt w3 w w3.heap.size v Z) (B : Nat) (A : Option Addr) (m c : Nat) (hx : a.eval x = .slice A m c) (Y : List RecZ) (hY : Y.length = m) (hA : A = none → m = 0 ∧ c = 0) (hsrc : CellsAt w3 B A (recCs Y)) (hB : B ≤ w3.heap.size) (h1 : ∀ u ∈ recCs Y, u.oneCell' = true)
    (hmn : Z.length + m ≤ 1000000) (ZY : List RecZ) (n : Nat) (hZY : Hid (Z ++ Y = ZY)) (hn : ZY.length = n)
    (h : ∀ A c w', AllAt w3 w' w3.heap.size (.slice A n c) ZY → K (a.put o.dst (.slice A n c)) w') : if Region.wanted o (yielded ops a.tmps) = true then Oper.wp Try.prog o a w K Q else E := by
  have hZY2 := hZY.out
  subst hZY2
  subst hn
  subst hY
  have hw : Region.wanted o (yielded ops a.tmps) = true := by simp [Region.wanted, hgd]
  rw [if_pos hw]
  obtain ⟨v', w', hr, h2, h3⟩ := run_append_recsA w o.type w3.heap.size v Z.length (recCs Z) hown.own B A Y.length c (recCs Y) (recCs_len Y) hA (hsrc.on (hown.bl.mono hB) (Nat.le_refl _)) h1 hmn hown.bl.size
  rw [← recCs_app, ← List.length_append] at h2
  have hb : Below w3.heap.size w3 w' := hown.bl.grown h3 hown.bl.size (fun k hk => (hown.own.lt k hk).1)
  unfold Oper.wp
  simp only [execOp, ho, resolve, invoke, builtin, Sem.run_bind, Sem.run_pure, Result.andThen_ok, List.map_toArray, List.map_cons, List.map_nil, hs, hx, hr]
  rcases h2.2 with ⟨rfl, h0⟩ | ⟨b, cap, cur, rfl, hrest⟩
  · rw [h0] at h2
    have := h none 0 w' ⟨by rw [h0]; exact h2, hb⟩
    rw [h0] at this
    exact this
  · exact h _ cap w' ⟨h2, hb⟩
set_option maxHeartbeats 4000000 in
set_option maxRecDepth 100000 in
theorem refRecords_w (M : Msg) (id fl : Nat) (Aq Aa An Ax : Option Addr) (nq na nn nx cq ca cn cx B : Nat) (Za Zn Zx : List RecZ) (w : World) (hv : Hid (MsgV w B M Aq Aa An Ax nq na nn nx ca cn cx Za Zn Zx)) (hB : B ≤ w.heap.size) (hna : na ≤ 1000) (hnn : nn ≤ 1000) (hnx : nx ≤ 1000) :
    Calls Try.prog 37 #[.agg (msgA id fl Aq nq cq Aa na ca An nn cn Ax nx cx)] w fun e w' => ∃ A c, e = .returned (.slice A (na + nn + nx) c) ∧ w'.ownsRow w.heap.size 60 7 (.slice A (na + nn + nx) c) (na + nn + nx) (recCs (Za ++ Zn ++ Zx)) ∧ Below w.heap.size w w' := by
  obtain ⟨b, hb⟩ : ∃ b, w.heap.size = b := ⟨_, rfl⟩
  obtain ⟨w3, hw3⟩ : ∃ w3, w.alloc (.cells (msgA id fl Aq nq cq Aa na ca An nn cn Ax nx cx) 26) = w3 := ⟨_, rfl⟩
  have hbox : w3.heap[b]? = some (.cells (msgA id fl Aq nq cq Aa na ca An nn cn Ax nx cx) 26 (0, 0)) := by rw [← hw3, ← hb]; exact heap_alloc_new w _
  have hb03 : Below b w w3 := by rw [← hw3, ← hb]; exact (Below.refl _ _).alloc (Nat.le_refl _) _
  have hs3 : w3.heap.size = b + 1 := by rw [← hw3, ← hb]; simp
  rw [hb] at hB
  have hr := (hv.out.on (hb03.mono hB) (Nat.le_refl _)).rows
  have HR := Lib.hid hr
  have HS3 := Lib.hid hs3
  have HB03 := Lib.hid hb03
  have HB := Lib.hid hb
  have HA0 := Lib.hid (allAt_none w3)
  obtain ⟨Z2, hZ2⟩ : ∃ Z, Za ++ Zn = Z := ⟨_, rfl⟩
  obtain ⟨Z3, hZ3⟩ : ∃ Z, Z2 ++ Zx = Z := ⟨_, rfl⟩
  obtain ⟨m2, hm2⟩ : ∃ m, na + nn = m := ⟨_, rfl⟩
  obtain ⟨m3, hm3⟩ : ∃ m, m2 + nx = m := ⟨_, rfl⟩
  have hl2 : Z2.length = m2 := by rw [← hZ2, List.length_append, hr.1.2.1, hr.2.1.2.1]; exact hm2
  have hl3 : Z3.length = m3 := by rw [← hZ3, List.length_append, hl2, hr.2.2.2.1]; exact hm3
  have HL2 := Lib.hid hl2
  have HL3 := Lib.hid hl3
  have HZ2 := Lib.hid hZ2
  have HZ3 := Lib.hid hZ3
  have hZ4 : Za ++ Zn ++ Zx = Z3 := by rw [hZ2, hZ3]
  have hm4 : na + nn + nx = m3 := by omega
  have hcp : m2 + nx ≤ 1000000 ∧ na + nn ≤ 1000000 ∧ na ≤ 1000000 := by omega
  have hB3 : B ≤ w3.heap.size := by omega
  have hbl : b < w3.heap.size := by omega
  have HBL := Lib.hid hbl
  have hb3 := cell_of_row _ _ 3 _ _ _ hbox
  have hb4 := cell_of_row _ _ 4 _ _ _ hbox
  have hb5 := cell_of_row _ _ 5 _ _ _ hbox
  rw [hZ4, hm4, hb]
  clear hZ2 hZ3 hm2 hm3 hr hs3 hb03 hl2 hl3 hZ4 hm4 hbox
  go_enter Try.func37, Try.ntmps37
  go_wp2_with fail
  go_region_held3 (fun w' => w'.cell? ⟨b, 3, none⟩ = some (.slice Aa na ca) ∧ w'.cell? ⟨b, 4, none⟩ = some (.slice An nn cn) ∧ w'.cell? ⟨b, 5, none⟩ = some (.slice Ax nx cx)) (go_keep)
    (first
      | (refine step_append_recsC (by rfl) (.tmp 3) (.tmp 5) (by rfl) (.slice (some ⟨w3.heap.size, 0, none⟩) 0 0) [] (by rfl) HA0.out B Aa na ca (by rfl) Za HR.out.1.2.1 HR.out.1.2.2.1 HR.out.1.1 hB3 HR.out.1.2.2.2 (by have := hcp.2.2; simp; omega) Za na rfl HR.out.1.2.1 ?_; intro A1 c1 w5 hA1; have hk3 := (hA1.bl.cell (p := ⟨b, 3, none⟩) HBL.out).trans hb3; have hk4 := (hA1.bl.cell (p := ⟨b, 4, none⟩) HBL.out).trans hb4; have hk5 := (hA1.bl.cell (p := ⟨b, 5, none⟩) HBL.out).trans hb5; have HA1 := Lib.hid hA1; clear hA1)
      | (refine step_append_recsC (by rfl) (.tmp 6) (.tmp 8) (by rfl) (.slice A1 na c1) Za (by rfl) HA1.out B An nn cn (by rfl) Zn HR.out.2.1.2.1 HR.out.2.1.2.2.1 HR.out.2.1.1 hB3 HR.out.2.1.2.2.2 (by rw [HR.out.1.2.1]; exact hcp.2.1) Z2 m2 HZ2 HL2.out ?_; intro A2 c2 w6 hA2; have hk3 := (hA2.bl.cell (p := ⟨b, 3, none⟩) HBL.out).trans hb3; have hk4 := (hA2.bl.cell (p := ⟨b, 4, none⟩) HBL.out).trans hb4; have hk5 := (hA2.bl.cell (p := ⟨b, 5, none⟩) HBL.out).trans hb5; have HA2 := Lib.hid hA2; clear hA2)
      | (refine step_append_recsC (by rfl) (.tmp 9) (.tmp 11) (by rfl) (.slice A2 m2 c2) Z2 (by rfl) HA2.out B Ax nx cx (by rfl) Zx HR.out.2.2.2.1 HR.out.2.2.2.2.1 HR.out.2.2.1 hB3 HR.out.2.2.2.2.2 (by rw [HL2.out]; exact hcp.1) Z3 m3 HZ3 HL3.out ?_; intro A3 c3 w7 hA3; have hk3 := (hA3.bl.cell (p := ⟨b, 3, none⟩) HBL.out).trans hb3; have hk4 := (hA3.bl.cell (p := ⟨b, 4, none⟩) HBL.out).trans hb4; have hk5 := (hA3.bl.cell (p := ⟨b, 5, none⟩) HBL.out).trans hb5; have HA3 := Lib.hid hA3; clear hA3))
  go_wp2_with fail
  go_ret
  have ho := HA3.out.own
  rw [HL3.out] at ho
  exact ⟨A3, c3, rfl, row_low ho (by rw [HS3.out]; exact Nat.le_succ _), HB03.out.trans (HA3.out.bl.mono (by rw [HS3.out]; exact Nat.le_succ _))⟩
/-- A message as one may come in. -/
structure BigM (M : Msg) : Prop where
  id : M.id ≤ 65535
  flags : M.flags ≤ 65535
  nq : M.qs.length ≤ maxLen
  na : M.an.length ≤ maxLen
  nn : M.ns.length ≤ maxLen
  nx : M.ad.length ≤ maxLen
  qs : ∀ q ∈ M.qs, q.name.length ≤ maxLen ∧ q.kind ≤ 65535 ∧ q.cls ≤ 65535
  recs : ∀ R ∈ recsM M, (R.name.length ≤ maxLen ∧ R.names.length ≤ maxLen ∧ R.nums.length ≤ maxLen ∧ R.texts.length ≤ maxLen ∧ R.kind ≤ 65535 ∧ R.cls ≤ 65535 ∧ R.ttl ≤ 4294967295) ∧ ∀ k, k < R.nums.length → R.nums.getD k 0 ≤ 4294967295
/-- A message that can be gone through, whatever its names are. -/
structure QM (M : Msg) : Prop where
  few : FewM M
  recs : ∀ R ∈ recsM M, Small R ∧ R.kind ≤ 65535 ∧ R.cls ≤ 65535 ∧ R.ttl ≤ 4294967295
/-- The look's answer. -/
def FewEnd (M : Msg) (w : World) (e : Ending) (w' : World) : Prop := ∃ b : Bool, e = .returned (.bool b) ∧ (b = true → FewM M ∧ M.ad.length ≤ 300 ∧ QM M) ∧ Below w.heap.size w w'
theorem fewEnd_mk {M : Msg} {w w' : World} {g : Nat} (b : Bool) (h : b = true → FewM M ∧ M.ad.length ≤ 300 ∧ QM M) (hB : Below g w w') (hg : w.heap.size = g) : FewEnd M w (.returned (.bool b)) w' := ⟨b, rfl, h, by rw [hg]; exact hB⟩
set_option maxHeartbeats 8000000 in
set_option maxRecDepth 100000 in
theorem fewM_any (M : Msg) (Aq Aa An Ax : Option Addr) (nq na nn nx cq ca cn cx B : Nat) (Za Zn Zx : List RecZ) (w : World) (hv : Hid (MsgV w B M Aq Aa An Ax nq na nn nx ca cn cx Za Zn Zx)) (hB : B ≤ w.heap.size) (hbig : Hid (BigM M)) :
    Calls Try.prog 13 #[.agg (msgA M.id M.flags Aq nq cq Aa na ca An nn cn Ax nx cx)] w (FewEnd M w) := by
  obtain ⟨id, hid⟩ : ∃ n, M.id = n := ⟨_, rfl⟩
  obtain ⟨fl, hfl⟩ : ∃ n, M.flags = n := ⟨_, rfl⟩
  obtain ⟨g, hg⟩ : ∃ g, w.heap.size = g := ⟨_, rfl⟩
  obtain ⟨wa, hwa⟩ : ∃ wa, w.alloc (.cells (msgA id fl Aq nq cq Aa na ca An nn cn Ax nx cx) 26) = wa := ⟨_, rfl⟩
  have hba : Below g w wa := by rw [← hwa, ← hg]; exact (Below.refl _ _).alloc (Nat.le_refl _) _
  have hbx : wa.heap[g]? = some (.cells (msgA id fl Aq nq cq Aa na ca An nn cn Ax nx cx) 26 (0, 0)) := by rw [← hwa, ← hg]; exact heap_alloc_new w _
  have hsa : wa.heap.size = g + 1 := by rw [← hwa, ← hg]; simp
  rw [hg] at hB
  have hva := hv.out.on (hba.mono hB) (Nat.le_refl _)
  have HG := Lib.hid hg
  have HBA := Lib.hid hba
  have HVA := Lib.hid hva
  have HSA := Lib.hid hsa
  have HBX := Lib.hid hbx
  have hmx : nq ≤ maxLen ∧ na ≤ maxLen ∧ nn ≤ maxLen ∧ nx ≤ maxLen := by
    have := hbig.out.nq; have := hbig.out.na; have := hbig.out.nn; have := hbig.out.nx
    have := hv.out.eq; have := hv.out.ea; have := hv.out.en; have := hv.out.ex
    omega
  unfold maxLen at hmx
  have k0 := cell_of_row _ _ 0 _ _ _ hbx
  have k1 := cell_of_row _ _ 1 _ _ _ hbx
  have k2 := cell_of_row _ _ 2 _ _ _ hbx
  have k3 := cell_of_row _ _ 3 _ _ _ hbx
  have k4 := cell_of_row _ _ 4 _ _ _ hbx
  have k5 := cell_of_row _ _ 5 _ _ _ hbx
  rw [hid, hfl]
  clear hbx hba hva hsa hid hfl
  by_cases h1 : (300 : Int) < nq
  · go_enter Try.func13, Try.ntmps13
    go_wp2_with fail
    go_ret
    exact fewEnd_mk false (fun h => (by cases h)) HBA.out HG.out
  by_cases h2 : (300 : Int) < na
  · go_enter Try.func13, Try.ntmps13
    go_wp2_with fail
    go_ret
    exact fewEnd_mk false (fun h => (by cases h)) HBA.out HG.out
  by_cases h3 : (300 : Int) < nn
  · go_enter Try.func13, Try.ntmps13
    go_wp2_with fail
    go_ret
    exact fewEnd_mk false (fun h => (by cases h)) HBA.out HG.out
  by_cases h4 : (300 : Int) < nx
  · go_enter Try.func13, Try.ntmps13
    go_wp2_with fail
    go_ret
    exact fewEnd_mk false (fun h => (by cases h)) HBA.out HG.out
  have hcnt : nq ≤ 300 ∧ na ≤ 300 ∧ nn ≤ 300 ∧ nx ≤ 300 := by omega
  have HCNT := Lib.hid hcnt
  have HRC := Lib.hid (fun W (hW : Below (g + 1) wa W) (hs : g + 1 ≤ W.heap.size) => refRecords_w M id fl Aq Aa An Ax nq na nn nx cq ca cn cx B Za Zn Zx W (HVA.out.on (hW.mono (by omega)) (Nat.le_refl _)) (by omega) (by omega) (by omega) (by omega))
  go_enter Try.func13, Try.ntmps13
  go_wp2_with fail
  go_loop [3, 4] (fun v i => ∃ j n : Nat, i = .int .i64 j ∧ v = .int .i64 n ∧ j ≤ nq ∧ n ≤ 70000) (fun _ i => nq - (intOf i).toNat)
  case atStart => exact ⟨0, 0, rfl, rfl, Nat.zero_le _, Nat.zero_le _⟩
  case round =>
    obtain ⟨j, n, rfl, rfl, hj, hn⟩ := hrel
    by_cases hlt : j < nq
    · have hjl : j < M.qs.length := by rw [hv.out.eq]; exact hlt
      obtain ⟨b, off, rfl, hbl, p0, p1, p2⟩ := HVA.out.at_.q.qn hjl
      have hqn := (hbig.out.qs _ (List.getElem_mem hjl)).1
      rw [← mk_size] at hqn
      generalize mk (M.qs[j]'hjl).name = x at *
      have hmin : ∃ y : Nat, min (x.size : Int) 60000 = (y : Int) ∧ y ≤ 60000 := ⟨min x.size 60000, by omega, by omega⟩
      obtain ⟨y, hy, hy1⟩ := hmin
      unfold maxLen at hqn
      by_cases hbg : n + y ≤ 70000
      · have hbi : ((n : Int) + y) ≤ 70000 := by omega
        clear p1 p2
        go_wp2_with fail
        go_round
        case rel => exact ⟨j + 1, n + y, by go_num, by go_num, by omega, hbg⟩
        case measure => simp [intOf]; omega
      · have hbi : (70000 : Int) < ((n : Int) + y) := by omega
        clear p1 p2
        go_wp2_with fail
        go_ret
        exact fewEnd_mk false (fun h => (by cases h)) HBA.out HG.out
    · have hjn : ¬ ((j : Int) < (nq : Int)) := by omega
      clear hlt
      go_wp2_with fail
      refine (HRC.out wa (Below.refl _ _) (by rw [HSA.out]; exact Nat.le_refl _)).mono ?_
      rintro e w2 ⟨Ar, cr, rfl, hO, hB2⟩
      have hall := HVA.out.all
      obtain ⟨ZZ, hZZ⟩ : ∃ Z, Za ++ Zn ++ Zx = Z := ⟨_, rfl⟩
      obtain ⟨nz, hnz⟩ : ∃ n, na + nn + nx = n := ⟨_, rfl⟩
      rw [hZZ] at hall hO
      rw [hnz] at hall hO
      obtain ⟨Ar', cr', ev, hcell⟩ := cells_own hO
      injection ev with ev1 _ _
      rw [← ev1] at hcell
      have HCE := Lib.hid hcell
      have HALL := Lib.hid hall
      have HW2 : Hid (Below (g + 1) wa w2) := by have := hB2; rw [HSA.out] at this; exact this
      have hnz2 : nz ≤ 900 := by omega
      obtain ⟨g2, hg2⟩ : ∃ n, w2.heap.size = n := ⟨_, rfl⟩
      have HG2 := Lib.hid hg2
      have HGG2 : Hid (g + 1 ≤ g2) := by have := HW2.out.size; rw [HSA.out, hg2] at this; exact this
      rw [hg2] at HCE
      have HNZ : Hid (na + nn + nx = nz) := hnz
      clear hO hB2 hall hcell hZZ hnz hg2 k0 k1 k2 k3 k4 k5 ev1
      rw [HNZ.out]
      go_wp2_with fail
      go_loopw [3, 6] (fun v i ws => ∃ k n : Nat, i = .int .i64 k ∧ v = .int .i64 n ∧ k ≤ nz ∧ n ≤ 70000 ∧ Hid (Below g2 w2 ws) ∧ Hid (∀ i (hi : i < (recsM M).length), i < k → Small ((recsM M)[i]))) (fun _ i _ => nz - (intOf i).toNat)
      case atStart => exact ⟨0, n, rfl, rfl, Nat.zero_le _, hn, Below.refl _ _, fun i hi h => absurd h (Nat.not_lt_zero _)⟩
      case round =>
        obtain ⟨k, n2, rfl, rfl, hk, hn2, hV, hF⟩ := hrel
        have HGV : Hid (g2 ≤ wr.heap.size) := by have := hV.out.size; rw [HG2.out] at this; exact this
        by_cases hlk : k < nz
        · have hkz : k < ZZ.length := by rw [HALL.out.2.2]; exact hlk
          have hz1 : ZAt wr B ZZ := HALL.out.2.1.on ((HW2.out.mono (by omega)).trans (hV.out.mono (by have := HGG2.out; omega))) (Nat.le_refl _)
          obtain ⟨br, off, B1, e1, B2, e2, B3, e3, rfl, hbr, hat, p0, p1, p2, p3, p4, p5, p6⟩ := recs_get (HCE.out.on hV.out (Nat.le_refl _)) (hz1.on (Below.refl _ _) (show B ≤ g2 by have := HGG2.out; omega)) hkz
          obtain ⟨hkM, hkR⟩ := get_map HALL.out.1 hkz
          have hbg := hbig.out.recs _ (List.getElem_mem hkM)
          rw [← hkR] at hbg
          obtain ⟨RR, hRR⟩ : ∃ R, (ZZ[k]'hkz).1 = R := ⟨_, rfl⟩
          rw [hRR] at hat p0 p1 p2 p3 p4 p5 p6 hbg
          have HKR : Hid (∃ hh : k < (recsM M).length, (recsM M)[k]'hh = RR) := ⟨hkM, by rw [← hkR, hRR]⟩
          obtain ⟨xn, hxn⟩ : ∃ x, mk RR.name = x := ⟨_, rfl⟩
          obtain ⟨rk, hrk⟩ : ∃ n, RR.kind = n := ⟨_, rfl⟩
          obtain ⟨rc, hrc⟩ : ∃ n, RR.cls = n := ⟨_, rfl⟩
          obtain ⟨rt, hrt⟩ : ∃ n, RR.ttl = n := ⟨_, rfl⟩
          obtain ⟨l1, hl1⟩ : ∃ n, RR.names.length = n := ⟨_, rfl⟩
          obtain ⟨l2, hl2⟩ : ∃ n, RR.nums.length = n := ⟨_, rfl⟩
          obtain ⟨l3, hl3⟩ : ∃ n, RR.texts.length = n := ⟨_, rfl⟩
          rw [hxn] at p0
          rw [hrk] at p1
          rw [hrc] at p2
          rw [hrt] at p3
          rw [hl1] at p4
          rw [hl2] at p5
          rw [hl3] at p6
          rw [hxn, hrk, hrc, hrt, hl1, hl2, hl3] at hat
          have HFW := Lib.hid (few_any RR xn rk rc rt B1 l1 e1 B2 l2 e2 B3 l3 e3 wr (hat.on (Below.refl _ _) HGV.out) hbg.2 (by omega) (by omega) (by omega))
          have HRD1 := Lib.hid hat.rd1
          have HRD3 := Lib.hid hat.rd3
          have HXN : Hid (xn.size = RR.name.length) := by rw [← hxn]; exact mk_size _
          have HL1 := Lib.hid hl1
          have HL2 := Lib.hid hl2
          have HL3 := Lib.hid hl3
          have HBR := Lib.hid hbr
          clear hRR hxn hrk hrc hrt hl1 hl2 hl3 hat hkR hkM hz1 hbg
          go_wp2_with fail
          refine HFW.out.mono ?_
          rintro e w5 ⟨bb, rfl, hbb, hB5⟩
          have HV5 : Hid (Below g2 w2 w5) := hV.out.trans (hB5.mono HGV.out)
          have q0 := (hB5.cell (p := ⟨br, off + k * 7, none⟩) (Nat.lt_of_lt_of_le hbr HGV.out)).trans p0
          have q4 := (hB5.cell (p := ⟨br, off + k * 7 + 4, none⟩) (Nat.lt_of_lt_of_le hbr HGV.out)).trans p4
          have q5 := (hB5.cell (p := ⟨br, off + k * 7 + 5, none⟩) (Nat.lt_of_lt_of_le hbr HGV.out)).trans p5
          have q6 := (hB5.cell (p := ⟨br, off + k * 7 + 6, none⟩) (Nat.lt_of_lt_of_le hbr HGV.out)).trans p6
          have HBB := Lib.hid hbb
          have HR1 := Lib.hid (HRD1.out.on (hB5.mono HGV.out) (Nat.le_refl _))
          have HR3 := Lib.hid (HRD3.out.on (hB5.mono HGV.out) (Nat.le_refl _))
          clear hB5 hbb p0 p1 p2 p3 p4 p5 p6 HFW hV HRD1 HRD3 hbr
          cases bb with
          | false =>
            have HE5 : Hid (Below g w w5) := HBA.out.trans ((HW2.out.mono (Nat.le_succ _)).trans (HV5.out.mono (by have := HGG2.out; omega)))
            go_wp2_with fail
            go_ret
            exact fewEnd_mk false (fun h => (by cases h)) HE5.out HG.out
          | true =>
            have hsm := HBB.out rfl
            have HSM := Lib.hid hsm.1
            have hx5 : xn.size ≤ 5000 := by rw [HXN.out]; exact hsm.2
            have hl1b : l1 ≤ 100000 := by rw [← HL1.out]; exact hsm.1.n1
            have hl2b : l2 ≤ 100000 := by rw [← HL2.out]; exact hsm.1.n2
            have hl3b : l3 ≤ 100000 := by rw [← HL3.out]; exact hsm.1.n3
            have HF2 : Hid (∀ i (hi : i < (recsM M).length), i < k + 1 → Small ((recsM M)[i])) := fun i hi h => by
              by_cases h2 : i < k
              · exact hF.out i hi h2
              · obtain rfl : i = k := by omega
                obtain ⟨hh, he⟩ := HKR.out
                rw [he]; exact HSM.out
            clear hsm hF HBB
            go_wp2_with fail
            obtain ⟨wo, rfl⟩ : ∃ wo : World, wo = w5 := ⟨_, rfl⟩
            go_loop [3, 7] (fun v i => ∃ j m : Nat, i = .int .i64 j ∧ v = .int .i64 m ∧ j ≤ l1 ∧ m ≤ 70000 + j * 100000) (fun _ i => l1 - (intOf i).toNat)
            case atStart => exact ⟨0, n2, rfl, rfl, Nat.zero_le _, by omega⟩
            case round =>
              obtain ⟨j1, m1, rfl, rfl, hj1, hm1⟩ := hrel
              by_cases hl1t : j1 < l1
              · have hjl : j1 < RR.names.length := by rw [HL1.out]; exact hl1t
                obtain ⟨a, rfl, hab, hcell⟩ := HR1.out.get hjl
                have hsz := HSM.out.s1 j1 hjl
                rw [← mk_size] at hsz
                generalize mk (RR.names.getD j1 []) = z at *
                have hmi : (m1 : Int) + z.size ≤ 70000 + (j1 + 1) * 100000 := by omega
                have hmb : m1 ≤ 100000000000 := by omega
                clear hjl
                go_wp2_with fail
                go_round
                case rel => exact ⟨j1 + 1, m1 + z.size, by go_num, by go_num, by omega, by omega⟩
                case measure => simp [intOf]; omega
              · have hjn1 : ¬ ((j1 : Int) < (l1 : Int)) := by omega
                have hm1b : m1 ≤ 10000070000 := by
                  have := Nat.mul_le_mul_right 100000 (Nat.le_trans hj1 hl1b)
                  omega
                clear hl1t hm1
                go_wp2_with fail
                go_loop [3, 8] (fun v i => ∃ j m : Nat, i = .int .i64 j ∧ v = .int .i64 m ∧ j ≤ l3 ∧ m ≤ 10000070000 + j * 100000) (fun _ i => l3 - (intOf i).toNat)
                case atStart => exact ⟨0, m1, rfl, rfl, Nat.zero_le _, by omega⟩
                case round =>
                  obtain ⟨j3, m3, rfl, rfl, hj3, hm3⟩ := hrel
                  by_cases hl3t : j3 < l3
                  · have hjl : j3 < RR.texts.length := by rw [HL3.out]; exact hl3t
                    obtain ⟨a, rfl, hab, hcell⟩ := HR3.out.get hjl
                    have hsz := HSM.out.s3 j3 hjl
                    rw [← mk_size] at hsz
                    generalize mk (RR.texts.getD j3 []) = z at *
                    have hmb : m3 ≤ 1000000000000 := by omega
                    clear hjl
                    go_wp2_with fail
                    go_round
                    case rel => exact ⟨j3 + 1, m3 + z.size, by go_num, by go_num, by omega, by omega⟩
                    case measure => simp [intOf]; omega
                  · have hjn3 : ¬ ((j3 : Int) < (l3 : Int)) := by omega
                    have hm3b : m3 ≤ 1000000000000 := by
                      have := Nat.mul_le_mul_right 100000 (Nat.le_trans hj3 hl3b)
                      omega
                    have hs1w : IntKind.i64.wrap ((m3 : Int) + xn.size) = ((m3 + xn.size : Nat) : Int) := by rw [IntKind.wrap_i64]; omega
                    have hs2w : IntKind.i64.wrap (((m3 + xn.size : Nat) : Int) + l2) = ((m3 + xn.size + l2 : Nat) : Int) := by rw [IntKind.wrap_i64]; omega
                    clear hl3t hm3
                    by_cases hbig2 : m3 + xn.size + l2 ≤ 70000
                    · have hbi : ((m3 + xn.size + l2 : Nat) : Int) ≤ 70000 := by omega
                      have HVN : ∀ n, Below g2 w2 (wo.drewN n) := fun n => below_drewN HV5.out n
                      have HVN2 := Lib.hid HVN
                      clear HVN
                      go_wp2_with fail
                      go_quiet (fail)
                      go_wp2_with fail
                      go_roundw
                      case rel =>
                        (repeat apply Exists.intro)
                        first | exact ⟨by go_num, by go_num, by omega, hbig2, HVN2.out _, HF2⟩ | exact ⟨⟨k + 1, m3 + xn.size + l2, by go_num, by go_num, by omega, hbig2, HVN2.out _, HF2⟩, rfl⟩
                      case measure => simp [intOf]; omega
                    · have hbi : (70000 : Int) < ((m3 + xn.size + l2 : Nat) : Int) := by omega
                      have HE5 : Hid (∀ n, Below g w (wo.drewN n)) := fun n => below_drewN (HBA.out.trans ((HW2.out.mono (Nat.le_succ _)).trans (HV5.out.mono (by have := HGG2.out; omega)))) n
                      go_wp2_with fail
                      go_quiet (fail)
                      go_wp2_with fail
                      go_ret
                      exact fewEnd_mk false (fun h => (by cases h)) (HE5.out _) HG.out
        · have hkn : ¬ ((k : Int) < (nz : Int)) := by omega
          have HE5 : Hid (Below g w wr) := HBA.out.trans ((HW2.out.mono (Nat.le_succ _)).trans (hV.out.mono (by have := HGG2.out; omega)))
          have HQM : Hid (QM M) := by
            have hc := HCNT.out
            have hl := HALL.out.1
            have hl2 : (recsM M).length = nz := by rw [← hl, List.length_map]; exact HALL.out.2.2
            have hrec : ∀ R ∈ recsM M, Small R ∧ R.kind ≤ 65535 ∧ R.cls ≤ 65535 ∧ R.ttl ≤ 4294967295 := fun R hR => by
              obtain ⟨i, hi, rfl⟩ := List.getElem_of_mem hR
              have hb := (hbig.out.recs _ (List.getElem_mem hi)).1
              exact ⟨hF.out i hi (by omega), hb.2.2.2.2.1, hb.2.2.2.2.2.1, hb.2.2.2.2.2.2⟩
            exact ⟨⟨hbig.out.id, hbig.out.flags, by rw [hv.out.eq]; omega, by rw [hv.out.ea]; omega, by rw [hv.out.en]; omega, by rw [hv.out.ex]; omega, hbig.out.qs, fun _ => hrec⟩, hrec⟩
          clear hlk hF hV
          go_wp2_with fail
          go_ret
          exact fewEnd_mk true (fun _ => ⟨HQM.out.few, by rw [hv.out.ex]; exact HCNT.out.2.2.2, HQM.out⟩) HE5.out HG.out
end Go.Proofs.Ytpmmjmnleoicjaa

/- The document's Same of any two messages. For rows of at most 1000. -/
namespace Go.Proofs.Ytpmmjmnleoicjaa
open Go.RowKit Bytes Strs Nums MsgMath RecMath WrMath

theorem sameB_iff (R S : Rec) : sameB R S = true ↔ R = S := by
  unfold sameB
  rw [decide_eq_true_iff]
  constructor
  · rintro ⟨h1, h2, h3, h4, h5, h6, h7⟩
    cases R; cases S
    simp only at *
    subst h1 h2 h3 h4 h5 h6 h7
    rfl
  · rintro rfl; exact ⟨rfl, rfl, rfl, rfl, rfl, rfl, rfl⟩
set_option maxHeartbeats 4000000 in
set_option maxRecDepth 100000 in
theorem sameRecs_any (A B : Option Addr) (c1 c2 n m G : Nat) (Za Zb : List RecZ) (q : Bool) (w : World) (hG : w.heap.size = G) (ha : CellsAt w G A (recCs Za)) (hza : ZAt w G Za) (hb : CellsAt w G B (recCs Zb)) (hzb : ZAt w G Zb) (hn : Za.length = n) (hm : Zb.length = m) (hn2 : n ≤ 1000) (hm2 : m ≤ 1000) (hs : ∀ z ∈ Za, Small z.1) (hs2 : ∀ z ∈ Zb, Small z.1) (hq : q = true ↔ Za.map (·.1) = Zb.map (·.1)) :
    Calls Try.prog 53 #[.slice A n c1, .slice B m c2] w fun e w' => e = .returned (.bool q) ∧ Below G w w' := by
  by_cases hnm : n = m
  rotate_left
  · obtain rfl : q = false := by
      cases q with
      | false => rfl
      | true => have := congrArg List.length (hq.1 rfl); rw [List.length_map, List.length_map] at this; omega
    have hne : ((n : Int) != (m : Int)) = true := bne_iff_ne.2 (by omega)
    have HB : Hid (Below G w w) := Below.refl _ _
    clear ha hza hb hzb hs hs2 hq hG
    go_enter Try.func53, Try.ntmps53
    go_wp2_with fail
    go_ret
    exact ⟨rfl, HB.out⟩
  subst hnm
  have HA := Lib.hid ha
  have HZA := Lib.hid hza
  have HB := Lib.hid hb
  have HZB := Lib.hid hzb
  have HQ := Lib.hid hq
  have HN := Lib.hid hn
  have HNB := Lib.hid hm
  have HS := Lib.hid hs
  have HS2 := Lib.hid hs2
  have HG := Lib.hid hG
  clear ha hza hb hzb hq hn hm hs hs2 hG
  go_enter Try.func53, Try.ntmps53
  go_wp2_with fail
  go_loopw [5] (fun i wr => ∃ j : Nat, i = .int .i64 j ∧ j ≤ n ∧ Hid (Below G w wr) ∧ Hid (∀ k (h1 : k < Za.length) (h2 : k < Zb.length), k < j → (Za[k]).1 = (Zb[k]).1)) (fun i _ => n - (intOf i).toNat)
  case atStart => exact ⟨0, rfl, Nat.zero_le _, Below.refl _ _, fun k _ _ h => absurd h (Nat.not_lt_zero _)⟩
  case round =>
    obtain ⟨j, rfl, hj, hV, hE⟩ := hrel
    by_cases hlt : j < n
    · have hja : j < Za.length := by rw [HN.out]; exact hlt
      have hjb : j < Zb.length := by rw [HNB.out]; exact hlt
      obtain ⟨ba, oa, A1, c1', A2, c2', A3, c3', rfl, hba, hat, k0, k1, k2, k3, k4, k5, k6⟩ := recs_get (HA.out.on hV.out (Nat.le_refl _)) (HZA.out.on hV.out (Nat.le_refl _)) hja
      obtain ⟨bb, ob, B1, d1', B2, d2', B3, d3', rfl, hbb, hbt, m0, m1, m2, m3, m4, m5, m6⟩ := recs_get (HB.out.on hV.out (Nat.le_refl _)) (HZB.out.on hV.out (Nat.le_refl _)) hjb
      have hsm := HS.out _ (List.getElem_mem hja)
      have hsm2 := HS2.out _ (List.getElem_mem hjb)
      have HEQ : Hid (∀ R S, (Za[j]).1 = R → (Zb[j]).1 = S → q = true → R = S) := fun R S h1 h2 h => by
        have := congrArg (fun L => L[j]?) (HQ.out.1 h)
        simp only [List.getElem?_map] at this
        rw [List.getElem?_eq_getElem hja, List.getElem?_eq_getElem hjb] at this
        injection this with this
        rw [← h1, ← h2]; exact this
      have HNX : Hid (∀ R S, (Za[j]).1 = R → (Zb[j]).1 = S → R = S → ∀ k (h1 : k < Za.length) (h2 : k < Zb.length), k < j + 1 → (Za[k]).1 = (Zb[k]).1) := fun R S h1 h2 h k a1 a2 hk => by
        by_cases hkj : k < j
        · exact hE.out k a1 a2 hkj
        · obtain rfl : k = j := by omega
          rw [h1, h2]; exact h
      obtain ⟨RR, hRR⟩ : ∃ R, (Za[j]).1 = R := ⟨_, rfl⟩
      obtain ⟨SS, hSS⟩ : ∃ R, (Zb[j]).1 = R := ⟨_, rfl⟩
      rw [hRR] at hat k0 k1 k2 k3 k4 k5 k6 hsm
      rw [hSS] at hbt m0 m1 m2 m3 m4 m5 m6 hsm2
      have HEQ2 := Lib.hid (HEQ.out RR SS hRR hSS)
      have HNX2 := Lib.hid (HNX.out RR SS hRR hSS)
      obtain ⟨xn, hxn⟩ : ∃ x, mk RR.name = x := ⟨_, rfl⟩
      obtain ⟨rk, hrk⟩ : ∃ n, RR.kind = n := ⟨_, rfl⟩
      obtain ⟨rc, hrc⟩ : ∃ n, RR.cls = n := ⟨_, rfl⟩
      obtain ⟨rt, hrt⟩ : ∃ n, RR.ttl = n := ⟨_, rfl⟩
      obtain ⟨l1, hl1⟩ : ∃ n, RR.names.length = n := ⟨_, rfl⟩
      obtain ⟨l2, hl2⟩ : ∃ n, RR.nums.length = n := ⟨_, rfl⟩
      obtain ⟨l3, hl3⟩ : ∃ n, RR.texts.length = n := ⟨_, rfl⟩
      obtain ⟨yn, hyn⟩ : ∃ x, mk SS.name = x := ⟨_, rfl⟩
      obtain ⟨sk, hsk⟩ : ∃ n, SS.kind = n := ⟨_, rfl⟩
      obtain ⟨sc, hsc⟩ : ∃ n, SS.cls = n := ⟨_, rfl⟩
      obtain ⟨st, hst⟩ : ∃ n, SS.ttl = n := ⟨_, rfl⟩
      obtain ⟨s1, hs1⟩ : ∃ n, SS.names.length = n := ⟨_, rfl⟩
      obtain ⟨s2, hs2⟩ : ∃ n, SS.nums.length = n := ⟨_, rfl⟩
      obtain ⟨s3, hs3⟩ : ∃ n, SS.texts.length = n := ⟨_, rfl⟩
      rw [hxn] at k0
      rw [hrk] at k1
      rw [hrc] at k2
      rw [hrt] at k3
      rw [hl1] at k4
      rw [hl2] at k5
      rw [hl3] at k6
      rw [hxn, hrk, hrc, hrt, hl1, hl2, hl3] at hat
      rw [hyn] at m0
      rw [hsk] at m1
      rw [hsc] at m2
      rw [hst] at m3
      rw [hs1] at m4
      rw [hs2] at m5
      rw [hs3] at m6
      rw [hyn, hsk, hsc, hst, hs1, hs2, hs3] at hbt
      have hGs : G ≤ wr.heap.size := by have := hV.out.size; rw [HG.out] at this; exact this
      obtain ⟨z, hz⟩ : ∃ z, sameB RR SS = z := ⟨_, rfl⟩
      have HZ : Hid (z = true ↔ RR = SS) := by show _ ↔ _; rw [← hz]; exact sameB_iff _ _
      have HSM := Lib.hid (refSame_is RR SS xn rk rc rt A1 l1 c1' A2 l2 c2' A3 l3 c3' yn sk sc st B1 s1 d1' B2 s2 d2' B3 s3 d3' z wr.drew (hat.on ((Below.refl _ _).drew) hGs) hsm (hbt.on ((Below.refl _ _).drew) hGs) hsm2 hz)
      have HGS := Lib.hid hGs
      clear hRR hSS hxn hrk hrc hrt hl1 hl2 hl3 hyn hsk hsc hst hs1 hs2 hs3 hat hbt hsm hsm2 hGs hz HEQ HNX hE
      cases z with
      | true =>
        have HE2 := Lib.hid (HNX2.out (HZ.out.1 rfl))
        go_wp2_with fail
        go_region_with (go_at_call 94; refine HSM.out.mono ?_; rintro e wx ⟨rfl, hB⟩; have HV9 := Lib.hid (hV.out.trans ((Below.refl _ _).drew.trans (hB.mono HGS.out))); clear hB)
        all_goals
          clear k0 k1 k2 k3 k4 k5 k6 m0 m1 m2 m3 m4 m5 m6 HSM hV
          go_wp2_with fail
          go_roundw
          case rel => exact ⟨j + 1, by go_num, by omega, HV9, HE2⟩
          case measure => simp [intOf]; omega
      | false =>
        obtain rfl : q = false := by
          cases hqq : q with
          | false => rfl
          | true => exact absurd (HZ.out.2 (HEQ2.out hqq)) (by decide)
        go_wp2_with fail
        go_region_with (go_at_call 94; refine HSM.out.mono ?_; rintro e wx ⟨rfl, hB⟩; have HV9 := Lib.hid (hV.out.trans ((Below.refl _ _).drew.trans (hB.mono HGS.out))); clear hB)
        all_goals
          clear k0 k1 k2 k3 k4 k5 k6 m0 m1 m2 m3 m4 m5 m6 HSM hV
          go_wp2_with fail
          go_ret
          exact ⟨rfl, HV9.out⟩
    · have hjn : ¬ ((j : Int) < (n : Int)) := by omega
      obtain rfl : q = true := HQ.out.2 (by
        apply List.ext_getElem
        · rw [List.length_map, List.length_map, HN.out, HNB.out]
        · intro k h1 h2
          rw [List.getElem_map, List.getElem_map]
          rw [List.length_map] at h1 h2
          exact hE.out k h1 h2 (by have := HN.out; omega))
      clear hlt hE
      go_wp2_with fail
      go_ret
      exact ⟨rfl, hV.out⟩
theorem msg_eq {a b : Msg} (h1 : a.id = b.id) (h2 : a.flags = b.flags) (h3 : a.qs = b.qs) (h4 : a.an = b.an) (h5 : a.ns = b.ns) (h6 : a.ad = b.ad) : a = b := by
  cases a; cases b
  simp only at *
  subst h1 h2 h3 h4 h5 h6
  rfl
/-- Small enough to be held against another. -/
structure SmallM (M : Msg) : Prop where
  nq : M.qs.length ≤ 1000
  na : M.an.length ≤ 1000
  nn : M.ns.length ≤ 1000
  nx : M.ad.length ≤ 1000
  recs : ∀ R ∈ recsM M, Small R
set_option maxHeartbeats 8000000 in
set_option maxRecDepth 100000 in
theorem same_any (M N : Msg) (Aq Aa An Ax Bq Ba Bn Bx : Option Addr) (cq ca cn cx dq da dn dx nq na nn nx mq ma mn mx : Nat) (Za Ya Zn Yn Zx Yx : List RecZ) (q : Bool) (w : World) (hM : Hid (MsgV w w.heap.size M Aq Aa An Ax nq na nn nx ca cn cx Za Zn Zx)) (hN : Hid (MsgV w w.heap.size N Bq Ba Bn Bx mq ma mn mx da dn dx Ya Yn Yx)) (hsM : Hid (SmallM M)) (hsN : Hid (SmallM N)) (hq : Hid (q = true ↔ M = N)) :
    Calls Try.prog 19 #[.agg (msgA M.id M.flags Aq nq cq Aa na ca An nn cn Ax nx cx), .agg (msgA N.id N.flags Bq mq dq Ba ma da Bn mn dn Bx mx dx)] w fun e w' => e = .returned (.bool q) ∧ Below w.heap.size w w' := by
  obtain ⟨id, hid⟩ : ∃ n, M.id = n := ⟨_, rfl⟩
  obtain ⟨fl, hfl⟩ : ∃ n, M.flags = n := ⟨_, rfl⟩
  obtain ⟨jd, hjd⟩ : ∃ n, N.id = n := ⟨_, rfl⟩
  obtain ⟨gl, hgl⟩ : ∃ n, N.flags = n := ⟨_, rfl⟩
  have HST0 := Lib.hid (smSt_start w (msgA id fl Aq nq cq Aa na ca An nn cn Ax nx cx) (msgA jd gl Bq mq dq Ba ma da Bn mn dn Bx mx dx))
  obtain ⟨b, hb⟩ : ∃ b, w.heap.size = b := ⟨_, rfl⟩
  have hM0 := hM.out
  have hN0 := hN.out
  rw [hb] at HST0 hM0 hN0
  rw [hid, hfl, hjd, hgl, hb]
  have rM := hM0.rows
  have rN := hN0.rows
  have sm : ∀ z ∈ Za ++ Zn ++ Zx, Small z.1 := fun z hz => hsM.out.recs _ (by rw [← hM0.all.1]; exact List.mem_map_of_mem hz)
  have sn : ∀ z ∈ Ya ++ Yn ++ Yx, Small z.1 := fun z hz => hsN.out.recs _ (by rw [← hN0.all.1]; exact List.mem_map_of_mem hz)
  have bd : (nq ≤ 1000 ∧ na ≤ 1000 ∧ nn ≤ 1000 ∧ nx ≤ 1000) ∧ mq ≤ 1000 ∧ ma ≤ 1000 ∧ mn ≤ 1000 ∧ mx ≤ 1000 := by
    have := hsM.out.nq; have := hsM.out.na; have := hsM.out.nn; have := hsM.out.nx
    have := hsN.out.nq; have := hsN.out.na; have := hsN.out.nn; have := hsN.out.nx
    have := hM0.eq; have := hM0.ea; have := hM0.en; have := hM0.ex
    have := hN0.eq; have := hN0.ea; have := hN0.en; have := hN0.ex
    omega
  obtain ⟨qa, hqa⟩ : ∃ q : Bool, q = true ↔ Za.map (·.1) = Ya.map (·.1) := by
    by_cases h : Za.map (·.1) = Ya.map (·.1)
    · exact ⟨true, by simp [h]⟩
    · exact ⟨false, by simp [h]⟩
  obtain ⟨qn, hqn⟩ : ∃ q : Bool, q = true ↔ Zn.map (·.1) = Yn.map (·.1) := by
    by_cases h : Zn.map (·.1) = Yn.map (·.1)
    · exact ⟨true, by simp [h]⟩
    · exact ⟨false, by simp [h]⟩
  obtain ⟨qx, hqx⟩ : ∃ q : Bool, q = true ↔ Zx.map (·.1) = Yx.map (·.1) := by
    by_cases h : Zx.map (·.1) = Yx.map (·.1)
    · exact ⟨true, by simp [h]⟩
    · exact ⟨false, by simp [h]⟩
  have RA := Lib.hid (fun W (h : Below b w W) (hs : b ≤ W.heap.size) => sameRecs_any Aa Ba ca da na ma _ Za Ya qa W rfl (rM.1.1.on h hs) (hM0.at_.za.on h hs) (rN.1.1.on h hs) (hN0.at_.za.on h hs) rM.1.2.1 rN.1.2.1 bd.1.2.1 bd.2.2.1 (fun z hz => sm z (by simp [hz])) (fun z hz => sn z (by simp [hz])) hqa)
  have RN := Lib.hid (fun W (h : Below b w W) (hs : b ≤ W.heap.size) => sameRecs_any An Bn cn dn nn mn _ Zn Yn qn W rfl (rM.2.1.1.on h hs) (hM0.at_.zn.on h hs) (rN.2.1.1.on h hs) (hN0.at_.zn.on h hs) rM.2.1.2.1 rN.2.1.2.1 bd.1.2.2.1 bd.2.2.2.1 (fun z hz => sm z (by simp [hz])) (fun z hz => sn z (by simp [hz])) hqn)
  have RX := Lib.hid (fun W (h : Below b w W) (hs : b ≤ W.heap.size) => sameRecs_any Ax Bx cx dx nx mx _ Zx Yx qx W rfl (rM.2.2.1.on h hs) (hM0.at_.zx.on h hs) (rN.2.2.1.on h hs) (hN0.at_.zx.on h hs) rM.2.2.2.1 rN.2.2.2.1 bd.1.2.2.2 bd.2.2.2.2 (fun z hz => sm z (by simp [hz])) (fun z hz => sn z (by simp [hz])) hqx)
  have HQA : Hid (qa = true ↔ M.an = N.an) := by show _ ↔ _; rw [← hM0.at_.ea, ← hN0.at_.ea]; exact hqa
  have HQN : Hid (qn = true ↔ M.ns = N.ns) := by show _ ↔ _; rw [← hM0.at_.en, ← hN0.at_.en]; exact hqn
  have HQX : Hid (qx = true ↔ M.ad = N.ad) := by show _ ↔ _; rw [← hM0.at_.ex, ← hN0.at_.ex]; exact hqx
  have HM := Lib.hid hM0
  have HN := Lib.hid hN0
  have HBD := Lib.hid bd
  have HID := Lib.hid hid
  have HFL := Lib.hid hfl
  have HJD := Lib.hid hjd
  have HGL := Lib.hid hgl
  have HNO : Hid (M ≠ N → q = false) := fun h => by
    cases hqq : q with
    | false => rfl
    | true => exact absurd (hq.out.1 hqq) h
  clear hM0 hN0 rM rN sm sn bd hqa hqn hqx hid hfl hjd hgl
  by_cases c1 : id = jd
  rotate_left
  · have f1 : ((id : Int) != (jd : Int)) = true := bne_iff_ne.2 (by omega)
    obtain rfl := HNO.out (fun e => c1 (by rw [← HID.out, ← HJD.out, e]))
    have HB := Lib.hid HST0.out.bl
    clear hb HST0
    go_enter Try.func19, Try.ntmps19
    go_wp2_with fail
    go_ret
    exact ⟨rfl, HB.out⟩
  by_cases c2 : fl = gl
  rotate_left
  · have f1 : ((fl : Int) != (gl : Int)) = true := bne_iff_ne.2 (by omega)
    obtain rfl := HNO.out (fun e => c2 (by rw [← HFL.out, ← HGL.out, e]))
    subst c1
    have HB := Lib.hid HST0.out.bl
    clear hb HST0
    go_enter Try.func19, Try.ntmps19
    go_wp2_with fail
    go_ret
    exact ⟨rfl, HB.out⟩
  by_cases c3 : nq = mq
  rotate_left
  · have f1 : ((nq : Int) != (mq : Int)) = true := bne_iff_ne.2 (by omega)
    obtain rfl := HNO.out (fun e => c3 (by rw [← HM.out.eq, ← HN.out.eq, e]))
    have HB := Lib.hid HST0.out.bl
    subst c1 c2
    clear hb HST0
    go_enter Try.func19, Try.ntmps19
    go_wp2_with fail
    go_ret
    exact ⟨rfl, HB.out⟩
  subst c1 c2 c3
  have hbw : Hid (w.heap.size = b) := hb
  go_enter Try.func19, Try.ntmps19
  go_wp2_with fail
  clear hb
  generalize (w.alloc (.cells (msgA id fl Aq nq cq Aa na ca An nn cn Ax nx cx) 26)).alloc (.cells (msgA id fl Bq nq dq Ba ma da Bn mn dn Bx mx dx) 26) = w1 at HST0 ⊢
  refine (RA.out _ HST0.out.bl (by have := HST0.out.lt; omega)).mono ?_
  rintro e w2 ⟨rfl, hB⟩
  have HST1 := Lib.hid (HST0.out.below hB)
  clear hB HST0 RA
  cases qa with
  | false =>
    obtain rfl := HNO.out (fun e => absurd (HQA.out.2 (by rw [e])) (by decide))
    go_wp2_with fail
    go_ret
    exact ⟨rfl, HST1.out.bl⟩
  | true =>
  have p4 := cell_of_row _ _ 4 _ _ _ HST1.out.b0
  have q4 := cell_of_row _ _ 4 _ _ _ HST1.out.b1
  go_wp2_with fail
  refine (RN.out _ HST1.out.bl (by have := HST1.out.lt; omega)).mono ?_
  rintro e w3 ⟨rfl, hB⟩
  have HST2 := Lib.hid (HST1.out.below hB)
  clear hB HST1 RN p4 q4
  cases qn with
  | false =>
    obtain rfl := HNO.out (fun e => absurd (HQN.out.2 (by rw [e])) (by decide))
    go_wp2_with fail
    go_ret
    exact ⟨rfl, HST2.out.bl⟩
  | true =>
  have p5 := cell_of_row _ _ 5 _ _ _ HST2.out.b0
  have q5 := cell_of_row _ _ 5 _ _ _ HST2.out.b1
  go_wp2_with fail
  refine (RX.out _ HST2.out.bl (by have := HST2.out.lt; omega)).mono ?_
  rintro e w4 ⟨rfl, hB⟩
  have HST3 := Lib.hid (HST2.out.below hB)
  clear hB HST2 RX p5 q5
  cases qx with
  | false =>
    obtain rfl := HNO.out (fun e => absurd (HQX.out.2 (by rw [e])) (by decide))
    go_wp2_with fail
    go_ret
    exact ⟨rfl, HST3.out.bl⟩
  | true =>
  have p2 := cell_of_row _ _ 2 _ _ _ HST3.out.b0
  have q2 := cell_of_row _ _ 2 _ _ _ HST3.out.b1
  have HM4 := Lib.hid (HM.out.on HST3.out.bl (Nat.le_refl _))
  have HN4 := Lib.hid (HN.out.on HST3.out.bl (Nat.le_refl _))
  have hnq := HBD.out.1.1
  go_wp2_with fail
  go_loopw [5] (fun i wr => ∃ j n : Nat, i = .int .i64 j ∧ j ≤ nq ∧ wr = w4.drewN n ∧ Hid (∀ k (h1 : k < M.qs.length) (h2 : k < N.qs.length), k < j → M.qs[k] = N.qs[k])) (fun i _ => nq - (intOf i).toNat)
  case atStart => exact ⟨0, 0, rfl, Nat.zero_le _, rfl, fun k _ _ h => absurd h (Nat.not_lt_zero _)⟩
  case round =>
    obtain ⟨j, m, rfl, hj, rfl, hE⟩ := hrel
    by_cases hlt : j < nq
    · have hja : j < M.qs.length := by rw [HM4.out.eq]; exact hlt
      have hjb : j < N.qs.length := by rw [HN4.out.eq]; exact hlt
      obtain ⟨ba, oa, rfl, hba, k0, k1, k2⟩ := HM4.out.at_.q.qn hja
      obtain ⟨bb, ob, rfl, hbb, m0, m1, m2⟩ := HN4.out.at_.q.qn hjb
      have HEQ : Hid (∀ Q S, M.qs[j] = Q → N.qs[j] = S → q = true → Q = S) := fun Q S h1 h2 h => by
        have e := hq.out.1 h
        rw [← h1, ← h2]
        simp only [e]
      have HNX : Hid (∀ Q S, M.qs[j] = Q → N.qs[j] = S → Q = S → ∀ k (h1 : k < M.qs.length) (h2 : k < N.qs.length), k < j + 1 → M.qs[k] = N.qs[k]) := fun Q S h1 h2 h k a1 a2 hk => by
        by_cases hkj : k < j
        · exact hE.out k a1 a2 hkj
        · obtain rfl : k = j := by omega
          rw [h1, h2]; exact h
      obtain ⟨QQ, hQQ⟩ : ∃ Q, M.qs[j] = Q := ⟨_, rfl⟩
      obtain ⟨SS, hSS⟩ : ∃ Q, N.qs[j] = Q := ⟨_, rfl⟩
      rw [hQQ] at k0 k1 k2
      rw [hSS] at m0 m1 m2
      have HEQ2 := Lib.hid (HEQ.out QQ SS hQQ hSS)
      have HNX2 := Lib.hid (HNX.out QQ SS hQQ hSS)
      clear HEQ HNX hQQ hSS hE
      by_cases e0 : QQ = SS
      · subst e0
        have HE2 := Lib.hid (HNX2.out rfl)
        obtain ⟨xn, hxn⟩ : ∃ x, mk QQ.name = x := ⟨_, rfl⟩
        obtain ⟨rk, hrk⟩ : ∃ n, QQ.kind = n := ⟨_, rfl⟩
        obtain ⟨rc, hrc⟩ : ∃ n, QQ.cls = n := ⟨_, rfl⟩
        rw [hxn] at k0 m0
        rw [hrk] at k1 m1
        rw [hrc] at k2 m2
        clear hxn hrk hrc
        have hse : (xn.toList == xn.toList) = true := beq_self_eq_true _
        go_wp2_with fail
        go_quiet (fail)
        go_wp2_with fail
        go_roundw
        case rel => exact ⟨j + 1, m + _, by go_num, by omega, rfl, HE2⟩
        case measure => simp [intOf]; omega
      · obtain rfl : q = false := by
          cases hqq : q with
          | false => rfl
          | true => exact absurd (HEQ2.out hqq) e0
        obtain ⟨xn, hxn⟩ : ∃ x, mk QQ.name = x := ⟨_, rfl⟩
        obtain ⟨rk, hrk⟩ : ∃ n, QQ.kind = n := ⟨_, rfl⟩
        obtain ⟨rc, hrc⟩ : ∃ n, QQ.cls = n := ⟨_, rfl⟩
        obtain ⟨yn, hyn⟩ : ∃ x, mk SS.name = x := ⟨_, rfl⟩
        obtain ⟨sk, hsk⟩ : ∃ n, SS.kind = n := ⟨_, rfl⟩
        obtain ⟨sc, hsc⟩ : ∃ n, SS.cls = n := ⟨_, rfl⟩
        have hdf : ¬ (xn = yn ∧ rk = sk ∧ rc = sc) := by
          rintro ⟨a1, a2, a3⟩
          apply e0
          have a1' : QQ.name = SS.name := by
            have := congrArg (fun s : ByteArray => s.data.toList) (hxn.trans (a1.trans hyn.symm))
            simpa only [mk_list] using this
          have a2' : QQ.kind = SS.kind := by rw [hrk, hsk, a2]
          have a3' : QQ.cls = SS.cls := by rw [hrc, hsc, a3]
          cases QQ; cases SS
          simp only at a1' a2' a3'
          subst a1' a2' a3'
          rfl
        rw [hxn] at k0
        rw [hyn] at m0
        rw [hrk] at k1
        rw [hsk] at m1
        rw [hrc] at k2
        rw [hsc] at m2
        have HDF := Lib.hid hdf
        clear hxn hrk hrc hyn hsk hsc hdf e0 HEQ2 HNX2
        by_cases b0 : xn = yn
        · subst b0
          have hse : (xn.toList == xn.toList) = true := beq_self_eq_true _
          by_cases b1 : rk = sk
          · subst b1
            have b2 : rc ≠ sc := fun e => HDF.out ⟨rfl, rfl, e⟩
            have hs2 : ((rc : Int) == (sc : Int)) = false := beq_eq_false_iff_ne.2 (by omega)
            go_wp2_with fail
            go_quiet (fail)
            go_wp2_with fail
            go_ret
            exact ⟨rfl, below_drewN (below_drewN HST3.out.bl _) _⟩
          · have hs2 : ((rk : Int) == (sk : Int)) = false := beq_eq_false_iff_ne.2 (by omega)
            go_wp2_with fail
            go_quiet (fail)
            go_wp2_with fail
            go_ret
            exact ⟨rfl, below_drewN (below_drewN HST3.out.bl _) _⟩
        · have hse : (xn.toList == yn.toList) = false := beq_eq_false_iff_ne.2 (fun e => b0 (by
            apply ByteArray.ext
            apply Array.ext'
            rw [← Lib.toList_data, ← Lib.toList_data, e]))
          go_wp2_with fail
          go_quiet (fail)
          go_wp2_with fail
          go_ret
          exact ⟨rfl, below_drewN (below_drewN HST3.out.bl _) _⟩
    · have hjn : ¬ ((j : Int) < (nq : Int)) := by omega
      obtain rfl : q = true := hq.out.2 (msg_eq (by rw [HID.out, HJD.out]) (by rw [HFL.out, HGL.out]) (by
        apply List.ext_getElem
        · rw [HM4.out.eq, HN4.out.eq]
        · intro k h1 h2
          exact hE.out k h1 h2 (by have := HM4.out.eq; omega)) (HQA.out.1 (by trivial)) (HQN.out.1 (by trivial)) (HQX.out.1 (by trivial)))
      clear hlt hE
      go_wp2_with fail
      go_ret
      exact ⟨rfl, HST3.out.bl.os, HST3.out.bl.tape, HST3.out.bl.output, HST3.out.bl.size, HST3.out.bl.block⟩
end Go.Proofs.Ytpmmjmnleoicjaa
