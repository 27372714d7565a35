/- Texts of one proof, one behind the other: QrMath, QrBase, KeyFrame, QrHeld, QrBits, QrIdx, QrNeg. -/
import Derived.Test.YtpmmjmnleoicjaaBytes
import Derived.Test.YtpmmjmnleoicjaaLowMath
import Derived.Test.YtpmmjmnleoicjaaNameMath
import Derived.Test.YtpmmjmnleoicjaaMsgMath
import Derived.Test.YtpmmjmnleoicjaaRecMath
import Derived.Test.YtpmmjmnleoicjaaQueryFailsProofG1
import Derived.Test.YtpmmjmnleoicjaaProg
import Derived.Test.YtpmmjmnleoicjaaStrs
import Derived.Test.YtpmmjmnleoicjaaNums
import Derived.Test.YtpmmjmnleoicjaaRecAt
import Derived.WalkKit
import Derived.Lib.Hide
import Derived.Outline
import Derived.IntWalk
import Derived.WalkSpells
import Derived.WalkLawsBesides
import Derived.ChangeArms
import Derived.Below
import Derived.Laws.Bits64b
import Derived.Laws.EntriesVeiled

/- What a query asks, which answers fit, how long they hold, how they age: over lists. No program, no condition. -/
namespace Go.Proofs.Ytpmmjmnleoicjaa.QrMath
open Go Bytes NameMath MsgMath RecMath WrMath

def opc (f : Nat) : Nat := f / 2048 % 16
def cod (f : Nat) : Nat := f % 16
/-- What a question is known by. -/
structure Ky where
  name : List UInt8
  kind : Nat
  cls : Nat
  wants : Bool
def noKy : Ky := ⟨[], 0, 0, false⟩
def zeroR : Rec := ⟨[], 0, 0, 0, [], [], []⟩
/-- The first record of a type, or one that has nothing. -/
def firstR (k : Nat) : List Rec → Rec
  | [] => zeroR
  | R :: L => if R.kind = k then R else firstR k L
/-- The place of the first record that is such, counted from j; -1: none is. -/
def idxP (p : Rec → Bool) : List Rec → Nat → Int
  | [], _ => -1
  | R :: L, j => if p R = true then j else idxP p L (j + 1)
theorem idxP_none {p : Rec → Bool} : ∀ {L : List Rec} {j : Nat}, L.any p = false → idxP p L j = -1
  | [], _, _ => rfl
  | R :: L, j, h => by
    rw [List.any_cons, Bool.or_eq_false_iff] at h
    rw [idxP, if_neg (by rw [h.1]; decide)]
    exact idxP_none h.2
theorem idxP_some {p : Rec → Bool} : ∀ {L : List Rec} {j : Nat}, L.any p = true → ∃ i, i < L.length ∧ idxP p L j = ((j + i : Nat) : Int)
  | [], _, h => by cases h
  | R :: L, j, h => by
    by_cases hp : p R = true
    · exact ⟨0, by simp, by rw [idxP, if_pos hp]; rfl⟩
    · rw [List.any_cons, Bool.or_eq_true] at h
      obtain ⟨i, hi, e⟩ := idxP_some (j := j + 1) (h.resolve_left hp)
      exact ⟨i + 1, by simp; omega, by rw [idxP, if_neg hp, e]; congr 1; omega⟩
theorem idxP_at {p : Rec → Bool} {d : Rec} : ∀ {L : List Rec} {j i : Nat}, idxP p L j = ((j + i : Nat) : Int) → i < L.length ∧ p (L.getD i d) = true ∧ ∀ m, m < i → p (L.getD m d) = false
  | [], j, i, h => by simp only [idxP] at h; omega
  | R :: L, j, i, h => by
    by_cases hp : p R = true
    · rw [idxP, if_pos hp] at h
      obtain rfl : i = 0 := by omega
      exact ⟨by simp, hp, fun m hm => absurd hm (Nat.not_lt_zero _)⟩
    · rw [idxP, if_neg hp] at h
      cases i with
      | zero =>
        exfalso
        by_cases ha : L.any p = true
        · obtain ⟨i, _, e⟩ := idxP_some (j := j + 1) ha
          rw [e] at h; omega
        · rw [idxP_none (by simpa using ha)] at h; omega
      | succ i =>
        obtain ⟨h1, h2, h3⟩ := idxP_at (d := d) (L := L) (j := j + 1) (i := i) (by rw [h]; congr 1; omega)
        refine ⟨by simp; omega, h2, fun m hm => ?_⟩
        cases m with
        | zero => simpa using hp
        | succ m => exact h3 m (by omega)
theorem firstR_none {k : Nat} : ∀ {L : List Rec}, L.any (fun R => decide (R.kind = k)) = false → firstR k L = zeroR
  | [], _ => rfl
  | R :: L, h => by
    rw [List.any_cons, Bool.or_eq_false_iff] at h
    rw [firstR, if_neg (of_decide_eq_false h.1)]
    exact firstR_none h.2
theorem firstR_at {k : Nat} : ∀ {L : List Rec} {i : Nat} (hi : i < L.length), (L[i]).kind = k → (∀ m (hm : m < L.length), m < i → (L[m]).kind ≠ k) → firstR k L = L[i]
  | [], i, hi, _, _ => absurd hi (Nat.not_lt_zero _)
  | R :: L, 0, hi, h, _ => by rw [firstR, if_pos (show R.kind = k from h)]; rfl
  | R :: L, i + 1, hi, h, h2 => by
    rw [firstR, if_neg (show ¬ R.kind = k from h2 0 (by simp) (by omega))]
    exact firstR_at (by simpa using hi) h fun m hm hmi => h2 (m + 1) (by simpa using hm) (by omega)
/-- Is DO set? -/
def doB (t : Nat) : Bool := decide (t / 32768 % 2 = 1)
def doM (M : Msg) : Bool := doB (firstR 41 M.ad).ttl
/-- What a message asks. -/
def plainQ (M : Msg) : Bool := decide (M.flags < 32768 ∧ opc M.flags = 0 ∧ M.qs.length = 1 ∧ M.an.length = 0 ∧ M.ns.length = 0)
def askM (M : Msg) : Option Ky :=
  if plainQ M = true then
    match M.qs with
    | [] => none
    | q :: _ => if q.kind = 41 ∨ isN q.name = false then none else some ⟨foldN q.name, q.kind, q.cls, doM M⟩
  else none
/-- The query of a key. -/
def optR : Rec := ⟨[0], 41, 65535, 32768, [], [], [[]]⟩
def makeM (id : Nat) (k : Ky) : Msg := ⟨id, 256, [⟨k.name, k.kind, k.cls⟩], [], [], if k.wants = true then [optR] else []⟩
/-- Does an answer fit? -/
def fitsM (k : Ky) (id : Nat) (M : Msg) : Bool :=
  decide (M.id = id ∧ 32768 ≤ M.flags ∧ M.flags / 512 % 2 = 0 ∧ opc M.flags = 0) &&
  (match M.qs with
   | [q] => decide (foldN q.name = k.name ∧ q.kind = k.kind ∧ q.cls = k.cls)
   | _ => false)
/-- Is an answer negative? -/
def negM (M : Msg) : Bool :=
  match M.qs with
  | [] => false
  | q :: _ => if cod M.flags = 3 then true else if cod M.flags = 0 then !(M.an.any fun R => decide (R.kind = q.kind ∨ R.kind = 5)) else false
/-- The least TTL of some records; of none 0. -/
def leastL : List Rec → Nat
  | [] => 0
  | R :: L => L.foldl (fun a S => if S.ttl < a then S.ttl else a) R.ttl
def noneM (M : Msg) : Nat := let R := firstR 6 M.ns; if R.nums.length ≠ 5 then 0 else min R.ttl (R.nums.getD 4 0)
def leastM (M : Msg) : Nat := if negM M = true then noneM M else leastL ((recsM M).filter fun R => decide (R.kind ≠ 41))
/-- Records behind some seconds. -/
def ageR (s : Nat) (R : Rec) : Rec := if R.kind = 41 then R else { R with ttl := R.ttl - s }
def ageM (s : Nat) (M : Msg) : Msg := { M with an := M.an.map (ageR s), ns := M.ns.map (ageR s), ad := M.ad.map (ageR s) }
/-- The failure of a query. -/
def failF (f : Nat) : Nat := 32768 + 128 + 2 + (if f / 256 % 2 = 1 then 256 else 0)
def failM (id : Nat) (M : Msg) : Msg := ⟨id, failF M.flags, M.qs, [], [], []⟩
end Go.Proofs.Ytpmmjmnleoicjaa.QrMath

/- The contracts of what a query's parts tell: codes, questions, what tells records of a type. No condition. -/
namespace Go.Proofs.Ytpmmjmnleoicjaa
open Go.RowKit Bytes NameMath MsgMath RecMath WrMath QrMath

abbrev recA (x : ByteArray) (k l t : Nat) (A1 : Option Addr) (n1 c1 : Nat) (A2 : Option Addr) (n2 c2 : Nat) (A3 : Option Addr) (n3 c3 : Nat) : Array Value := #[.string x, .int .u16 k, .int .u16 l, .int .u32 t, .slice A1 n1 c1, .slice A2 n2 c2, .slice A3 n3 c3]
abbrev kyA (x : ByteArray) (k l : Nat) (b : Bool) : Array Value := #[.string x, .int .u16 k, .int .u16 l, .bool b]

set_option maxHeartbeats 1000000 in
set_option maxRecDepth 100000 in
theorem opcode_any (id fl : Nat) (Aq Aa An Ax : Option Addr) (nq cq na ca nn cn nx cx : Nat) (E : Nat) (w : World) (hfl : fl ≤ 65535) (hE : Hid (opc fl = E)) :
    Calls Try.prog 58 #[.agg (msgA id fl Aq nq cq Aa na ca An nn cn Ax nx cx)] w fun e w' => e = .returned (.int .u16 E) ∧ Below w.heap.size w w' := by
  have HB : Hid (Below w.heap.size w (w.alloc (.cells (msgA id fl Aq nq cq Aa na ca An nn cn Ax nx cx) 26))) := (Below.refl _ _).alloc (Nat.le_refl _) _
  have hz : (fl : Int) / 2048 % 16 = (E : Int) := by have := hE.out; unfold opc at this; omega
  clear hE
  go_enter Try.func58, Try.ntmps58
  go_wp2_with fail
  go_ret
  exact ⟨by rw [← hz]; rfl, HB.out⟩
set_option maxHeartbeats 1000000 in
set_option maxRecDepth 100000 in
theorem code_any (id fl : Nat) (Aq Aa An Ax : Option Addr) (nq cq na ca nn cn nx cx : Nat) (E : Nat) (w : World) (hfl : fl ≤ 65535) (hE : Hid (cod fl = E)) :
    Calls Try.prog 68 #[.agg (msgA id fl Aq nq cq Aa na ca An nn cn Ax nx cx)] w fun e w' => e = .returned (.int .u16 E) ∧ Below w.heap.size w w' := by
  have HB : Hid (Below w.heap.size w (w.alloc (.cells (msgA id fl Aq nq cq Aa na ca An nn cn Ax nx cx) 26))) := (Below.refl _ _).alloc (Nat.le_refl _) _
  have hz : (fl : Int) % 16 = (E : Int) := by have := hE.out; unfold cod at this; omega
  clear hE
  go_enter Try.func68, Try.ntmps68
  go_wp2_with fail
  go_ret
  exact ⟨by rw [← hz]; rfl, HB.out⟩
set_option maxHeartbeats 1000000 in
set_option maxRecDepth 100000 in
theorem qof_any (x : ByteArray) (k l : Nat) (b : Bool) (w : World) :
    Calls Try.prog 64 #[.agg (kyA x k l b)] w fun e w' => e = .returned (.agg #[.string x, .int .u16 k, .int .u16 l]) ∧ Below w.heap.size w w' := by
  go_enter Try.func64, Try.ntmps64
  go_wp2_with fail
  refine bodyPost_ret (v := .agg #[.string x, .int .u16 k, .int .u16 l]) (by simp [results, Try.results64, go_sem]) rfl ⟨rfl, ((Below.refl _ _).alloc (Nat.le_refl _) _).alloc (by simp) _⟩
/-- What tells records of a type. -/
def MadeOf (k : Nat) (w : World) (e : Ending) (w' : World) : Prop :=
  ∃ b, e = .returned (.func (.func 105) #[] #[.pointer (some ⟨b, 0, none⟩)]) ∧ w'.cell? ⟨b, 0, none⟩ = some (.int .u16 k) ∧ w.heap.size ≤ b ∧ b < w'.heap.size ∧ Below w.heap.size w w'
theorem of_any (k : Nat) (w : World) : Calls Try.prog 66 #[.int .u16 k] w (MadeOf k w) := by
  have hmf : ∀ (fn : Fn) (first cap : Array Value) (w : World), (Instr.makeFunc fn first cap).run Try.prog w = .ok (.func fn first cap) w := fun _ _ _ _ => rfl
  go_enter Try.func66, Try.ntmps66
  go_wp2_with fail
  go_ret
  exact ⟨_, rfl, by simp, Nat.le_refl _, by simp, (Below.refl _ _).alloc (Nat.le_refl _) _⟩
set_option maxHeartbeats 1000000 in
set_option maxRecDepth 100000 in
theorem of1_any (x : ByteArray) (k l t : Nat) (A1 : Option Addr) (n1 c1 : Nat) (A2 : Option Addr) (n2 c2 : Nat) (A3 : Option Addr) (n3 c3 : Nat) (b kk : Nat) (q : Bool) (w : World) (hb : w.cell? ⟨b, 0, none⟩ = some (.int .u16 kk)) (hbs : b < w.heap.size) (hq : Hid (decide (k = kk) = q)) :
    Calls Try.prog 105 #[.agg (recA x k l t A1 n1 c1 A2 n2 c2 A3 n3 c3), .pointer (some ⟨b, 0, none⟩)] w fun e w' => e = .returned (.bool q) ∧ Below w.heap.size w w' := by
  have HB : Hid (Below w.heap.size w (w.alloc (.cells (recA x k l t A1 n1 c1 A2 n2 c2 A3 n3 c3) 60))) := (Below.refl _ _).alloc (Nat.le_refl _) _
  have hc : (w.alloc (.cells (recA x k l t A1 n1 c1 A2 n2 c2 A3 n3 c3) 60)).cell? ⟨b, 0, none⟩ = some (.int .u16 kk) := (HB.out.cell (p := ⟨b, 0, none⟩) hbs).trans hb
  have hz : ((k : Int) == (kk : Int)) = q := by
    rw [← hq.out]
    by_cases h : k = kk
    · rw [decide_eq_true h]; exact beq_iff_eq.2 (by omega)
    · rw [decide_eq_false h]; exact beq_eq_false_iff_ne.2 (by omega)
  clear hq hb
  go_enter Try.func105, Try.ntmps105
  go_wp2_with fail
  go_ret
  exact ⟨rfl, HB.out⟩
theorem refQr_any (fl : Nat) (q : Bool) (w : World) (hq : Hid (decide (32768 ≤ fl) = q)) : Calls Try.prog 61 #[.int .u16 fl] w fun e w' => e = .returned (.bool q) ∧ w = w' := by
  have hz : decide ((32768 : Int) ≤ (fl : Int)) = q := by rw [← hq.out]; exact decide_eq_decide.2 (by omega)
  clear hq
  go_enter Try.func61, Try.ntmps61
  go_wp2_with fail
  go_ret
  exact ⟨rfl, rfl⟩
theorem refOpcode_any (fl E : Nat) (w : World) (hfl : fl ≤ 65535) (hE : Hid (opc fl = E)) : Calls Try.prog 62 #[.int .u16 fl] w fun e w' => e = .returned (.int .i64 E) ∧ w = w' := by
  have hz : (fl : Int) / 2048 % 16 = (E : Int) := by have := hE.out; unfold opc at this; omega
  clear hE
  go_enter Try.func62, Try.ntmps62
  go_wp2_with fail
  go_ret
  exact ⟨by rw [← hz]; rfl, rfl⟩
theorem refCode_any (fl E : Nat) (w : World) (hfl : fl ≤ 65535) (hE : Hid (cod fl = E)) : Calls Try.prog 70 #[.int .u16 fl] w fun e w' => e = .returned (.int .i64 E) ∧ w = w' := by
  have hz : (fl : Int) % 16 = (E : Int) := by have := hE.out; unfold cod at this; omega
  clear hE
  go_enter Try.func70, Try.ntmps70
  go_wp2_with fail
  go_ret
  exact ⟨by rw [← hz]; rfl, rfl⟩
end Go.Proofs.Ytpmmjmnleoicjaa

/- A key that came in. No condition. -/
namespace Go.Proofs.Ytpmmjmnleoicjaa
open Go.ChangeShapes Go.WideShapes Go.ChangeAt Go.RowKit
section
variable {H : Type} {enc : TypeId × Value → H} {w : World} {base : Nat} {spare : Nat → Bool} {held : Bool}
def CameKey (v : Value) (x : ByteArray) (k l : Nat) (b : Bool) : Prop := v = .agg (kyA x k l b) ∧ x.size ≤ maxLen ∧ k ≤ 65535 ∧ l ≤ 65535
set_option maxRecDepth 100000 in
theorem came_key {r : Reach} {b0 : Nat} {v : Value} {d : DataW H} {p : List MemPlace} (hv : Value.okWide Try.prog w r b0 42 v) (h : DataW.Trod enc Try.prog w base spare held 42 v d p) :
    ∃ x k l b, CameKey v x k l b := by
  obtain ⟨cs, rfl, hsz⟩ := okWide_struct Try.underlying42 hv
  obtain ⟨lst⟩ := cs
  match lst, hsz.trans (show Try.prog.cellsOf 42 = 4 by kernel_rfl) with
  | [a0, a1, a2, a3], _ =>
    obtain ⟨fuel, hf⟩ := h
    obtain ⟨xs, n, _, hx, _, hlen, hg⟩ := DataW.trod_struct Try.underlying42 hf
    match xs, hlen with
    | [y0, y1, y2, y3], _ =>
      have cs1 : Try.prog.cellsOf 9 = 1 := by kernel_rfl
      have cs2 : Try.prog.cellsOf 22 = 1 := by kernel_rfl
      have cs3 : Try.prog.cellsOf 4 = 1 := by kernel_rfl
      have g0 : DataW.trod enc Try.prog w base spare held n 9 [a0] = some y0 := by simpa [Value.cells, cs1] using hg 0 _ rfl
      have g1 : DataW.trod enc Try.prog w base spare held n 22 [a1] = some y1 := by simpa [Value.cells, cs2] using hg 1 _ rfl
      have g2 : DataW.trod enc Try.prog w base spare held n 22 [a2] = some y2 := by simpa [Value.cells, cs2] using hg 2 _ rfl
      have g3 : DataW.trod enc Try.prog w base spare held n 4 [a3] = some y3 := by simpa [Value.cells, cs3] using hg 3 _ rfl
      obtain ⟨x, e0, _, hxs⟩ := DataW.trod_string Try.underlying9 g0
      obtain ⟨z1, e1, _, hz1⟩ := DataW.trod_int Try.underlying22 g1
      obtain ⟨z2, e2, _, hz2⟩ := DataW.trod_int Try.underlying22 g2
      obtain ⟨b, e3, _⟩ := DataW.trod_bool Try.underlying4 g3
      injection e0 with e0
      injection e1 with e1
      injection e2 with e2
      injection e3 with e3
      subst e0 e1 e2 e3
      obtain ⟨k, rfl, hk⟩ := wf_u16 hz1
      obtain ⟨l, rfl, hl⟩ := wf_u16 hz2
      exact ⟨x, k, l, b, rfl, hxs, hk, hl⟩
end
end Go.Proofs.Ytpmmjmnleoicjaa

/- Calls that make memory and keep what stood: the cells that a drawn region has loaded, told anew. No condition. -/
namespace Go.Proofs.Ytpmmjmnleoicjaa
open Go.RowKit
theorem held4 {f : FuncId} {args : Array Value} {ret : Value} {g : Nat} {w0 : World} (a0 a1 a2 a3 : Addr) (v0 v1 v2 v3 : Value) (C : ∀ W, Below g w0 W → g ≤ W.heap.size → Calls Try.prog f args W fun e w' => e = .returned ret ∧ Below W.heap.size W w') (w : World) (hg : g ≤ w.heap.size) (hc : w.cell? a0 = some v0 ∧ w.cell? a1 = some v1 ∧ w.cell? a2 = some v2 ∧ w.cell? a3 = some v3 ∧ Below g w0 w) :
    Calls Try.prog f args w fun e w' => e = .returned ret ∧ w'.cell? a0 = some v0 ∧ w'.cell? a1 = some v1 ∧ w'.cell? a2 = some v2 ∧ w'.cell? a3 = some v3 ∧ Below g w0 w' := by
  obtain ⟨h0, h1, h2, h3, hH⟩ := hc
  refine (C w hH hg).mono ?_
  rintro e w' ⟨rfl, hB⟩
  have far : ∀ {a : Addr} {v : Value}, w.cell? a = some v → w'.cell? a = some v := fun h => (hB.cell (World.block_lt_of_cell? w _ h)).trans h
  exact ⟨rfl, far h0, far h1, far h2, far h3, hH.trans (hB.mono hg)⟩
theorem held5 {f : FuncId} {args : Array Value} {ret : Value} {g : Nat} {w0 : World} (a0 a1 a2 a3 a4 : Addr) (v0 v1 v2 v3 v4 : Value) (C : ∀ W, Below g w0 W → g ≤ W.heap.size → Calls Try.prog f args W fun e w' => e = .returned ret ∧ Below W.heap.size W w') (w : World) (hg : g ≤ w.heap.size) (hc : w.cell? a0 = some v0 ∧ w.cell? a1 = some v1 ∧ w.cell? a2 = some v2 ∧ w.cell? a3 = some v3 ∧ w.cell? a4 = some v4 ∧ Below g w0 w) :
    Calls Try.prog f args w fun e w' => e = .returned ret ∧ w'.cell? a0 = some v0 ∧ w'.cell? a1 = some v1 ∧ w'.cell? a2 = some v2 ∧ w'.cell? a3 = some v3 ∧ w'.cell? a4 = some v4 ∧ Below g w0 w' := by
  obtain ⟨h0, h1, h2, h3, h4, hH⟩ := hc
  refine (C w hH hg).mono ?_
  rintro e w' ⟨rfl, hB⟩
  have far : ∀ {a : Addr} {v : Value}, w.cell? a = some v → w'.cell? a = some v := fun h => (hB.cell (World.block_lt_of_cell? w _ h)).trans h
  exact ⟨rfl, far h0, far h1, far h2, far h3, far h4, hH.trans (hB.mono hg)⟩
theorem held6 {f : FuncId} {args : Array Value} {ret : Value} {g : Nat} {w0 : World} (a0 a1 a2 a3 a4 a5 : Addr) (v0 v1 v2 v3 v4 v5 : Value) (C : ∀ W, Below g w0 W → g ≤ W.heap.size → Calls Try.prog f args W fun e w' => e = .returned ret ∧ Below W.heap.size W w') (w : World) (hg : g ≤ w.heap.size) (hc : w.cell? a0 = some v0 ∧ w.cell? a1 = some v1 ∧ w.cell? a2 = some v2 ∧ w.cell? a3 = some v3 ∧ w.cell? a4 = some v4 ∧ w.cell? a5 = some v5 ∧ Below g w0 w) :
    Calls Try.prog f args w fun e w' => e = .returned ret ∧ w'.cell? a0 = some v0 ∧ w'.cell? a1 = some v1 ∧ w'.cell? a2 = some v2 ∧ w'.cell? a3 = some v3 ∧ w'.cell? a4 = some v4 ∧ w'.cell? a5 = some v5 ∧ Below g w0 w' := by
  obtain ⟨h0, h1, h2, h3, h4, h5, hH⟩ := hc
  refine (C w hH hg).mono ?_
  rintro e w' ⟨rfl, hB⟩
  have far : ∀ {a : Addr} {v : Value}, w.cell? a = some v → w'.cell? a = some v := fun h => (hB.cell (World.block_lt_of_cell? w _ h)).trans h
  exact ⟨rfl, far h0, far h1, far h2, far h3, far h4, far h5, hH.trans (hB.mono hg)⟩
theorem held10 {f : FuncId} {args : Array Value} {ret : Value} {g : Nat} {w0 : World} (a0 a1 a2 a3 a4 a5 a6 a7 a8 a9 : Addr) (v0 v1 v2 v3 v4 v5 v6 v7 v8 v9 : Value) (C : ∀ W, Below g w0 W → g ≤ W.heap.size → Calls Try.prog f args W fun e w' => e = .returned ret ∧ Below W.heap.size W w') (w : World) (hg : g ≤ w.heap.size) (hc : w.cell? a0 = some v0 ∧ w.cell? a1 = some v1 ∧ w.cell? a2 = some v2 ∧ w.cell? a3 = some v3 ∧ w.cell? a4 = some v4 ∧ w.cell? a5 = some v5 ∧ w.cell? a6 = some v6 ∧ w.cell? a7 = some v7 ∧ w.cell? a8 = some v8 ∧ w.cell? a9 = some v9 ∧ Below g w0 w) :
    Calls Try.prog f args w fun e w' => e = .returned ret ∧ w'.cell? a0 = some v0 ∧ w'.cell? a1 = some v1 ∧ w'.cell? a2 = some v2 ∧ w'.cell? a3 = some v3 ∧ w'.cell? a4 = some v4 ∧ w'.cell? a5 = some v5 ∧ w'.cell? a6 = some v6 ∧ w'.cell? a7 = some v7 ∧ w'.cell? a8 = some v8 ∧ w'.cell? a9 = some v9 ∧ Below g w0 w' := by
  obtain ⟨h0, h1, h2, h3, h4, h5, h6, h7, h8, h9, hH⟩ := hc
  refine (C w hH hg).mono ?_
  rintro e w' ⟨rfl, hB⟩
  have far : ∀ {a : Addr} {v : Value}, w.cell? a = some v → w'.cell? a = some v := fun h => (hB.cell (World.block_lt_of_cell? w _ h)).trans h
  exact ⟨rfl, far h0, far h1, far h2, far h3, far h4, far h5, far h6, far h7, far h8, far h9, hH.trans (hB.mono hg)⟩
theorem held14 {f : FuncId} {args : Array Value} {ret : Value} {g : Nat} {w0 : World} (a0 a1 a2 a3 a4 a5 a6 a7 a8 a9 a10 a11 a12 a13 : Addr) (v0 v1 v2 v3 v4 v5 v6 v7 v8 v9 v10 v11 v12 v13 : Value) (C : ∀ W, Below g w0 W → g ≤ W.heap.size → Calls Try.prog f args W fun e w' => e = .returned ret ∧ Below W.heap.size W w') (w : World) (hg : g ≤ w.heap.size) (hc : w.cell? a0 = some v0 ∧ w.cell? a1 = some v1 ∧ w.cell? a2 = some v2 ∧ w.cell? a3 = some v3 ∧ w.cell? a4 = some v4 ∧ w.cell? a5 = some v5 ∧ w.cell? a6 = some v6 ∧ w.cell? a7 = some v7 ∧ w.cell? a8 = some v8 ∧ w.cell? a9 = some v9 ∧ w.cell? a10 = some v10 ∧ w.cell? a11 = some v11 ∧ w.cell? a12 = some v12 ∧ w.cell? a13 = some v13 ∧ Below g w0 w) :
    Calls Try.prog f args w fun e w' => e = .returned ret ∧ w'.cell? a0 = some v0 ∧ w'.cell? a1 = some v1 ∧ w'.cell? a2 = some v2 ∧ w'.cell? a3 = some v3 ∧ w'.cell? a4 = some v4 ∧ w'.cell? a5 = some v5 ∧ w'.cell? a6 = some v6 ∧ w'.cell? a7 = some v7 ∧ w'.cell? a8 = some v8 ∧ w'.cell? a9 = some v9 ∧ w'.cell? a10 = some v10 ∧ w'.cell? a11 = some v11 ∧ w'.cell? a12 = some v12 ∧ w'.cell? a13 = some v13 ∧ Below g w0 w' := by
  obtain ⟨h0, h1, h2, h3, h4, h5, h6, h7, h8, h9, h10, h11, h12, h13, hH⟩ := hc
  refine (C w hH hg).mono ?_
  rintro e w' ⟨rfl, hB⟩
  have far : ∀ {a : Addr} {v : Value}, w.cell? a = some v → w'.cell? a = some v := fun h => (hB.cell (World.block_lt_of_cell? w _ h)).trans h
  exact ⟨rfl, far h0, far h1, far h2, far h3, far h4, far h5, far h6, far h7, far h8, far h9, far h10, far h11, far h12, far h13, hH.trans (hB.mono hg)⟩
theorem held20 {f : FuncId} {args : Array Value} {ret : Value} {g : Nat} {w0 : World} (a0 a1 a2 a3 a4 a5 a6 a7 a8 a9 a10 a11 a12 a13 a14 a15 a16 a17 a18 a19 : Addr) (v0 v1 v2 v3 v4 v5 v6 v7 v8 v9 v10 v11 v12 v13 v14 v15 v16 v17 v18 v19 : Value) (C : ∀ W, Below g w0 W → g ≤ W.heap.size → Calls Try.prog f args W fun e w' => e = .returned ret ∧ Below W.heap.size W w') (w : World) (hg : g ≤ w.heap.size) (hc : w.cell? a0 = some v0 ∧ w.cell? a1 = some v1 ∧ w.cell? a2 = some v2 ∧ w.cell? a3 = some v3 ∧ w.cell? a4 = some v4 ∧ w.cell? a5 = some v5 ∧ w.cell? a6 = some v6 ∧ w.cell? a7 = some v7 ∧ w.cell? a8 = some v8 ∧ w.cell? a9 = some v9 ∧ w.cell? a10 = some v10 ∧ w.cell? a11 = some v11 ∧ w.cell? a12 = some v12 ∧ w.cell? a13 = some v13 ∧ w.cell? a14 = some v14 ∧ w.cell? a15 = some v15 ∧ w.cell? a16 = some v16 ∧ w.cell? a17 = some v17 ∧ w.cell? a18 = some v18 ∧ w.cell? a19 = some v19 ∧ Below g w0 w) :
    Calls Try.prog f args w fun e w' => e = .returned ret ∧ w'.cell? a0 = some v0 ∧ w'.cell? a1 = some v1 ∧ w'.cell? a2 = some v2 ∧ w'.cell? a3 = some v3 ∧ w'.cell? a4 = some v4 ∧ w'.cell? a5 = some v5 ∧ w'.cell? a6 = some v6 ∧ w'.cell? a7 = some v7 ∧ w'.cell? a8 = some v8 ∧ w'.cell? a9 = some v9 ∧ w'.cell? a10 = some v10 ∧ w'.cell? a11 = some v11 ∧ w'.cell? a12 = some v12 ∧ w'.cell? a13 = some v13 ∧ w'.cell? a14 = some v14 ∧ w'.cell? a15 = some v15 ∧ w'.cell? a16 = some v16 ∧ w'.cell? a17 = some v17 ∧ w'.cell? a18 = some v18 ∧ w'.cell? a19 = some v19 ∧ Below g w0 w' := by
  obtain ⟨h0, h1, h2, h3, h4, h5, h6, h7, h8, h9, h10, h11, h12, h13, h14, h15, h16, h17, h18, h19, hH⟩ := hc
  refine (C w hH hg).mono ?_
  rintro e w' ⟨rfl, hB⟩
  have far : ∀ {a : Addr} {v : Value}, w.cell? a = some v → w'.cell? a = some v := fun h => (hB.cell (World.block_lt_of_cell? w _ h)).trans h
  exact ⟨rfl, far h0, far h1, far h2, far h3, far h4, far h5, far h6, far h7, far h8, far h9, far h10, far h11, far h12, far h13, far h14, far h15, far h16, far h17, far h18, far h19, hH.trans (hB.mono hg)⟩
end Go.Proofs.Ytpmmjmnleoicjaa

/- Flags, bit by bit. No condition. -/
namespace Go.Proofs.Ytpmmjmnleoicjaa.QrBits
open Go Go.RowKit QrMath

theorem ofInt16_nat {a : Nat} (ha : a < 65536) : (BitVec.ofInt 16 (a : Int)).toNat = a := by
  rw [BitVec.ofInt_natCast, BitVec.toNat_ofNat]
  omega
theorem ofInt32q_nat {a : Nat} (ha : a < 4294967296) : (BitVec.ofInt 32 (a : Int)).toNat = a := by
  rw [BitVec.ofInt_natCast, BitVec.toNat_ofNat]
  omega
theorem and16 {a b : Nat} (ha : a < 65536) (hb : b < 65536) : bits .and .u16 (a : Int) (b : Int) = ((a &&& b : Nat) : Int) := by
  have hx : a &&& b ≤ a := Nat.and_le_left
  show IntKind.u16.wrap ((BitVec.ofInt 16 (a : Int) &&& BitVec.ofInt 16 (b : Int)).toNat : Int) = _
  rw [BitVec.toNat_and, ofInt16_nat ha, ofInt16_nat hb, IntKind.wrap_u16]
  omega
theorem or16 {a b : Nat} (ha : a < 65536) (hb : b < 65536) : bits .or .u16 (a : Int) (b : Int) = ((a ||| b : Nat) : Int) := by
  have hx : a ||| b < 2 ^ 16 := Nat.or_lt_two_pow (by omega) (by omega)
  show IntKind.u16.wrap ((BitVec.ofInt 16 (a : Int) ||| BitVec.ofInt 16 (b : Int)).toNat : Int) = _
  rw [BitVec.toNat_or, ofInt16_nat ha, ofInt16_nat hb, IntKind.wrap_u16]
  omega
theorem and32q {a b : Nat} (ha : a < 4294967296) (hb : b < 4294967296) : bits .and .u32 (a : Int) (b : Int) = ((a &&& b : Nat) : Int) := by
  have hx : a &&& b ≤ a := Nat.and_le_left
  show IntKind.u32.wrap ((BitVec.ofInt 32 (a : Int) &&& BitVec.ofInt 32 (b : Int)).toNat : Int) = _
  rw [BitVec.toNat_and, ofInt32q_nat ha, ofInt32q_nat hb, IntKind.wrap_u32]
  omega
theorem bit_of (f i : Nat) : f &&& 2 ^ i = if f / 2 ^ i % 2 = 1 then 2 ^ i else 0 := by
  apply Nat.eq_of_testBit_eq
  intro j
  rw [Nat.testBit_and, Nat.testBit_two_pow]
  by_cases hij : i = j
  · subst hij
    rw [decide_eq_true rfl, Bool.and_true, Nat.testBit_eq_decide_div_mod_eq]
    by_cases h : f / 2 ^ i % 2 = 1
    · rw [if_pos h, decide_eq_true h, Nat.testBit_two_pow, decide_eq_true rfl]
    · rw [if_neg h, decide_eq_false h, Nat.zero_testBit]
  · rw [decide_eq_false hij, Bool.and_false]
    by_cases h : f / 2 ^ i % 2 = 1
    · rw [if_pos h, Nat.testBit_two_pow, decide_eq_false hij]
    · rw [if_neg h, Nat.zero_testBit]
theorem bit_qr {f : Nat} (h : f ≤ 65535) : f &&& 32768 = if 32768 ≤ f then 32768 else 0 := by
  have e := bit_of f 15
  rw [show (2 : Nat) ^ 15 = 32768 from rfl] at e
  rw [e]
  by_cases h1 : 32768 ≤ f
  · rw [if_pos h1, if_pos (by omega)]
  · rw [if_neg h1, if_neg (by omega)]
theorem bit_tc (f : Nat) : f &&& 512 = if f / 512 % 2 = 1 then 512 else 0 := bit_of f 9
theorem bit_rd (f : Nat) : f &&& 256 = if f / 256 % 2 = 1 then 256 else 0 := bit_of f 8
/-- Is QR set? -/
theorem qr_ne {f : Nat} (h : f ≤ 65535) : (bits .and .u16 (f : Int) 32768 != 0) = decide (32768 ≤ f) := by
  have e := and16 (a := f) (b := 32768) (by omega) (by decide)
  rw [show (32768 : Int) = ((32768 : Nat) : Int) from rfl, e, bit_qr h]
  by_cases h1 : 32768 ≤ f
  · rw [if_pos h1, decide_eq_true h1]; rfl
  · rw [if_neg h1, decide_eq_false h1]; rfl
/-- Is QR set, and TC not? -/
theorem qrtc_ne {f : Nat} (h : f ≤ 65535) : (bits .and .u16 (f : Int) 33280 != 32768) = !decide (32768 ≤ f ∧ f / 512 % 2 = 0) := by
  have e := and16 (a := f) (b := 33280) (by omega) (by decide)
  have e2 : f &&& 33280 = (f &&& 32768) ||| (f &&& 512) := Nat.and_or_distrib_left f 32768 512
  rw [show (33280 : Int) = ((33280 : Nat) : Int) from rfl, e, e2, bit_qr h, bit_tc]
  by_cases h1 : 32768 ≤ f
  · by_cases h2 : f / 512 % 2 = 1
    · rw [if_pos h1, if_pos h2, decide_eq_false (by omega)]; rfl
    · rw [if_pos h1, if_neg h2, decide_eq_true (by omega)]; rfl
  · by_cases h2 : f / 512 % 2 = 1
    · rw [if_neg h1, if_pos h2, decide_eq_false (by omega)]; rfl
    · rw [if_neg h1, if_neg h2, decide_eq_false (by omega)]; rfl
/-- The failure's flags. -/
theorem fail_flags {f : Nat} (h : f ≤ 65535) : bits .or .u16 (bits .or .u16 (bits .or .u16 32768 (bits .and .u16 (f : Int) 256)) 128) 2 = ((failF f : Nat) : Int) := by
  have e := and16 (a := f) (b := 256) (by omega) (by decide)
  rw [show (256 : Int) = ((256 : Nat) : Int) from rfl, e, bit_rd]
  unfold failF
  by_cases h1 : f / 256 % 2 = 1
  · rw [if_pos h1]; decide +kernel
  · rw [if_neg h1]; decide +kernel
/-- Is DO set? -/
theorem do_ne {t : Nat} (h : t ≤ 4294967295) : (bits .and .u32 (t : Int) 32768 != 0) = doB t := by
  have e := and32q (a := t) (b := 32768) (by omega) (by decide)
  have e2 := bit_of t 15
  rw [show (2 : Nat) ^ 15 = 32768 from rfl] at e2
  rw [show (32768 : Int) = ((32768 : Nat) : Int) from rfl, e, e2]
  unfold doB
  by_cases h1 : t / 32768 % 2 = 1
  · rw [if_pos h1, decide_eq_true h1]; rfl
  · rw [if_neg h1, decide_eq_false h1]; rfl
end Go.Proofs.Ytpmmjmnleoicjaa.QrBits

/- The contracts of slices.IndexFunc over records of a type, and of query's first. For rows of at most 10^6 records. -/
namespace Go.Proofs.Ytpmmjmnleoicjaa
open Go.RowKit Bytes Strs Nums NameMath MsgMath RecMath WrMath QrMath

theorem idxP_drop {p : Rec → Bool} {L : List Rec} {k : Nat} (hk : k < L.length) : idxP p (L.drop k) k = if p (L[k]) = true then (k : Int) else idxP p (L.drop (k + 1)) (k + 1) := by
  rw [List.drop_eq_getElem_cons hk]; rfl
theorem idxP_end {p : Rec → Bool} {L : List Rec} {k : Nat} (hk : L.length ≤ k) : idxP p (L.drop k) k = -1 := by
  rw [List.drop_of_length_le hk]; rfl
theorem zmap {Z : List RecZ} {L : List Rec} (h : Z.map (·.1) = L) {k : Nat} (hk : k < Z.length) : ∃ hk' : k < L.length, L[k]'hk' = (Z[k]).1 := by
  subst h
  exact ⟨by rw [List.length_map]; exact hk, by simp⟩
set_option maxHeartbeats 4000000 in
set_option maxRecDepth 100000 in
theorem idxOf_is (A : Option Addr) (c n kk b B : Nat) (Z : List RecZ) (L : List Rec) (I : Int) (w : World) (hc : CellsAt w B A (recCs Z)) (hz : ZAt w B Z) (hL : Hid (Z.map (·.1) = L)) (hn0 : Hid (Z.length = n)) (hn : n ≤ 1000000) (hb : w.cell? ⟨b, 0, none⟩ = some (.int .u16 kk)) (hbs : b < w.heap.size) (hB : B ≤ w.heap.size) (hI : Hid (idxP (fun R => decide (R.kind = kk)) L 0 = I)) :
    Calls Try.prog 102 #[.slice A n c, .func (.func 105) #[] #[.pointer (some ⟨b, 0, none⟩)]] w fun e w' => e = .returned (.int .i64 I) ∧ Below w.heap.size w w' := by
  have HC := Lib.hid hc
  have HZ := Lib.hid hz
  have HBK := Lib.hid hb
  obtain ⟨g, hg⟩ : ∃ g, w.heap.size = g := ⟨_, rfl⟩
  rw [hg] at hbs hB ⊢
  have HG := Lib.hid hg
  have HLN : Hid (L.length = n) := by show _ = _; rw [← hL.out, List.length_map]; exact hn0.out
  clear hc hz hb hg
  go_enter Try.func102, Try.ntmps102
  go_wp2_with fail
  go_loopw [8, 5] (fun v u wr => ∃ j : Nat, j ≤ n ∧ v = .int .i64 j ∧ Hid (idxP (fun R => decide (R.kind = kk)) (L.drop j) j = I) ∧ Hid (Below g w wr)) (fun v _ _ => n - (intOf v).toNat)
  case atStart => exact ⟨0, Nat.zero_le _, rfl, hI, Below.refl _ _⟩
  case round =>
    obtain ⟨j, hj, rfl, hH, hV⟩ := hrel
    have HS : Hid (g ≤ wr.heap.size) := by have := hV.out.size; rw [HG.out] at this; exact this
    by_cases hlt : j < n
    · have hkz : j < Z.length := by rw [hn0.out]; exact hlt
      obtain ⟨br, off, A1, c1, A2, c2, A3, c3, rfl, hbr, hat, p0, p1, p2, p3, p4, p5, p6⟩ := recs_get (HC.out.on (hV.out.mono hB) (Nat.le_refl _)) (HZ.out.on (hV.out.mono hB) (Nat.le_refl _)) hkz
      obtain ⟨hkL, hkR⟩ := zmap hL.out hkz
      have hd := hH.out
      rw [idxP_drop hkL, hkR] at hd
      obtain ⟨R, hR⟩ : ∃ R, (Z[j]'hkz).1 = R := ⟨_, rfl⟩
      rw [hR] at p0 p1 p2 p3 p4 p5 p6 hd
      obtain ⟨z, hzz⟩ : ∃ z, decide (R.kind = kk) = z := ⟨_, rfl⟩
      rw [hzz] at hd
      have HD := Lib.hid hd
      have HZZ := Lib.hid hzz
      have hbc : wr.cell? ⟨b, 0, none⟩ = some (.int .u16 kk) := (hV.out.cell (p := ⟨b, 0, none⟩) hbs).trans HBK.out
      have HBC := Lib.hid hbc
      clear hd hzz hbc hat hR hkR hkL hkz
      go_wp2_with fail
      refine (of1_any _ _ _ _ A1 _ c1 A2 _ c2 A3 _ c3 b kk z wr HBC.out (Nat.lt_of_lt_of_le hbs HS.out) HZZ).mono ?_
      rintro e w2 ⟨rfl, hB2⟩
      have HV2 : Hid (Below g w w2) := hV.out.trans (hB2.mono HS.out)
      clear hB2 p0 p1 p2 p3 p4 p5 p6 hV
      cases z with
      | true =>
        have hq := HD.out
        rw [if_pos rfl] at hq
        have HQ := Lib.hid hq
        clear hq
        go_wp2_with fail
        go_ret
        exact ⟨by rw [← HQ.out]; rfl, HV2.out⟩
      | false =>
        have hq := HD.out
        rw [if_neg (by decide)] at hq
        have HQ := Lib.hid hq
        clear hq
        go_wp2_with fail
        go_roundw
        case rel => exact ⟨j + 1, by omega, by go_num, HQ, HV2⟩
        case measure => simp [intOf]; omega
    · have hq := hH.out
      rw [idxP_end (by rw [HLN.out]; omega)] at hq
      have HQ := Lib.hid hq
      clear hq hH
      go_wp2_with fail
      go_ret
      exact ⟨by rw [← HQ.out]; rfl, hV.out⟩
theorem below_set7 {B g : Nat} {w w' : World} (h : Below B w w') (hg : B ≤ g) (v0 v1 v2 v3 v4 v5 v6 : Value) : Below B w (((((((w'.setCell ⟨g, 0, none⟩ v0).setCell ⟨g, 1, none⟩ v1).setCell ⟨g, 2, none⟩ v2).setCell ⟨g, 3, none⟩ v3).setCell ⟨g, 4, none⟩ v4).setCell ⟨g, 5, none⟩ v5).setCell ⟨g, 6, none⟩ v6) := by
  have h0 := h.setCell (p := ⟨g, 0, none⟩) hg v0
  have h1 := h0.setCell (p := ⟨g, 1, none⟩) hg v1
  have h2 := h1.setCell (p := ⟨g, 2, none⟩) hg v2
  have h3 := h2.setCell (p := ⟨g, 3, none⟩) hg v3
  have h4 := h3.setCell (p := ⟨g, 4, none⟩) hg v4
  have h5 := h4.setCell (p := ⟨g, 5, none⟩) hg v5
  exact h5.setCell (p := ⟨g, 6, none⟩) hg v6
theorem first_found {L : List Rec} {kk : Nat} {I : Int} (hI : idxP (fun R => decide (R.kind = kk)) L 0 = I) (ha : L.any (fun R => decide (R.kind = kk)) = true) : ∃ i, ∃ hi : i < L.length, I = (i : Int) ∧ firstR kk L = L[i] := by
  obtain ⟨i, hi, e⟩ := idxP_some (j := 0) ha
  obtain ⟨_, h2, h3⟩ := idxP_at (d := zeroR) e
  rw [hI, Nat.zero_add] at e
  refine ⟨i, hi, e, firstR_at hi ?_ fun m hm hmi => ?_⟩
  · have := of_decide_eq_true h2
    rwa [List.getD_eq_getElem?_getD, List.getElem?_eq_getElem hi] at this
  · have := of_decide_eq_false (h3 m hmi)
    rwa [List.getD_eq_getElem?_getD, List.getElem?_eq_getElem hm] at this
/-- A record that was found, in the call's hands. -/
def RecV (w : World) (B : Nat) (R : Rec) (v : Value) : Prop :=
  ∃ A1 c1 A2 c2 A3 c3, v = .agg (recA (mk R.name) R.kind R.cls R.ttl A1 R.names.length c1 A2 R.nums.length c2 A3 R.texts.length c3) ∧ RecAt w B R (mk R.name) R.kind R.cls R.ttl A1 R.names.length A2 R.nums.length A3 R.texts.length
theorem RecV.on {w w' : World} {B B' : Nat} {R : Rec} {v : Value} (h : RecV w B R v) (hb : Below B w w') (hB : B ≤ B') : RecV w' B' R v := by
  obtain ⟨A1, c1, A2, c2, A3, c3, e, hat⟩ := h
  exact ⟨A1, c1, A2, c2, A3, c3, e, hat.on hb hB⟩
theorem recV_zero (w : World) (B : Nat) : RecV w B zeroR (.agg #[.string ⟨#[]⟩, .int .u16 0, .int .u16 0, .int .u32 0, .slice none 0 0, .slice none 0 0, .slice none 0 0]) :=
  ⟨none, 0, none, 0, none, 0, rfl, ⟨rfl, rfl, rfl, rfl, rfl, rfl, rfl, RdS.void _ _ _, RdN.void _ _ _, RdS.void _ _ _⟩⟩
set_option maxHeartbeats 4000000 in
set_option maxRecDepth 100000 in
theorem first_is (A : Option Addr) (c n kk B : Nat) (Z : List RecZ) (L : List Rec) (R : Rec) (w : World) (hc : CellsAt w B A (recCs Z)) (hz : ZAt w B Z) (hL : Hid (Z.map (·.1) = L)) (hn0 : Hid (Z.length = n)) (hn : n ≤ 1000000) (hB : B ≤ w.heap.size) (hR : Hid (firstR kk L = R)) :
    Calls Try.prog 59 #[.slice A n c, .int .u16 kk] w fun e w' => ∃ v, e = .returned v ∧ RecV w' B R v ∧ Below w.heap.size w w' := by
  have HC := Lib.hid hc
  have HZ := Lib.hid hz
  obtain ⟨g, hg⟩ : ∃ g, w.heap.size = g := ⟨_, rfl⟩
  rw [hg] at hB ⊢
  have HG := Lib.hid hg
  obtain ⟨I, hI⟩ : ∃ I, idxP (fun R => decide (R.kind = kk)) L 0 = I := ⟨_, rfl⟩
  have HI := Lib.hid hI
  obtain ⟨wa, hwa⟩ : ∃ wa, w.alloc (.cells #[.string ⟨#[]⟩, .int .u16 0, .int .u16 0, .int .u32 0, .slice none 0 0, .slice none 0 0, .slice none 0 0] 60) = wa := ⟨_, rfl⟩
  have HA : Hid (Below g w wa) := by rw [← hwa, ← hg]; exact (Below.refl _ _).alloc (Nat.le_refl _) _
  have HX : Hid (wa.heap[g]? = some (.cells #[.string ⟨#[]⟩, .int .u16 0, .int .u16 0, .int .u32 0, .slice none 0 0, .slice none 0 0, .slice none 0 0] 60 (0, 0))) := by rw [← hwa, ← hg]; exact heap_alloc_new w _
  have HS : Hid (wa.heap.size = g + 1) := by show _ = _; rw [← hwa, ← hg]; simp
  clear hc hz hI
  go_enter Try.func59, Try.ntmps59
  go_wp2_with fail
  refine (of_any kk wa).mono ?_
  rintro e w1 ⟨b, rfl, hbc, hb1, hb2, hB1⟩
  have HK1 : Hid (Below (g + 1) wa w1) := by have h := hB1; rw [HS.out] at h; exact h
  have HV1 : Hid (Below g w w1) := HA.out.trans (HK1.out.mono (Nat.le_succ _))
  have HS1 : Hid (g + 1 ≤ w1.heap.size) := by have h := hB1.size; rw [HS.out] at h; exact h
  have HBC := Lib.hid hbc
  clear hB1 hbc
  go_wp2_with fail
  refine (idxOf_is A c n kk b B Z L I w1 (HC.out.on (HV1.out.mono hB) (Nat.le_refl _)) (HZ.out.on (HV1.out.mono hB) (Nat.le_refl _)) hL hn0 hn HBC.out hb2 (by have := HS1.out; omega) HI).mono ?_
  rintro e w2 ⟨rfl, hB2⟩
  have HK2 : Hid (Below (g + 1) wa w2) := HK1.out.trans (hB2.mono HS1.out)
  have HV2 : Hid (Below g w w2) := HA.out.trans (HK2.out.mono (Nat.le_succ _))
  have hx2 := (HK2.out.block g (Nat.lt_succ_self g)).trans HX.out
  have HX2 := Lib.hid hx2
  clear hB2 hwa hg
  have ef : ∀ i, w2.frozen? ⟨g, i, none⟩ = false := fun i => by simp [World.frozen?, hx2]
  have HS2 : Hid (g ≤ w2.heap.size) := by have h := HV2.out.size; rw [HG.out] at h; exact h
  cases han : L.any (fun R => decide (R.kind = kk)) with
  | false =>
    have hi : I = -1 := by rw [← HI.out]; exact idxP_none han
    have hrz : R = zeroR := by rw [← hR.out]; exact firstR_none han
    subst hi
    subst hrz
    have e0 := cell_of_row _ _ 0 _ _ _ hx2
    have e1 := cell_of_row _ _ 1 _ _ _ hx2
    have e2 := cell_of_row _ _ 2 _ _ _ hx2
    have e3 := cell_of_row _ _ 3 _ _ _ hx2
    have e4 := cell_of_row _ _ 4 _ _ _ hx2
    have e5 := cell_of_row _ _ 5 _ _ _ hx2
    have e6 := cell_of_row _ _ 6 _ _ _ hx2
    clear hx2 han
    go_wp2_with fail
    refine bodyPost_ret (v := .agg #[.string ⟨#[]⟩, .int .u16 0, .int .u16 0, .int .u32 0, .slice none 0 0, .slice none 0 0, .slice none 0 0]) (by simp [results, Try.results59, go_sem, e0, e1, e2, e3, e4, e5, e6]) rfl ⟨_, rfl, recV_zero _ _, below_set7 HV2.out (Nat.le_refl _) _ _ _ _ _ _ _⟩
  | true =>
    obtain ⟨i, hi, hIi, hRi⟩ := first_found HI.out han
    have hiZ : i < Z.length := by rw [← hL.out, List.length_map] at hi; exact hi
    obtain ⟨br, off, A1, c1, A2, c2, A3, c3, rfl, hbr, hat, p0, p1, p2, p3, p4, p5, p6⟩ := recs_get (HC.out.on (HV2.out.mono hB) (Nat.le_refl _)) (HZ.out.on (HV2.out.mono hB) (Nat.le_refl _)) hiZ
    obtain ⟨hkL, hkR⟩ := zmap hL.out hiZ
    have hin : (i : Int) < (n : Int) := by rw [hn0.out] at hiZ; omega
    have hZR : (Z[i]'hiZ).1 = R := by rw [← hR.out, hRi, hkR]
    rw [hZR] at hat p0 p1 p2 p3 p4 p5 p6
    have HAT := Lib.hid hat
    obtain ⟨x, hx⟩ : ∃ x, mk R.name = x := ⟨_, rfl⟩
    obtain ⟨rk, hrk⟩ : ∃ n, R.kind = n := ⟨_, rfl⟩
    obtain ⟨rc, hrc⟩ : ∃ n, R.cls = n := ⟨_, rfl⟩
    obtain ⟨rt, hrt⟩ : ∃ n, R.ttl = n := ⟨_, rfl⟩
    obtain ⟨l1, hl1⟩ : ∃ n, R.names.length = n := ⟨_, rfl⟩
    obtain ⟨l2, hl2⟩ : ∃ n, R.nums.length = n := ⟨_, rfl⟩
    obtain ⟨l3, hl3⟩ : ∃ n, R.texts.length = n := ⟨_, rfl⟩
    rw [hx] at p0
    rw [hrk] at p1
    rw [hrc] at p2
    rw [hrt] at p3
    rw [hl1] at p4
    rw [hl2] at p5
    rw [hl3] at p6
    have HV : Hid (RecV w2 B R (.agg (recA x rk rc rt A1 l1 c1 A2 l2 c2 A3 l3 c3))) := ⟨A1, c1, A2, c2, A3, c3, by rw [hx, hrk, hrc, hrt, hl1, hl2, hl3], hat⟩
    subst hIi
    have e0 := cell_of_row _ _ 0 _ _ _ hx2
    have e1 := cell_of_row _ _ 1 _ _ _ hx2
    have e2 := cell_of_row _ _ 2 _ _ _ hx2
    have e3 := cell_of_row _ _ 3 _ _ _ hx2
    have e4 := cell_of_row _ _ 4 _ _ _ hx2
    have e5 := cell_of_row _ _ 5 _ _ _ hx2
    have e6 := cell_of_row _ _ 6 _ _ _ hx2
    clear hx hrk hrc hrt hl1 hl2 hl3 hat hZR hkR hkL hRi hi han hiZ hx2
    go_wp2_with fail
    have hbel := below_set7 (Below.refl B w2) hB (.string x) (.int .u16 rk) (.int .u16 rc) (.int .u32 rt) (.slice A1 l1 c1) (.slice A2 l2 c2) (.slice A3 l3 c3)
    have hV := HV.out.on hbel (Nat.le_refl _)
    refine bodyPost_ret (v := .agg (recA x rk rc rt A1 l1 c1 A2 l2 c2 A3 l3 c3)) (by simp [results, Try.results59, go_sem, e0, e1, e2, e3, e4, e5, e6]) rfl ⟨_, rfl, hV, below_set7 HV2.out (Nat.le_refl _) _ _ _ _ _ _ _⟩
end Go.Proofs.Ytpmmjmnleoicjaa

/- The contract of query's Negative. For messages of at most 1000 records a list. -/
namespace Go.Proofs.Ytpmmjmnleoicjaa
open Go.RowKit Bytes Strs Nums NameMath MsgMath RecMath WrMath QrMath

/-- What Negative asks records by: of the question's type, or an alias. -/
def ofV (b : Nat) : Value := .func (.func 105) #[] #[.pointer (some ⟨b, 0, none⟩)]
structure NegEnv (w : World) (c1 c2 b1 b2 k : Nat) : Prop where
  h1 : w.cell? ⟨c1, 0, none⟩ = some (ofV b1)
  h2 : w.cell? ⟨c2, 0, none⟩ = some (ofV b2)
  k1 : w.cell? ⟨b1, 0, none⟩ = some (.int .u16 k)
  k2 : w.cell? ⟨b2, 0, none⟩ = some (.int .u16 5)
theorem NegEnv.below {w w' : World} {c1 c2 b1 b2 k : Nat} (h : NegEnv w c1 c2 b1 b2 k) (hB : Below w.heap.size w w') : NegEnv w' c1 c2 b1 b2 k :=
  have far : ∀ {a : Addr} {v : Value}, w.cell? a = some v → w'.cell? a = some v := fun h => (hB.cell (World.block_lt_of_cell? w _ h)).trans h
  ⟨far h.h1, far h.h2, far h.k1, far h.k2⟩
def negP (k : Nat) (R : Rec) : Bool := decide (R.kind = k ∨ R.kind = 5)
set_option maxHeartbeats 2000000 in
set_option maxRecDepth 100000 in
theorem neg1_any (x : ByteArray) (k l t : Nat) (A1 : Option Addr) (n1 c1 : Nat) (A2 : Option Addr) (n2 c2 : Nat) (A3 : Option Addr) (n3 c3 : Nat) (d1 d2 b1 b2 kk : Nat) (q : Bool) (w : World) (he : NegEnv w d1 d2 b1 b2 kk) (hq : Hid (decide (k = kk ∨ k = 5) = q)) :
    Calls Try.prog 67 #[.agg (recA x k l t A1 n1 c1 A2 n2 c2 A3 n3 c3), .pointer (some ⟨d1, 0, none⟩), .pointer (some ⟨d2, 0, none⟩)] w fun e w' => e = .returned (.bool q) ∧ Below w.heap.size w w' := by
  obtain ⟨g, hg⟩ : ∃ g, w.heap.size = g := ⟨_, rfl⟩
  have HE := Lib.hid he
  obtain ⟨wa, hwa⟩ : ∃ wa, w.alloc (.cells (recA x k l t A1 n1 c1 A2 n2 c2 A3 n3 c3) 60) = wa := ⟨_, rfl⟩
  have hB : Below w.heap.size w wa := by rw [← hwa]; exact (Below.refl _ _).alloc (Nat.le_refl _) _
  have HA : Hid (Below g w wa) := by rw [← hg]; exact hB
  have HX : Hid (wa.heap[g]? = some (.cells (recA x k l t A1 n1 c1 A2 n2 c2 A3 n3 c3) 60 (0, 0))) := by rw [← hwa, ← hg]; exact heap_alloc_new w _
  have SA : Hid (wa.heap.size = g + 1) := by show _ = _; rw [← hwa, ← hg]; simp
  have HEA := Lib.hid (he.below hB)
  have e1 := HEA.out.h1
  have e2 := HEA.out.h2
  have k0 := cell_of_row _ _ 0 _ _ _ HX.out
  have k1 := cell_of_row _ _ 1 _ _ _ HX.out
  have k2 := cell_of_row _ _ 2 _ _ _ HX.out
  have k3 := cell_of_row _ _ 3 _ _ _ HX.out
  have k4 := cell_of_row _ _ 4 _ _ _ HX.out
  have k5 := cell_of_row _ _ 5 _ _ _ HX.out
  have k6 := cell_of_row _ _ 6 _ _ _ HX.out
  rw [hg]
  obtain ⟨q1, hq1⟩ : ∃ q, decide (k = kk) = q := ⟨_, rfl⟩
  obtain ⟨q2, hq2⟩ : ∃ q, decide (k = 5) = q := ⟨_, rfl⟩
  have hor : q = (q1 || q2) := by rw [← hq.out, ← hq1, ← hq2]; by_cases a : k = kk <;> by_cases b : k = 5 <;> simp [a, b]
  have HQ1 := Lib.hid hq1
  have HQ2 := Lib.hid hq2
  unfold ofV at e1 e2
  clear he hB hq hq1 hq2
  go_enter Try.func67, Try.ntmps67
  go_wp2_with fail
  refine (of1_any x k l t A1 n1 c1 A2 n2 c2 A3 n3 c3 b1 kk q1 wa HEA.out.k1 (World.block_lt_of_cell? wa _ HEA.out.k1) HQ1).mono ?_
  rintro e w1 ⟨rfl, n1⟩
  have V1 : Hid (Below g w w1) := HA.out.trans (n1.mono (by have := SA.out; omega))
  cases q1 with
  | true =>
    obtain rfl : q = true := hor
    clear n1
    go_wp2_with fail
    go_ret
    exact ⟨rfl, V1.out⟩
  | false =>
    obtain rfl : q = q2 := by rw [hor, Bool.false_or]
    have HE1 := Lib.hid (HEA.out.below n1)
    have hx1 := (n1.block g (by have := SA.out; omega)).trans HX.out
    have s1 := n1.size
    clear hor n1 e1 e2 k0 k1 k2 k3 k4 k5 k6
    have e2 := HE1.out.h2
    have k0 := cell_of_row _ _ 0 _ _ _ hx1
    have k1 := cell_of_row _ _ 1 _ _ _ hx1
    have k2 := cell_of_row _ _ 2 _ _ _ hx1
    have k3 := cell_of_row _ _ 3 _ _ _ hx1
    have k4 := cell_of_row _ _ 4 _ _ _ hx1
    have k5 := cell_of_row _ _ 5 _ _ _ hx1
    have k6 := cell_of_row _ _ 6 _ _ _ hx1
    unfold ofV at e2
    go_wp2_with fail
    refine (of1_any x k l t A1 _ c1 A2 _ c2 A3 _ c3 b2 5 q w1 HE1.out.k2 (World.block_lt_of_cell? w1 _ HE1.out.k2) HQ2).mono ?_
    rintro e w2 ⟨rfl, n2⟩
    have V2 : Hid (Below g w w2) := V1.out.trans (n2.mono (by have := SA.out; omega))
    clear n2 k0 k1 k2 k3 k4 k5 k6 e2 hx1
    go_wp2_with fail
    go_ret
    exact ⟨rfl, V2.out⟩
set_option maxHeartbeats 4000000 in
set_option maxRecDepth 100000 in
theorem idxNeg_is (A : Option Addr) (c n kk d1 d2 b1 b2 B : Nat) (Z : List RecZ) (L : List Rec) (I : Int) (w : World) (hc : CellsAt w B A (recCs Z)) (hz : ZAt w B Z) (hL : Hid (Z.map (·.1) = L)) (hn0 : Hid (Z.length = n)) (hn : n ≤ 1000000) (he : NegEnv w d1 d2 b1 b2 kk) (hB : B ≤ w.heap.size) (hI : Hid (idxP (negP kk) L 0 = I)) :
    Calls Try.prog 102 #[.slice A n c, .func (.func 67) #[] #[.pointer (some ⟨d1, 0, none⟩), .pointer (some ⟨d2, 0, none⟩)]] w fun e w' => e = .returned (.int .i64 I) ∧ Below w.heap.size w w' := by
  have HC := Lib.hid hc
  have HZ := Lib.hid hz
  have HEN := Lib.hid he
  obtain ⟨g, hg⟩ : ∃ g, w.heap.size = g := ⟨_, rfl⟩
  rw [hg] at hB ⊢
  have HG := Lib.hid hg
  have HLN : Hid (L.length = n) := by show _ = _; rw [← hL.out, List.length_map]; exact hn0.out
  clear hc hz he hg
  go_enter Try.func102, Try.ntmps102
  go_wp2_with fail
  go_loopw [8, 5] (fun v u wr => ∃ j : Nat, j ≤ n ∧ v = .int .i64 j ∧ Hid (idxP (negP kk) (L.drop j) j = I) ∧ Hid (Below g w wr)) (fun v _ _ => n - (intOf v).toNat)
  case atStart => exact ⟨0, Nat.zero_le _, rfl, hI, Below.refl _ _⟩
  case round =>
    obtain ⟨j, hj, rfl, hH, hV⟩ := hrel
    have HS : Hid (g ≤ wr.heap.size) := by have := hV.out.size; rw [HG.out] at this; exact this
    by_cases hlt : j < n
    · have hkz : j < Z.length := by rw [hn0.out]; exact hlt
      obtain ⟨br, off, A1, c1, A2, c2, A3, c3, rfl, hbr, hat, p0, p1, p2, p3, p4, p5, p6⟩ := recs_get (HC.out.on (hV.out.mono hB) (Nat.le_refl _)) (HZ.out.on (hV.out.mono hB) (Nat.le_refl _)) hkz
      obtain ⟨hkL, hkR⟩ := zmap hL.out hkz
      have hd := hH.out
      rw [idxP_drop hkL, hkR] at hd
      obtain ⟨R, hR⟩ : ∃ R, (Z[j]'hkz).1 = R := ⟨_, rfl⟩
      rw [hR] at p0 p1 p2 p3 p4 p5 p6 hd
      obtain ⟨z, hzz⟩ : ∃ z, negP kk R = z := ⟨_, rfl⟩
      rw [hzz] at hd
      have HD := Lib.hid hd
      have HZZ : Hid (decide (R.kind = kk ∨ R.kind = 5) = z) := hzz
      have HNE : Hid (NegEnv wr d1 d2 b1 b2 kk) := HEN.out.below (by rw [HG.out]; exact hV.out)
      clear hd hzz hat hR hkR hkL hkz
      go_wp2_with fail
      refine (neg1_any _ _ _ _ A1 _ c1 A2 _ c2 A3 _ c3 d1 d2 b1 b2 kk z wr HNE.out HZZ).mono ?_
      rintro e w2 ⟨rfl, hB2⟩
      have HV2 : Hid (Below g w w2) := hV.out.trans (hB2.mono HS.out)
      clear hB2 p0 p1 p2 p3 p4 p5 p6 hV
      cases z with
      | true =>
        have hq := HD.out
        rw [if_pos rfl] at hq
        have HQ := Lib.hid hq
        clear hq
        go_wp2_with fail
        go_ret
        exact ⟨by rw [← HQ.out]; rfl, HV2.out⟩
      | false =>
        have hq := HD.out
        rw [if_neg (by decide)] at hq
        have HQ := Lib.hid hq
        clear hq
        go_wp2_with fail
        go_roundw
        case rel => exact ⟨j + 1, by omega, by go_num, HQ, HV2⟩
        case measure => simp [intOf]; omega
    · have hq := hH.out
      rw [idxP_end (by rw [HLN.out]; omega)] at hq
      have HQ := Lib.hid hq
      clear hq hH
      go_wp2_with fail
      go_ret
      exact ⟨by rw [← HQ.out]; rfl, hV.out⟩
theorem hasNeg_is (A : Option Addr) (c n kk d1 d2 b1 b2 B : Nat) (Z : List RecZ) (L : List Rec) (q : Bool) (w : World) (hc : CellsAt w B A (recCs Z)) (hz : ZAt w B Z) (hL : Hid (Z.map (·.1) = L)) (hn0 : Hid (Z.length = n)) (hn : n ≤ 1000000) (he : NegEnv w d1 d2 b1 b2 kk) (hB : B ≤ w.heap.size) (hq : Hid (L.any (negP kk) = q)) :
    Calls Try.prog 69 #[.slice A n c, .func (.func 67) #[] #[.pointer (some ⟨d1, 0, none⟩), .pointer (some ⟨d2, 0, none⟩)]] w fun e w' => e = .returned (.bool q) ∧ Below w.heap.size w w' := by
  have HI := Lib.hid (fun I hI => idxNeg_is A c n kk d1 d2 b1 b2 B Z L I w hc hz hL hn0 hn he hB hI)
  have hq' := hq.out
  clear hc hz he hq
  cases hqq : L.any (negP kk) with
  | false =>
    obtain rfl : q = false := by rw [← hq', hqq]
    have hi : Hid (idxP (negP kk) L 0 = -1) := idxP_none hqq
    clear hq' hqq
    go_enter Try.func69, Try.ntmps69
    go_wp2_with fail
    refine (HI.out (-1) hi).mono ?_
    rintro e w' ⟨rfl, hB'⟩
    go_wp2_with fail
    go_ret
    exact ⟨rfl, hB'⟩
  | true =>
    obtain rfl : q = true := by rw [← hq', hqq]
    obtain ⟨i, hi0, hi⟩ := idxP_some (j := 0) hqq
    have hii : (0 : Int) ≤ ((0 + i : Nat) : Int) := by omega
    have HII := Lib.hid hi
    clear hq' hqq hi hi0
    generalize ((0 + i : Nat) : Int) = I at *
    go_enter Try.func69, Try.ntmps69
    go_wp2_with fail
    refine (HI.out I HII).mono ?_
    rintro e w' ⟨rfl, hB'⟩
    go_wp2_with fail
    go_ret
    exact ⟨rfl, hB'⟩
theorem negM_none {M : Msg} (h : M.qs.length = 0) : negM M = false := by
  unfold negM
  rw [List.length_eq_zero_iff.1 h]
theorem negM_some {M : Msg} (h : 0 < M.qs.length) : negM M = if cod M.flags = 3 then true else if cod M.flags = 0 then !(M.an.any (negP (M.qs[0]).kind)) else false := by
  obtain ⟨q, L, hq⟩ : ∃ q L, M.qs = q :: L := by
    cases hq : M.qs with
    | nil => rw [hq] at h; exact absurd h (Nat.lt_irrefl 0)
    | cons q L => exact ⟨q, L, rfl⟩
  have hq0 : M.qs[0] = q := by simp [hq]
  rw [hq0]
  unfold negM
  rw [hq]
  rfl
set_option maxHeartbeats 4000000 in
set_option maxRecDepth 100000 in
theorem negative_w (M : Msg) (Aq Aa An Ax : Option Addr) (nq na nn nx cq ca cn cx B : Nat) (Za Zn Zx : List RecZ) (q : Bool) (w : World) (hv : Hid (MsgV w B M Aq Aa An Ax nq na nn nx ca cn cx Za Zn Zx)) (hB : B ≤ w.heap.size) (hf : Hid (FewM M)) (hq : Hid (negM M = q)) :
    Calls Try.prog 29 #[.agg (msgA M.id M.flags Aq nq cq Aa na ca An nn cn Ax nx cx)] w fun e w' => e = .returned (.bool q) ∧ Below w.heap.size w w' := by
  have hmf : ∀ (fn : Fn) (first cap : Array Value) (w : World), (Instr.makeFunc fn first cap).run Try.prog w = .ok (.func fn first cap) w := fun _ _ _ _ => rfl
  obtain ⟨id, hid⟩ : ∃ n, M.id = n := ⟨_, rfl⟩
  obtain ⟨fl, hfl⟩ : ∃ n, M.flags = n := ⟨_, rfl⟩
  obtain ⟨g, hg⟩ : ∃ g, w.heap.size = g := ⟨_, rfl⟩
  have hfb := hf.out.flags
  rw [hfl] at hfb
  rw [hid, hfl, hg]
  rw [hg] at hB
  obtain ⟨wa, hwa⟩ : ∃ wa, w.alloc (.cells (msgA id fl Aq nq cq Aa na ca An nn cn Ax nx cx) 26) = wa := ⟨_, rfl⟩
  have hsa : wa.heap.size = g + 1 := by rw [← hwa, ← hg]; simp
  have HA : Hid (Below g w wa) := by rw [← hwa, ← hg]; exact (Below.refl _ _).alloc (Nat.le_refl _) _
  have hx : wa.heap[g]? = some (.cells (msgA id fl Aq nq cq Aa na ca An nn cn Ax nx cx) 26 (0, 0)) := by rw [← hwa, ← hg]; exact heap_alloc_new w _
  have HX := Lib.hid hx
  have k0 := cell_of_row _ _ 0 _ _ _ hx
  have k1 := cell_of_row _ _ 1 _ _ _ hx
  have k2 := cell_of_row _ _ 2 _ _ _ hx
  have k3 := cell_of_row _ _ 3 _ _ _ hx
  have k4 := cell_of_row _ _ 4 _ _ _ hx
  have k5 := cell_of_row _ _ 5 _ _ _ hx
  have hq' := hq.out
  obtain ⟨E, hE⟩ : ∃ E, cod fl = E := ⟨_, rfl⟩
  have HCO := Lib.hid (fun w => code_any id fl Aq Aa An Ax nq cq na ca nn cn nx cx E w hfb hE)
  clear hx hq hid
  go_enter Try.func29, Try.ntmps29
  by_cases h0 : nq = 0
  · obtain rfl : q = false := by rw [← hq']; exact negM_none (hv.out.eq.trans h0)
    subst h0
    clear hq' HCO
    go_wp2_with fail
    go_ret
    exact ⟨rfl, HA.out⟩
  have hl0 : 0 < M.qs.length := by rw [hv.out.eq]; omega
  rw [negM_some hl0, hfl, hE] at hq'
  obtain ⟨bq, off, rfl, hbq, p0, p1, p2⟩ := (hv.out.at_.q.on (HA.out.mono hB) (Nat.le_refl _)).qn hl0
  obtain ⟨kk, hkk⟩ : ∃ k, (M.qs[0]).kind = k := ⟨_, rfl⟩
  rw [hkk] at hq' p1
  simp only [Nat.zero_mul, Nat.add_zero] at p0 p1 p2
  have hn0 : ¬ ((nq : Int) = 0) := by omega
  have hn1 : (0 : Int) < (nq : Int) := by omega
  have HQ := Lib.hid hq'
  clear hq' hl0 hkk h0 p0 p2
  go_wp2_with fail
  refine (of_any kk _).mono ?_
  rintro e w1 ⟨b1, rfl, hc1, hb1, hb1s, n1⟩
  have K1 : Hid (Below (g + 1) wa w1) := by have h := n1; rw [hsa] at h; exact h
  have S1 : Hid (g + 1 ≤ w1.heap.size) := by have h := n1.size; rw [hsa] at h; exact h
  have HC1 := Lib.hid hc1
  clear n1 hc1
  go_wp2_with fail
  refine (of_any 5 _).mono ?_
  rintro e w2 ⟨b2, rfl, hc2, hb2, hb2s, n2⟩
  have K2 : Hid (Below (g + 1) wa w2) := K1.out.trans (n2.mono S1.out)
  have S2 : Hid (g + 1 ≤ w2.heap.size) := Nat.le_trans S1.out n2.size
  have HC12 : Hid (w2.cell? ⟨b1, 0, none⟩ = some (.int .u16 kk)) := (n2.cell (p := ⟨b1, 0, none⟩) hb1s).trans HC1.out
  have HC2 := Lib.hid hc2
  obtain ⟨d, hd⟩ : ∃ d, w2.heap.size = d := ⟨_, rfl⟩
  obtain ⟨w3, hw3⟩ : ∃ v, w2.alloc (.cells #[ofV b1] 69) = v := ⟨_, rfl⟩
  obtain ⟨w4, hw4⟩ : ∃ v, w3.alloc (.cells #[ofV b2] 69) = v := ⟨_, rfl⟩
  have S3 : w3.heap.size = d + 1 := by rw [← hw3, ← hd]; simp
  have S4 : w4.heap.size = d + 2 := by rw [← hw4]; simp [S3]
  have n3 : Below d w2 w3 := by rw [← hw3, ← hd]; exact (Below.refl _ _).alloc (Nat.le_refl _) _
  have n4 : Below d w2 w4 := by rw [← hw4]; exact n3.alloc (by omega) _
  have hd3 : w3.heap[d]? = some (.cells #[ofV b1] 69 (0, 0)) := by rw [← hw3, ← hd]; exact heap_alloc_new w2 _
  have hd3' : w4.heap[d]? = some (.cells #[ofV b1] 69 (0, 0)) := by rw [← hw4]; exact old_at hd3
  have hd4 : w4.heap[d + 1]? = some (.cells #[ofV b2] 69 (0, 0)) := by rw [← hw4, ← S3]; exact heap_alloc_new w3 _
  have gd : g + 1 ≤ d := by rw [← hd]; exact S2.out
  have K4 : Hid (Below (g + 1) wa w4) := K2.out.trans (n4.mono gd)
  have HE4 : Hid (NegEnv w4 d (d + 1) b1 b2 kk) := ⟨cell_of_row _ _ 0 _ _ _ hd3', cell_of_row _ _ 0 _ _ _ hd4, (n4.cell (p := ⟨b1, 0, none⟩) (by rw [← hd]; exact World.block_lt_of_cell? _ _ HC12.out)).trans HC12.out, (n4.cell (p := ⟨b2, 0, none⟩) (by rw [← hd]; exact hb2s)).trans HC2.out⟩
  have HW3 := Lib.hid hw3
  have HW4 := Lib.hid hw4
  have SS4 := Lib.hid S4
  clear n2 hc2 n3 n4 hd3 hd3' hd4 hw3 hw4 hwa
  go_upto_region 4 with fail
  first | rw [show ofV b1 = (.func (.func 105) #[] #[.pointer (some ⟨b1, 0, none⟩)]) from rfl] at HW3 | skip
  have hw4' : (w2.alloc (.cells #[.func (.func 105) #[] #[.pointer (some ⟨b1, 0, none⟩)]] 69)).alloc (.cells #[.func (.func 105) #[] #[.pointer (some ⟨b2, 0, none⟩)]] 69) = w4 := by
    have h3 := HW3.out
    have h4 := HW4.out
    rw [← h3] at h4
    exact h4
  rw [hw4']
  clear hw4' hd S3 S4
  have hx4 := (K4.out.block g (Nat.lt_succ_self g)).trans HX.out
  have k0 := cell_of_row _ _ 0 _ _ _ hx4
  have k1 := cell_of_row _ _ 1 _ _ _ hx4
  have k2 := cell_of_row _ _ 2 _ _ _ hx4
  have k3 := cell_of_row _ _ 3 _ _ _ hx4
  have k4 := cell_of_row _ _ 4 _ _ _ hx4
  have k5 := cell_of_row _ _ 5 _ _ _ hx4
  clear hx4
  go_wp2_with fail
  refine (HCO.out _).mono ?_
  rintro e w5 ⟨rfl, n5⟩
  have K5 : Hid (Below (g + 1) wa w5) := K4.out.trans (n5.mono (by rw [SS4.out]; omega))
  have V5 : Hid (Below g w w5) := HA.out.trans (K5.out.mono (Nat.le_succ _))
  have HE5 : Hid (NegEnv w5 d (d + 1) b1 b2 kk) := HE4.out.below n5
  have hx5 := (K5.out.block g (Nat.lt_succ_self g)).trans HX.out
  clear n5 k0 k1 k2 k3 k4 k5
  have k3 := cell_of_row _ _ 3 _ _ _ hx5
  clear hx5
  by_cases hE3 : E = 3
  · obtain rfl : q = true := by rw [← HQ.out, if_pos hE3]
    have f1 : ((E : Int) == 3) = true := beq_iff_eq.2 (by omega)
    clear hE3 hE
    go_wp2_with fail
    go_ret
    exact ⟨rfl, V5.out⟩
  have f1 : ((E : Int) == 3) = false := beq_eq_false_iff_ne.2 (by omega)
  have hQ2 := HQ.out
  rw [if_neg hE3] at hQ2
  by_cases hE0 : E = 0
  · rw [if_pos hE0] at hQ2
    have f2 : ((E : Int) == 0) = true := beq_iff_eq.2 (by omega)
    obtain ⟨z, hz⟩ : ∃ z, M.an.any (negP kk) = z := ⟨_, rfl⟩
    rw [hz] at hQ2
    have hra := hv.out.rows.1
    have HNG := Lib.hid (hasNeg_is Aa ca na kk d (d + 1) b1 b2 B Za M.an z w5 (hv.out.at_.a.on (V5.out.mono hB) (Nat.le_refl _)) (hv.out.at_.za.on (V5.out.mono hB) (Nat.le_refl _)) hv.out.at_.ea hra.2.1 (by have := hf.out.na; have := hv.out.ea; omega) HE5.out (by have := K5.out.size; rw [hsa] at this; omega) hz)
    have HQ3 := Lib.hid hQ2
    have S5 : Hid (g ≤ w5.heap.size) := by have h := K5.out.size; rw [hsa] at h; show _ ≤ _; omega
    clear hE3 hE0 hE hz hra hQ2 hsa
    go_wp2_with fail
    refine HNG.out.mono ?_
    rintro e w6 ⟨rfl, n6⟩
    have V6 : Hid (Below g w w6) := V5.out.trans (n6.mono S5.out)
    obtain rfl : (!z) = q := HQ3.out
    clear n6 k3
    go_wp2_with fail
    go_ret
    exact ⟨rfl, V6.out⟩
  · obtain rfl : false = q := by rw [← hQ2, if_neg hE0]
    have f2 : ((E : Int) == 0) = false := beq_eq_false_iff_ne.2 (by omega)
    clear hE3 hE0 hE hQ2
    go_wp2_with fail
    go_ret
    exact ⟨rfl, V5.out⟩
end Go.Proofs.Ytpmmjmnleoicjaa
