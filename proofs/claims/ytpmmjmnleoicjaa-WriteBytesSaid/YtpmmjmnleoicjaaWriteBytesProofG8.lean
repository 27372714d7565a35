/- Texts of one proof, one behind the other: QrMath, QrBase, QrIdx, QrBits, NameRefMake, NameFold, FoldLong, QrAsk, QrMake, QrMin. -/
import Derived.Test.YtpmmjmnleoicjaaBytes
import Derived.Test.YtpmmjmnleoicjaaLowMath
import Derived.Test.YtpmmjmnleoicjaaNameMath
import Derived.Test.YtpmmjmnleoicjaaMsgMath
import Derived.Test.YtpmmjmnleoicjaaRecMath
import Derived.Test.YtpmmjmnleoicjaaWriteBytesProofG2
import Derived.Test.YtpmmjmnleoicjaaProg
import Derived.Test.YtpmmjmnleoicjaaStrs
import Derived.Test.YtpmmjmnleoicjaaNums
import Derived.Test.YtpmmjmnleoicjaaRecAt
import Derived.Test.YtpmmjmnleoicjaaWriteBytesProofG6
import Derived.Test.YtpmmjmnleoicjaaNameIs
import Derived.Test.YtpmmjmnleoicjaaWriteBytesProofG4
import Derived.Test.YtpmmjmnleoicjaaWriteBytesProofG3
import Derived.Test.YtpmmjmnleoicjaaHeld
import Derived.Test.YtpmmjmnleoicjaaClone
import Derived.Test.YtpmmjmnleoicjaaRecShape
import Derived.WalkKit
import Derived.Lib.Hide
import Derived.Outline
import Derived.IntWalk
import Derived.WalkSpells
import Derived.WalkLawsBesides
import Derived.Laws.Bits64b
import Derived.RegionTactic
import Derived.Deep.RegionHeld3
import Derived.Deep.DeepCutAuto
import Derived.Deep.Draws
import Derived.Deep.Heap
import Derived.Lib.MinMax
import Derived.BigQuiet

/- What a query asks, which answers fit, how long they hold, how they age: over lists. No program, no condition. -/
namespace Go.Proofs.Ytpmmjmnleoicjaa.QrMath
open Go Bytes NameMath MsgMath RecMath WrMath

def opc (f : Nat) : Nat := f / 2048 % 16
def cod (f : Nat) : Nat := f % 16
/-- What a question is known by. -/
structure Ky where
  name : List UInt8
  kind : Nat
  cls : Nat
  wants : Bool
def noKy : Ky := ⟨[], 0, 0, false⟩
def zeroR : Rec := ⟨[], 0, 0, 0, [], [], []⟩
/-- The first record of a type, or one that has nothing. -/
def firstR (k : Nat) : List Rec → Rec
  | [] => zeroR
  | R :: L => if R.kind = k then R else firstR k L
/-- The place of the first record that is such, counted from j; -1: none is. -/
def idxP (p : Rec → Bool) : List Rec → Nat → Int
  | [], _ => -1
  | R :: L, j => if p R = true then j else idxP p L (j + 1)
theorem idxP_none {p : Rec → Bool} : ∀ {L : List Rec} {j : Nat}, L.any p = false → idxP p L j = -1
  | [], _, _ => rfl
  | R :: L, j, h => by
    rw [List.any_cons, Bool.or_eq_false_iff] at h
    rw [idxP, if_neg (by rw [h.1]; decide)]
    exact idxP_none h.2
theorem idxP_some {p : Rec → Bool} : ∀ {L : List Rec} {j : Nat}, L.any p = true → ∃ i, i < L.length ∧ idxP p L j = ((j + i : Nat) : Int)
  | [], _, h => by cases h
  | R :: L, j, h => by
    by_cases hp : p R = true
    · exact ⟨0, by simp, by rw [idxP, if_pos hp]; rfl⟩
    · rw [List.any_cons, Bool.or_eq_true] at h
      obtain ⟨i, hi, e⟩ := idxP_some (j := j + 1) (h.resolve_left hp)
      exact ⟨i + 1, by simp; omega, by rw [idxP, if_neg hp, e]; congr 1; omega⟩
theorem idxP_at {p : Rec → Bool} {d : Rec} : ∀ {L : List Rec} {j i : Nat}, idxP p L j = ((j + i : Nat) : Int) → i < L.length ∧ p (L.getD i d) = true ∧ ∀ m, m < i → p (L.getD m d) = false
  | [], j, i, h => by simp only [idxP] at h; omega
  | R :: L, j, i, h => by
    by_cases hp : p R = true
    · rw [idxP, if_pos hp] at h
      obtain rfl : i = 0 := by omega
      exact ⟨by simp, hp, fun m hm => absurd hm (Nat.not_lt_zero _)⟩
    · rw [idxP, if_neg hp] at h
      cases i with
      | zero =>
        exfalso
        by_cases ha : L.any p = true
        · obtain ⟨i, _, e⟩ := idxP_some (j := j + 1) ha
          rw [e] at h; omega
        · rw [idxP_none (by simpa using ha)] at h; omega
      | succ i =>
        obtain ⟨h1, h2, h3⟩ := idxP_at (d := d) (L := L) (j := j + 1) (i := i) (by rw [h]; congr 1; omega)
        refine ⟨by simp; omega, h2, fun m hm => ?_⟩
        cases m with
        | zero => simpa using hp
        | succ m => exact h3 m (by omega)
theorem firstR_none {k : Nat} : ∀ {L : List Rec}, L.any (fun R => decide (R.kind = k)) = false → firstR k L = zeroR
  | [], _ => rfl
  | R :: L, h => by
    rw [List.any_cons, Bool.or_eq_false_iff] at h
    rw [firstR, if_neg (of_decide_eq_false h.1)]
    exact firstR_none h.2
theorem firstR_at {k : Nat} : ∀ {L : List Rec} {i : Nat} (hi : i < L.length), (L[i]).kind = k → (∀ m (hm : m < L.length), m < i → (L[m]).kind ≠ k) → firstR k L = L[i]
  | [], i, hi, _, _ => absurd hi (Nat.not_lt_zero _)
  | R :: L, 0, hi, h, _ => by rw [firstR, if_pos (show R.kind = k from h)]; rfl
  | R :: L, i + 1, hi, h, h2 => by
    rw [firstR, if_neg (show ¬ R.kind = k from h2 0 (by simp) (by omega))]
    exact firstR_at (by simpa using hi) h fun m hm hmi => h2 (m + 1) (by simpa using hm) (by omega)
/-- Is DO set? -/
def doB (t : Nat) : Bool := decide (t / 32768 % 2 = 1)
def doM (M : Msg) : Bool := doB (firstR 41 M.ad).ttl
/-- What a message asks. -/
def plainQ (M : Msg) : Bool := decide (M.flags < 32768 ∧ opc M.flags = 0 ∧ M.qs.length = 1 ∧ M.an.length = 0 ∧ M.ns.length = 0)
def askM (M : Msg) : Option Ky :=
  if plainQ M = true then
    match M.qs with
    | [] => none
    | q :: _ => if q.kind = 41 ∨ isN q.name = false then none else some ⟨foldN q.name, q.kind, q.cls, doM M⟩
  else none
/-- The query of a key. -/
def optR : Rec := ⟨[0], 41, 65535, 32768, [], [], [[]]⟩
def makeM (id : Nat) (k : Ky) : Msg := ⟨id, 256, [⟨k.name, k.kind, k.cls⟩], [], [], if k.wants = true then [optR] else []⟩
/-- Does an answer fit? -/
def fitsM (k : Ky) (id : Nat) (M : Msg) : Bool :=
  decide (M.id = id ∧ 32768 ≤ M.flags ∧ M.flags / 512 % 2 = 0 ∧ opc M.flags = 0) &&
  (match M.qs with
   | [q] => decide (foldN q.name = k.name ∧ q.kind = k.kind ∧ q.cls = k.cls)
   | _ => false)
/-- Is an answer negative? -/
def negM (M : Msg) : Bool :=
  match M.qs with
  | [] => false
  | q :: _ => if cod M.flags = 3 then true else if cod M.flags = 0 then !(M.an.any fun R => decide (R.kind = q.kind ∨ R.kind = 5)) else false
/-- The least TTL of some records; of none 0. -/
def leastL : List Rec → Nat
  | [] => 0
  | R :: L => L.foldl (fun a S => if S.ttl < a then S.ttl else a) R.ttl
def noneM (M : Msg) : Nat := let R := firstR 6 M.ns; if R.nums.length ≠ 5 then 0 else min R.ttl (R.nums.getD 4 0)
def leastM (M : Msg) : Nat := if negM M = true then noneM M else leastL ((recsM M).filter fun R => decide (R.kind ≠ 41))
/-- Records behind some seconds. -/
def ageR (s : Nat) (R : Rec) : Rec := if R.kind = 41 then R else { R with ttl := R.ttl - s }
def ageM (s : Nat) (M : Msg) : Msg := { M with an := M.an.map (ageR s), ns := M.ns.map (ageR s), ad := M.ad.map (ageR s) }
/-- The failure of a query. -/
def failF (f : Nat) : Nat := 32768 + 128 + 2 + (if f / 256 % 2 = 1 then 256 else 0)
def failM (id : Nat) (M : Msg) : Msg := ⟨id, failF M.flags, M.qs, [], [], []⟩
end Go.Proofs.Ytpmmjmnleoicjaa.QrMath

/- The contracts of what a query's parts tell: codes, questions, what tells records of a type. No condition. -/
namespace Go.Proofs.Ytpmmjmnleoicjaa
open Go.RowKit Bytes NameMath MsgMath RecMath WrMath QrMath

abbrev recA (x : ByteArray) (k l t : Nat) (A1 : Option Addr) (n1 c1 : Nat) (A2 : Option Addr) (n2 c2 : Nat) (A3 : Option Addr) (n3 c3 : Nat) : Array Value := #[.string x, .int .u16 k, .int .u16 l, .int .u32 t, .slice A1 n1 c1, .slice A2 n2 c2, .slice A3 n3 c3]
abbrev kyA (x : ByteArray) (k l : Nat) (b : Bool) : Array Value := #[.string x, .int .u16 k, .int .u16 l, .bool b]

set_option maxHeartbeats 1000000 in
set_option maxRecDepth 100000 in
theorem opcode_any (id fl : Nat) (Aq Aa An Ax : Option Addr) (nq cq na ca nn cn nx cx : Nat) (E : Nat) (w : World) (hfl : fl ≤ 65535) (hE : Hid (opc fl = E)) :
    Calls Try.prog 58 #[.agg (msgA id fl Aq nq cq Aa na ca An nn cn Ax nx cx)] w fun e w' => e = .returned (.int .u16 E) ∧ Below w.heap.size w w' := by
  have HB : Hid (Below w.heap.size w (w.alloc (.cells (msgA id fl Aq nq cq Aa na ca An nn cn Ax nx cx) 26))) := (Below.refl _ _).alloc (Nat.le_refl _) _
  have hz : (fl : Int) / 2048 % 16 = (E : Int) := by have := hE.out; unfold opc at this; omega
  clear hE
  go_enter Try.func58, Try.ntmps58
  go_wp2_with fail
  go_ret
  exact ⟨by rw [← hz]; rfl, HB.out⟩
set_option maxHeartbeats 1000000 in
set_option maxRecDepth 100000 in
theorem code_any (id fl : Nat) (Aq Aa An Ax : Option Addr) (nq cq na ca nn cn nx cx : Nat) (E : Nat) (w : World) (hfl : fl ≤ 65535) (hE : Hid (cod fl = E)) :
    Calls Try.prog 68 #[.agg (msgA id fl Aq nq cq Aa na ca An nn cn Ax nx cx)] w fun e w' => e = .returned (.int .u16 E) ∧ Below w.heap.size w w' := by
  have HB : Hid (Below w.heap.size w (w.alloc (.cells (msgA id fl Aq nq cq Aa na ca An nn cn Ax nx cx) 26))) := (Below.refl _ _).alloc (Nat.le_refl _) _
  have hz : (fl : Int) % 16 = (E : Int) := by have := hE.out; unfold cod at this; omega
  clear hE
  go_enter Try.func68, Try.ntmps68
  go_wp2_with fail
  go_ret
  exact ⟨by rw [← hz]; rfl, HB.out⟩
set_option maxHeartbeats 1000000 in
set_option maxRecDepth 100000 in
theorem qof_any (x : ByteArray) (k l : Nat) (b : Bool) (w : World) :
    Calls Try.prog 64 #[.agg (kyA x k l b)] w fun e w' => e = .returned (.agg #[.string x, .int .u16 k, .int .u16 l]) ∧ Below w.heap.size w w' := by
  go_enter Try.func64, Try.ntmps64
  go_wp2_with fail
  refine bodyPost_ret (v := .agg #[.string x, .int .u16 k, .int .u16 l]) (by simp [results, Try.results64, go_sem]) rfl ⟨rfl, ((Below.refl _ _).alloc (Nat.le_refl _) _).alloc (by simp) _⟩
/-- What tells records of a type. -/
def MadeOf (k : Nat) (w : World) (e : Ending) (w' : World) : Prop :=
  ∃ b, e = .returned (.func (.func 105) #[] #[.pointer (some ⟨b, 0, none⟩)]) ∧ w'.cell? ⟨b, 0, none⟩ = some (.int .u16 k) ∧ w.heap.size ≤ b ∧ b < w'.heap.size ∧ Below w.heap.size w w'
theorem of_any (k : Nat) (w : World) : Calls Try.prog 66 #[.int .u16 k] w (MadeOf k w) := by
  have hmf : ∀ (fn : Fn) (first cap : Array Value) (w : World), (Instr.makeFunc fn first cap).run Try.prog w = .ok (.func fn first cap) w := fun _ _ _ _ => rfl
  go_enter Try.func66, Try.ntmps66
  go_wp2_with fail
  go_ret
  exact ⟨_, rfl, by simp, Nat.le_refl _, by simp, (Below.refl _ _).alloc (Nat.le_refl _) _⟩
set_option maxHeartbeats 1000000 in
set_option maxRecDepth 100000 in
theorem of1_any (x : ByteArray) (k l t : Nat) (A1 : Option Addr) (n1 c1 : Nat) (A2 : Option Addr) (n2 c2 : Nat) (A3 : Option Addr) (n3 c3 : Nat) (b kk : Nat) (q : Bool) (w : World) (hb : w.cell? ⟨b, 0, none⟩ = some (.int .u16 kk)) (hbs : b < w.heap.size) (hq : Hid (decide (k = kk) = q)) :
    Calls Try.prog 105 #[.agg (recA x k l t A1 n1 c1 A2 n2 c2 A3 n3 c3), .pointer (some ⟨b, 0, none⟩)] w fun e w' => e = .returned (.bool q) ∧ Below w.heap.size w w' := by
  have HB : Hid (Below w.heap.size w (w.alloc (.cells (recA x k l t A1 n1 c1 A2 n2 c2 A3 n3 c3) 60))) := (Below.refl _ _).alloc (Nat.le_refl _) _
  have hc : (w.alloc (.cells (recA x k l t A1 n1 c1 A2 n2 c2 A3 n3 c3) 60)).cell? ⟨b, 0, none⟩ = some (.int .u16 kk) := (HB.out.cell (p := ⟨b, 0, none⟩) hbs).trans hb
  have hz : ((k : Int) == (kk : Int)) = q := by
    rw [← hq.out]
    by_cases h : k = kk
    · rw [decide_eq_true h]; exact beq_iff_eq.2 (by omega)
    · rw [decide_eq_false h]; exact beq_eq_false_iff_ne.2 (by omega)
  clear hq hb
  go_enter Try.func105, Try.ntmps105
  go_wp2_with fail
  go_ret
  exact ⟨rfl, HB.out⟩
theorem refQr_any (fl : Nat) (q : Bool) (w : World) (hq : Hid (decide (32768 ≤ fl) = q)) : Calls Try.prog 61 #[.int .u16 fl] w fun e w' => e = .returned (.bool q) ∧ w = w' := by
  have hz : decide ((32768 : Int) ≤ (fl : Int)) = q := by rw [← hq.out]; exact decide_eq_decide.2 (by omega)
  clear hq
  go_enter Try.func61, Try.ntmps61
  go_wp2_with fail
  go_ret
  exact ⟨rfl, rfl⟩
theorem refOpcode_any (fl E : Nat) (w : World) (hfl : fl ≤ 65535) (hE : Hid (opc fl = E)) : Calls Try.prog 62 #[.int .u16 fl] w fun e w' => e = .returned (.int .i64 E) ∧ w = w' := by
  have hz : (fl : Int) / 2048 % 16 = (E : Int) := by have := hE.out; unfold opc at this; omega
  clear hE
  go_enter Try.func62, Try.ntmps62
  go_wp2_with fail
  go_ret
  exact ⟨by rw [← hz]; rfl, rfl⟩
theorem refCode_any (fl E : Nat) (w : World) (hfl : fl ≤ 65535) (hE : Hid (cod fl = E)) : Calls Try.prog 70 #[.int .u16 fl] w fun e w' => e = .returned (.int .i64 E) ∧ w = w' := by
  have hz : (fl : Int) % 16 = (E : Int) := by have := hE.out; unfold cod at this; omega
  clear hE
  go_enter Try.func70, Try.ntmps70
  go_wp2_with fail
  go_ret
  exact ⟨by rw [← hz]; rfl, rfl⟩
end Go.Proofs.Ytpmmjmnleoicjaa

/- The contracts of slices.IndexFunc over records of a type, and of query's first. For rows of at most 10^6 records. -/
namespace Go.Proofs.Ytpmmjmnleoicjaa
open Go.RowKit Bytes Strs Nums NameMath MsgMath RecMath WrMath QrMath

theorem idxP_drop {p : Rec → Bool} {L : List Rec} {k : Nat} (hk : k < L.length) : idxP p (L.drop k) k = if p (L[k]) = true then (k : Int) else idxP p (L.drop (k + 1)) (k + 1) := by
  rw [List.drop_eq_getElem_cons hk]; rfl
theorem idxP_end {p : Rec → Bool} {L : List Rec} {k : Nat} (hk : L.length ≤ k) : idxP p (L.drop k) k = -1 := by
  rw [List.drop_of_length_le hk]; rfl
theorem zmap {Z : List RecZ} {L : List Rec} (h : Z.map (·.1) = L) {k : Nat} (hk : k < Z.length) : ∃ hk' : k < L.length, L[k]'hk' = (Z[k]).1 := by
  subst h
  exact ⟨by rw [List.length_map]; exact hk, by simp⟩
set_option maxHeartbeats 4000000 in
set_option maxRecDepth 100000 in
theorem idxOf_is (A : Option Addr) (c n kk b B : Nat) (Z : List RecZ) (L : List Rec) (I : Int) (w : World) (hc : CellsAt w B A (recCs Z)) (hz : ZAt w B Z) (hL : Hid (Z.map (·.1) = L)) (hn0 : Hid (Z.length = n)) (hn : n ≤ 1000000) (hb : w.cell? ⟨b, 0, none⟩ = some (.int .u16 kk)) (hbs : b < w.heap.size) (hB : B ≤ w.heap.size) (hI : Hid (idxP (fun R => decide (R.kind = kk)) L 0 = I)) :
    Calls Try.prog 102 #[.slice A n c, .func (.func 105) #[] #[.pointer (some ⟨b, 0, none⟩)]] w fun e w' => e = .returned (.int .i64 I) ∧ Below w.heap.size w w' := by
  have HC := Lib.hid hc
  have HZ := Lib.hid hz
  have HBK := Lib.hid hb
  obtain ⟨g, hg⟩ : ∃ g, w.heap.size = g := ⟨_, rfl⟩
  rw [hg] at hbs hB ⊢
  have HG := Lib.hid hg
  have HLN : Hid (L.length = n) := by show _ = _; rw [← hL.out, List.length_map]; exact hn0.out
  clear hc hz hb hg
  go_enter Try.func102, Try.ntmps102
  go_wp2_with fail
  go_loopw [8, 5] (fun v u wr => ∃ j : Nat, j ≤ n ∧ v = .int .i64 j ∧ Hid (idxP (fun R => decide (R.kind = kk)) (L.drop j) j = I) ∧ Hid (Below g w wr)) (fun v _ _ => n - (intOf v).toNat)
  case atStart => exact ⟨0, Nat.zero_le _, rfl, hI, Below.refl _ _⟩
  case round =>
    obtain ⟨j, hj, rfl, hH, hV⟩ := hrel
    have HS : Hid (g ≤ wr.heap.size) := by have := hV.out.size; rw [HG.out] at this; exact this
    by_cases hlt : j < n
    · have hkz : j < Z.length := by rw [hn0.out]; exact hlt
      obtain ⟨br, off, A1, c1, A2, c2, A3, c3, rfl, hbr, hat, p0, p1, p2, p3, p4, p5, p6⟩ := recs_get (HC.out.on (hV.out.mono hB) (Nat.le_refl _)) (HZ.out.on (hV.out.mono hB) (Nat.le_refl _)) hkz
      obtain ⟨hkL, hkR⟩ := zmap hL.out hkz
      have hd := hH.out
      rw [idxP_drop hkL, hkR] at hd
      obtain ⟨R, hR⟩ : ∃ R, (Z[j]'hkz).1 = R := ⟨_, rfl⟩
      rw [hR] at p0 p1 p2 p3 p4 p5 p6 hd
      obtain ⟨z, hzz⟩ : ∃ z, decide (R.kind = kk) = z := ⟨_, rfl⟩
      rw [hzz] at hd
      have HD := Lib.hid hd
      have HZZ := Lib.hid hzz
      have hbc : wr.cell? ⟨b, 0, none⟩ = some (.int .u16 kk) := (hV.out.cell (p := ⟨b, 0, none⟩) hbs).trans HBK.out
      have HBC := Lib.hid hbc
      clear hd hzz hbc hat hR hkR hkL hkz
      go_wp2_with fail
      refine (of1_any _ _ _ _ A1 _ c1 A2 _ c2 A3 _ c3 b kk z wr HBC.out (Nat.lt_of_lt_of_le hbs HS.out) HZZ).mono ?_
      rintro e w2 ⟨rfl, hB2⟩
      have HV2 : Hid (Below g w w2) := hV.out.trans (hB2.mono HS.out)
      clear hB2 p0 p1 p2 p3 p4 p5 p6 hV
      cases z with
      | true =>
        have hq := HD.out
        rw [if_pos rfl] at hq
        have HQ := Lib.hid hq
        clear hq
        go_wp2_with fail
        go_ret
        exact ⟨by rw [← HQ.out]; rfl, HV2.out⟩
      | false =>
        have hq := HD.out
        rw [if_neg (by decide)] at hq
        have HQ := Lib.hid hq
        clear hq
        go_wp2_with fail
        go_roundw
        case rel => exact ⟨j + 1, by omega, by go_num, HQ, HV2⟩
        case measure => simp [intOf]; omega
    · have hq := hH.out
      rw [idxP_end (by rw [HLN.out]; omega)] at hq
      have HQ := Lib.hid hq
      clear hq hH
      go_wp2_with fail
      go_ret
      exact ⟨by rw [← HQ.out]; rfl, hV.out⟩
theorem below_set7 {B g : Nat} {w w' : World} (h : Below B w w') (hg : B ≤ g) (v0 v1 v2 v3 v4 v5 v6 : Value) : Below B w (((((((w'.setCell ⟨g, 0, none⟩ v0).setCell ⟨g, 1, none⟩ v1).setCell ⟨g, 2, none⟩ v2).setCell ⟨g, 3, none⟩ v3).setCell ⟨g, 4, none⟩ v4).setCell ⟨g, 5, none⟩ v5).setCell ⟨g, 6, none⟩ v6) := by
  have h0 := h.setCell (p := ⟨g, 0, none⟩) hg v0
  have h1 := h0.setCell (p := ⟨g, 1, none⟩) hg v1
  have h2 := h1.setCell (p := ⟨g, 2, none⟩) hg v2
  have h3 := h2.setCell (p := ⟨g, 3, none⟩) hg v3
  have h4 := h3.setCell (p := ⟨g, 4, none⟩) hg v4
  have h5 := h4.setCell (p := ⟨g, 5, none⟩) hg v5
  exact h5.setCell (p := ⟨g, 6, none⟩) hg v6
theorem first_found {L : List Rec} {kk : Nat} {I : Int} (hI : idxP (fun R => decide (R.kind = kk)) L 0 = I) (ha : L.any (fun R => decide (R.kind = kk)) = true) : ∃ i, ∃ hi : i < L.length, I = (i : Int) ∧ firstR kk L = L[i] := by
  obtain ⟨i, hi, e⟩ := idxP_some (j := 0) ha
  obtain ⟨_, h2, h3⟩ := idxP_at (d := zeroR) e
  rw [hI, Nat.zero_add] at e
  refine ⟨i, hi, e, firstR_at hi ?_ fun m hm hmi => ?_⟩
  · have := of_decide_eq_true h2
    rwa [List.getD_eq_getElem?_getD, List.getElem?_eq_getElem hi] at this
  · have := of_decide_eq_false (h3 m hmi)
    rwa [List.getD_eq_getElem?_getD, List.getElem?_eq_getElem hm] at this
/-- A record that was found, in the call's hands. -/
def RecV (w : World) (B : Nat) (R : Rec) (v : Value) : Prop :=
  ∃ A1 c1 A2 c2 A3 c3, v = .agg (recA (mk R.name) R.kind R.cls R.ttl A1 R.names.length c1 A2 R.nums.length c2 A3 R.texts.length c3) ∧ RecAt w B R (mk R.name) R.kind R.cls R.ttl A1 R.names.length A2 R.nums.length A3 R.texts.length
theorem RecV.on {w w' : World} {B B' : Nat} {R : Rec} {v : Value} (h : RecV w B R v) (hb : Below B w w') (hB : B ≤ B') : RecV w' B' R v := by
  obtain ⟨A1, c1, A2, c2, A3, c3, e, hat⟩ := h
  exact ⟨A1, c1, A2, c2, A3, c3, e, hat.on hb hB⟩
theorem recV_zero (w : World) (B : Nat) : RecV w B zeroR (.agg #[.string ⟨#[]⟩, .int .u16 0, .int .u16 0, .int .u32 0, .slice none 0 0, .slice none 0 0, .slice none 0 0]) :=
  ⟨none, 0, none, 0, none, 0, rfl, ⟨rfl, rfl, rfl, rfl, rfl, rfl, rfl, RdS.void _ _ _, RdN.void _ _ _, RdS.void _ _ _⟩⟩
set_option maxHeartbeats 4000000 in
set_option maxRecDepth 100000 in
theorem first_is (A : Option Addr) (c n kk B : Nat) (Z : List RecZ) (L : List Rec) (R : Rec) (w : World) (hc : CellsAt w B A (recCs Z)) (hz : ZAt w B Z) (hL : Hid (Z.map (·.1) = L)) (hn0 : Hid (Z.length = n)) (hn : n ≤ 1000000) (hB : B ≤ w.heap.size) (hR : Hid (firstR kk L = R)) :
    Calls Try.prog 59 #[.slice A n c, .int .u16 kk] w fun e w' => ∃ v, e = .returned v ∧ RecV w' B R v ∧ Below w.heap.size w w' := by
  have HC := Lib.hid hc
  have HZ := Lib.hid hz
  obtain ⟨g, hg⟩ : ∃ g, w.heap.size = g := ⟨_, rfl⟩
  rw [hg] at hB ⊢
  have HG := Lib.hid hg
  obtain ⟨I, hI⟩ : ∃ I, idxP (fun R => decide (R.kind = kk)) L 0 = I := ⟨_, rfl⟩
  have HI := Lib.hid hI
  obtain ⟨wa, hwa⟩ : ∃ wa, w.alloc (.cells #[.string ⟨#[]⟩, .int .u16 0, .int .u16 0, .int .u32 0, .slice none 0 0, .slice none 0 0, .slice none 0 0] 60) = wa := ⟨_, rfl⟩
  have HA : Hid (Below g w wa) := by rw [← hwa, ← hg]; exact (Below.refl _ _).alloc (Nat.le_refl _) _
  have HX : Hid (wa.heap[g]? = some (.cells #[.string ⟨#[]⟩, .int .u16 0, .int .u16 0, .int .u32 0, .slice none 0 0, .slice none 0 0, .slice none 0 0] 60 (0, 0))) := by rw [← hwa, ← hg]; exact heap_alloc_new w _
  have HS : Hid (wa.heap.size = g + 1) := by show _ = _; rw [← hwa, ← hg]; simp
  clear hc hz hI
  go_enter Try.func59, Try.ntmps59
  go_wp2_with fail
  refine (of_any kk wa).mono ?_
  rintro e w1 ⟨b, rfl, hbc, hb1, hb2, hB1⟩
  have HK1 : Hid (Below (g + 1) wa w1) := by have h := hB1; rw [HS.out] at h; exact h
  have HV1 : Hid (Below g w w1) := HA.out.trans (HK1.out.mono (Nat.le_succ _))
  have HS1 : Hid (g + 1 ≤ w1.heap.size) := by have h := hB1.size; rw [HS.out] at h; exact h
  have HBC := Lib.hid hbc
  clear hB1 hbc
  go_wp2_with fail
  refine (idxOf_is A c n kk b B Z L I w1 (HC.out.on (HV1.out.mono hB) (Nat.le_refl _)) (HZ.out.on (HV1.out.mono hB) (Nat.le_refl _)) hL hn0 hn HBC.out hb2 (by have := HS1.out; omega) HI).mono ?_
  rintro e w2 ⟨rfl, hB2⟩
  have HK2 : Hid (Below (g + 1) wa w2) := HK1.out.trans (hB2.mono HS1.out)
  have HV2 : Hid (Below g w w2) := HA.out.trans (HK2.out.mono (Nat.le_succ _))
  have hx2 := (HK2.out.block g (Nat.lt_succ_self g)).trans HX.out
  have HX2 := Lib.hid hx2
  clear hB2 hwa hg
  have ef : ∀ i, w2.frozen? ⟨g, i, none⟩ = false := fun i => by simp [World.frozen?, hx2]
  have HS2 : Hid (g ≤ w2.heap.size) := by have h := HV2.out.size; rw [HG.out] at h; exact h
  cases han : L.any (fun R => decide (R.kind = kk)) with
  | false =>
    have hi : I = -1 := by rw [← HI.out]; exact idxP_none han
    have hrz : R = zeroR := by rw [← hR.out]; exact firstR_none han
    subst hi
    subst hrz
    have e0 := cell_of_row _ _ 0 _ _ _ hx2
    have e1 := cell_of_row _ _ 1 _ _ _ hx2
    have e2 := cell_of_row _ _ 2 _ _ _ hx2
    have e3 := cell_of_row _ _ 3 _ _ _ hx2
    have e4 := cell_of_row _ _ 4 _ _ _ hx2
    have e5 := cell_of_row _ _ 5 _ _ _ hx2
    have e6 := cell_of_row _ _ 6 _ _ _ hx2
    clear hx2 han
    go_wp2_with fail
    refine bodyPost_ret (v := .agg #[.string ⟨#[]⟩, .int .u16 0, .int .u16 0, .int .u32 0, .slice none 0 0, .slice none 0 0, .slice none 0 0]) (by simp [results, Try.results59, go_sem, e0, e1, e2, e3, e4, e5, e6]) rfl ⟨_, rfl, recV_zero _ _, below_set7 HV2.out (Nat.le_refl _) _ _ _ _ _ _ _⟩
  | true =>
    obtain ⟨i, hi, hIi, hRi⟩ := first_found HI.out han
    have hiZ : i < Z.length := by rw [← hL.out, List.length_map] at hi; exact hi
    obtain ⟨br, off, A1, c1, A2, c2, A3, c3, rfl, hbr, hat, p0, p1, p2, p3, p4, p5, p6⟩ := recs_get (HC.out.on (HV2.out.mono hB) (Nat.le_refl _)) (HZ.out.on (HV2.out.mono hB) (Nat.le_refl _)) hiZ
    obtain ⟨hkL, hkR⟩ := zmap hL.out hiZ
    have hin : (i : Int) < (n : Int) := by rw [hn0.out] at hiZ; omega
    have hZR : (Z[i]'hiZ).1 = R := by rw [← hR.out, hRi, hkR]
    rw [hZR] at hat p0 p1 p2 p3 p4 p5 p6
    have HAT := Lib.hid hat
    obtain ⟨x, hx⟩ : ∃ x, mk R.name = x := ⟨_, rfl⟩
    obtain ⟨rk, hrk⟩ : ∃ n, R.kind = n := ⟨_, rfl⟩
    obtain ⟨rc, hrc⟩ : ∃ n, R.cls = n := ⟨_, rfl⟩
    obtain ⟨rt, hrt⟩ : ∃ n, R.ttl = n := ⟨_, rfl⟩
    obtain ⟨l1, hl1⟩ : ∃ n, R.names.length = n := ⟨_, rfl⟩
    obtain ⟨l2, hl2⟩ : ∃ n, R.nums.length = n := ⟨_, rfl⟩
    obtain ⟨l3, hl3⟩ : ∃ n, R.texts.length = n := ⟨_, rfl⟩
    rw [hx] at p0
    rw [hrk] at p1
    rw [hrc] at p2
    rw [hrt] at p3
    rw [hl1] at p4
    rw [hl2] at p5
    rw [hl3] at p6
    have HV : Hid (RecV w2 B R (.agg (recA x rk rc rt A1 l1 c1 A2 l2 c2 A3 l3 c3))) := ⟨A1, c1, A2, c2, A3, c3, by rw [hx, hrk, hrc, hrt, hl1, hl2, hl3], hat⟩
    subst hIi
    have e0 := cell_of_row _ _ 0 _ _ _ hx2
    have e1 := cell_of_row _ _ 1 _ _ _ hx2
    have e2 := cell_of_row _ _ 2 _ _ _ hx2
    have e3 := cell_of_row _ _ 3 _ _ _ hx2
    have e4 := cell_of_row _ _ 4 _ _ _ hx2
    have e5 := cell_of_row _ _ 5 _ _ _ hx2
    have e6 := cell_of_row _ _ 6 _ _ _ hx2
    clear hx hrk hrc hrt hl1 hl2 hl3 hat hZR hkR hkL hRi hi han hiZ hx2
    go_wp2_with fail
    have hbel := below_set7 (Below.refl B w2) hB (.string x) (.int .u16 rk) (.int .u16 rc) (.int .u32 rt) (.slice A1 l1 c1) (.slice A2 l2 c2) (.slice A3 l3 c3)
    have hV := HV.out.on hbel (Nat.le_refl _)
    refine bodyPost_ret (v := .agg (recA x rk rc rt A1 l1 c1 A2 l2 c2 A3 l3 c3)) (by simp [results, Try.results59, go_sem, e0, e1, e2, e3, e4, e5, e6]) rfl ⟨_, rfl, hV, below_set7 HV2.out (Nat.le_refl _) _ _ _ _ _ _ _⟩
end Go.Proofs.Ytpmmjmnleoicjaa

/- Flags, bit by bit. No condition. -/
namespace Go.Proofs.Ytpmmjmnleoicjaa.QrBits
open Go Go.RowKit QrMath

theorem ofInt16_nat {a : Nat} (ha : a < 65536) : (BitVec.ofInt 16 (a : Int)).toNat = a := by
  rw [BitVec.ofInt_natCast, BitVec.toNat_ofNat]
  omega
theorem ofInt32q_nat {a : Nat} (ha : a < 4294967296) : (BitVec.ofInt 32 (a : Int)).toNat = a := by
  rw [BitVec.ofInt_natCast, BitVec.toNat_ofNat]
  omega
theorem and16 {a b : Nat} (ha : a < 65536) (hb : b < 65536) : bits .and .u16 (a : Int) (b : Int) = ((a &&& b : Nat) : Int) := by
  have hx : a &&& b ≤ a := Nat.and_le_left
  show IntKind.u16.wrap ((BitVec.ofInt 16 (a : Int) &&& BitVec.ofInt 16 (b : Int)).toNat : Int) = _
  rw [BitVec.toNat_and, ofInt16_nat ha, ofInt16_nat hb, IntKind.wrap_u16]
  omega
theorem or16 {a b : Nat} (ha : a < 65536) (hb : b < 65536) : bits .or .u16 (a : Int) (b : Int) = ((a ||| b : Nat) : Int) := by
  have hx : a ||| b < 2 ^ 16 := Nat.or_lt_two_pow (by omega) (by omega)
  show IntKind.u16.wrap ((BitVec.ofInt 16 (a : Int) ||| BitVec.ofInt 16 (b : Int)).toNat : Int) = _
  rw [BitVec.toNat_or, ofInt16_nat ha, ofInt16_nat hb, IntKind.wrap_u16]
  omega
theorem and32q {a b : Nat} (ha : a < 4294967296) (hb : b < 4294967296) : bits .and .u32 (a : Int) (b : Int) = ((a &&& b : Nat) : Int) := by
  have hx : a &&& b ≤ a := Nat.and_le_left
  show IntKind.u32.wrap ((BitVec.ofInt 32 (a : Int) &&& BitVec.ofInt 32 (b : Int)).toNat : Int) = _
  rw [BitVec.toNat_and, ofInt32q_nat ha, ofInt32q_nat hb, IntKind.wrap_u32]
  omega
theorem bit_of (f i : Nat) : f &&& 2 ^ i = if f / 2 ^ i % 2 = 1 then 2 ^ i else 0 := by
  apply Nat.eq_of_testBit_eq
  intro j
  rw [Nat.testBit_and, Nat.testBit_two_pow]
  by_cases hij : i = j
  · subst hij
    rw [decide_eq_true rfl, Bool.and_true, Nat.testBit_eq_decide_div_mod_eq]
    by_cases h : f / 2 ^ i % 2 = 1
    · rw [if_pos h, decide_eq_true h, Nat.testBit_two_pow, decide_eq_true rfl]
    · rw [if_neg h, decide_eq_false h, Nat.zero_testBit]
  · rw [decide_eq_false hij, Bool.and_false]
    by_cases h : f / 2 ^ i % 2 = 1
    · rw [if_pos h, Nat.testBit_two_pow, decide_eq_false hij]
    · rw [if_neg h, Nat.zero_testBit]
theorem bit_qr {f : Nat} (h : f ≤ 65535) : f &&& 32768 = if 32768 ≤ f then 32768 else 0 := by
  have e := bit_of f 15
  rw [show (2 : Nat) ^ 15 = 32768 from rfl] at e
  rw [e]
  by_cases h1 : 32768 ≤ f
  · rw [if_pos h1, if_pos (by omega)]
  · rw [if_neg h1, if_neg (by omega)]
theorem bit_tc (f : Nat) : f &&& 512 = if f / 512 % 2 = 1 then 512 else 0 := bit_of f 9
theorem bit_rd (f : Nat) : f &&& 256 = if f / 256 % 2 = 1 then 256 else 0 := bit_of f 8
/-- Is QR set? -/
theorem qr_ne {f : Nat} (h : f ≤ 65535) : (bits .and .u16 (f : Int) 32768 != 0) = decide (32768 ≤ f) := by
  have e := and16 (a := f) (b := 32768) (by omega) (by decide)
  rw [show (32768 : Int) = ((32768 : Nat) : Int) from rfl, e, bit_qr h]
  by_cases h1 : 32768 ≤ f
  · rw [if_pos h1, decide_eq_true h1]; rfl
  · rw [if_neg h1, decide_eq_false h1]; rfl
/-- Is QR set, and TC not? -/
theorem qrtc_ne {f : Nat} (h : f ≤ 65535) : (bits .and .u16 (f : Int) 33280 != 32768) = !decide (32768 ≤ f ∧ f / 512 % 2 = 0) := by
  have e := and16 (a := f) (b := 33280) (by omega) (by decide)
  have e2 : f &&& 33280 = (f &&& 32768) ||| (f &&& 512) := Nat.and_or_distrib_left f 32768 512
  rw [show (33280 : Int) = ((33280 : Nat) : Int) from rfl, e, e2, bit_qr h, bit_tc]
  by_cases h1 : 32768 ≤ f
  · by_cases h2 : f / 512 % 2 = 1
    · rw [if_pos h1, if_pos h2, decide_eq_false (by omega)]; rfl
    · rw [if_pos h1, if_neg h2, decide_eq_true (by omega)]; rfl
  · by_cases h2 : f / 512 % 2 = 1
    · rw [if_neg h1, if_pos h2, decide_eq_false (by omega)]; rfl
    · rw [if_neg h1, if_neg h2, decide_eq_false (by omega)]; rfl
/-- The failure's flags. -/
theorem fail_flags {f : Nat} (h : f ≤ 65535) : bits .or .u16 (bits .or .u16 (bits .or .u16 32768 (bits .and .u16 (f : Int) 256)) 128) 2 = ((failF f : Nat) : Int) := by
  have e := and16 (a := f) (b := 256) (by omega) (by decide)
  rw [show (256 : Int) = ((256 : Nat) : Int) from rfl, e, bit_rd]
  unfold failF
  by_cases h1 : f / 256 % 2 = 1
  · rw [if_pos h1]; decide +kernel
  · rw [if_neg h1]; decide +kernel
/-- Is DO set? -/
theorem do_ne {t : Nat} (h : t ≤ 4294967295) : (bits .and .u32 (t : Int) 32768 != 0) = doB t := by
  have e := and32q (a := t) (b := 32768) (by omega) (by decide)
  have e2 := bit_of t 15
  rw [show (2 : Nat) ^ 15 = 32768 from rfl] at e2
  rw [show (32768 : Int) = ((32768 : Nat) : Int) from rfl, e, e2]
  unfold doB
  by_cases h1 : t / 32768 % 2 = 1
  · rw [if_pos h1, decide_eq_true h1]; rfl
  · rw [if_neg h1, decide_eq_false h1]; rfl
end Go.Proofs.Ytpmmjmnleoicjaa.QrBits

/- The contract of the document's Make. For at most 10^6 labels. -/
namespace Go.Proofs.Ytpmmjmnleoicjaa
open Go.RowKit Bytes Strs NameMath

theorem cell_drew_alloc {w : World} {a : Addr} {n : Nat} {o : Obj} {v : Value} (hc : w.cell? a = some v) (hb : a.block < w.heap.size) : ((w.drewN n).alloc o).cell? a = some v := (World.cell?_alloc_lt _ o a hb).trans hc

set_option maxHeartbeats 4000000 in
set_option maxRecDepth 100000 in
theorem refMake_any (A : Option Addr) (c : Nat) (L : List (List UInt8)) (w : World) (hr : RdS w w.heap.size A L) (hn : L.length ≤ 1000000) :
    Calls Try.prog 81 #[.slice A L.length c] w fun e w' => e = .returned (.tuple #[.string (mk (makeL L)), .int .i64 (makeE L)]) ∧ Below w.heap.size w w' := by
  obtain ⟨r, hrr⟩ : ∃ r, r = mk (makeL L) := ⟨_, rfl⟩
  obtain ⟨E, hE⟩ : ∃ E, E = makeE L := ⟨_, rfl⟩
  rw [← hrr, ← hE]
  have R := Lib.hid hrr; clear hrr
  have HE := Lib.hid hE; clear hE
  have HR := Lib.hid hr; clear hr
  obtain ⟨n, hn0⟩ : ∃ n, n = L.length := ⟨_, rfl⟩
  rw [← hn0] at hn ⊢
  have HN := Lib.hid hn0; clear hn0
  generalize hg : w.heap.size = g at *
  have G := Lib.hid hg; clear hg
  go_enter Try.func81, Try.ntmps81
  go_wp2_with fail
  go_loop [4] (fun i => ∃ k : Nat, k ≤ n ∧ i = .int .i64 k ∧ Hid ((L.take k).all okLab = true)) (fun i => n - (intOf i).toNat)
  case atStart => exact ⟨0, Nat.zero_le _, rfl, Lib.hid rfl⟩
  case round =>
    obtain ⟨k, hk, rfl, hA⟩ := hrel
    by_cases hlt : k < n
    · have hkl : k < L.length := by rw [← HN.out]; exact hlt
      obtain ⟨a, rfl, hab, hcell⟩ := HR.out.get hkl
      have hsz := mk_size (L.getD k [])
      generalize hl : L.getD k [] = l at *
      generalize mk l = x at *
      by_cases hok : 1 ≤ l.length ∧ l.length ≤ 63
      · have hA2 : Hid ((L.take (k + 1)).all okLab = true) := all_take hA.out hkl (by rw [hl]; exact okLab_iff.2 hok)
        have h1 : ¬ (x.size : Int) < 1 := by omega
        have h2 : ¬ (63 : Int) < x.size := by omega
        clear hl hkl hsz hok hA
        go_wp2_with fail
        go_round
        case rel => exact ⟨k + 1, by omega, by go_num, hA2⟩
        case measure => simp [intOf]; omega
      · have hno : L.all okLab = false := all_no hkl (by rw [hl]; exact okLab_no hok)
        have e41 := makeE_41 hno
        obtain rfl : E = 41 := HE.out.trans e41
        obtain rfl : r = ⟨#[]⟩ := R.out.trans (by rw [makeL_no (by rw [e41]; decide)]; rfl)
        by_cases h0 : l.length = 0
        · have h1 : (x.size : Int) < 1 := by omega
          clear hl hkl hsz hok hA hno e41 h0
          go_wp2_with fail
          go_ret2
          exact ⟨rfl, Below.refl _ _⟩
        · have h1 : ¬ (x.size : Int) < 1 := by omega
          have h2 : (63 : Int) < x.size := by omega
          clear hl hkl hsz hok hA hno e41 h0
          go_wp2_with fail
          go_ret2
          exact ⟨rfl, Below.refl _ _⟩
    · have hA1 := hA.out
      rw [List.take_of_length_le (by rw [← HN.out]; omega)] at hA1
      have HA1 := Lib.hid hA1
      clear hA hA1
      go_wp2_with fail
      go_loopw [5, 6] (fun b i wr => ∃ (k : Nat) (s : ByteArray), k ≤ n ∧ i = .int .i64 k ∧ b = .string s ∧ s.size ≤ 254 ∧ Hid (s = mk (wire (L.take k))) ∧ Below g w wr) (fun _ i _ => n - (intOf i).toNat)
      case atStart => exact ⟨0, ⟨#[]⟩, Nat.zero_le _, rfl, rfl, by decide, Lib.hid rfl, Below.refl _ _⟩
      case round =>
        obtain ⟨k, s, hk, rfl, rfl, hs, hS, hB⟩ := hrel
        by_cases hlt : k < n
        · have hkl : k < L.length := by rw [← HN.out]; exact hlt
          obtain ⟨a, rfl, hab, hcell0⟩ := (HR.out.on hB (Nat.le_refl _)).get hkl
          have hwt := wire_take_snoc hkl
          have hle := wire_take_le L (k + 1)
          have hok := okLab_iff.1 (List.all_eq_true.1 HA1.out (L.getD k []) (by rw [List.getD_eq_getElem?_getD, List.getElem?_eq_getElem hkl]; exact List.getElem_mem hkl))
          have hsz := mk_size (L.getD k [])
          have hof := ofNat_len (okLab_iff.2 hok)
          generalize L.getD k [] = l at *
          have hcat : mk (wire (L.take (k + 1))) = s ++ mk [UInt8.ofNat l.length] ++ mk l := by
            rw [hS.out, hwt, mk_cat, mk_cat, List.append_assoc]
            rfl
          generalize mk l = x at *
          generalize UInt8.ofNat l.length = y at *
          have hcell := hcell0
          have h3 : x.size ≤ 63 := by omega
          have h4 : (y.toNat : Int) = (x.size : Int) := by rw [hof, hsz]
          have hc2 : (convert 74 9 (.slice (some ⟨wr.heap.size, 0, none⟩) 1 1)).run Try.prog (wr.alloc (.cells #[.int .u8 (x.size : Int)] 5)).drew = .ok (.string (mk [y])) (wr.alloc (.cells #[.int .u8 (x.size : Int)] 5)).drew := conv_new wr.drew [y] #[.int .u8 (x.size : Int)] 1 (by rw [← h4]; rfl) rfl
          have hblk : a.block < wr.heap.size := by have := hB.size; have := G.out; omega
          have hcd : (wr.alloc (.cells #[.int .u8 (x.size : Int)] 5)).cell? (a.add k) = some (.string x) := (World.cell?_alloc_lt _ _ (a.add k) (by rw [add_block]; exact hblk)).trans hcell
          have hysz := mk_size [y]
          generalize hy : mk [y] = q at *
          have HC := Lib.hid hcat
          have HWT := Lib.hid hwt
          have hq1 : q.size ≤ 1 := Nat.le_of_eq hysz
          have hzs : (s ++ q ++ x).size ≤ 320 := by
            rw [ByteArray.size_append, ByteArray.size_append]
            omega
          have HZL := Lib.hid (show (wire (L.take (k + 1))).length = (s ++ q ++ x).size by rw [← hcat, mk_size])
          clear hwt hsz hof hok hcell0 h4 hysz hcat
          have HLE := Lib.hid hle
          clear hle
          go_wp2_with fail
          go_region
          have hBd : Below g w (wr.alloc (.cells #[.int .u8 (x.size : Int)] 5)).drew := (hB.alloc (by have := hB.size; have := G.out; omega) _).drew
          clear hcd hc2 hB
          generalize s ++ q ++ x = z at *
          generalize (wr.alloc (.cells #[.int .u8 (x.size : Int)] 5)).drew = w1 at *
          by_cases hbig : (254 : Int) < z.size
          · have e40 := makeE_40 HA1.out (by rw [nameL_len]; have := HZL.out; have := HLE.out; omega)
            obtain rfl : E = 40 := HE.out.trans e40
            obtain rfl : r = ⟨#[]⟩ := R.out.trans (by rw [makeL_no (by rw [e40]; decide)]; rfl)
            clear e40
            go_wp2_with fail
            go_ret2
            exact ⟨rfl, hBd⟩
          · have hz2 : z.size ≤ 254 := by omega
            go_wp2_with fail
            go_roundw
            case rel => exact ⟨k + 1, z, by omega, by go_num, rfl, hz2, Lib.hid HC.out.symm, hBd⟩
            case measure => simp [intOf]; omega
        · have hkn2 : L.length ≤ k := by rw [← HN.out]; omega
          have hS1 := hS.out
          rw [wire_take_all hkn2] at hS1
          have hwl : (wire L).length ≤ 254 := by rw [hS1, mk_size] at hs; exact hs
          have e0 := makeE_0 HA1.out (by rw [nameL_len]; omega)
          obtain rfl : E = 0 := HE.out.trans e0
          have hr2 : r = s ++ ⟨#[0]⟩ := R.out.trans (by rw [makeL_ok e0, hS1]; unfold nameL; rw [← mk_cat]; rfl)
          have HR2 := Lib.hid hr2
          have hs00 : (⟨#[0]⟩ : ByteArray).size ≤ 1 := Nat.le_refl _
          clear hr2 R e0 hS1 hS hwl
          go_wp2_with fail
          go_ret2
          exact ⟨by rw [HR2.out]; rfl, hB⟩
end Go.Proofs.Ytpmmjmnleoicjaa

/- The contracts of name's Fold, Same and Under (and of slices.EqualFunc as it calls it), and of the document's Fold, Same and Under. For texts of at most 10^6 bytes. -/
namespace Go.Proofs.Ytpmmjmnleoicjaa
open Go.RowKit Bytes Low Strs NameMath

theorem nameFold_is (s t : ByteArray) (w : World) (hs : s.size ≤ 1000000) (h : Hid (mk (foldN s.data.toList) = t)) :
    Calls Try.prog 60 #[.string s] w fun e w' => e = .returned (.string t) ∧ Below w.heap.size w w' := by
  cases hN : isN s.data.toList with
  | true =>
    have ht : foldS s = t := by rw [← h.out, foldN_yes hN]; rfl
    have HF := Lib.hid (fun w => fold_any s w (by omega))
    rw [ht] at HF
    have HN := Lib.hid hN
    clear h hN ht
    go_enter Try.func60, Try.ntmps60
    go_wp2_with fail
    refine (is_is s true _ hs HN).mono ?_
    rintro e w' ⟨rfl, rfl⟩
    go_wp2_with fail
    refine (HF.out _).mono ?_
    rintro e w1 ⟨rfl, hB⟩
    go_wp2_with fail
    go_ret
    exact ⟨rfl, hB⟩
  | false =>
    obtain rfl : ⟨#[]⟩ = t := by rw [← h.out, foldN_no hN]; rfl
    have HN := Lib.hid hN
    clear h hN
    go_enter Try.func60, Try.ntmps60
    go_wp2_with fail
    refine (is_is s false _ hs HN).mono ?_
    rintro e w' ⟨rfl, rfl⟩
    go_wp2_with fail
    go_ret
    exact ⟨rfl, Below.refl _ _⟩

set_option maxHeartbeats 2000000 in
set_option maxRecDepth 100000 in
theorem refFolded_any (A : Option Addr) (c n : Nat) (L : List (List UInt8)) (w : World) (hr : RdS w w.heap.size A L) (hn0 : Hid (L.length = n)) (hn : n ≤ 1000000) (hl : ∀ k, (L.getD k []).length ≤ 1000000) :
    Calls Try.prog 82 #[.slice A n c] w (RetStrs w (lowLs L)) := by
  have HR := Lib.hid hr; clear hr
  have HL := Lib.hid hl; clear hl
  obtain ⟨i0, hi, hz0, hz1, hz2⟩ := info_parts info9
  have HI := Lib.hid hi; clear hi
  have HZ0 := Lib.hid hz0; clear hz0
  have HZ1 := Lib.hid hz1; clear hz1
  have HZ2 := Lib.hid hz2; clear hz2
  generalize hg : w.heap.size = g at *
  have G := Lib.hid hg; clear hg
  go_enter Try.func82, Try.ntmps82
  go_wp2_with fail
  go_loopw [3, 4] (fun v i wr => ∃ k : Nat, k ≤ n ∧ i = .int .i64 k ∧ Hid (wr.ownsRow g 9 1 v k (strCs (lowLs (L.take k)))) ∧ Below g w wr) (fun _ i _ => n - (intOf i).toNat)
  case atStart => exact ⟨0, Nat.zero_le _, rfl, Lib.hid (World.ownsRow_nil _ _ _ _), Below.refl _ _⟩
  case round =>
    obtain ⟨k, hk, rfl, hO, hB⟩ := hrel
    by_cases hlt : k < n
    · have hkl : k < L.length := by rw [hn0.out]; exact hlt
      obtain ⟨a, rfl, hab, hcell⟩ := (HR.out.on hB (Nat.le_refl _)).get hkl
      have hlen := HL.out k
      have htk := lab_take hkl
      generalize L.getD k [] = l at *
      have hF := Lib.hid (fun w => refFold_any (mk l) w (by rw [mk_size]; omega))
      have hfs : foldS (mk l) = mk (lowL l) := rfl
      rw [hfs] at hF
      have HTK := Lib.hid (show strCs (lowLs (L.take (k + 1))) = strCs (lowLs (L.take k) ++ [lowL l]) by rw [htk]; unfold lowLs; rw [List.map_append]; rfl)
      have hml := Lib.hid (mk_list (lowL l))
      generalize mk (lowL l) = y at *
      generalize mk l = x at *
      clear htk hkl hlen hfs
      go_wp2_with fail
      refine (hF.out _).mono ?_
      rintro e w1 ⟨rfl, hB1⟩
      have HO1 := Lib.hid (own_below hO.out hB1)
      have hBB := hB.trans (hB1.mono (by have := hB.size; have := G.out; omega))
      clear hO hB hB1 hcell
      go_wp2_with (at_builtin; refine wpList_append_own _ rfl _ _ 57 rfl g 9 i0 (.string ⟨#[]⟩) 1 16 Try.underlying57 HI.out HZ0.out HZ1.out HZ2.out rfl (by decide) _ _ _ rfl (HO1.out.alloc _) ⟨w1.heap.size, 0, none⟩ 1 1 [.string y] rfl rfl ?c1 ?c2 ?c3 ?c4 ?c5 ?_)
      case c1 =>
        intro j u hj
        match j, hj with
        | 0, hj => simp at hj; subst hj; simp [Addr.add]
      case c2 => intro u hu; simp at hu; subst hu; rfl
      case c3 => unfold maxLen; omega
      case c4 => omega
      case c5 => have := hBB.size; have := G.out; simp; omega
      intro v' w2 hown hgrow _
      have RS := own_str (x := y) HO1.out hBB G.out hown hgrow
      rw [hml.out, ← HTK.out] at RS
      have R1 := Lib.hid RS.1
      have R2 := RS.2
      clear RS hown hgrow HO1 hBB
      go_wp2_with fail
      go_roundw
      case rel => exact ⟨k + 1, by omega, by go_num, R1, R2⟩
      case measure => simp [intOf]; omega
    · have hkn : k = n := by omega
      have hO1 := hO.out
      rw [List.take_of_length_le (by rw [hn0.out]; omega), hkn] at hO1
      have HO1 := Lib.hid hO1
      clear hO hO1 hkn
      go_wp2_with fail
      go_ret
      exact ⟨_, rfl, by rw [G.out, lowLs_len, hn0.out]; exact HO1.out, by rw [G.out]; exact hB⟩

theorem lab_small {s : ByteArray} {L : List (List UInt8)} (h : labels s.data.toList = some L) : L.length ≤ 255 ∧ ∀ k, (L.getD k []).length ≤ 1000000 := by
  obtain ⟨h1, h2, h3⟩ := labels_some h
  have hc := lbs_count (labels_lbs h)
  refine ⟨by omega, fun k => ?_⟩
  rcases Nat.lt_or_ge k L.length with hk | hk
  · have := okLab_iff.1 (List.all_eq_true.1 h2 (L.getD k []) (by rw [List.getD_eq_getElem?_getD, List.getElem?_eq_getElem hk]; exact List.getElem_mem hk))
    omega
  · rw [List.getD_eq_getElem?_getD, List.getElem?_eq_none hk]
    exact Nat.zero_le _

set_option maxHeartbeats 2000000 in
theorem refNameFold_is (s t : ByteArray) (w : World) (hs : s.size ≤ 1000000) (h : Hid (mk (foldN s.data.toList) = t)) :
    Calls Try.prog 40 #[.string s] w fun e w' => e = .returned (.string t) ∧ Below w.heap.size w w' := by
  cases hN : isN s.data.toList with
  | true =>
    obtain ⟨L, hL⟩ := isN_some hN
    have hft := fold_make hL
    have ht : mk (makeL (lowLs L)) = t := by rw [hft, ← h.out, foldN_yes hN]
    obtain ⟨hc, hl⟩ := lab_small hL
    have HLL := Lib.hid hl
    have HLow := Lib.hid (fun A c w hr => refMake_any A c (lowLs L) w hr (by rw [lowLs_len]; omega))
    rw [ht] at HLow
    have HL := Lib.hid hL
    clear h hN ht hft hl hL
    go_enter Try.func40, Try.ntmps40
    go_wp2_with fail
    refine (refLabels_yes s L _ hs HL).mono ?_
    rintro e w1 ⟨v, rfl, hO, hB⟩
    obtain ⟨A, c, rfl, _, hr, _⟩ := own_rds hO rfl
    have hb1 := hB.size
    clear hO
    go_wp2_with fail
    refine (refFolded_any A c L.length L _ hr (Lib.hid rfl) (by omega) HLL.out).mono ?_
    rintro e w2 ⟨v2, rfl, hO2, hB2⟩
    obtain ⟨A2, c2, rfl, _, hr2, _⟩ := own_rds hO2 rfl
    have hB3 := hB.trans (hB2.mono hb1)
    have hb3 := hB3.size
    clear hO2 hB2 hr hB hb1
    go_wp2_with fail
    refine (HLow.out A2 c2 _ hr2).mono ?_
    rintro e w3 ⟨rfl, hB4⟩
    go_wp2_with fail
    go_ret
    exact ⟨rfl, hB3.trans (hB4.mono hb3)⟩
  | false =>
    obtain rfl : ⟨#[]⟩ = t := by rw [← h.out, foldN_no hN]; rfl
    have HN := Lib.hid hN
    clear h hN
    go_enter Try.func40, Try.ntmps40
    go_wp2_with fail
    refine (refLabels_no s _ hs HN).mono ?_
    rintro e w1 ⟨v, rfl, hB⟩
    go_wp2_with fail
    go_ret
    exact ⟨rfl, hB⟩
end Go.Proofs.Ytpmmjmnleoicjaa

/- The contracts of name's Fold and of the document's, for texts of any length. -/
namespace Go.Proofs.Ytpmmjmnleoicjaa
open Go.RowKit Bytes NameMath

theorem fold_w (s t : ByteArray) (w : World) (hs : s.size ≤ maxLen) (h : Hid (mk (foldN s.data.toList) = t)) :
    Calls Try.prog 60 #[.string s] w fun e w' => e = .returned (.string t) ∧ Below w.heap.size w w' := by
  by_cases h1 : s.size ≤ 1000000
  · exact nameFold_is s t w h1 h
  · have hN := isN_long (l := s.data.toList) (by rw [← Lib.size_eq]; omega)
    obtain rfl : ⟨#[]⟩ = t := by rw [← h.out, foldN_no hN]; rfl
    have HN := Lib.hid hN
    clear h hN
    go_enter Try.func60, Try.ntmps60
    go_wp2_with fail
    refine (is_w s false _ hs HN).mono ?_
    rintro e w' ⟨rfl, rfl⟩
    go_wp2_with fail
    go_ret
    exact ⟨rfl, Below.refl _ _⟩
theorem refFold_w (s t : ByteArray) (w : World) (hs : s.size ≤ maxLen) (h : Hid (mk (foldN s.data.toList) = t)) :
    Calls Try.prog 40 #[.string s] w fun e w' => e = .returned (.string t) ∧ Below w.heap.size w w' := by
  by_cases h1 : s.size ≤ 1000000
  · exact refNameFold_is s t w h1 h
  · have hN := isN_long (l := s.data.toList) (by rw [← Lib.size_eq]; omega)
    obtain rfl : ⟨#[]⟩ = t := by rw [← h.out, foldN_no hN]; rfl
    have HL := Lib.hid (fun w => refLabels_long s w hs (by omega))
    clear h hN
    go_enter Try.func40, Try.ntmps40
    go_wp2_with fail
    refine (HL.out _).mono ?_
    rintro e w1 ⟨v, rfl, hB⟩
    go_wp2_with fail
    go_ret
    exact ⟨rfl, hB⟩
theorem refIs_w (s : ByteArray) (q : Bool) (w : World) (hs : s.size ≤ maxLen) (hq : Hid (isN s.data.toList = q)) :
    Calls Try.prog 39 #[.string s] w fun e w' => e = .returned (.bool q) ∧ Below w.heap.size w w' := by
  by_cases h1 : s.size ≤ 1000000
  · exact refIs_is s q w h1 hq
  · have hN := isN_long (l := s.data.toList) (by rw [← Lib.size_eq]; omega)
    obtain rfl : false = q := hN.symm.trans hq.out
    exact refIs_long s w hs (by omega)
end Go.Proofs.Ytpmmjmnleoicjaa

/- The contracts of query's Ask, Make, Fits. For messages that can be gone through. -/
namespace Go.Proofs.Ytpmmjmnleoicjaa
open Go.RowKit Bytes Strs Nums NameMath MsgMath RecMath WrMath QrMath QrBits

theorem below_set4 {B g : Nat} {w w' : World} (h : Below B w w') (hg : B ≤ g) (v0 v1 v2 v3 : Value) : Below B w ((((w'.setCell ⟨g, 0, none⟩ v0).setCell ⟨g, 1, none⟩ v1).setCell ⟨g, 2, none⟩ v2).setCell ⟨g, 3, none⟩ v3) := by
  have h0 := h.setCell (p := ⟨g, 0, none⟩) hg v0
  have h1 := h0.setCell (p := ⟨g, 1, none⟩) hg v1
  have h2 := h1.setCell (p := ⟨g, 2, none⟩) hg v2
  exact h2.setCell (p := ⟨g, 3, none⟩) hg v3
/-- A result's cells of one's own. -/
def ResAt (w : World) (b n : Nat) : Prop := ∃ c t, w.heap[b]? = some (.cells c t (0, 0)) ∧ c.size = n
theorem ResAt.set {w : World} {b n i : Nat} (h : ResAt w b n) (v : Value) : ResAt (w.setCell ⟨b, i, none⟩ v) b n := by
  obtain ⟨c, t, hb, hn⟩ := h
  exact ⟨c.setIfInBounds i v, t, by simp [World.setCell, Array.getElem?_modify, hb], by simp [hn]⟩
theorem ResAt.four {w : World} {b : Nat} (h : ResAt w b 4) : (∃ v0, w.cell? ⟨b, 0, none⟩ = some v0) ∧ (∃ v1, w.cell? ⟨b, 1, none⟩ = some v1) ∧ (∃ v2, w.cell? ⟨b, 2, none⟩ = some v2) ∧ (∃ v3, w.cell? ⟨b, 3, none⟩ = some v3) ∧ ∀ i, w.frozen? ⟨b, i, none⟩ = false := by
  obtain ⟨c, t, hb, hn⟩ := h
  exact ⟨⟨c[0]'(by omega), (cell_of_row _ _ 0 _ _ _ hb).trans (Array.getElem?_eq_getElem (by omega))⟩, ⟨c[1]'(by omega), (cell_of_row _ _ 1 _ _ _ hb).trans (Array.getElem?_eq_getElem (by omega))⟩, ⟨c[2]'(by omega), (cell_of_row _ _ 2 _ _ _ hb).trans (Array.getElem?_eq_getElem (by omega))⟩, ⟨c[3]'(by omega), (cell_of_row _ _ 3 _ _ _ hb).trans (Array.getElem?_eq_getElem (by omega))⟩, Lib.frozen_of_heap hb⟩
theorem far_four {w : World} {a : Addr} {b : Nat} {v u0 u1 u2 u3 : Value} (h : w.cell? a = some v) (hb : a.block ≠ b) : ((((w.setCell ⟨b, 0, none⟩ u0).setCell ⟨b, 1, none⟩ u1).setCell ⟨b, 2, none⟩ u2).setCell ⟨b, 3, none⟩ u3).cell? a = some v := by
  have ne : ∀ i, (⟨b, i, none⟩ : Addr) ≠ a := fun i e => hb (by rw [← e])
  rw [World.cell?_setCell_other _ _ _ _ (ne 3), World.cell?_setCell_other _ _ _ _ (ne 2), World.cell?_setCell_other _ _ _ _ (ne 1), World.cell?_setCell_other _ _ _ _ (ne 0)]
  exact h
theorem ask_keep {w w0 : World} {a0 a1 a2 a3 : Addr} {v0 v1 v2 v3 : Value} {g b : Nat} (c0 : w.cell? a0 = some v0) (c1 : w.cell? a1 = some v1) (c2 : w.cell? a2 = some v2) (c3 : w.cell? a3 = some v3) (hG : Below g w0 w) (hR : ResAt w b 4) (n0 : a0.block ≠ b) (n1 : a1.block ≠ b) (n2 : a2.block ≠ b) (n3 : a3.block ≠ b) (hb : g ≤ b) (u0 u1 u2 u3 : Value) :
    ((((w.setCell ⟨b, 0, none⟩ u0).setCell ⟨b, 1, none⟩ u1).setCell ⟨b, 2, none⟩ u2).setCell ⟨b, 3, none⟩ u3).cell? a0 = some v0 ∧ ((((w.setCell ⟨b, 0, none⟩ u0).setCell ⟨b, 1, none⟩ u1).setCell ⟨b, 2, none⟩ u2).setCell ⟨b, 3, none⟩ u3).cell? a1 = some v1 ∧ ((((w.setCell ⟨b, 0, none⟩ u0).setCell ⟨b, 1, none⟩ u1).setCell ⟨b, 2, none⟩ u2).setCell ⟨b, 3, none⟩ u3).cell? a2 = some v2 ∧ ((((w.setCell ⟨b, 0, none⟩ u0).setCell ⟨b, 1, none⟩ u1).setCell ⟨b, 2, none⟩ u2).setCell ⟨b, 3, none⟩ u3).cell? a3 = some v3 ∧ Below g w0 ((((w.setCell ⟨b, 0, none⟩ u0).setCell ⟨b, 1, none⟩ u1).setCell ⟨b, 2, none⟩ u2).setCell ⟨b, 3, none⟩ u3) ∧ ResAt ((((w.setCell ⟨b, 0, none⟩ u0).setCell ⟨b, 1, none⟩ u1).setCell ⟨b, 2, none⟩ u2).setCell ⟨b, 3, none⟩ u3) b 4 :=
  ⟨far_four c0 n0, far_four c1 n1, far_four c2 n2, far_four c3 n3, below_set4 hG hb _ _ _ _, (((hR.set _).set _).set _).set _⟩
theorem fold_held (x t : ByteArray) (a0 a1 a2 a3 : Addr) (v0 v1 v2 v3 : Value) (g b : Nat) (w0 w : World) (hs : x.size ≤ maxLen) (ht : Hid (mk (foldN x.data.toList) = t)) (hg : g ≤ w.heap.size) (hc : w.cell? a0 = some v0 ∧ w.cell? a1 = some v1 ∧ w.cell? a2 = some v2 ∧ w.cell? a3 = some v3 ∧ Below g w0 w ∧ ResAt w b 4) :
    Calls Try.prog 60 #[.string x] w fun e w' => e = .returned (.string t) ∧ w'.cell? a0 = some v0 ∧ w'.cell? a1 = some v1 ∧ w'.cell? a2 = some v2 ∧ w'.cell? a3 = some v3 ∧ Below g w0 w' ∧ ResAt w' b 4 := by
  obtain ⟨c0, c1, c2, c3, hH, c, ty, hr, hn⟩ := hc
  refine (fold_w x t w hs ht).mono ?_
  rintro e w' ⟨rfl, hB⟩
  exact ⟨rfl, (hB.cell (World.block_lt_of_cell? w _ c0)).trans c0, (hB.cell (World.block_lt_of_cell? w _ c1)).trans c1, (hB.cell (World.block_lt_of_cell? w _ c2)).trans c2, (hB.cell (World.block_lt_of_cell? w _ c3)).trans c3, hH.trans (hB.mono hg), c, ty, (hB.block b (Array.getElem?_eq_some_iff.1 hr).1).trans hr, hn⟩
def AskRet : Option Ky → Ending → Prop
  | none, e => e = .returned (.tuple #[.agg (kyA ⟨#[]⟩ 0 0 false), .int .i64 107])
  | some k, e => e = .returned (.tuple #[.agg (kyA (mk k.name) k.kind k.cls k.wants), .int .i64 0])
theorem askM_no {M : Msg} (h : ¬ (M.flags < 32768 ∧ opc M.flags = 0 ∧ M.qs.length = 1 ∧ M.an.length = 0 ∧ M.ns.length = 0)) : askM M = none := by
  unfold askM plainQ
  rw [decide_eq_false h]
  rfl
theorem askM_one {M : Msg} {q : Qn} (h : plainQ M = true) (hq : M.qs = [q]) : askM M = if q.kind = 41 ∨ isN q.name = false then none else some ⟨foldN q.name, q.kind, q.cls, doM M⟩ := by
  unfold askM
  rw [if_pos h, hq]
theorem firstR_ttl {k : Nat} : ∀ {L : List Rec}, (∀ R ∈ L, R.ttl ≤ 4294967295) → (firstR k L).ttl ≤ 4294967295
  | [], _ => Nat.zero_le _
  | R :: L, h => by
    unfold firstR
    split
    · exact h R (List.mem_cons_self ..)
    · exact firstR_ttl fun S hS => h S (List.mem_cons_of_mem _ hS)
set_option maxHeartbeats 8000000 in
set_option maxRecDepth 100000 in
theorem ask_w (M : Msg) (Aq Aa An Ax : Option Addr) (nq na nn nx cq ca cn cx B : Nat) (Za Zn Zx : List RecZ) (O : Option Ky) (w : World) (hv : Hid (MsgV w B M Aq Aa An Ax nq na nn nx ca cn cx Za Zn Zx)) (hB : B ≤ w.heap.size) (hf : Hid (QM M)) (hO : Hid (askM M = O)) :
    Calls Try.prog 23 #[.agg (msgA M.id M.flags Aq nq cq Aa na ca An nn cn Ax nx cx)] w fun e w' => AskRet O e ∧ Below w.heap.size w w' := by
  obtain ⟨id, hid⟩ : ∃ n, M.id = n := ⟨_, rfl⟩
  obtain ⟨fl, hfl⟩ : ∃ n, M.flags = n := ⟨_, rfl⟩
  obtain ⟨g, hg⟩ : ∃ g, w.heap.size = g := ⟨_, rfl⟩
  have hfb := hf.out.few.flags
  rw [hfl] at hfb
  rw [hid, hfl, hg]
  rw [hg] at hB
  obtain ⟨wa, hwa⟩ : ∃ wa, w.alloc (.cells (msgA id fl Aq nq cq Aa na ca An nn cn Ax nx cx) 26) = wa := ⟨_, rfl⟩
  obtain ⟨wb, hwb⟩ : ∃ wb, wa.alloc (.cells #[.string ⟨#[]⟩, .int .u16 0, .int .u16 0, .bool false] 42) = wb := ⟨_, rfl⟩
  have hsa : wa.heap.size = g + 1 := by rw [← hwa, ← hg]; simp
  have hsb : wb.heap.size = g + 2 := by rw [← hwb]; simp [hsa]
  have hba : Below g w wa := by rw [← hwa, ← hg]; exact (Below.refl _ _).alloc (Nat.le_refl _) _
  have HBB : Hid (Below g w wb) := by rw [← hwb]; exact hba.alloc (by omega) _
  have hx0 : wa.heap[g]? = some (.cells (msgA id fl Aq nq cq Aa na ca An nn cn Ax nx cx) 26 (0, 0)) := by rw [← hwa, ← hg]; exact heap_alloc_new w _
  have hx : wb.heap[g]? = some (.cells (msgA id fl Aq nq cq Aa na ca An nn cn Ax nx cx) 26 (0, 0)) := by rw [← hwb]; exact old_at hx0
  have hy : wb.heap[g + 1]? = some (.cells #[.string ⟨#[]⟩, .int .u16 0, .int .u16 0, .bool false] 42 (0, 0)) := by rw [← hwb, ← hsa]; exact heap_alloc_new wa _
  have HX := Lib.hid hx
  have HY := Lib.hid hy
  have HSB := Lib.hid hsb
  have HV := Lib.hid (hv.out.on (HBB.out.mono hB) (Nat.le_refl B))
  have k0 := cell_of_row _ _ 0 _ _ _ hx
  have k1 := cell_of_row _ _ 1 _ _ _ hx
  have k2 := cell_of_row _ _ 2 _ _ _ hx
  have k3 := cell_of_row _ _ 3 _ _ _ hx
  have k4 := cell_of_row _ _ 4 _ _ _ hx
  have k5 := cell_of_row _ _ 5 _ _ _ hx
  have hO' := hO.out
  clear hba hx0 hx hy hO hid
  obtain ⟨b1, hb1⟩ : ∃ b, decide (32768 ≤ fl) = b := ⟨_, rfl⟩
  have f1 : (bits .and .u16 (fl : Int) 32768 != 0) = b1 := by rw [qr_ne hfb]; exact hb1
  obtain ⟨E, hE⟩ : ∃ E, opc fl = E := ⟨_, rfl⟩
  have HOP := Lib.hid (fun w => opcode_any id fl Aq Aa An Ax nq cq na ca nn cn nx cx E w hfb hE)
  go_enter Try.func23, Try.ntmps23
  cases b1 with
  | true =>
    have HON : Hid (O = none) := by show _ = _; rw [← hO']; exact askM_no (fun h => by have := of_decide_eq_true hb1; have := h.1; omega)
    clear hb1 HOP hO' hfl
    have hywb := ((Below.refl (g + 2) wb).block (g + 1) (by omega)).trans HY.out
    have j0 := cell_of_row _ _ 0 _ _ _ hywb
    have j1 := cell_of_row _ _ 1 _ _ _ hywb
    have j2 := cell_of_row _ _ 2 _ _ _ hywb
    have j3 := cell_of_row _ _ 3 _ _ _ hywb
    have jf : ∀ i, wb.frozen? ⟨g + 1, i, none⟩ = false := fun i => by simp [World.frozen?, hywb]
    clear hywb
    go_wp2_with fail
    refine bodyPost_ret (v := .tuple #[.agg #[.string ⟨#[]⟩, .int .u16 0, .int .u16 0, .bool false], .int .i64 107]) (by simp [results, Try.results23, go_sem, j0, j1, j2, j3]) rfl ⟨by rw [HON.out]; rfl, below_set4 HBB.out (Nat.le_succ _) _ _ _ _⟩
  | false =>
    have hb1' := of_decide_eq_false hb1
    go_wp2_with fail
    refine (HOP.out _).mono ?_
    rintro e w1 ⟨rfl, n1⟩
    have K1 : Hid (Below (g + 2) wb w1) := by have h := n1; rw [hsb] at h; exact h
    have S1 : Hid (g + 2 ≤ w1.heap.size) := by have h := n1.size; rw [hsb] at h; exact h
    have V1 : Hid (Below g w w1) := HBB.out.trans (K1.out.mono (by omega))
    have hx1 := (K1.out.block g (by omega)).trans HX.out
    clear n1 k0 k1 k2 k3 k4 k5 hb1 HOP f1 hwa hwb
    have k0 := cell_of_row _ _ 0 _ _ _ hx1
    have k1 := cell_of_row _ _ 1 _ _ _ hx1
    have k2 := cell_of_row _ _ 2 _ _ _ hx1
    have k3 := cell_of_row _ _ 3 _ _ _ hx1
    have k4 := cell_of_row _ _ 4 _ _ _ hx1
    have k5 := cell_of_row _ _ 5 _ _ _ hx1
    have HX1 := Lib.hid hx1
    clear hx1
    by_cases hE0 : E = 0
    case neg =>
      have HON : Hid (O = none) := by show _ = _; rw [← hO']; exact askM_no (fun h => by have := h.2.1; rw [hfl] at this; omega)
      have f2 : ((E : Int) != 0) = true := bne_iff_ne.2 (by omega)
      clear hO' hfl hE hE0
      have hyw1 := (K1.out.block (g + 1) (by omega)).trans HY.out
      have j0 := cell_of_row _ _ 0 _ _ _ hyw1
      have j1 := cell_of_row _ _ 1 _ _ _ hyw1
      have j2 := cell_of_row _ _ 2 _ _ _ hyw1
      have j3 := cell_of_row _ _ 3 _ _ _ hyw1
      have jf : ∀ i, w1.frozen? ⟨g + 1, i, none⟩ = false := fun i => by simp [World.frozen?, hyw1]
      clear hyw1
      go_wp2_with fail
      refine bodyPost_ret (v := .tuple #[.agg #[.string ⟨#[]⟩, .int .u16 0, .int .u16 0, .bool false], .int .i64 107]) (by simp [results, Try.results23, go_sem, j0, j1, j2, j3]) rfl ⟨by rw [HON.out]; rfl, below_set4 V1.out (Nat.le_succ _) _ _ _ _⟩
    subst hE0
    by_cases hq1 : nq = 1
    case neg =>
      have HON : Hid (O = none) := by show _ = _; rw [← hO']; exact askM_no (fun h => by have := h.2.2.1; have := hv.out.eq; omega)
      have f2 : ((nq : Int) != 1) = true := bne_iff_ne.2 (by omega)
      clear hO' hfl hE hq1
      have hyw1 := (K1.out.block (g + 1) (by omega)).trans HY.out
      have j0 := cell_of_row _ _ 0 _ _ _ hyw1
      have j1 := cell_of_row _ _ 1 _ _ _ hyw1
      have j2 := cell_of_row _ _ 2 _ _ _ hyw1
      have j3 := cell_of_row _ _ 3 _ _ _ hyw1
      have jf : ∀ i, w1.frozen? ⟨g + 1, i, none⟩ = false := fun i => by simp [World.frozen?, hyw1]
      clear hyw1
      go_wp2_with fail
      refine bodyPost_ret (v := .tuple #[.agg #[.string ⟨#[]⟩, .int .u16 0, .int .u16 0, .bool false], .int .i64 107]) (by simp [results, Try.results23, go_sem, j0, j1, j2, j3]) rfl ⟨by rw [HON.out]; rfl, below_set4 V1.out (Nat.le_succ _) _ _ _ _⟩
    subst hq1
    by_cases ha1 : na = 0
    case neg =>
      have HON : Hid (O = none) := by show _ = _; rw [← hO']; exact askM_no (fun h => by have := h.2.2.2.1; have := hv.out.ea; omega)
      have f2 : (0 : Int) < (na : Int) := by omega
      clear hO' hfl hE ha1
      have hyw1 := (K1.out.block (g + 1) (by omega)).trans HY.out
      have j0 := cell_of_row _ _ 0 _ _ _ hyw1
      have j1 := cell_of_row _ _ 1 _ _ _ hyw1
      have j2 := cell_of_row _ _ 2 _ _ _ hyw1
      have j3 := cell_of_row _ _ 3 _ _ _ hyw1
      have jf : ∀ i, w1.frozen? ⟨g + 1, i, none⟩ = false := fun i => by simp [World.frozen?, hyw1]
      clear hyw1
      go_wp2_with fail
      refine bodyPost_ret (v := .tuple #[.agg #[.string ⟨#[]⟩, .int .u16 0, .int .u16 0, .bool false], .int .i64 107]) (by simp [results, Try.results23, go_sem, j0, j1, j2, j3]) rfl ⟨by rw [HON.out]; rfl, below_set4 V1.out (Nat.le_succ _) _ _ _ _⟩
    subst ha1
    by_cases hn1 : nn = 0
    case neg =>
      have HON : Hid (O = none) := by show _ = _; rw [← hO']; exact askM_no (fun h => by have := h.2.2.2.2; have := hv.out.en; omega)
      have f2 : (0 : Int) < (nn : Int) := by omega
      clear hO' hfl hE hn1
      have hyw1 := (K1.out.block (g + 1) (by omega)).trans HY.out
      have j0 := cell_of_row _ _ 0 _ _ _ hyw1
      have j1 := cell_of_row _ _ 1 _ _ _ hyw1
      have j2 := cell_of_row _ _ 2 _ _ _ hyw1
      have j3 := cell_of_row _ _ 3 _ _ _ hyw1
      have jf : ∀ i, w1.frozen? ⟨g + 1, i, none⟩ = false := fun i => by simp [World.frozen?, hyw1]
      clear hyw1
      go_wp2_with fail
      refine bodyPost_ret (v := .tuple #[.agg #[.string ⟨#[]⟩, .int .u16 0, .int .u16 0, .bool false], .int .i64 107]) (by simp [results, Try.results23, go_sem, j0, j1, j2, j3]) rfl ⟨by rw [HON.out]; rfl, below_set4 V1.out (Nat.le_succ _) _ _ _ _⟩
    subst hn1
    obtain ⟨q, hqs⟩ : ∃ q, M.qs = [q] := List.length_eq_one_iff.1 hv.out.eq
    have hpl : plainQ M = true := decide_eq_true ⟨by rw [hfl]; omega, by rw [hfl]; exact hE, hv.out.eq, hv.out.ea, hv.out.en⟩
    have hask := askM_one hpl hqs
    rw [hO'] at hask
    have hl0 : 0 < M.qs.length := by rw [hqs]; exact Nat.zero_lt_one
    obtain ⟨bq, off, rfl, hbq, p0, p1, p2⟩ := (HV.out.at_.q.on (K1.out.mono (show B ≤ g + 2 by omega)) (Nat.le_refl _)).qn hl0
    have hgq : M.qs[0] = q := by simp [hqs]
    rw [hgq] at p0 p1 p2
    simp only [Nat.zero_mul, Nat.add_zero] at p0 p1 p2
    have hqb := hf.out.few.qs q (by rw [hqs]; exact List.mem_singleton_self _)
    have hqr : M.ad ⊆ M.ad := fun _ h => h
    have hrec := fun R (hR : R ∈ M.ad) => hf.out.recs R (by unfold recsM; exact List.mem_append_right _ hR)
    have HREC := Lib.hid hrec
    have HASK := Lib.hid hask
    obtain ⟨x, hx⟩ : ∃ x, mk q.name = x := ⟨_, rfl⟩
    obtain ⟨qk, hqk⟩ : ∃ k, q.kind = k := ⟨_, rfl⟩
    obtain ⟨qc, hqc⟩ : ∃ k, q.cls = k := ⟨_, rfl⟩
    rw [hx] at p0
    rw [hqk] at p1
    rw [hqc] at p2
    have hxl : x.data.toList = q.name := by rw [← hx, mk_list]
    have hxs : x.size ≤ maxLen := by rw [Lib.size_eq, hxl]; exact hqb.1
    obtain ⟨b2, hb2⟩ : ∃ b, w1.heap.size = b := ⟨_, rfl⟩
    obtain ⟨w2, hw2⟩ : ∃ w2, w1.alloc (.cells #[.string x, .int .u16 qk, .int .u16 qc] 62) = w2 := ⟨_, rfl⟩
    have n2 : Below b2 w1 w2 := by rw [← hw2, ← hb2]; exact (Below.refl _ _).alloc (Nat.le_refl _) _
    have HZ : Hid (w2.heap[b2]? = some (.cells #[.string x, .int .u16 qk, .int .u16 qc] 62 (0, 0))) := by rw [← hw2, ← hb2]; exact heap_alloc_new w1 _
    have hb2g : g + 2 ≤ b2 := by rw [← hb2]; exact S1.out
    have S2 : Hid (w2.heap.size = b2 + 1) := by show _ = _; rw [← hw2, ← hb2]; simp
    have K2 : Hid (Below (g + 2) wb w2) := K1.out.trans (n2.mono hb2g)
    have V2 : Hid (Below g w w2) := HBB.out.trans (K2.out.mono (by omega))
    have HW2 := Lib.hid hw2
    clear n2 hgq hl0 hask hrec hqr hw2
    go_upto_region 4 with fail
    rw [HW2.out]
    clear hb2
    have m0 := cell_of_row _ _ 0 _ _ _ HZ.out
    have m1 := cell_of_row _ _ 1 _ _ _ HZ.out
    have m2 := cell_of_row _ _ 2 _ _ _ HZ.out
    by_cases hk41 : qk = 41
    case pos =>
      have HON : Hid (O = none) := by show _ = _; rw [HASK.out, if_pos (.inl (hqk.trans hk41))]
      have f2 : ((qk : Int) == 41) = true := beq_iff_eq.2 (by omega)
      clear hk41 hqk hqc p0 p1 p2 k0 k1 k2 k3 k4 k5
      have hyw2 := (K2.out.block (g + 1) (by omega)).trans HY.out
      have j0 := cell_of_row _ _ 0 _ _ _ hyw2
      have j1 := cell_of_row _ _ 1 _ _ _ hyw2
      have j2 := cell_of_row _ _ 2 _ _ _ hyw2
      have j3 := cell_of_row _ _ 3 _ _ _ hyw2
      have jf : ∀ i, w2.frozen? ⟨g + 1, i, none⟩ = false := fun i => by simp [World.frozen?, hyw2]
      clear hyw2
      go_wp2_with fail
      refine bodyPost_ret (v := .tuple #[.agg #[.string ⟨#[]⟩, .int .u16 0, .int .u16 0, .bool false], .int .i64 107]) (by simp [results, Try.results23, go_sem, j0, j1, j2, j3]) rfl ⟨by rw [HON.out]; rfl, below_set4 V2.out (Nat.le_succ _) _ _ _ _⟩
    have f2 : ((qk : Int) == 41) = false := beq_eq_false_iff_ne.2 (by omega)
    obtain ⟨bn, hbn⟩ : ∃ b, isN q.name = b := ⟨_, rfl⟩
    have hbx : isN x.data.toList = bn := by rw [hxl]; exact hbn
    have HIS := Lib.hid (fun w => is_w x bn w hxs hbx)
    go_wp2_with fail
    refine (HIS.out _).mono ?_
    rintro e w' ⟨rfl, rfl⟩
    cases bn with
    | false =>
      have HON : Hid (O = none) := by show _ = _; rw [HASK.out, if_pos (.inr hbn)]
      clear hqk hqc p0 p1 p2 k0 k1 k2 k3 k4 k5 hbn hbx HIS
      have hyw2 := (K2.out.block (g + 1) (by omega)).trans HY.out
      have j0 := cell_of_row _ _ 0 _ _ _ hyw2
      have j1 := cell_of_row _ _ 1 _ _ _ hyw2
      have j2 := cell_of_row _ _ 2 _ _ _ hyw2
      have j3 := cell_of_row _ _ 3 _ _ _ hyw2
      have jf : ∀ i, w2.frozen? ⟨g + 1, i, none⟩ = false := fun i => by simp [World.frozen?, hyw2]
      clear hyw2
      go_wp2_with fail
      refine bodyPost_ret (v := .tuple #[.agg #[.string ⟨#[]⟩, .int .u16 0, .int .u16 0, .bool false], .int .i64 107]) (by simp [results, Try.results23, go_sem, j0, j1, j2, j3]) rfl ⟨by rw [HON.out]; rfl, below_set4 V2.out (Nat.le_succ _) _ _ _ _⟩
    | true =>
    have hx2 := (K2.out.block g (by omega)).trans HX.out
    clear k0 k1 k2 k3 k4 k5 p0 p1 p2 HIS hbx
    have k5 := cell_of_row _ _ 5 _ _ _ hx2
    obtain ⟨RO, hRO⟩ : ∃ R, firstR 41 M.ad = R := ⟨_, rfl⟩
    have hxr := hv.out.rows.2.2
    have HFI := Lib.hid (fun W (h : Below g w W) (hs : g ≤ W.heap.size) => first_is Ax cx nx 41 B Zx M.ad RO W (hv.out.at_.x.on (h.mono hB) (Nat.le_refl _)) (hv.out.at_.zx.on (h.mono hB) (Nat.le_refl _)) hv.out.at_.ex hxr.2.1 (by have := hf.out.few.nx; have := hv.out.ex; omega) (by omega) hRO)
    have hROb : RO.ttl ≤ 4294967295 := by rw [← hRO]; exact firstR_ttl (fun R hR => (HREC.out R hR).2.2.2)
    have HON : Hid (O = some ⟨foldN q.name, qk, qc, doB RO.ttl⟩) := by
      show _ = _
      rw [HASK.out, if_neg (by rw [hqk, hbn]; simp; omega), hqk, hqc, ← hRO]
      rfl
    clear hx2 hqk hqc hbn hxr hRO
    go_wp2_with fail
    refine (HFI.out _ V2.out (by have := S2.out; omega)).mono ?_
    rintro e w3 ⟨v, rfl, hRV, n3⟩
    obtain ⟨A1, c1, A2, c2, A3, c3, rfl, _⟩ := hRV
    have n3' : Below (b2 + 1) w2 w3 := by have h := n3; rw [S2.out] at h; exact h
    have K3 : Hid (Below (g + 2) wb w3) := K2.out.trans (n3'.mono (by omega))
    have s3 : b2 + 1 ≤ w3.heap.size := by have h := n3'.size; rw [S2.out] at h; exact h
    have HZ3 := Lib.hid ((n3'.block b2 (Nat.lt_succ_self b2)).trans HZ.out)
    obtain ⟨b3, hb3⟩ : ∃ b, w3.heap.size = b := ⟨_, rfl⟩
    obtain ⟨w4, hw4⟩ : ∃ w4, w3.alloc (.cells #[.string (mk RO.name), .int .u16 RO.kind, .int .u16 RO.cls, .int .u32 RO.ttl, .slice A1 RO.names.length c1, .slice A2 RO.nums.length c2, .slice A3 RO.texts.length c3] 60) = w4 := ⟨_, rfl⟩
    have n4 : Below b3 w3 w4 := by rw [← hw4, ← hb3]; exact (Below.refl _ _).alloc (Nat.le_refl _) _
    have HR4 : Hid (w4.heap[b3]? = some (.cells #[.string (mk RO.name), .int .u16 RO.kind, .int .u16 RO.cls, .int .u32 RO.ttl, .slice A1 RO.names.length c1, .slice A2 RO.nums.length c2, .slice A3 RO.texts.length c3] 60 (0, 0))) := by rw [← hw4, ← hb3]; exact heap_alloc_new w3 _
    have S4 : Hid (w4.heap.size = b3 + 1) := by show _ = _; rw [← hw4, ← hb3]; simp
    have hb3g : b2 + 1 ≤ b3 := by rw [← hb3]; exact s3
    have K4 : Hid (Below (g + 2) wb w4) := K3.out.trans (n4.mono (by omega))
    have HZ4 := Lib.hid ((n4.block b2 (by omega)).trans HZ3.out)
    have HW4 := Lib.hid hw4
    clear n3 n3' n4 hw4 s3 k5 m0 m1 m2 HFI
    go_upto_region 7 with fail
    rw [HW4.out]
    clear hb3
    obtain ⟨t, ht⟩ : ∃ t, mk (foldN q.name) = t := ⟨_, rfl⟩
    have htx : mk (foldN x.data.toList) = t := by rw [hxl]; exact ht
    obtain ⟨z, hz⟩ : ∃ z, doB RO.ttl = z := ⟨_, rfl⟩
    have fz : (bits .and .u32 (RO.ttl : Int) 32768 != 0) = z := by rw [do_ne hROb]; exact hz
    have V4 : Hid (Below g w w4) := HBB.out.trans (K4.out.mono (by omega))
    have m0 := cell_of_row _ _ 0 _ _ _ HZ4.out
    have m1 := cell_of_row _ _ 1 _ _ _ HZ4.out
    have m2 := cell_of_row _ _ 2 _ _ _ HZ4.out
    have r3 := cell_of_row _ _ 3 _ _ _ HR4.out
    have h0 : Below g w w4.drew := V4.out.drew
    have h1 : ResAt w4.drew (g + 1) 4 := ⟨_, _, (K4.out.block (g + 1) (by omega)).trans HY.out, rfl⟩
    have n2 : b2 ≠ g + 1 := by omega
    have n3 : b3 ≠ g + 1 := by omega
    have HFO := Lib.hid (fun W hs h => fold_held x t ⟨b2, 0, none⟩ ⟨b2, 1, none⟩ ⟨b2, 2, none⟩ ⟨b3, 3, none⟩ (.string x) (.int .u16 qk) (.int .u16 qc) (.int .u32 RO.ttl) g (g + 1) w W hxs htx hs h)
    have HGW : Hid (∀ W : World, W.cell? ⟨b2, 0, none⟩ = some (.string x) → g ≤ W.heap.size) := fun W h => by have h2 : b2 < W.heap.size := World.block_lt_of_cell? W _ h; omega
    have HT := Lib.hid ht
    have HZZ := Lib.hid hz
    clear ht htx hz
    go_region_held3 (fun w' => w'.cell? ⟨b2, 0, none⟩ = some (.string x) ∧ w'.cell? ⟨b2, 1, none⟩ = some (.int .u16 qk) ∧ w'.cell? ⟨b2, 2, none⟩ = some (.int .u16 qc) ∧ w'.cell? ⟨b3, 3, none⟩ = some (.int .u32 RO.ttl) ∧ Below g w w' ∧ ResAt w' (g + 1) 4) (first | go_keep | exact ask_keep c0 c1 c2 c3 hG5 hR5 n2 n2 n2 n3 (Nat.le_succ g) _ _ _ _) (first | (go_at_call 60; (with_reducible refine (HFO.out _ (HGW.out _ ?_) ?_).mono ?_); (simp [*]); (simp [*]); rintro e w5 ⟨rfl, c0, c1, c2, c3, hG5, hR5⟩; obtain ⟨⟨y0, j0⟩, ⟨y1, j1⟩, ⟨y2, j2⟩, ⟨y3, j3⟩, jf⟩ := hR5.four))
    go_wp2_with fail
    refine bodyPost_ret (v := .tuple #[.agg #[.string t, .int .u16 qk, .int .u16 qc, .bool z], .int .i64 0]) (by simp [results, Try.results23, go_sem, j0, j1, j2, j3]) rfl ⟨by rw [HON.out]; show _ = _; rw [HT.out, HZZ.out], below_set4 hG5 (Nat.le_succ _) _ _ _ _⟩
end Go.Proofs.Ytpmmjmnleoicjaa

/- The contract of query's Make. For names of at most 10^6 bytes. -/
namespace Go.Proofs.Ytpmmjmnleoicjaa
open Go.RowKit Bytes Strs Nums NameMath MsgMath RecMath WrMath QrMath

theorem cells_one {w : World} {b n : Nat} {cs : Array Value} {t : TypeId} {fz : Nat × Nat} {xs : List Value} (h : w.heap[b]? = some (.cells cs t fz)) (hx : xs = cs.toList) (hb : b < n) : CellsAt w n (some ⟨b, 0, none⟩) xs := by
  subst hx
  refine .inr ⟨b, 0, rfl, hb, fun j u hj => ?_⟩
  rw [Nat.zero_add]
  rw [Array.getElem?_toList] at hj
  exact (cell_of_row _ _ j _ _ _ h).trans hj
theorem zAt_nil (w : World) (B : Nat) : ZAt w B [] := fun z hz => by cases hz
theorem cells_nil (w : World) (B : Nat) (A : Option Addr) : CellsAt w B A [] := .inl rfl
/-- The OPT of a query, its lists. -/
def optZ (b : Nat) : List RecZ := [(optR, .slice none 0 0, .slice none 0 0, .slice (some ⟨b, 0, none⟩) 1 1)]
theorem optZ_at {w : World} {b n : Nat} {t : TypeId} {fz : Nat × Nat} (h : w.heap[b]? = some (.cells #[.string ⟨#[]⟩] t fz)) (hb : b < n) : ZAt w n (optZ b) := fun z hz => by
  have e := List.mem_singleton.1 hz
  subst e
  refine ⟨none, 0, none, 0, some ⟨b, 0, none⟩, 1, rfl, rfl, rfl, ⟨rfl, rfl, rfl, rfl, rfl, rfl, rfl, RdS.void _ _ _, RdN.void _ _ _, fun _ => ⟨_, rfl, hb, fun k hk => ?_⟩⟩⟩
  obtain rfl : k = 0 := by have : k < 1 := hk; omega
  exact cell_of_row _ _ 0 _ _ _ h
/-- A query that was made, as the call has it. -/
def MadeQ (M : Msg) (g : Nat) (w : World) (e : Ending) (w' : World) : Prop :=
  ∃ Aq Ax nx cx Zx, e = .returned (.agg (msgA M.id M.flags Aq 1 1 none 0 0 none 0 0 Ax nx cx)) ∧ MsgV w' w'.heap.size M Aq none none Ax 1 0 0 nx 0 0 cx [] [] Zx ∧ nx ≤ 1 ∧ Below g w w'
theorem makeV_none {w : World} {id b n : Nat} {k : Ky} {t : TypeId} {fz : Nat × Nat} (hk : k.wants = false) (h : w.heap[b]? = some (.cells #[.string (mk k.name), .int .u16 k.kind, .int .u16 k.cls] t fz)) (hb : b < n) : MsgV w n (makeM id k) (some ⟨b, 0, none⟩) none none none 1 0 0 0 0 0 0 [] [] [] := by
  unfold makeM
  rw [if_neg (by rw [hk]; decide)]
  exact ⟨⟨cells_one h rfl hb, cells_nil _ _ _, cells_nil _ _ _, cells_nil _ _ _, zAt_nil _ _, zAt_nil _ _, zAt_nil _ _, rfl, rfl, rfl⟩, rfl, rfl, rfl, rfl, fun _ => rfl, fun _ => rfl, fun _ => rfl⟩
theorem makeV_some {w : World} {id b b2 b3 n : Nat} {k : Ky} {t t2 t3 : TypeId} {fz fz2 fz3 : Nat × Nat} (hk : k.wants = true) (h : w.heap[b]? = some (.cells #[.string (mk k.name), .int .u16 k.kind, .int .u16 k.cls] t fz)) (hb : b < n)
    (h2 : w.heap[b2]? = some (.cells #[.string ⟨#[]⟩] t2 fz2)) (hb2 : b2 < n) (h3 : w.heap[b3]? = some (.cells #[.string ⟨#[0]⟩, .int .u16 41, .int .u16 65535, .int .u32 32768, .slice none 0 0, .slice none 0 0, .slice (some ⟨b2, 0, none⟩) 1 1] t3 fz3)) (hb3 : b3 < n) : MsgV w n (makeM id k) (some ⟨b, 0, none⟩) none none (some ⟨b3, 0, none⟩) 1 0 0 1 0 0 1 [] [] (optZ b2) := by
  unfold makeM
  rw [if_pos hk]
  exact ⟨⟨cells_one h rfl hb, cells_nil _ _ _, cells_nil _ _ _, cells_one h3 rfl hb3, zAt_nil _ _, zAt_nil _ _, optZ_at h2 hb2, rfl, rfl, rfl⟩, rfl, rfl, rfl, rfl, fun _ => rfl, fun _ => rfl, fun h => by cases h⟩
theorem below_set6 {B g : Nat} {w w' : World} (h : Below B w w') (hg : B ≤ g) (v0 v1 v2 v3 v4 v5 : Value) : Below B w ((((((w'.setCell ⟨g, 0, none⟩ v0).setCell ⟨g, 1, none⟩ v1).setCell ⟨g, 2, none⟩ v2).setCell ⟨g, 3, none⟩ v3).setCell ⟨g, 4, none⟩ v4).setCell ⟨g, 5, none⟩ v5) := by
  have h0 := h.setCell (p := ⟨g, 0, none⟩) hg v0
  have h1 := h0.setCell (p := ⟨g, 1, none⟩) hg v1
  have h2 := h1.setCell (p := ⟨g, 2, none⟩) hg v2
  have h3 := h2.setCell (p := ⟨g, 3, none⟩) hg v3
  have h4 := h3.setCell (p := ⟨g, 4, none⟩) hg v4
  exact h4.setCell (p := ⟨g, 5, none⟩) hg v5
theorem far_six {w : World} {b g : Nat} {o : Option Obj} {v0 v1 v2 v3 v4 v5 : Value} (h : w.heap[b]? = o) (hb : b ≠ g) : ((((((w.setCell ⟨g, 0, none⟩ v0).setCell ⟨g, 1, none⟩ v1).setCell ⟨g, 2, none⟩ v2).setCell ⟨g, 3, none⟩ v3).setCell ⟨g, 4, none⟩ v4).setCell ⟨g, 5, none⟩ v5).heap[b]? = o := by
  rw [Go.Deep.blk_setCell_other _ _ _ _ hb, Go.Deep.blk_setCell_other _ _ _ _ hb, Go.Deep.blk_setCell_other _ _ _ _ hb, Go.Deep.blk_setCell_other _ _ _ _ hb, Go.Deep.blk_setCell_other _ _ _ _ hb, Go.Deep.blk_setCell_other _ _ _ _ hb]
  exact h
theorem set_at {w : World} {g i : Nat} {cs ds : Array Value} {t : TypeId} {fz : Nat × Nat} {v : Value} (h : w.heap[g]? = some (.cells cs t fz)) (hd : cs.setIfInBounds i v = ds) : (w.setCell ⟨g, i, none⟩ v).heap[g]? = some (.cells ds t fz) := by
  subst hd
  simp [World.setCell, Array.getElem?_modify, h]
theorem set_far {w : World} {g j i : Nat} {v : Value} {o : Option Obj} (h : w.heap[g]? = o) (hne : g ≠ j) : (w.setCell ⟨j, i, none⟩ v).heap[g]? = o := by
  rw [Go.Deep.blk_setCell_other _ _ _ _ hne]; exact h
theorem size_six (w : World) (g : Nat) (v0 v1 v2 v3 v4 v5 : Value) : ((((((w.setCell ⟨g, 0, none⟩ v0).setCell ⟨g, 1, none⟩ v1).setCell ⟨g, 2, none⟩ v2).setCell ⟨g, 3, none⟩ v3).setCell ⟨g, 4, none⟩ v4).setCell ⟨g, 5, none⟩ v5).heap.size = w.heap.size := by
  rw [Go.Deep.nblk_setCell, Go.Deep.nblk_setCell, Go.Deep.nblk_setCell, Go.Deep.nblk_setCell, Go.Deep.nblk_setCell, Go.Deep.nblk_setCell]
set_option maxHeartbeats 8000000 in
set_option maxRecDepth 100000 in
theorem make_is (id : Nat) (x : ByteArray) (k l : Nat) (d : Bool) (w : World) (hs : x.size ≤ 1000000) :
    Calls Try.prog 25 #[.int .u16 id, .agg (kyA x k l d)] w (MadeQ (makeM id ⟨x.data.toList, k, l, d⟩) w.heap.size w) := by
  obtain ⟨g, hg⟩ : ∃ g, w.heap.size = g := ⟨_, rfl⟩
  rw [hg]
  obtain ⟨wa, hwa⟩ : ∃ wa, w.alloc (.cells (kyA x k l d) 42) = wa := ⟨_, rfl⟩
  obtain ⟨wb, hwb⟩ : ∃ wb, wa.alloc (.cells #[.int .u16 0, .int .u16 0, .slice none 0 0, .slice none 0 0, .slice none 0 0, .slice none 0 0] 26) = wb := ⟨_, rfl⟩
  have hsa : wa.heap.size = g + 1 := by rw [← hwa, ← hg]; simp
  have hsb : wb.heap.size = g + 2 := by rw [← hwb]; simp [hsa]
  have hba : Below g w wa := by rw [← hwa, ← hg]; exact (Below.refl _ _).alloc (Nat.le_refl _) _
  have HBB : Hid (Below g w wb) := by rw [← hwb]; exact hba.alloc (by omega) _
  have hx0 : wa.heap[g]? = some (.cells (kyA x k l d) 42 (0, 0)) := by rw [← hwa, ← hg]; exact heap_alloc_new w _
  have HX : Hid (wb.heap[g]? = some (.cells (kyA x k l d) 42 (0, 0))) := by rw [← hwb]; exact old_at hx0
  have HY : Hid (wb.heap[g + 1]? = some (.cells #[.int .u16 0, .int .u16 0, .slice none 0 0, .slice none 0 0, .slice none 0 0, .slice none 0 0] 26 (0, 0))) := by rw [← hwb, ← hsa]; exact heap_alloc_new wa _
  have k0 := cell_of_row _ _ 0 _ _ _ HX.out
  have k1 := cell_of_row _ _ 1 _ _ _ HX.out
  have k2 := cell_of_row _ _ 2 _ _ _ HX.out
  have k3 := cell_of_row _ _ 3 _ _ _ HX.out
  clear hba hx0
  go_enter Try.func25, Try.ntmps25
  go_wp2_with fail
  refine (qof_any x k l d _).mono ?_
  rintro e w1 ⟨rfl, n1⟩
  have K1 : Hid (Below (g + 2) wb w1) := by have h := n1; rw [hsb] at h; exact h
  have S1 : Hid (g + 2 ≤ w1.heap.size) := by have h := n1.size; rw [hsb] at h; exact h
  obtain ⟨b1, hb1⟩ : ∃ b, w1.heap.size = b := ⟨_, rfl⟩
  obtain ⟨w2, hw2⟩ : ∃ w2, w1.alloc (.cells #[.string x, .int .u16 k, .int .u16 l] 62) = w2 := ⟨_, rfl⟩
  have n2 : Below b1 w1 w2 := by rw [← hw2, ← hb1]; exact (Below.refl _ _).alloc (Nat.le_refl _) _
  have HQ2 : Hid (w2.heap[b1]? = some (.cells #[.string x, .int .u16 k, .int .u16 l] 62 (0, 0))) := by rw [← hw2, ← hb1]; exact heap_alloc_new w1 _
  have S2 : Hid (w2.heap.size = b1 + 1) := by show _ = _; rw [← hw2, ← hb1]; simp
  have G1 : Hid (g + 2 ≤ b1) := by rw [← hb1]; exact S1.out
  have K2 : Hid (Below (g + 2) wb w2) := K1.out.trans (n2.mono G1.out)
  have HW2 := Lib.hid hw2
  clear n1 n2 hw2 hwa hwb k0 k1 k2 k3
  go_upto_region 2 with fail
  rw [HW2.out]
  clear hb1
  have m0 := cell_of_row _ _ 0 _ _ _ HQ2.out
  go_wp2_with fail
  refine (clone_any x _ hs).mono ?_
  rintro e w3 ⟨rfl, n3⟩
  have L3 : Hid (Below (b1 + 1) w2 w3) := by have h := n3; rw [S2.out] at h; exact h
  have S3 : Hid (b1 + 1 ≤ w3.heap.size) := by have h := n3.size; rw [S2.out] at h; exact h
  have HQ3 : Hid (w3.heap[b1]? = some (.cells #[.string x, .int .u16 k, .int .u16 l] 62 (0, 0))) := (L3.out.block b1 (Nat.lt_succ_self b1)).trans HQ2.out
  obtain ⟨w4, hw4⟩ : ∃ w4, w3.setCell ⟨b1, 0, none⟩ (.string x) = w4 := ⟨_, rfl⟩
  have HQ4 : Hid (w4.heap[b1]? = some (.cells #[.string x, .int .u16 k, .int .u16 l] 62 (0, 0))) := by rw [← hw4]; exact set_at HQ3.out rfl
  have K4 : Hid (Below (g + 2) wb w4) := by rw [← hw4]; exact (K2.out.trans (L3.out.mono (by have := G1.out; omega))).setCell (p := ⟨b1, 0, none⟩) G1.out _
  have S4 : Hid (b1 + 1 ≤ w4.heap.size) := by show _ ≤ _; rw [← hw4, Go.Deep.nblk_setCell]; exact S3.out
  have m0 := cell_of_row _ _ 0 _ _ _ HQ3.out
  have mf : ∀ i, w3.frozen? ⟨b1, i, none⟩ = false := Lib.frozen_of_heap HQ3.out
  have HW4 := Lib.hid hw4
  clear n3 hw4
  go_upto_region 3 with fail
  rw [HW4.out]
  clear m0 mf
  have m0 := cell_of_row _ _ 0 _ _ _ HQ4.out
  have m1 := cell_of_row _ _ 1 _ _ _ HQ4.out
  have m2 := cell_of_row _ _ 2 _ _ _ HQ4.out
  obtain ⟨b2, hb2⟩ : ∃ b, w4.heap.size = b := ⟨_, rfl⟩
  obtain ⟨w5, hw5⟩ : ∃ v, w4.alloc (.cells #[.string x, .int .u16 k, .int .u16 l] 62) = v := ⟨_, rfl⟩
  have S5 : w5.heap.size = b2 + 1 := by rw [← hw5, ← hb2]; simp
  have n5 : Below b2 w4 w5 := by rw [← hw5, ← hb2]; exact (Below.refl _ _).alloc (Nat.le_refl _) _
  have HN5 : Hid (w5.heap[b2]? = some (.cells #[.string x, .int .u16 k, .int .u16 l] 62 (0, 0))) := by rw [← hw5, ← hb2]; exact heap_alloc_new w4 _
  obtain ⟨w6, hw6⟩ : ∃ v, w5.alloc (.cells #[.int .u16 id, .int .u16 256, .slice (some ⟨b2, 0, none⟩) 1 1, .slice none 0 0, .slice none 0 0, .slice none 0 0] 26) = v := ⟨_, rfl⟩
  have S6 : w6.heap.size = b2 + 2 := by rw [← hw6]; simp [S5]
  have n6 : Below (b2 + 1) w5 w6 := by rw [← hw6, ← S5]; exact (Below.refl _ _).alloc (Nat.le_refl _) _
  have HM6 : Hid (w6.heap[b2 + 1]? = some (.cells #[.int .u16 id, .int .u16 256, .slice (some ⟨b2, 0, none⟩) 1 1, .slice none 0 0, .slice none 0 0, .slice none 0 0] 26 (0, 0))) := by rw [← hw6, ← S5]; exact heap_alloc_new w5 _
  have G2 : Hid (b1 + 1 ≤ b2) := by rw [← hb2]; exact S4.out
  have HN6 : Hid (w6.heap[b2]? = some (.cells #[.string x, .int .u16 k, .int .u16 l] 62 (0, 0))) := (n6.block b2 (Nat.lt_succ_self b2)).trans HN5.out
  have K6 : Hid (Below (g + 2) wb w6) := (K4.out.trans (n5.mono (by have := G1.out; have := G2.out; omega))).trans (n6.mono (by have := G1.out; have := G2.out; omega))
  have HW5 := Lib.hid hw5
  have HW6 := Lib.hid hw6
  have SS6 := Lib.hid S6
  have HX6 := Lib.hid ((K6.out.block g (by omega)).trans HX.out)
  have HY6 := Lib.hid ((K6.out.block (g + 1) (by omega)).trans HY.out)
  clear n5 n6 hw6
  go_upto_region 4 with fail
  rw [HW6.out]
  clear hb2 hw5 S5 S6 m0 m1 m2
  have k3 := cell_of_row _ _ 3 _ _ _ HX6.out
  cases d with
  | false =>
    have e0 := cell_of_row _ _ 0 _ _ _ HM6.out
    have e1 := cell_of_row _ _ 1 _ _ _ HM6.out
    have e2 := cell_of_row _ _ 2 _ _ _ HM6.out
    have e3 := cell_of_row _ _ 3 _ _ _ HM6.out
    have e4 := cell_of_row _ _ 4 _ _ _ HM6.out
    have e5 := cell_of_row _ _ 5 _ _ _ HM6.out
    have j0 := cell_of_row _ _ 0 _ _ _ HY6.out
    have j1 := cell_of_row _ _ 1 _ _ _ HY6.out
    have j2 := cell_of_row _ _ 2 _ _ _ HY6.out
    have j3 := cell_of_row _ _ 3 _ _ _ HY6.out
    have j4 := cell_of_row _ _ 4 _ _ _ HY6.out
    have j5 := cell_of_row _ _ 5 _ _ _ HY6.out
    have jf : ∀ i, w6.frozen? ⟨g + 1, i, none⟩ = false := Lib.frozen_of_heap HY6.out
    go_wp2_with fail
    have hN := far_six (g := g + 1) (v0 := .int .u16 id) (v1 := .int .u16 256) (v2 := .slice (some ⟨b2, 0, none⟩) 1 1) (v3 := .slice none 0 0) (v4 := .slice none 0 0) (v5 := .slice none 0 0) HN6.out (by have := G1.out; have := G2.out; omega)
    refine bodyPost_ret (v := .agg (msgA id 256 (some ⟨b2, 0, none⟩) 1 1 none 0 0 none 0 0 none 0 0)) (by simp [results, Try.results25, go_sem, j0, j1, j2, j3, j4, j5]) rfl ⟨_, none, 0, 0, [], rfl, makeV_none rfl (by rw [mk_data]; exact hN) (by rw [size_six, SS6.out]; omega), by decide, below_set6 (HBB.out.trans (K6.out.mono (by omega))) (Nat.le_succ _) _ _ _ _ _ _⟩
  | true =>
    obtain ⟨w7, hw7⟩ : ∃ v, w6.alloc (.cells #[.string ⟨#[]⟩] 9) = v := ⟨_, rfl⟩
    have S7 : w7.heap.size = b2 + 3 := by rw [← hw7]; simp [SS6.out]
    have n7 : Below (b2 + 2) w6 w7 := by rw [← hw7, ← SS6.out]; exact (Below.refl _ _).alloc (Nat.le_refl _) _
    have hs7 : w7.heap[b2 + 2]? = some (.cells #[.string ⟨#[]⟩] 9 (0, 0)) := by rw [← hw7, ← SS6.out]; exact heap_alloc_new w6 _
    obtain ⟨w8, hw8⟩ : ∃ v, w7.alloc (.cells #[.string ⟨#[0]⟩, .int .u16 41, .int .u16 65535, .int .u32 32768, .slice none 0 0, .slice none 0 0, .slice (some ⟨b2 + 2, 0, none⟩) 1 1] 60) = v := ⟨_, rfl⟩
    have S8 : w8.heap.size = b2 + 4 := by rw [← hw8]; simp [S7]
    have n8 : Below (b2 + 3) w7 w8 := by rw [← hw8, ← S7]; exact (Below.refl _ _).alloc (Nat.le_refl _) _
    have hr8 : w8.heap[b2 + 3]? = some (.cells #[.string ⟨#[0]⟩, .int .u16 41, .int .u16 65535, .int .u32 32768, .slice none 0 0, .slice none 0 0, .slice (some ⟨b2 + 2, 0, none⟩) 1 1] 60 (0, 0)) := by rw [← hw8, ← S7]; exact heap_alloc_new w7 _
    have hs8 := (n8.block (b2 + 2) (by omega)).trans hs7
    have n68 : Below (b2 + 2) w6 w8 := n7.trans (n8.mono (by omega))
    have HN8 := Lib.hid ((n68.block b2 (by omega)).trans HN6.out)
    have HM8 := Lib.hid ((n68.block (b2 + 1) (by omega)).trans HM6.out)
    have HY8 := Lib.hid ((n68.block (g + 1) (by have := G1.out; have := G2.out; omega)).trans HY6.out)
    have K8 : Hid (Below (g + 2) wb w8) := K6.out.trans (n68.mono (by have := G1.out; have := G2.out; omega))
    obtain ⟨w9, hw9⟩ : ∃ v, w8.setCell ⟨b2 + 1, 5, none⟩ (.slice (some ⟨b2 + 3, 0, none⟩) 1 1) = v := ⟨_, rfl⟩
    have HM9 : Hid (w9.heap[b2 + 1]? = some (.cells #[.int .u16 id, .int .u16 256, .slice (some ⟨b2, 0, none⟩) 1 1, .slice none 0 0, .slice none 0 0, .slice (some ⟨b2 + 3, 0, none⟩) 1 1] 26 (0, 0))) := by rw [← hw9]; exact set_at HM8.out rfl
    have HN9 : Hid (w9.heap[b2]? = some (.cells #[.string x, .int .u16 k, .int .u16 l] 62 (0, 0))) := by rw [← hw9]; exact set_far HN8.out (by omega)
    have HS9 : Hid (w9.heap[b2 + 2]? = some (.cells #[.string ⟨#[]⟩] 9 (0, 0))) := by rw [← hw9]; exact set_far hs8 (by omega)
    have HR9 : Hid (w9.heap[b2 + 3]? = some (.cells #[.string ⟨#[0]⟩, .int .u16 41, .int .u16 65535, .int .u32 32768, .slice none 0 0, .slice none 0 0, .slice (some ⟨b2 + 2, 0, none⟩) 1 1] 60 (0, 0))) := by rw [← hw9]; exact set_far hr8 (by omega)
    have HY9 : Hid (w9.heap[g + 1]? = some (.cells #[.int .u16 0, .int .u16 0, .slice none 0 0, .slice none 0 0, .slice none 0 0, .slice none 0 0] 26 (0, 0))) := by rw [← hw9]; exact set_far HY8.out (by have := G1.out; have := G2.out; omega)
    have S9 : Hid (w9.heap.size = b2 + 4) := by show _ = _; rw [← hw9, Go.Deep.nblk_setCell]; exact S8
    have K9 : Hid (Below (g + 2) wb w9) := by rw [← hw9]; exact K8.out.setCell (p := ⟨b2 + 1, 5, none⟩) (by show g + 2 ≤ b2 + 1; have := G1.out; have := G2.out; omega) _
    have HW9 := Lib.hid hw9
    have ss6 := SS6.out
    have e5 := cell_of_row _ _ 5 _ _ _ HM8.out
    have ef : ∀ i, w8.frozen? ⟨b2 + 1, i, none⟩ = false := Lib.frozen_of_heap HM8.out
    clear n7 n8 n68 hs7 hs8 hr8 hw9 S8
    go_upto_region 6 with fail
    rw [HW9.out]
    clear hw7 hw8 ss6 S7 e5 ef k3
    have e0 := cell_of_row _ _ 0 _ _ _ HM9.out
    have e1 := cell_of_row _ _ 1 _ _ _ HM9.out
    have e2 := cell_of_row _ _ 2 _ _ _ HM9.out
    have e3 := cell_of_row _ _ 3 _ _ _ HM9.out
    have e4 := cell_of_row _ _ 4 _ _ _ HM9.out
    have e5 := cell_of_row _ _ 5 _ _ _ HM9.out
    have j0 := cell_of_row _ _ 0 _ _ _ HY9.out
    have j1 := cell_of_row _ _ 1 _ _ _ HY9.out
    have j2 := cell_of_row _ _ 2 _ _ _ HY9.out
    have j3 := cell_of_row _ _ 3 _ _ _ HY9.out
    have j4 := cell_of_row _ _ 4 _ _ _ HY9.out
    have j5 := cell_of_row _ _ 5 _ _ _ HY9.out
    have jf : ∀ i, w9.frozen? ⟨g + 1, i, none⟩ = false := Lib.frozen_of_heap HY9.out
    go_wp2_with fail
    have hg2 : ∀ j, j < 4 → b2 + j ≠ g + 1 := fun j hj => by have := G1.out; have := G2.out; omega
    have hN := far_six (g := g + 1) (v0 := .int .u16 id) (v1 := .int .u16 256) (v2 := .slice (some ⟨b2, 0, none⟩) 1 1) (v3 := .slice none 0 0) (v4 := .slice none 0 0) (v5 := .slice (some ⟨b2 + 3, 0, none⟩) 1 1) HN9.out (hg2 0 (by omega))
    have hS := far_six (g := g + 1) (v0 := .int .u16 id) (v1 := .int .u16 256) (v2 := .slice (some ⟨b2, 0, none⟩) 1 1) (v3 := .slice none 0 0) (v4 := .slice none 0 0) (v5 := .slice (some ⟨b2 + 3, 0, none⟩) 1 1) HS9.out (hg2 2 (by omega))
    have hR := far_six (g := g + 1) (v0 := .int .u16 id) (v1 := .int .u16 256) (v2 := .slice (some ⟨b2, 0, none⟩) 1 1) (v3 := .slice none 0 0) (v4 := .slice none 0 0) (v5 := .slice (some ⟨b2 + 3, 0, none⟩) 1 1) HR9.out (hg2 3 (by omega))
    refine bodyPost_ret (v := .agg (msgA id 256 (some ⟨b2, 0, none⟩) 1 1 none 0 0 none 0 0 (some ⟨b2 + 3, 0, none⟩) 1 1)) (by simp [results, Try.results25, go_sem, j0, j1, j2, j3, j4, j5]) rfl ⟨_, some ⟨b2 + 3, 0, none⟩, 1, 1, optZ (b2 + 2), rfl, makeV_some rfl (by rw [mk_data]; exact hN) (by rw [size_six, S9.out]; omega) hS (by rw [size_six, S9.out]; omega) hR (by rw [size_six, S9.out]; omega), by decide, below_set6 (HBB.out.trans (K9.out.mono (by omega))) (Nat.le_succ _) _ _ _ _ _ _⟩
end Go.Proofs.Ytpmmjmnleoicjaa

/- The contracts of cmp.Compare over TTLs, of slices.MinFunc over records by their TTLs, and of query's leastOfNone. For rows of at most 10^6 records. -/
namespace Go.Proofs.Ytpmmjmnleoicjaa
open Go.RowKit Bytes Strs Nums NameMath MsgMath RecMath WrMath QrMath

theorem isNaN_any (a : Nat) (w : World) : Calls Try.prog 108 #[.int .u32 a] w fun e w' => e = .returned (.bool false) ∧ w = w' := by
  have f : ((a : Int) != (a : Int)) = false := bne_eq_false_iff_eq.2 rfl
  go_enter Try.func108, Try.ntmps108
  go_wp2_with fail
  go_ret
  exact ⟨rfl, rfl⟩
def cmpI (a b : Nat) : Int := if a < b then -1 else if b < a then 1 else 0
set_option maxHeartbeats 1000000 in
theorem compare_any (a b : Nat) (w : World) : Calls Try.prog 76 #[.int .u32 a, .int .u32 b] w fun e w' => e = .returned (.int .i64 (cmpI a b)) ∧ w = w' := by
  by_cases h1 : a < b
  · have e : cmpI a b = -1 := if_pos h1
    have f : ((a : Int) < (b : Int)) := by omega
    rw [e]
    go_enter Try.func76, Try.ntmps76
    go_wp2_with fail
    refine (isNaN_any a w).mono ?_
    rintro e w' ⟨rfl, rfl⟩
    go_wp2_with fail
    refine (isNaN_any b w).mono ?_
    rintro e w' ⟨rfl, rfl⟩
    go_wp2_with fail
    go_ret
    exact ⟨rfl, rfl⟩
  · have f : ¬ ((a : Int) < (b : Int)) := by omega
    by_cases h2 : b < a
    · have e : cmpI a b = 1 := by unfold cmpI; rw [if_neg h1, if_pos h2]
      have f2 : ((b : Int) < (a : Int)) := by omega
      rw [e]
      go_enter Try.func76, Try.ntmps76
      go_wp2_with fail
      refine (isNaN_any a w).mono ?_
      rintro e w' ⟨rfl, rfl⟩
      go_wp2_with fail
      refine (isNaN_any b w).mono ?_
      rintro e w' ⟨rfl, rfl⟩
      go_wp2_with fail
      go_ret
      exact ⟨rfl, rfl⟩
    · have e : cmpI a b = 0 := by unfold cmpI; rw [if_neg h1, if_neg h2]
      have f2 : ¬ ((b : Int) < (a : Int)) := by omega
      rw [e]
      go_enter Try.func76, Try.ntmps76
      go_wp2_with fail
      refine (isNaN_any a w).mono ?_
      rintro e w' ⟨rfl, rfl⟩
      go_wp2_with fail
      refine (isNaN_any b w).mono ?_
      rintro e w' ⟨rfl, rfl⟩
      go_wp2_with fail
      go_ret
      exact ⟨rfl, rfl⟩
set_option maxHeartbeats 1000000 in
set_option maxRecDepth 100000 in
theorem least1_any (x y : ByteArray) (k l t k' l' t' : Nat) (A1 A2 A3 B1 B2 B3 : Option Addr) (n1 c1 n2 c2 n3 c3 m1 d1 m2 d2 m3 d3 : Nat) (w : World) :
    Calls Try.prog 75 #[.agg (recA x k l t A1 n1 c1 A2 n2 c2 A3 n3 c3), .agg (recA y k' l' t' B1 m1 d1 B2 m2 d2 B3 m3 d3)] w fun e w' => e = .returned (.int .i64 (cmpI t t')) ∧ Below w.heap.size w w' := by
  have HB : Hid (Below w.heap.size w ((w.alloc (.cells (recA x k l t A1 n1 c1 A2 n2 c2 A3 n3 c3) 60)).alloc (.cells (recA y k' l' t' B1 m1 d1 B2 m2 d2 B3 m3 d3) 60))) := ((Below.refl _ _).alloc (Nat.le_refl _) _).alloc (by simp) _
  have HC := Lib.hid (compare_any t t')
  go_enter Try.func75, Try.ntmps75
  go_wp2_with fail
  refine (HC.out _).mono ?_
  rintro e w' ⟨rfl, rfl⟩
  go_wp2_with fail
  go_ret
  exact ⟨rfl, HB.out⟩
theorem least1_held (x y : ByteArray) (k l t k' l' t' : Nat) (A1 A2 A3 B1 B2 B3 : Option Addr) (n1 c1 n2 c2 n3 c3 m1 d1 m2 d2 m3 d3 : Nat) (a0 a1 a2 a3 a4 a5 a6 a7 a8 a9 a10 a11 a12 a13 : Addr) (v0 v1 v2 v3 v4 v5 v6 v7 v8 v9 v10 v11 v12 v13 : Value) (bb : Nat) (oo : Obj) (g : Nat) (w0 w : World) (hg : g ≤ w.heap.size) (hc : w.cell? a0 = some v0 ∧ w.cell? a1 = some v1 ∧ w.cell? a2 = some v2 ∧ w.cell? a3 = some v3 ∧ w.cell? a4 = some v4 ∧ w.cell? a5 = some v5 ∧ w.cell? a6 = some v6 ∧ w.cell? a7 = some v7 ∧ w.cell? a8 = some v8 ∧ w.cell? a9 = some v9 ∧ w.cell? a10 = some v10 ∧ w.cell? a11 = some v11 ∧ w.cell? a12 = some v12 ∧ w.cell? a13 = some v13 ∧ w.heap[bb]? = some oo ∧ Below g w0 w) :
    Calls Try.prog 75 #[.agg (recA x k l t A1 n1 c1 A2 n2 c2 A3 n3 c3), .agg (recA y k' l' t' B1 m1 d1 B2 m2 d2 B3 m3 d3)] w fun e w' => e = .returned (.int .i64 (cmpI t t')) ∧ w'.cell? a0 = some v0 ∧ w'.cell? a1 = some v1 ∧ w'.cell? a2 = some v2 ∧ w'.cell? a3 = some v3 ∧ w'.cell? a4 = some v4 ∧ w'.cell? a5 = some v5 ∧ w'.cell? a6 = some v6 ∧ w'.cell? a7 = some v7 ∧ w'.cell? a8 = some v8 ∧ w'.cell? a9 = some v9 ∧ w'.cell? a10 = some v10 ∧ w'.cell? a11 = some v11 ∧ w'.cell? a12 = some v12 ∧ w'.cell? a13 = some v13 ∧ w'.heap[bb]? = some oo ∧ Below g w0 w' := by
  obtain ⟨h0, h1, h2, h3, h4, h5, h6, h7, h8, h9, h10, h11, h12, h13, ho, hH⟩ := hc
  refine (least1_any x y k l t k' l' t' A1 A2 A3 B1 B2 B3 n1 c1 n2 c2 n3 c3 m1 d1 m2 d2 m3 d3 w).mono ?_
  rintro e w' ⟨rfl, hB⟩
  have far : ∀ {a : Addr} {v : Value}, w.cell? a = some v → w'.cell? a = some v := fun h => (hB.cell (World.block_lt_of_cell? w _ h)).trans h
  exact ⟨rfl, far h0, far h1, far h2, far h3, far h4, far h5, far h6, far h7, far h8, far h9, far h10, far h11, far h12, far h13, (hB.block bb (Array.getElem?_eq_some_iff.1 ho).1).trans ho, hH.trans (hB.mono hg)⟩
theorem leastL_snoc {L : List Rec} {S : Rec} (h : L ≠ []) : leastL (L ++ [S]) = if S.ttl < leastL L then S.ttl else leastL L := by
  cases L with
  | nil => exact absurd rfl h
  | cons R L => simp only [leastL, List.cons_append, List.foldl_append, List.foldl_cons, List.foldl_nil]; first | done | rfl | (split <;> rfl)
theorem leastL_take {L : List Rec} {j : Nat} (h0 : 0 < j) (hj : j < L.length) : leastL (L.take (j + 1)) = if (L[j]).ttl < leastL (L.take j) then (L[j]).ttl else leastL (L.take j) := by
  rw [List.take_succ_eq_append_getElem hj]
  exact leastL_snoc (fun e => by have := congrArg List.length e; rw [List.length_take, List.length_nil] at this; omega)
theorem set7_at {w : World} {b : Nat} {t : TypeId} {fz : Nat × Nat} {u0 u1 u2 u3 u4 u5 u6 v0 v1 v2 v3 v4 v5 v6 : Value} (h : w.heap[b]? = some (.cells #[u0, u1, u2, u3, u4, u5, u6] t fz)) : (((((((w.setCell ⟨b, 0, none⟩ v0).setCell ⟨b, 1, none⟩ v1).setCell ⟨b, 2, none⟩ v2).setCell ⟨b, 3, none⟩ v3).setCell ⟨b, 4, none⟩ v4).setCell ⟨b, 5, none⟩ v5).setCell ⟨b, 6, none⟩ v6).heap[b]? = some (.cells #[v0, v1, v2, v3, v4, v5, v6] t fz) := by
  have h0 := set_at (i := 0) (v := v0) (ds := #[v0, u1, u2, u3, u4, u5, u6]) h (by simp)
  have h1 := set_at (i := 1) (v := v1) (ds := #[v0, v1, u2, u3, u4, u5, u6]) h0 (by simp)
  have h2 := set_at (i := 2) (v := v2) (ds := #[v0, v1, v2, u3, u4, u5, u6]) h1 (by simp)
  have h3 := set_at (i := 3) (v := v3) (ds := #[v0, v1, v2, v3, u4, u5, u6]) h2 (by simp)
  have h4 := set_at (i := 4) (v := v4) (ds := #[v0, v1, v2, v3, v4, u5, u6]) h3 (by simp)
  have h5 := set_at (i := 5) (v := v5) (ds := #[v0, v1, v2, v3, v4, v5, u6]) h4 (by simp)
  have h6 := set_at (i := 6) (v := v6) (ds := #[v0, v1, v2, v3, v4, v5, v6]) h5 (by simp)
  exact h6
theorem leastL_one {L : List Rec} (h : 0 < L.length) : leastL (L.take 1) = (L[0]).ttl := by
  cases L with
  | nil => exact absurd h (Nat.lt_irrefl 0)
  | cons R L => rfl
/-- The record with the least TTL, its cells. -/
def MinAt (w : World) (b T : Nat) : Prop := ∃ x k l A1 n1 c1 A2 n2 c2 A3 n3 c3, w.heap[b]? = some (.cells (recA x k l T A1 n1 c1 A2 n2 c2 A3 n3 c3) 60 (0, 0))
def MinRet (T : Nat) (e : Ending) : Prop := ∃ x k l A1 n1 c1 A2 n2 c2 A3 n3 c3, e = .returned (.agg (recA x k l T A1 n1 c1 A2 n2 c2 A3 n3 c3))
set_option maxHeartbeats 8000000 in
set_option maxRecDepth 100000 in
theorem min_is (A : Option Addr) (c n B : Nat) (Z : List RecZ) (L : List Rec) (T : Nat) (w : World) (hc : CellsAt w B A (recCs Z)) (hz : ZAt w B Z) (hL : Hid (Z.map (·.1) = L)) (hn0 : Hid (Z.length = n)) (hn : n ≤ 1000000) (h0 : 0 < n) (hB : B ≤ w.heap.size) (hT : Hid (leastL L = T)) :
    Calls Try.prog 74 #[.slice A n c, .func (.func 75) #[] #[]] w fun e w' => MinRet T e ∧ Below w.heap.size w w' := by
  have HC := Lib.hid hc
  have HZ := Lib.hid hz
  obtain ⟨g, hg⟩ : ∃ g, w.heap.size = g := ⟨_, rfl⟩
  rw [hg] at hB ⊢
  have HG := Lib.hid hg
  have HLN : Hid (L.length = n) := by show _ = _; rw [← hL.out, List.length_map]; exact hn0.out
  obtain ⟨wa, hwa⟩ : ∃ wa, w.alloc (.cells #[.string ⟨#[]⟩, .int .u16 0, .int .u16 0, .int .u32 0, .slice none 0 0, .slice none 0 0, .slice none 0 0] 60) = wa := ⟨_, rfl⟩
  have HA : Hid (Below g w wa) := by rw [← hwa, ← hg]; exact (Below.refl _ _).alloc (Nat.le_refl _) _
  have HX : Hid (wa.heap[g]? = some (.cells #[.string ⟨#[]⟩, .int .u16 0, .int .u16 0, .int .u32 0, .slice none 0 0, .slice none 0 0, .slice none 0 0] 60 (0, 0))) := by rw [← hwa, ← hg]; exact heap_alloc_new w _
  have hsa : wa.heap.size = g + 1 := by rw [← hwa, ← hg]; simp
  have hz0 : 0 < Z.length := by rw [hn0.out]; exact h0
  obtain ⟨br, off, A1, c1, A2, c2, A3, c3, rfl, hbr, hat, p0, p1, p2, p3, p4, p5, p6⟩ := recs_get (HC.out.on (HA.out.mono hB) (Nat.le_refl _)) (HZ.out.on (HA.out.mono hB) (Nat.le_refl _)) hz0
  obtain ⟨hkL, hkR⟩ := zmap hL.out hz0
  have ht1 := leastL_one hkL
  rw [hkR] at ht1
  obtain ⟨R, hR⟩ : ∃ R, (Z[0]'hz0).1 = R := ⟨_, rfl⟩
  rw [hR] at p0 p1 p2 p3 p4 p5 p6 ht1
  simp only [Nat.zero_mul, Nat.add_zero] at p0 p1 p2 p3 p4 p5 p6
  obtain ⟨wb, hwb⟩ : ∃ v, wa.alloc (.cells (recA (mk R.name) R.kind R.cls R.ttl A1 R.names.length c1 A2 R.nums.length c2 A3 R.texts.length c3) 60) = v := ⟨_, rfl⟩
  have nb : Below (g + 1) wa wb := by rw [← hwb, ← hsa]; exact (Below.refl _ _).alloc (Nat.le_refl _) _
  have HM : Hid (MinAt wb (g + 1) (leastL (L.take 1))) := by
    rw [ht1]
    refine ⟨mk R.name, R.kind, R.cls, A1, R.names.length, c1, A2, R.nums.length, c2, A3, R.texts.length, c3, ?_⟩
    rw [← hwb, ← hsa]
    exact heap_alloc_new wa _
  have HXB : Hid (wb.heap[g]? = some (.cells #[.string ⟨#[]⟩, .int .u16 0, .int .u16 0, .int .u32 0, .slice none 0 0, .slice none 0 0, .slice none 0 0] 60 (0, 0))) := (nb.block g (Nat.lt_succ_self g)).trans HX.out
  have HSB : Hid (wb.heap.size = g + 2) := by show _ = _; rw [← hwb]; simp [hsa]
  have HVB : Hid (Below g w wb) := HA.out.trans (nb.mono (Nat.le_succ _))
  have hni : ¬ ((n : Int) < 1) := by omega
  have hni2 : (0 : Int) < (n : Int) := by omega
  have HWB := Lib.hid hwb
  clear nb hat hR hkR hkL ht1 hz0 hwb
  go_enter Try.func74, Try.ntmps74
  go_upto_region 4 with fail
  rw [HWB.out]
  clear hwa hsa p0 p1 p2 p3 p4 p5 p6
  go_wp2_with fail
  go_loopw [6] (fun v wr => ∃ j : Nat, j ≤ n ∧ 1 ≤ j ∧ v = .int .i64 j ∧ Hid (MinAt wr (g + 1) (leastL (L.take j))) ∧ Hid (Below (g + 1) wb wr)) (fun v _ => n - (intOf v).toNat)
  case atStart => exact ⟨1, h0, Nat.le_refl _, rfl, HM, Below.refl _ _⟩
  case round =>
    obtain ⟨j, hj, hj1, rfl, hM, hV⟩ := hrel
    have HS : Hid (g + 2 ≤ wr.heap.size) := by have h := hV.out.size; rw [HSB.out] at h; exact h
    have HVW : Hid (Below g w wr) := HVB.out.trans (hV.out.mono (Nat.le_succ _))
    obtain ⟨T0, hT0⟩ : ∃ T, leastL (L.take j) = T := ⟨_, rfl⟩
    rw [hT0] at hM
    by_cases hlt : j < n
    · have hkz : j < Z.length := by rw [hn0.out]; exact hlt
      obtain ⟨br', off', A1, c1, A2, c2, A3, c3, hAe, hbr', hat, p0, p1, p2, p3, p4, p5, p6⟩ := recs_get (HC.out.on (HVW.out.mono hB) (Nat.le_refl _)) (HZ.out.on (HVW.out.mono hB) (Nat.le_refl _)) hkz
      injection hAe with hAe
      injection hAe with hAe1 hAe2 _
      subst hAe1 hAe2
      obtain ⟨hkL, hkR⟩ := zmap hL.out hkz
      have htk := leastL_take hj1 hkL
      rw [hkR, hT0] at htk
      obtain ⟨R, hR⟩ : ∃ R, (Z[j]'hkz).1 = R := ⟨_, rfl⟩
      rw [hR] at p0 p1 p2 p3 p4 p5 p6 htk
      have HTK := Lib.hid htk
      obtain ⟨x', k', l', B1, m1, d1, B2, m2, d2, B3, m3, d3, hm⟩ := hM.out
      have q0 := cell_of_row _ _ 0 _ _ _ hm
      have q1 := cell_of_row _ _ 1 _ _ _ hm
      have q2 := cell_of_row _ _ 2 _ _ _ hm
      have q3 := cell_of_row _ _ 3 _ _ _ hm
      have q4 := cell_of_row _ _ 4 _ _ _ hm
      have q5 := cell_of_row _ _ 5 _ _ _ hm
      have q6 := cell_of_row _ _ 6 _ _ _ hm
      have HMM := Lib.hid hm
      obtain ⟨rt, hrt⟩ : ∃ t, R.ttl = t := ⟨_, rfl⟩
      rw [hrt] at p3 htk
      rw [hrt] at HTK
      clear hm hat hR hkR hkL hT0 htk hM hrt hkz
      have h0 : Below (g + 1) wb wr.drew := hV.out.drew
      have h1 : wr.drew.heap[g + 1]? = some (.cells (recA x' k' l' T0 B1 m1 d1 B2 m2 d2 B3 m3 d3) 60 (0, 0)) := HMM.out
      have HLO := Lib.hid (fun W hs h => least1_held (mk R.name) x' R.kind R.cls rt k' l' T0 A1 A2 A3 B1 B2 B3 R.names.length c1 R.nums.length c2 R.texts.length c3 m1 d1 m2 d2 m3 d3 ⟨br, off + j * 7, none⟩ ⟨br, off + j * 7 + 1, none⟩ ⟨br, off + j * 7 + 2, none⟩ ⟨br, off + j * 7 + 3, none⟩ ⟨br, off + j * 7 + 4, none⟩ ⟨br, off + j * 7 + 5, none⟩ ⟨br, off + j * 7 + 6, none⟩ ⟨g + 1, 0, none⟩ ⟨g + 1, 1, none⟩ ⟨g + 1, 2, none⟩ ⟨g + 1, 3, none⟩ ⟨g + 1, 4, none⟩ ⟨g + 1, 5, none⟩ ⟨g + 1, 6, none⟩ (.string (mk R.name)) (.int .u16 R.kind) (.int .u16 R.cls) (.int .u32 rt) (.slice A1 R.names.length c1) (.slice A2 R.nums.length c2) (.slice A3 R.texts.length c3) (.string x') (.int .u16 k') (.int .u16 l') (.int .u32 T0) (.slice B1 m1 d1) (.slice B2 m2 d2) (.slice B3 m3 d3) (g + 1) (.cells (recA x' k' l' T0 B1 m1 d1 B2 m2 d2 B3 m3 d3) 60 (0, 0)) (g + 1) wb W hs h)
      have HGW : Hid (∀ W : World, W.cell? ⟨g + 1, 3, none⟩ = some (.int .u32 T0) → g + 1 ≤ W.heap.size) := fun W h => by have h2 : g + 1 < W.heap.size := World.block_lt_of_cell? W _ h; omega
      by_cases hlt2 : rt < T0
      · have hcI : cmpI rt T0 = -1 := if_pos hlt2
        rw [hcI] at HLO
        have HTK2 : Hid (leastL (L.take (j + 1)) = rt) := by show _ = _; rw [HTK.out, if_pos hlt2]
        clear hcI hlt2
        go_wp2_with fail
        go_region_held3 (fun w' => w'.cell? ⟨br, off + j * 7, none⟩ = some (.string (mk R.name)) ∧ w'.cell? ⟨br, off + j * 7 + 1, none⟩ = some (.int .u16 R.kind) ∧ w'.cell? ⟨br, off + j * 7 + 2, none⟩ = some (.int .u16 R.cls) ∧ w'.cell? ⟨br, off + j * 7 + 3, none⟩ = some (.int .u32 rt) ∧ w'.cell? ⟨br, off + j * 7 + 4, none⟩ = some (.slice A1 R.names.length c1) ∧ w'.cell? ⟨br, off + j * 7 + 5, none⟩ = some (.slice A2 R.nums.length c2) ∧ w'.cell? ⟨br, off + j * 7 + 6, none⟩ = some (.slice A3 R.texts.length c3) ∧ w'.cell? ⟨g + 1, 0, none⟩ = some (.string x') ∧ w'.cell? ⟨g + 1, 1, none⟩ = some (.int .u16 k') ∧ w'.cell? ⟨g + 1, 2, none⟩ = some (.int .u16 l') ∧ w'.cell? ⟨g + 1, 3, none⟩ = some (.int .u32 T0) ∧ w'.cell? ⟨g + 1, 4, none⟩ = some (.slice B1 m1 d1) ∧ w'.cell? ⟨g + 1, 5, none⟩ = some (.slice B2 m2 d2) ∧ w'.cell? ⟨g + 1, 6, none⟩ = some (.slice B3 m3 d3) ∧ w'.heap[g + 1]? = some (.cells (recA x' k' l' T0 B1 m1 d1 B2 m2 d2 B3 m3 d3) 60 (0, 0)) ∧ Below (g + 1) wb w') (go_keep) (first | (go_at_call 75; (with_reducible refine (HLO.out _ (HGW.out _ ?_) ?_).mono ?_); (simp [*]); (simp [*]); rintro e w5 ⟨rfl, c0', c1', c2', c3', c4', c5', c6', c7', c8', c9', c10', c11', c12', c13', hx5, hG5⟩))
        have HX5 := Lib.hid hx5
        have ef : ∀ i, w5.frozen? ⟨g + 1, i, none⟩ = false := Lib.frozen_of_heap hx5
        clear hx5
        go_wp2_with fail
        have hnm := set7_at (v0 := .string (mk R.name)) (v1 := .int .u16 R.kind) (v2 := .int .u16 R.cls) (v3 := .int .u32 rt) (v4 := .slice A1 R.names.length c1) (v5 := .slice A2 R.nums.length c2) (v6 := .slice A3 R.texts.length c3) HX5.out
        have hnb := below_set7 hG5 (Nat.le_refl (g + 1)) (.string (mk R.name)) (.int .u16 R.kind) (.int .u16 R.cls) (.int .u32 rt) (.slice A1 R.names.length c1) (.slice A2 R.nums.length c2) (.slice A3 R.texts.length c3)
        go_roundw
        case rel => exact ⟨j + 1, by omega, by omega, by go_num, by rw [HTK2.out]; exact ⟨_, _, _, _, _, _, _, _, _, _, _, _, hnm⟩, hnb⟩
        case measure => simp [intOf]; omega
      · have hcI : 0 ≤ cmpI rt T0 := by unfold cmpI; rw [if_neg hlt2]; split <;> omega
        have HTK2 : Hid (leastL (L.take (j + 1)) = T0) := by show _ = _; rw [HTK.out, if_neg hlt2]
        have hcJ : ¬ (cmpI rt T0 < 0) := by omega
        generalize cmpI rt T0 = CI at hcI hcJ HLO
        clear hlt2
        go_wp2_with fail
        go_region_held3 (fun w' => w'.cell? ⟨br, off + j * 7, none⟩ = some (.string (mk R.name)) ∧ w'.cell? ⟨br, off + j * 7 + 1, none⟩ = some (.int .u16 R.kind) ∧ w'.cell? ⟨br, off + j * 7 + 2, none⟩ = some (.int .u16 R.cls) ∧ w'.cell? ⟨br, off + j * 7 + 3, none⟩ = some (.int .u32 rt) ∧ w'.cell? ⟨br, off + j * 7 + 4, none⟩ = some (.slice A1 R.names.length c1) ∧ w'.cell? ⟨br, off + j * 7 + 5, none⟩ = some (.slice A2 R.nums.length c2) ∧ w'.cell? ⟨br, off + j * 7 + 6, none⟩ = some (.slice A3 R.texts.length c3) ∧ w'.cell? ⟨g + 1, 0, none⟩ = some (.string x') ∧ w'.cell? ⟨g + 1, 1, none⟩ = some (.int .u16 k') ∧ w'.cell? ⟨g + 1, 2, none⟩ = some (.int .u16 l') ∧ w'.cell? ⟨g + 1, 3, none⟩ = some (.int .u32 T0) ∧ w'.cell? ⟨g + 1, 4, none⟩ = some (.slice B1 m1 d1) ∧ w'.cell? ⟨g + 1, 5, none⟩ = some (.slice B2 m2 d2) ∧ w'.cell? ⟨g + 1, 6, none⟩ = some (.slice B3 m3 d3) ∧ w'.heap[g + 1]? = some (.cells (recA x' k' l' T0 B1 m1 d1 B2 m2 d2 B3 m3 d3) 60 (0, 0)) ∧ Below (g + 1) wb w') (go_keep) (first | (go_at_call 75; (with_reducible refine (HLO.out _ (HGW.out _ ?_) ?_).mono ?_); (simp [*]); (simp [*]); rintro e w5 ⟨rfl, c0', c1', c2', c3', c4', c5', c6', c7', c8', c9', c10', c11', c12', c13', hx5, hG5⟩))
        have HX5 := Lib.hid hx5
        clear hx5
        go_wp2_with fail
        go_roundw
        case rel => exact ⟨j + 1, by omega, by omega, by go_num, by rw [HTK2.out]; exact ⟨_, _, _, _, _, _, _, _, _, _, _, _, HX5.out⟩, hG5⟩
        case measure => simp [intOf]; omega
    · have hjn : ¬ ((j : Int) < (n : Int)) := by omega
      have hTT : T0 = T := by rw [← hT0, List.take_of_length_le (by rw [HLN.out]; omega)]; exact hT.out
      obtain ⟨x', k', l', B1, m1, d1, B2, m2, d2, B3, m3, d3, hm⟩ := hM.out
      subst hTT
      have q0 := cell_of_row _ _ 0 _ _ _ hm
      have q1 := cell_of_row _ _ 1 _ _ _ hm
      have q2 := cell_of_row _ _ 2 _ _ _ hm
      have q3 := cell_of_row _ _ 3 _ _ _ hm
      have q4 := cell_of_row _ _ 4 _ _ _ hm
      have q5 := cell_of_row _ _ 5 _ _ _ hm
      have q6 := cell_of_row _ _ 6 _ _ _ hm
      have hxg := (hV.out.block g (Nat.lt_succ_self g)).trans HXB.out
      have y0 := cell_of_row _ _ 0 _ _ _ hxg
      have y1 := cell_of_row _ _ 1 _ _ _ hxg
      have y2 := cell_of_row _ _ 2 _ _ _ hxg
      have y3 := cell_of_row _ _ 3 _ _ _ hxg
      have y4 := cell_of_row _ _ 4 _ _ _ hxg
      have y5 := cell_of_row _ _ 5 _ _ _ hxg
      have y6 := cell_of_row _ _ 6 _ _ _ hxg
      have yf : ∀ i, wr.frozen? ⟨g, i, none⟩ = false := Lib.frozen_of_heap hxg
      clear hlt hm hxg hT0 hM
      go_wp2_with fail
      refine bodyPost_ret (v := .agg (recA x' k' l' T0 B1 m1 d1 B2 m2 d2 B3 m3 d3)) (by simp [results, Try.results74, go_sem, y0, y1, y2, y3, y4, y5, y6]) rfl ⟨⟨_, _, _, _, _, _, _, _, _, _, _, _, rfl⟩, below_set7 HVW.out (Nat.le_refl _) _ _ _ _ _ _ _⟩
end Go.Proofs.Ytpmmjmnleoicjaa
