/- The contract of dnsread's Read, given that of a record. For texts of at most 10^6 bytes. -/
import Derived.Test.YtpmmjmnleoicjaaProg
import Derived.Test.YtpmmjmnleoicjaaBytes
import Derived.Test.YtpmmjmnleoicjaaNmMath
import Derived.Test.YtpmmjmnleoicjaaNmAt
import Derived.Test.YtpmmjmnleoicjaaMsgMath
import Derived.Test.YtpmmjmnleoicjaaRecMath
import Derived.Test.YtpmmjmnleoicjaaKept
import Derived.Test.YtpmmjmnleoicjaaOwnRow
import Derived.Test.YtpmmjmnleoicjaaRecRow
import Derived.Test.YtpmmjmnleoicjaaRdr
import Derived.Test.YtpmmjmnleoicjaaRdrAsk
import Derived.Test.YtpmmjmnleoicjaaRdrRecs
import Derived.Test.YtpmmjmnleoicjaaRdrMsgSt
import Derived.Test.YtpmmjmnleoicjaaRdrMsg
import Derived.Test.YtpmmjmnleoicjaaRdrCatch
import Derived.WalkKit
import Derived.Lib.Hide
import Derived.Laws.Rows
import Derived.Laws.AppendOwn
import Derived.Laws.ResultCell
import Derived.Outline
import Derived.IntWalk
import Derived.WalkSpells
import Derived.WalkLawsBesides
namespace Go.Proofs.Ytpmmjmnleoicjaa
open Go.RowKit NumMath NmMath Bytes MsgMath RecMath

/-- The rows of a message. -/
structure MsgRows (w : World) (g : Nat) (M : Msg) (vq va vn vx : Value) : Prop where
  q : w.ownsRow g 62 3 vq M.qs.length (qnCs M.qs)
  a : RowRecs w g va M.an
  n : RowRecs w g vn M.ns
  x : RowRecs w g vx M.ad
section
variable {w w' : World} {g g' r : Nat} {M : Msg} {vq va vn vx : Value}
theorem MsgRows.low (h : MsgRows w g M vq va vn vx) (hg : g' ≤ g) : MsgRows w g' M vq va vn vx := ⟨row_low h.q hg, h.a.low hg, h.n.low hg, h.x.low hg⟩
theorem MsgRows.below (h : MsgRows w g M vq va vn vx) (hB : Below w.heap.size w w') : MsgRows w' g M vq va vn vx := ⟨row_below h.q hB, h.a.below hB, h.n.below hB, h.x.below hB⟩
theorem MsgRows.block {e2 : TypeId} {cs : Array Value} {fz : Nat × Nat} (h : MsgRows w g M vq va vn vx) (hb : w.heap[r]? = some (.cells cs e2 fz)) (hg : w.grownBy w' (some r)) (h9 : 9 ≠ e2) (h43 : 50 ≠ e2) (h47 : 60 ≠ e2) (h41 : 62 ≠ e2) : MsgRows w' g M vq va vn vx :=
  ⟨h.q.kept hg (row_ne hb h.q h41), h.a.block hb hg h9 h43 h47, h.n.block hb hg h9 h43 h47, h.x.block hb hg h9 h43 h47⟩
theorem MsgRows.slices (h : MsgRows w g M vq va vn vx) : (∃ A m c, vq = .slice A m c) ∧ (∃ A m c, va = .slice A m c) ∧ (∃ A m c, vn = .slice A m c) ∧ (∃ A m c, vx = .slice A m c) := ⟨row_slice h.q, h.a.slice, h.n.slice, h.x.slice⟩
end
/-- What a store of a message into a block leaves. -/
def setMsg (w : World) (b : Nat) (x y : Value) (vq va vn vx : Value) : World := (((((w.setCell ⟨b, 0, none⟩ x).setCell ⟨b, 1, none⟩ y).setCell ⟨b, 2, none⟩ vq).setCell ⟨b, 3, none⟩ va).setCell ⟨b, 4, none⟩ vn).setCell ⟨b, 5, none⟩ vx
theorem setMsg_grown (w : World) (b : Nat) (x y vq va vn vx : Value) : w.grownBy (setMsg w b x y vq va vn vx) (some b) := by
  have h0 := only_setCell (grown_refl w (some b)) (p := ⟨b, 0, none⟩) (.inl rfl) x
  have h1 := only_setCell h0 (p := ⟨b, 1, none⟩) (.inl rfl) y
  have h2 := only_setCell h1 (p := ⟨b, 2, none⟩) (.inl rfl) vq
  have h3 := only_setCell h2 (p := ⟨b, 3, none⟩) (.inl rfl) va
  have h4 := only_setCell h3 (p := ⟨b, 4, none⟩) (.inl rfl) vn
  exact only_setCell h4 (p := ⟨b, 5, none⟩) (.inl rfl) vx
theorem set_row {W : World} {b i : Nat} {cs ds : Array Value} {t : TypeId} {v : Value} (h : W.heap[b]? = some (.cells cs t (0, 0))) (hd : cs.setIfInBounds i v = ds) : (W.setCell ⟨b, i, none⟩ v).heap[b]? = some (.cells ds t (0, 0)) := by
  subst hd
  simp [World.setCell, Array.getElem?_modify, h]
theorem setMsg_block {w : World} {b : Nat} {c0 c1 c2 c3 c4 c5 : Value} {t : TypeId} (x y vq va vn vx : Value) (h : w.heap[b]? = some (.cells #[c0, c1, c2, c3, c4, c5] t (0, 0))) : (setMsg w b x y vq va vn vx).heap[b]? = some (.cells #[x, y, vq, va, vn, vx] t (0, 0)) := by
  have h0 := set_row (i := 0) (v := x) h rfl
  have h1 := set_row (i := 1) (v := y) h0 rfl
  have h2 := set_row (i := 2) (v := vq) h1 rfl
  have h3 := set_row (i := 3) (v := va) h2 rfl
  have h4 := set_row (i := 4) (v := vn) h3 rfl
  exact set_row (i := 5) (v := vx) h4 rfl
/-- What the closure of Read leaves: the message in its block b, nothing else that stood has changed. -/
def ReadIn (b : Nat) (w : World) : Except Nat Msg → Ending → World → Prop
  | .error x, e, w' => e = gave x ∧ Below w.heap.size w w'
  | .ok M, e, w' => ∃ vq va vn vx, e = .returned (.tuple #[]) ∧ w'.heap[b]? = some (.cells #[.int .u16 M.id, .int .u16 M.flags, vq, va, vn, vx] 26 (0, 0)) ∧ MsgRows w' w.heap.size M vq va vn vx ∧ Kept w.heap.size b w w'

set_option maxHeartbeats 1000000 in
theorem readIn_any (s : ByteArray) (c b : Nat) (rec : Nat → Except Nat (Rec × Nat)) (R : Except Nat Msg) (w : World) (hc : w.heap[c]? = some (.cells #[.string s] 9 (0, 0))) (hb : w.heap[b]? = some (.cells #[.int .u16 0, .int .u16 0, .slice none 0 0, .slice none 0 0, .slice none 0 0, .slice none 0 0] 26 (0, 0))) (hbl : b < w.heap.size) (hs : s.size ≤ 1000000)
    (hrec : Hid (0 < nu s.data.toList 6 2 + nu s.data.toList 8 2 + nu s.data.toList 10 2 → RecReads w.heap.size s rec)) (hR : Hid (msg rec s.data.toList = R)) :
    Calls Try.prog 55 #[.pointer (some ⟨c, 0, none⟩), .pointer (some ⟨b, 0, none⟩)] w (ReadIn b w R) := by
  have h0 := cell_of_row w _ 0 _ _ _ hc
  have HA : Hid (RdrAt (w.alloc (.cells #[.string s, .string s, .int .i64 0, .int .i64 2] 91)) w.heap.size s s 0 2) := heap_alloc_new w _
  have HN := Lib.hid (message_any s w.heap.size rec R _ HA.out hs hrec hR)
  have HB := Lib.hid ((Below.refl w.heap.size w).alloc (Nat.le_refl _) (.cells #[.string s, .string s, .int .i64 0, .int .i64 2] 91))
  have HBB := Lib.hid hb; clear hb hc
  cases R with
  | error x =>
    go_enter Try.func55, Try.ntmps55
    go_wp2_with fail
    refine HN.out.mono ?_
    rintro e w1 ⟨rfl, hG⟩
    have HE := Lib.hid (below_of_grown HB.out hG (Nat.le_refl _) (by simp))
    clear hG
    go_wp2_with fail
    exact ⟨rfl, rfl, HE.out⟩
  | ok M =>
    go_enter Try.func55, Try.ntmps55
    go_wp2_with fail
    refine HN.out.mono ?_
    rintro e w1 ⟨vq, va, vn, vx, rfl, hq, ha, hn, hx, hG⟩
    have hE := below_of_grown HB.out hG (Nat.le_refl _) (by simp)
    have hrows : MsgRows w1 w.heap.size M vq va vn vx := ⟨row_low hq (by simp), ha.low (by simp), hn.low (by simp), hx.low (by simp)⟩
    have hb1 := (hE.block b hbl).trans HBB.out
    obtain ⟨⟨q1, q2, q3, rfl⟩, ⟨a1, a2, a3, rfl⟩, ⟨n1, n2, n3, rfl⟩, ⟨x1, x2, x3, rfl⟩⟩ := hrows.slices
    have e0 := cell_of_row _ _ 0 _ _ _ hb1
    have e1 := cell_of_row _ _ 1 _ _ _ hb1
    have e2 := cell_of_row _ _ 2 _ _ _ hb1
    have e3 := cell_of_row _ _ 3 _ _ _ hb1
    have e4 := cell_of_row _ _ 4 _ _ _ hb1
    have e5 := cell_of_row _ _ 5 _ _ _ hb1
    have ef : ∀ i, w1.frozen? ⟨b, i, none⟩ = false := fun i => by simp [World.frozen?, hb1]
    have HB1 := Lib.hid hb1
    have HRW := Lib.hid hrows
    have HE := Lib.hid hE
    clear hq ha hn hx hG hE hrows hb1
    go_wp2_with fail
    go_end0
    have hgs := setMsg_grown w1 b (.int .u16 M.id) (.int .u16 M.flags) (.slice q1 q2 q3) (.slice a1 a2 a3) (.slice n1 n2 n3) (.slice x1 x2 x3)
    refine ⟨_, _, _, _, rfl, setMsg_block _ _ _ _ _ _ HB1.out, HRW.out.block HB1.out hgs (by decide) (by decide) (by decide) (by decide), ?_⟩
    exact ((Kept.refl _ _ _).below HE.out).grown hgs HE.out.size

/-- The message came back, or the error. -/
def ReadRet (w : World) : Except Nat Msg → Ending → World → Prop
  | .error x, e, w' => e = .returned (.tuple #[.agg #[.int .u16 0, .int .u16 0, .slice none 0 0, .slice none 0 0, .slice none 0 0, .slice none 0 0], .int .i64 x]) ∧ Below w.heap.size w w'
  | .ok M, e, w' => ∃ vq va vn vx, e = .returned (.tuple #[.agg #[.int .u16 M.id, .int .u16 M.flags, vq, va, vn, vx], .int .i64 0]) ∧ MsgRows w' w.heap.size M vq va vn vx ∧ Below w.heap.size w w'
/-- The message of bytes, or the error. -/
def rd (rec : Nat → Except Nat (Rec × Nat)) (l : List UInt8) : Except Nat Msg := if 65535 < l.length then .error 3 else msg rec l

set_option maxHeartbeats 2000000 in
theorem read_long (s : ByteArray) (w : World) (hs : s.size ≤ 1000000) (hl : 65535 < s.size) :
    Calls Try.prog 20 #[.string s] w (ReadRet w (.error 3)) := by
  have hli : (65535 : Int) < s.size := by omega
  go_enter Try.func20, Try.ntmps20
  go_wp2_with fail
  refine bodyPost_ret (v := .tuple #[.agg #[.int .u16 0, .int .u16 0, .slice none 0 0, .slice none 0 0, .slice none 0 0, .slice none 0 0], .int .i64 3]) (by simp [results, Try.results20, go_sem]) rfl ⟨rfl, ?_⟩
  have h0 : Below w.heap.size w ((w.alloc (.cells #[.string s] 9)).alloc (.cells #[.int .u16 0, .int .u16 0, .slice none 0 0, .slice none 0 0, .slice none 0 0, .slice none 0 0] 26)) := ((Below.refl _ _).alloc (Nat.le_refl _) _).alloc (by simp) _
  first | exact h0 | exact (((((h0.setCell (by simp) _).setCell (by simp) _).setCell (by simp) _).setCell (by simp) _).setCell (by simp) _).setCell (by simp) _

set_option maxHeartbeats 4000000 in
theorem read_some (s : ByteArray) (rec : Nat → Except Nat (Rec × Nat)) (R : Except Nat Msg) (w : World) (hs : s.size ≤ 65535) (hrec : Hid (0 < nu s.data.toList 6 2 + nu s.data.toList 8 2 + nu s.data.toList 10 2 → ∀ r, RecReads r s rec)) (hR : Hid (msg rec s.data.toList = R)) :
    Calls Try.prog 20 #[.string s] w (ReadRet w R) := by
  have hmf : ∀ (fn : Fn) (first cap : Array Value) (w : World), (Instr.makeFunc fn first cap).run Try.prog w = .ok (.func fn first cap) w := fun _ _ _ _ => rfl
  have hli : (s.size : Int) ≤ 65535 := by omega
  obtain ⟨g, hg⟩ : ∃ g, w.heap.size = g := ⟨_, rfl⟩
  obtain ⟨w3, hw3⟩ : ∃ w3, (((w.alloc (.cells #[.string s] 9)).alloc (.cells #[.int .u16 0, .int .u16 0, .slice none 0 0, .slice none 0 0, .slice none 0 0, .slice none 0 0] 26)).alloc (.cells #[.int .u16 0, .int .u16 0, .slice none 0 0, .slice none 0 0, .slice none 0 0, .slice none 0 0] 26)) = w3 := ⟨_, rfl⟩
  have hw3s : w3.heap.size = g + 3 := by rw [← hw3, ← hg]; simp
  have hB3 : Below g w w3 := by
    rw [← hw3, ← hg]
    exact (((Below.refl _ _).alloc (Nat.le_refl _) _).alloc (by simp) _).alloc (by simp; omega) _
  have k0 : w3.heap[g]? = some (.cells #[.string s] 9 (0, 0)) := by rw [← hw3, ← hg]; exact old_at (old_at (new_at _ _ _ rfl))
  have k1 : w3.heap[g + 1]? = some (.cells #[.int .u16 0, .int .u16 0, .slice none 0 0, .slice none 0 0, .slice none 0 0, .slice none 0 0] 26 (0, 0)) := by rw [← hw3, ← hg]; exact old_at (new_at _ _ _ (by simp))
  have k2 : w3.heap[g + 2]? = some (.cells #[.int .u16 0, .int .u16 0, .slice none 0 0, .slice none 0 0, .slice none 0 0, .slice none 0 0] 26 (0, 0)) := by rw [← hw3, ← hg]; exact new_at _ _ _ (by simp)
  obtain ⟨w4, hw4⟩ : ∃ w4, w3.alloc (.cells #[.int .i64 0] 30) = w4 := ⟨_, rfl⟩
  have hw4s : w4.heap.size = g + 4 := by rw [← hw4]; simp [hw3s]
  have hB4 : Below (g + 3) w3 w4 := by rw [← hw4]; exact (Below.refl _ _).alloc (by omega) _
  have k3 : w4.heap[g + 3]? = some (.cells #[.int .i64 0] 30 (0, 0)) := by rw [← hw4, ← hw3s]; exact heap_alloc_new w3 _
  have hin := readIn_any s g (g + 2) rec R w4 ((hB4.block _ (by omega)).trans k0) ((hB4.block _ (by omega)).trans k2) (by omega) (by omega) (fun h => hrec.out h _) hR
  have G := Lib.hid hg
  cases R with
  | error x =>
    have HC := Lib.hid (caught_noRead x #[.pointer (some ⟨g, 0, none⟩), .pointer (some ⟨g + 2, 0, none⟩)] (fun w6 => Below (g + 4) w4 w6) w3 (by
      rw [hw4, hw3s]
      refine hin.mono ?_
      rintro e w6 ⟨rfl, hB⟩
      rw [hw4s] at hB
      exact ⟨rfl, (hB.block _ (by omega)).trans k3, hB⟩))
    rw [hw3s] at HC
    have HF : Hid (∀ w6, Below (g + 4) w4 w6 → Below g w (w6.setCell ⟨g + 3, 0, none⟩ (.int .i64 x)) ∧ (w6.setCell ⟨g + 3, 0, none⟩ (.int .i64 x)).heap[g + 1]? = some (.cells #[.int .u16 0, .int .u16 0, .slice none 0 0, .slice none 0 0, .slice none 0 0, .slice none 0 0] 26 (0, 0)) ∧ (w6.setCell ⟨g + 3, 0, none⟩ (.int .i64 x)).heap[g + 2]? = some (.cells #[.int .u16 0, .int .u16 0, .slice none 0 0, .slice none 0 0, .slice none 0 0, .slice none 0 0] 26 (0, 0))) := fun w6 hB => by
      refine ⟨((hB3.trans (hB4.mono (by omega))).trans (hB.mono (by omega))).setCell (by simp) _, ?_, ?_⟩
      · rw [Below.heap_setCell _ _ _ _ (by simp)]; exact ((hB.block _ (by omega)).trans (hB4.block _ (by omega))).trans k1
      · rw [Below.heap_setCell _ _ _ _ (by simp)]; exact ((hB.block _ (by omega)).trans (hB4.block _ (by omega))).trans k2
    clear hin hB3 hB4 k0 k1 k2 k3 hw4 hw4s hw3s hR hrec
    go_enter Try.func20, Try.ntmps20
    go_wp2_with fail
    refine HC.out.mono ?_
    rintro e w7 ⟨rfl, w6, hB6, rfl⟩
    obtain ⟨hB7, k1, k2⟩ := HF.out w6 hB6
    generalize w6.setCell ⟨g + 3, 0, none⟩ (.int .i64 x) = w7 at hB7 k1 k2 ⊢
    have d0 := cell_of_row _ _ 0 _ _ _ k2
    have d1 := cell_of_row _ _ 1 _ _ _ k2
    have d2 := cell_of_row _ _ 2 _ _ _ k2
    have d3 := cell_of_row _ _ 3 _ _ _ k2
    have d4 := cell_of_row _ _ 4 _ _ _ k2
    have d5 := cell_of_row _ _ 5 _ _ _ k2
    have e0 := cell_of_row _ _ 0 _ _ _ k1
    have e1 := cell_of_row _ _ 1 _ _ _ k1
    have e2 := cell_of_row _ _ 2 _ _ _ k1
    have e3 := cell_of_row _ _ 3 _ _ _ k1
    have e4 := cell_of_row _ _ 4 _ _ _ k1
    have e5 := cell_of_row _ _ 5 _ _ _ k1
    have ef : ∀ i, w7.frozen? ⟨g + 1, i, none⟩ = false := fun i => by simp [World.frozen?, k1]
    have HB7 := Lib.hid hB7
    clear hB6 hB7 k1 k2
    go_wp2_with fail
    refine bodyPost_ret (v := .tuple #[.agg #[.int .u16 0, .int .u16 0, .slice none 0 0, .slice none 0 0, .slice none 0 0, .slice none 0 0], .int .i64 x]) (by simp [results, Try.results20, go_sem, e0, e1, e2, e3, e4, e5]) rfl ⟨rfl, ?_⟩
    have hgs := setMsg_grown w7 (g + 1) (.int .u16 0) (.int .u16 0) (.slice none 0 0) (.slice none 0 0) (.slice none 0 0) (.slice none 0 0)
    exact (HB7.out.grown hgs (by have := HB7.out.size; have := G.out; omega) (fun k e => by injection e with e; omega)).mono (Nat.le_of_eq G.out)
  | ok M =>
    have HC := Lib.hid (caught_yesRead #[.pointer (some ⟨g, 0, none⟩), .pointer (some ⟨g + 2, 0, none⟩)] (fun w6 => ∃ vq va vn vx, w6.heap[g + 2]? = some (.cells #[.int .u16 M.id, .int .u16 M.flags, vq, va, vn, vx] 26 (0, 0)) ∧ MsgRows w6 (g + 4) M vq va vn vx ∧ Kept (g + 4) (g + 2) w4 w6) w3 (by
      rw [hw4, hw3s]
      refine hin.mono ?_
      rintro e w6 ⟨vq, va, vn, vx, rfl, h1, h2, h3⟩
      rw [hw4s] at h2 h3
      exact ⟨rfl, (h3.block _ (by omega) (by omega)).trans k3, vq, va, vn, vx, h1, h2, h3⟩))
    rw [hw3s] at HC
    have HF : Hid (∀ w6 vq va vn vx, w6.heap[g + 2]? = some (.cells #[.int .u16 M.id, .int .u16 M.flags, vq, va, vn, vx] 26 (0, 0)) → MsgRows w6 (g + 4) M vq va vn vx → Kept (g + 4) (g + 2) w4 w6 → Below g w (w6.setCell ⟨g + 3, 0, none⟩ (.int .i64 0)) ∧ (w6.setCell ⟨g + 3, 0, none⟩ (.int .i64 0)).heap[g + 1]? = some (.cells #[.int .u16 0, .int .u16 0, .slice none 0 0, .slice none 0 0, .slice none 0 0, .slice none 0 0] 26 (0, 0)) ∧ (w6.setCell ⟨g + 3, 0, none⟩ (.int .i64 0)).heap[g + 2]? = some (.cells #[.int .u16 M.id, .int .u16 M.flags, vq, va, vn, vx] 26 (0, 0)) ∧ MsgRows (w6.setCell ⟨g + 3, 0, none⟩ (.int .i64 0)) g M vq va vn vx) := fun w6 vq va vn vx h1 h2 h3 => by
      have hq : w6.heap[g + 3]? = some (.cells #[.int .i64 0] 30 (0, 0)) := (h3.block _ (by omega) (by omega)).trans k3
      have hgs := only_setCell (grown_refl w6 (some (g + 3))) (p := ⟨g + 3, 0, none⟩) (.inl rfl) (.int .i64 0)
      refine ⟨((hB3.trans (hB4.mono (by omega))).trans ((h3.mono (by omega)).to_below (by omega))).setCell (by simp) _, ?_, ?_, (h2.block hq hgs (by decide) (by decide) (by decide) (by decide)).low (by omega)⟩
      · rw [Below.heap_setCell _ _ _ _ (by simp)]; exact ((h3.block _ (by omega) (by omega)).trans (hB4.block _ (by omega))).trans k1
      · rw [Below.heap_setCell _ _ _ _ (by simp)]; exact h1
    clear hin hB3 hB4 k0 k1 k2 k3 hw4 hw4s hw3s hR hrec
    go_enter Try.func20, Try.ntmps20
    go_wp2_with fail
    refine HC.out.mono ?_
    rintro e w7 ⟨rfl, w6, ⟨vq, va, vn, vx, h1, h2, h3⟩, rfl⟩
    obtain ⟨hB7, k1, k2, hrows⟩ := HF.out w6 vq va vn vx h1 h2 h3
    clear h1 h2 h3
    generalize w6.setCell ⟨g + 3, 0, none⟩ (.int .i64 0) = w7 at hB7 k1 k2 hrows ⊢
    obtain ⟨⟨q1, q2, q3, rfl⟩, ⟨a1, a2, a3, rfl⟩, ⟨n1, n2, n3, rfl⟩, ⟨x1, x2, x3, rfl⟩⟩ := hrows.slices
    have d0 := cell_of_row _ _ 0 _ _ _ k2
    have d1 := cell_of_row _ _ 1 _ _ _ k2
    have d2 := cell_of_row _ _ 2 _ _ _ k2
    have d3 := cell_of_row _ _ 3 _ _ _ k2
    have d4 := cell_of_row _ _ 4 _ _ _ k2
    have d5 := cell_of_row _ _ 5 _ _ _ k2
    have e0 := cell_of_row _ _ 0 _ _ _ k1
    have e1 := cell_of_row _ _ 1 _ _ _ k1
    have e2 := cell_of_row _ _ 2 _ _ _ k1
    have e3 := cell_of_row _ _ 3 _ _ _ k1
    have e4 := cell_of_row _ _ 4 _ _ _ k1
    have e5 := cell_of_row _ _ 5 _ _ _ k1
    have ef : ∀ i, w7.frozen? ⟨g + 1, i, none⟩ = false := fun i => by simp [World.frozen?, k1]
    have hgs := setMsg_grown w7 (g + 1) (.int .u16 M.id) (.int .u16 M.flags) (.slice q1 q2 q3) (.slice a1 a2 a3) (.slice n1 n2 n3) (.slice x1 x2 x3)
    have HB7 := Lib.hid ((hB7.grown hgs (by have := hB7.size; have := G.out; omega) (fun k e => by injection e with e; omega)).mono (Nat.le_of_eq G.out))
    have HRW := Lib.hid ((hrows.block k1 hgs (by decide) (by decide) (by decide) (by decide)).low (Nat.le_of_eq G.out))
    clear hB7 k1 k2 hrows hgs
    go_wp2_with fail
    refine bodyPost_ret (v := .tuple #[.agg #[.int .u16 M.id, .int .u16 M.flags, .slice q1 q2 q3, .slice a1 a2 a3, .slice n1 n2 n3, .slice x1 x2 x3], .int .i64 0]) (by simp [results, Try.results20, go_sem, e0, e1, e2, e3, e4, e5]) rfl ⟨_, _, _, _, rfl, HRW.out, HB7.out⟩

theorem read_any (s : ByteArray) (rec : Nat → Except Nat (Rec × Nat)) (R : Except Nat Msg) (w : World) (hs : s.size ≤ 1000000) (hrec : Hid (s.size ≤ 65535 → 0 < nu s.data.toList 6 2 + nu s.data.toList 8 2 + nu s.data.toList 10 2 → ∀ r, RecReads r s rec)) (hR : Hid (rd rec s.data.toList = R)) :
    Calls Try.prog 20 #[.string s] w (ReadRet w R) := by
  by_cases hl : 65535 < s.size
  · have hRe : R = .error 3 := by rw [← hR.out]; exact if_pos (by rw [← Lib.size_eq]; exact hl)
    rw [hRe]
    exact read_long s w hs hl
  · refine read_some s rec R w (by omega) (fun h => hrec.out (by omega) h) ?_
    show _ = _
    rw [← hR.out]
    exact (if_neg (by rw [← Lib.size_eq]; exact hl)).symm
end Go.Proofs.Ytpmmjmnleoicjaa
