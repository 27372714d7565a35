/- Texts of one proof, one behind the other: Builder, RecNumbers. -/
import Derived.Test.YtihkmdojakalbaaProg
import Derived.Test.YtihkmdojakalbaaBytes
import Derived.Test.YtihkmdojakalbaaStrs
import Derived.Test.YtihkmdojakalbaaNums
import Derived.Test.YtihkmdojakalbaaRecMath
import Derived.Test.YtihkmdojakalbaaWriteSparesProofG6
import Derived.Test.YtihkmdojakalbaaWriteSparesProofG7
import Derived.Test.YtihkmdojakalbaaWriteSparesProofG1
import Derived.WalkKit
import Derived.Lib.Hide
import Derived.Lib.Builder
import Derived.Lib.OthersKept
import Derived.Lib.FrozenHead
import Derived.Lib.AppendStr
import Derived.Laws.Externs
import Derived.Outline
import Derived.IntWalk
import Derived.WalkSpells
import Derived.WalkLawsBesides

/- strings.Builder: the contracts of copyCheck, WriteByte and WriteString at a builder that the call made, with the frame that reaches above it. For texts of at most 2^47 bytes. -/
namespace Go.Proofs.Ytihkmdojakalbaa
open Go.RowKit Bytes

theorem infoB : (Try.prog.info? 147).map (·.size) = some 2 := by kernel_rfl
theorem liesB : liesAt Try.prog Try.prog.depth 147 (2 / Try.prog.cellsOf 147) 0 147 1 = true := by kernel_rfl
/-- A builder of the call's own that holds these bytes. -/
abbrev Bld (B b : Nat) (l : List UInt8) (w : World) : Prop := Lib.IsBuilder 147 5 B b (Bytes.byteCells l) w

set_option maxHeartbeats 1000000 in
set_option maxRecDepth 100000 in
theorem copyCheck_used (b : Nat) (w : World) (h0 : w.cell? ⟨b, 0, none⟩ = some (.pointer (some ⟨b, 0, none⟩))) :
    Calls Try.prog 113 #[.pointer (some ⟨b, 0, none⟩)] w fun e w' => e = .returned (.tuple #[]) ∧ w' = w := by
  obtain ⟨j, hj, _⟩ := Option.map_eq_some_iff.1 infoB
  go_enter Try.func113, Try.ntmps113
  go_wp2
  rw [Lib.run_neq_ptr_same w _ Try.underlying145 hj]
  go_wp2
  go_end0
  exact ⟨rfl, rfl⟩

set_option maxHeartbeats 1000000 in
set_option maxRecDepth 100000 in
theorem copyCheck_fresh (b : Nat) (w : World) (h0 : w.cell? ⟨b, 0, none⟩ = some (.pointer none)) (hsh : w.shape? b = some (147, 2)) (hfz : w.frozen? ⟨b, 0, none⟩ = false) :
    Calls Try.prog 113 #[.pointer (some ⟨b, 0, none⟩)] w fun e w' => e = .returned (.tuple #[]) ∧ w' = w.setCell ⟨b, 0, none⟩ (.pointer (some ⟨b, 0, none⟩)) := by
  obtain ⟨j, hj, hjs⟩ := Option.map_eq_some_iff.1 infoB
  go_enter Try.func113, Try.ntmps113
  go_wp2
  rw [Lib.run_to_unsafe w ⟨b, 0, none⟩ Try.underlying145 Try.underlying154 hj (by rw [hjs]; decide) hsh (Nat.zero_lt_succ 1)]
  simp only [Result.andThen]
  rw [Oper.upon_value]
  go_wp2
  rw [run_callFunc_extern Try.func114 (by kernel_rfl) (by kernel_rfl) (by kernel_rfl) (e := Extern.AbiNoEscape.same) (by kernel_rfl)]
  rw [Lib.run_noEscape]
  simp only [Result.andThen]
  rw [Oper.upon_value]
  go_wp2
  rw [Lib.run_from_unsafe w ⟨b, 0, none⟩ Try.underlying154 Try.underlying145 hj hsh liesB]
  simp only [Result.andThen]
  rw [Oper.upon_value]
  go_wp2
  go_end0
  exact ⟨rfl, rfl⟩

theorem copyCheck_any (B b : Nat) (bs : List Value) (w : World) (h : Lib.IsBuilder 147 5 B b bs w) :
    Calls Try.prog 113 #[.pointer (some ⟨b, 0, none⟩)] w fun e w' => e = .returned (.tuple #[]) ∧ (Lib.BuilderAt 147 5 B b (.pointer (some ⟨b, 0, none⟩)) bs w' ∧ Below B w w' ∧ Lib.OthersKept 5 (some b) w w') := by
  rcases h with h | h
  · refine (copyCheck_fresh b w h.cell0 h.shape h.frozen0).mono ?_
    rintro e w' ⟨rfl, rfl⟩
    exact ⟨rfl, h.used _, (Below.refl B w).setCell (p := ⟨b, 0, none⟩) h.1 _, (Lib.OthersKept.refl _ _ w).setCell ⟨b, 0, none⟩ rfl _⟩
  · refine (copyCheck_used b w h.cell0).mono ?_
    rintro e w' ⟨rfl, rfl⟩
    exact ⟨rfl, h, Below.refl B _, Lib.OthersKept.refl _ _ _⟩
theorem ownsRow_kind {w : World} {B : Nat} {e : TypeId} {v : Value} {n : Nat} {xs : List Value} (h : w.ownsRow B e 1 v n xs) : ∀ g, v.ownBlock = some g → ∃ c fz, w.heap[g]? = some (.cells c e fz) := by
  intro g hg
  rcases h.2 with ⟨rfl, _⟩ | ⟨g', cap, cur, rfl, _, hgg, _⟩
  · simp [Value.ownBlock] at hg
  · simp [Value.ownBlock] at hg
    subst hg
    exact ⟨cur, (0, 0), hgg⟩
/-- A row of another kind than bytes stands behind a write to a builder. -/
theorem own_others {w w' : World} {B b n : Nat} {e : TypeId} {v : Value} {xs : List Value} (h : w.ownsRow B e 1 v n xs) (hk : Lib.OthersKept 5 (some b) w w') (he : e ≠ 5) (hb : v.ownBlock ≠ some b) : w'.ownsRow B e 1 v n xs := by
  refine ⟨h.1, ?_⟩
  rcases h.2 with h0 | ⟨g, cap, cur, rfl, hB, hg, r⟩
  · exact .inl h0
  · exact .inr ⟨g, cap, cur, rfl, hB, hk g _ hg (fun e1 => hb (by rw [← e1]; rfl)) (fun c fz e1 => he (by injection e1)), r⟩

set_option maxHeartbeats 2000000 in
set_option maxRecDepth 100000 in
theorem writeByte_any (B b : Nat) (l : List UInt8) (c : UInt8) (w : World) (h : Bld B b l w) (hlen : l.length + 1 ≤ 140737488355328) (hBw : B ≤ w.heap.size) :
    Calls Try.prog 110 #[.pointer (some ⟨b, 0, none⟩), .int .u8 c.toNat] w fun e w' => e = .returned .nilIface ∧ (Bld B b (l ++ [c]) w' ∧ Below B w w' ∧ Lib.OthersKept 5 (some b) w w') := by
  obtain ⟨i0, hi, hz0, hz1, hz2⟩ := info_parts info5
  go_enter Try.func110, Try.ntmps110
  go_wp2_with fail
  refine (copyCheck_any B b _ _ h).mono ?_
  rintro e w1 ⟨rfl, h1, hb1, hk1⟩
  obtain ⟨hB, v, hbk, hown, hne⟩ := h1
  have hbl := Nat.le_of_eq (byteCells_len l)
  have c0 : w1.cell? ⟨b, 0, none⟩ = some (.pointer (some ⟨b, 0, none⟩)) := by rw [Lib.cell_of_heap hbk]; rfl
  have c1 : w1.cell? ⟨b, 1, none⟩ = some v := by rw [Lib.cell_of_heap hbk]; rfl
  go_wp2_with (at_builtin; refine wpList_append_own _ rfl _ _ 71 rfl B 5 i0 (.int .u8 0) 1 1 Try.underlying71 hi hz0 hz1 hz2 rfl (by decide) _ _ _ rfl (hown.alloc _) ⟨w1.heap.size, 0, none⟩ 1 1 [.int .u8 (c.toNat : Int)] rfl rfl ?c1 ?c2 ?c3 ?c4 ?c5 ?_)
  case c1 =>
    intro j u hj
    match j, hj with
    | 0, hj => simp at hj; subst hj; simp [Addr.add]
  case c2 => intro u hu; simp at hu; subst hu; rfl
  case c3 => unfold maxLen; omega
  case c4 => omega
  case c5 => have := hb1.size; simp; omega
  intro v' w2 hown' hgrow _
  have hlt : b < w1.heap.size := by
    rcases Nat.lt_or_ge b w1.heap.size with h' | h'
    · exact h'
    · simp [Array.getElem?_eq_none h'] at hbk
  have hb2 : w2.heap[b]? = some (.cells #[.pointer (some ⟨b, 0, none⟩), v] 147 (0, 0)) := by
    rw [hgrow.block b (by simp; omega) (fun e => hne e.symm), Lib.alloc_old w1 _ b hlt]
    exact hbk
  have d0 : w2.cell? ⟨b, 0, none⟩ = some (.pointer (some ⟨b, 0, none⟩)) := by rw [Lib.cell_of_heap hb2]; rfl
  have d1 : w2.cell? ⟨b, 1, none⟩ = some v := by rw [Lib.cell_of_heap hb2]; rfl
  have f1 : w2.frozen? ⟨b, 1, none⟩ = false := Lib.frozen_of_heap hb2 1
  obtain ⟨g, cap, rfl⟩ : ∃ g cap, v' = .slice (some ⟨g, 0, none⟩) ((Bytes.byteCells l).length + 1) cap := by
    rcases hown'.2 with ⟨_, h0⟩ | ⟨g, cap, cur, hv, _⟩
    · omega
    · exact ⟨g, cap, hv⟩
  go_wp2
  go_ret
  refine ⟨rfl, ?_, ?_, ((hk1.alloc _).grown hgrow (ownsRow_kind (hown.alloc _))).setCell ⟨b, 1, none⟩ rfl _⟩
  · refine Or.inr ?_
    rw [byteCells_cat, byteCells_one]
    exact Lib.BuilderAt.put (T := 147) (e := 5) hB hb2 (bs' := Bytes.byteCells l ++ [.int .u8 c.toNat]) (by simpa using hown') (by decide)
  · exact ((hb1.alloc (by have := hb1.size; omega) _).grown hgrow (by have := hb1.size; simp; omega) (fun k hk => (hown.lt k hk).1)).setCell (p := ⟨b, 1, none⟩) hB _

theorem strCells_bytesB (s : ByteArray) : Lib.strCells s = Bytes.byteCells s.data.toList := by
  unfold Bytes.byteCells
  simp [Lib.strCells]

set_option maxHeartbeats 2000000 in
set_option maxRecDepth 100000 in
theorem writeString_any (B b : Nat) (l : List UInt8) (s : ByteArray) (w : World) (h : Bld B b l w) (hlen : l.length + s.size ≤ 140737488355328) (hBw : B ≤ w.heap.size) :
    Calls Try.prog 111 #[.pointer (some ⟨b, 0, none⟩), .string s] w fun e w' => e = .returned (.tuple #[.int .i64 s.size, .nilIface]) ∧ (Bld B b (l ++ s.data.toList) w' ∧ Below B w w' ∧ Lib.OthersKept 5 (some b) w w') := by
  obtain ⟨i0, hi, hz0, hz1, hz2⟩ := info_parts info5
  go_enter Try.func111, Try.ntmps111
  go_wp2_with fail
  refine (copyCheck_any B b _ _ h).mono ?_
  rintro e w1 ⟨rfl, h1, hb1, hk1⟩
  obtain ⟨hB, v, hbk, hown, hne⟩ := h1
  have hbl := Nat.le_of_eq (byteCells_len l)
  have c0 : w1.cell? ⟨b, 0, none⟩ = some (.pointer (some ⟨b, 0, none⟩)) := by rw [Lib.cell_of_heap hbk]; rfl
  have c1 : w1.cell? ⟨b, 1, none⟩ = some v := by rw [Lib.cell_of_heap hbk]; rfl
  go_wp2_with (at_builtin; refine Lib.wpList_append_own_string _ rfl _ _ 71 9 rfl B 5 i0 Try.underlying71 Try.underlying9 hi hz0 hz1 hz2 _ _ _ rfl hown s rfl ?c3 ?c4 ?c5 ?_)
  case c3 => unfold maxLen; omega
  case c4 => omega
  case c5 => have := hb1.size; omega
  intro v' w2 hown' hgrow _
  have hlt : b < w1.heap.size := by
    rcases Nat.lt_or_ge b w1.heap.size with h' | h'
    · exact h'
    · simp [Array.getElem?_eq_none h'] at hbk
  have hb2 : w2.heap[b]? = some (.cells #[.pointer (some ⟨b, 0, none⟩), v] 147 (0, 0)) := by
    rw [hgrow.block b hlt (fun e => hne e.symm)]
    exact hbk
  have d0 : w2.cell? ⟨b, 0, none⟩ = some (.pointer (some ⟨b, 0, none⟩)) := by rw [Lib.cell_of_heap hb2]; rfl
  have d1 : w2.cell? ⟨b, 1, none⟩ = some v := by rw [Lib.cell_of_heap hb2]; rfl
  have f1 : w2.frozen? ⟨b, 1, none⟩ = false := Lib.frozen_of_heap hb2 1
  obtain ⟨ao, n', cap, rfl⟩ : ∃ ao n' cap, v' = .slice ao n' cap := by
    rcases hown'.2 with ⟨hv, _⟩ | ⟨g, cap, cur, hv, _⟩
    · exact ⟨_, _, _, hv⟩
    · exact ⟨_, _, _, hv⟩
  go_wp2
  go_ret2
  refine ⟨rfl, ?_, ?_, (hk1.grown hgrow (ownsRow_kind hown)).setCell ⟨b, 1, none⟩ rfl _⟩
  · refine Or.inr ?_
    rw [byteCells_cat, ← strCells_bytesB s]
    exact Lib.BuilderAt.put (T := 147) (e := 5) hB hb2 (bs' := Bytes.byteCells l ++ Lib.strCells s) (by simpa [Lib.strCells_length] using hown') (by decide)
  · exact (hb1.grown hgrow (by have := hb1.size; omega) (fun k hk => (hown.lt k hk).1)).setCell (p := ⟨b, 1, none⟩) hB _
end Go.Proofs.Ytihkmdojakalbaa

/- The contracts of rdata's numbers and measured: the plain bytes of numbers, and of texts behind their lengths. For lists of at most 10^5. -/
namespace Go.Proofs.Ytihkmdojakalbaa
open Go.RowKit Bytes Strs Nums RecMath

/-- Bytes of the call's own, as num's Put leaves them: none yet, or a block that is known whole. -/
def BufAt (w : World) (A : Option Addr) (m c : Nat) (l : List UInt8) : Prop :=
  (A = none ∧ m = 0 ∧ c = 0 ∧ l = []) ∨ ∃ g, A = some ⟨g, 0, none⟩ ∧ m = l.length ∧ g < w.heap.size ∧ w.heap[g]? = some (.cells (Lib.byteCells l).toArray 5 (0, 0))
theorem BufAt.rd {w : World} {A : Option Addr} {m c : Nat} {l : List UInt8} (h : BufAt w A m c l) : RdB w w.heap.size A l ∧ l.length = m := by
  rcases h with ⟨rfl, rfl, _, rfl⟩ | ⟨g, rfl, rfl, hg, hh⟩
  · exact ⟨fun hp => absurd hp (Nat.lt_irrefl 0), rfl⟩
  · refine ⟨fun _ => ⟨_, rfl, hg, fun i v hv => ?_⟩, rfl⟩
    rw [show ((⟨g, 0, none⟩ : Addr).add i) = ⟨g, i, none⟩ from by unfold Addr.add; split <;> simp_all]
    rw [Lib.cell_of_heap hh, ← Array.getElem?_toList]
    exact hv
theorem BufAt.conv {w : World} {A : Option Addr} {m c : Nat} {l : List UInt8} (h : BufAt w A m c l) : (convert 71 9 (.slice A m c)).run Try.prog w = .ok (.string (mk l)) w := by
  rcases h with ⟨rfl, rfl, rfl, rfl⟩ | ⟨g, rfl, rfl, hg, hh⟩
  · exact Lib.run_convert_nil_bytes w _ _ 5 0 Try.underlying71 Try.underlying5 Try.underlying9
  · refine run_convert_bytes_back w _ _ 5 ⟨g, 0, none⟩ c l Try.underlying71 Try.underlying5 Try.underlying9 (fun j hj => ?_)
    rw [show ((⟨g, 0, none⟩ : Addr).add j) = ⟨g, j, none⟩ from by unfold Addr.add; split <;> simp_all]
    rw [Lib.cell_of_heap hh, ← Array.getElem?_toList]
    simp [Lib.byteCells, hj]
def PutRes (w : World) (l : List UInt8) (n k : Nat) (e : Ending) (w' : World) : Prop :=
  ∃ A m c, e = .returned (.slice A m c) ∧ BufAt w' A m c (l ++ beTail n k) ∧ Below w.heap.size w w'
theorem put_buf (A : Option Addr) (m c : Nat) (l : List UInt8) (n k : Nat) (w : World) (hk : k ≤ 8) (hb : BufAt w A m c l) (hl : m ≤ 1000000) :
    Calls Try.prog 78 #[.slice A m c, .int .u64 n, .int .i64 k] w (PutRes w l n k) := by
  obtain ⟨hr, hm⟩ := hb.rd
  have := put_any A c l n k w hk hr (by omega)
  rw [hm] at this
  exact this.mono fun _ _ ⟨he, hB, hlt, hh⟩ => ⟨_, _, _, he, Or.inr ⟨_, rfl, by rw [List.length_append, beTail_length, hm], hlt, hh⟩, hB⟩

set_option maxHeartbeats 2000000 in
theorem numbers_is (A : Option Addr) (c n k : Nat) (L : List Nat) (r : ByteArray) (w : World) (hr : RdN w w.heap.size A L) (hn0 : Hid (L.length = n)) (hn : n ≤ 100000) (hk : k ≤ 8) (hu : Hid (∀ k, k < L.length → L.getD k 0 ≤ 4294967295)) (hR : Hid (numsL k L = r.data.toList)) :
    Calls Try.prog 107 #[.slice A n c, .int .i64 k] w fun e w' => e = .returned (.string r) ∧ Below w.heap.size w w' := by
  have HR := Lib.hid hr; clear hr
  generalize hg : w.heap.size = g at *
  have G := Lib.hid hg; clear hg
  go_enter Try.func107, Try.ntmps107
  go_wp2_with fail
  go_loopw [10, 5, 7] (fun i b u wr => ∃ (j m q : Nat) (B : Option Addr) (l : List UInt8), j ≤ n ∧ i = .int .i64 j ∧ b = .slice B m q ∧ m ≤ 8 * j ∧ Hid (BufAt wr B m q l) ∧ Hid (l ++ numsL k (L.drop j) = r.data.toList) ∧ Below g w wr) (fun i _ _ _ => n - (intOf i).toNat)
  case atStart => exact ⟨0, 0, 0, none, [], Nat.zero_le _, rfl, rfl, Nat.zero_le _, Lib.hid (Or.inl ⟨rfl, rfl, rfl, rfl⟩), hR, Below.refl _ _⟩
  case round =>
    obtain ⟨j, m, q, B, l, hj, rfl, rfl, hm, hBuf, hH, hB⟩ := hrel
    have hsz := hB.size
    by_cases hlt : j < n
    · have hkl : j < L.length := by rw [hn0.out]; exact hlt
      obtain ⟨ad, rfl, hab, hcell⟩ := (HR.out.on hB (Nat.le_refl g)).get hkl
      have hd := hH.out
      rw [numsL_drop k hkl, ← List.append_assoc] at hd
      have HD := Lib.hid hd
      have hy := hu.out j hkl
      generalize L.getD j 0 = y at *
      clear hd hH hkl
      go_wp2_with fail
      refine (put_buf B m q l y k _ hk hBuf.out (by omega)).mono ?_
      rintro e w3 ⟨B2, m2, q2, rfl, hb2, hB3⟩
      have hm2 := hb2.rd.2
      rw [List.length_append, beTail_length, hBuf.out.rd.2] at hm2
      have HB2 := Lib.hid hb2
      have hBB := hB.trans (hB3.mono (by have := G.out; omega))
      have hm3 : m2 ≤ 8 * (j + 1) := by omega
      clear hB hB3 hb2 hm2 hsz
      go_wp2_with fail
      go_roundw
      case rel => exact ⟨j + 1, m2, q2, B2, _, by omega, by go_num, rfl, hm3, HB2, HD, hBB⟩
      case measure => simp [intOf]; omega
    · have hd := hH.out
      rw [List.drop_of_length_le (by rw [hn0.out]; omega)] at hd
      have he : l = r.data.toList := by rw [← hd]; simp [numsL]
      have hcv := hBuf.out.conv
      rw [he, mk_data] at hcv
      clear hd hH he
      go_wp2_with fail
      go_ret
      exact ⟨rfl, hB⟩

theorem bld_below {w w' : World} {B b : Nat} {l : List UInt8} (h : Bld B b l w) (hB : Below w.heap.size w w') : Bld B b l w' := by
  have key : ∀ p, Lib.BuilderAt 147 5 B b p (Bytes.byteCells l) w → Lib.BuilderAt 147 5 B b p (Bytes.byteCells l) w' := fun p h => by
    have hlt := h.lt
    obtain ⟨h1, v, hb, hown, hne⟩ := h
    exact ⟨h1, v, (hB.block b hlt).trans hb, own_below hown hB, hne⟩
  rcases h with h | h
  · exact Or.inl (key _ h)
  · exact Or.inr (key _ h)
theorem writeByte_is (B b : Nat) (l : List UInt8) (c : UInt8) (z : Int) (w : World) (h : Bld B b l w) (hlen : l.length + 1 ≤ 140737488355328) (hBw : B ≤ w.heap.size) (hz : (c.toNat : Int) = z) :
    Calls Try.prog 110 #[.pointer (some ⟨b, 0, none⟩), .int .u8 z] w fun e w' => e = .returned .nilIface ∧ Bld B b (l ++ [c]) w' ∧ Below B w w' := by
  subst hz
  exact (writeByte_any B b l c w h hlen hBw).mono fun _ _ ⟨he, h1, h2, _⟩ => ⟨he, h1, h2⟩
theorem writeString_is (B b : Nat) (l : List UInt8) (s : ByteArray) (w : World) (h : Bld B b l w) (hlen : l.length + s.size ≤ 140737488355328) (hBw : B ≤ w.heap.size) :
    Calls Try.prog 111 #[.pointer (some ⟨b, 0, none⟩), .string s] w fun e w' => e = .returned (.tuple #[.int .i64 s.size, .nilIface]) ∧ Bld B b (l ++ s.data.toList) w' ∧ Below B w w' :=
  (writeString_any B b l s w h hlen hBw).mono fun _ _ ⟨he, h1, h2, _⟩ => ⟨he, h1, h2⟩

set_option maxHeartbeats 4000000 in
set_option maxRecDepth 100000 in
theorem measured_is (A : Option Addr) (c n : Nat) (L : List (List UInt8)) (r : ByteArray) (w : World) (hr : RdS w w.heap.size A L) (hn0 : Hid (L.length = n)) (hn : n ≤ 100000) (hs : Hid (∀ j, j < L.length → (L.getD j []).length ≤ 255)) (hrz : r.size ≤ 1000000) (hR : Hid (L.flatMap (textL 16) = r.data.toList)) :
    Calls Try.prog 108 #[.slice A n c] w fun e w' => e = .returned (.string r) ∧ Below w.heap.size w w' := by
  have HR := Lib.hid hr; clear hr
  have hfr : Bld w.heap.size w.heap.size [] (w.alloc (.cells #[.pointer none, .slice none 0 0] 147)) := Lib.fresh_isBuilder 147 5 w
  have HF := Lib.hid hfr
  clear hfr
  have hBA : Below w.heap.size w (w.alloc (.cells #[.pointer none, .slice none 0 0] 147)) := (Below.refl _ _).alloc (Nat.le_refl _) _
  have HBA := Lib.hid hBA
  clear hBA
  go_enter Try.func108, Try.ntmps108
  go_wp2_with fail
  generalize w.alloc (.cells #[.pointer none, .slice none 0 0] 147) = w1 at *
  generalize hg : w.heap.size = g at *
  have G := Lib.hid hg
  clear hg
  go_loopw [8, 5] (fun i u wr => ∃ (j : Nat) (l : List UInt8), j ≤ n ∧ i = .int .i64 j ∧ Hid (Bld g g l wr) ∧ Hid (l ++ (L.drop j).flatMap (textL 16) = r.data.toList) ∧ Below g w wr) (fun i _ _ => n - (intOf i).toNat)
  case atStart => exact ⟨0, [], Nat.zero_le _, rfl, HF, hR, HBA.out⟩
  case round =>
    obtain ⟨j, l, hj, rfl, hBd, hH, hB⟩ := hrel
    have hsz := hB.size
    have hle : l.length ≤ r.size := by rw [Lib.size_eq, ← hH.out, List.length_append]; omega
    by_cases hlt : j < n
    · have hkl : j < L.length := by rw [hn0.out]; exact hlt
      obtain ⟨ad, rfl, hab, hcell⟩ := (HR.out.on hB (Nat.le_refl g)).get hkl
      have hd := hH.out
      have h255 := hs.out j hkl
      have hml := mk_list (L.getD j [])
      have hlq := mk_size (L.getD j [])
      have hof := ofNat_mod (L.getD j []).length
      have hd2 : (l ++ [UInt8.ofNat (L.getD j []).length] ++ (mk (L.getD j [])).data.toList) ++ (L.drop (j + 1)).flatMap (textL 16) = r.data.toList := by
        rw [← hd, textL_drop 16 hkl, textL_16, mk_list]
        simp
      have hz : ((UInt8.ofNat (L.getD j []).length).toNat : Int) = ((mk (L.getD j [])).size : Int) := by rw [hof, hlq]; omega
      have hy : (mk (L.getD j [])).size ≤ 255 := by omega
      generalize UInt8.ofNat (L.getD j []).length = cc at *
      generalize mk (L.getD j []) = y at *
      have HZ := Lib.hid hz
      have HD := Lib.hid hd2
      have HLE := Lib.hid hle
      clear hd hd2 hH hkl hml hlq hof h255 hz hle
      go_wp2_with fail
      refine (writeByte_is g g l cc (y.size : Int) _ hBd.out (by have := HLE.out; omega) (by have := G.out; omega) HZ.out).mono ?_
      rintro e w3 ⟨rfl, hb3, hB3⟩
      have HB3 := Lib.hid hb3
      have hBB := hB.trans hB3
      have hsz3 := hBB.size
      clear hB hB3 hb3 hsz hcell
      go_wp2_with fail
      refine (writeString_is g g _ y _ HB3.out (by rw [List.length_append, List.length_singleton]; have := HLE.out; omega) (by have := G.out; omega)).mono ?_
      rintro e w4 ⟨rfl, hb4, hB4⟩
      have HB4 := Lib.hid hb4
      have hBC := hBB.trans hB4
      clear hBB hB4 hb4 hsz3
      go_wp2_with fail
      go_roundw
      case rel => exact ⟨j + 1, _, by omega, by go_num, HB4, HD, hBC⟩
      case measure => simp [intOf]; omega
    · have hd := hH.out
      rw [List.drop_of_length_le (by rw [hn0.out]; omega), List.flatMap_nil, List.append_nil] at hd
      have hbk := hBd.out
      rw [hd] at hbk
      have HBK := Lib.hid hbk
      clear hd hH hbk
      go_wp2_with fail
      refine (Try.Builder_String_any g g r.data.toList _ HBK.out (by have := G.out; omega)).mono ?_
      rintro e w4 ⟨rfl, hB4⟩
      go_wp2_with fail
      go_ret
      exact ⟨rfl, by rw [G.out]; exact hB.trans hB4⟩
end Go.Proofs.Ytihkmdojakalbaa
