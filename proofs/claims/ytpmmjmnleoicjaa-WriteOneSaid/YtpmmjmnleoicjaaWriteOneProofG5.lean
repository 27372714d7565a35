/- Texts of one proof, one behind the other: NumRefPut, Builder, RecNumbers, RecPlain. -/
import Derived.Test.YtpmmjmnleoicjaaProg
import Derived.Test.YtpmmjmnleoicjaaBytes
import Derived.Test.YtpmmjmnleoicjaaNumBe
import Derived.Test.YtpmmjmnleoicjaaStrs
import Derived.Test.YtpmmjmnleoicjaaNums
import Derived.Test.YtpmmjmnleoicjaaRecMath
import Derived.Test.YtpmmjmnleoicjaaWriteOneProofG4
import Derived.Test.YtpmmjmnleoicjaaShelf
import Derived.Test.YtpmmjmnleoicjaaRecAt
import Derived.Test.YtpmmjmnleoicjaaRecCheck
import Derived.Test.YtpmmjmnleoicjaaClone
import Derived.Test.YtpmmjmnleoicjaaHeld
import Derived.WalkKit
import Derived.Lib.Hide
import Derived.Outline
import Derived.IntWalk
import Derived.WalkSpells
import Derived.WalkLawsBesides
import Derived.Lib.Builder
import Derived.Lib.OthersKept
import Derived.Lib.FrozenHead
import Derived.Lib.AppendStr
import Derived.Laws.Externs
import Derived.Deep.RegionHeld3
import Derived.Deep.DeepCutAuto
import Derived.Deep.Draws

/- The contract of the document's Put: a text with a number's lowest bytes behind it, big-endian. For texts of at most 10^6 bytes, sizes up to 8. -/
namespace Go.Proofs.Ytpmmjmnleoicjaa
open Go.RowKit Bytes

theorem ofNat_mod (x : Nat) : ((UInt8.ofNat x).toNat : Int) = (x : Int) % 256 := by
  rw [UInt8.toNat_ofNat']
  have e : (2 : Nat) ^ 8 = 256 := rfl
  omega
set_option maxHeartbeats 2000000 in
theorem refPut_is (s r : ByteArray) (n k : Nat) (w : World) (hs : s.size ≤ 1000000) (hk : k ≤ 8) (hn : n ≤ 18446744073709551615) (hr : Hid (s.data.toList ++ beTail n k = r.data.toList)) :
    Calls Try.prog 47 #[.string s, .int .u64 n, .int .i64 k] w fun e w' => e = .returned (.string r) ∧ Below w.heap.size w w' := by
  generalize hg : w.heap.size = g at *
  have G := Lib.hid hg; clear hg
  go_enter Try.func47, Try.ntmps47
  go_wp2_with fail
  go_loopw [7, 8, 1] (fun v i u wr => ∃ (j x : Nat) (t : ByteArray), j ≤ k ∧ i = .int .i64 j ∧ u = .int .u64 x ∧ v = .string t ∧ t.size ≤ 8 ∧ x ≤ n ∧ Hid (t = mk (beTail n j)) ∧ Hid (x = n / 256 ^ j) ∧ Below g w wr) (fun _ i _ _ => k - (intOf i).toNat)
  case atStart => exact ⟨0, n, _, Nat.zero_le _, rfl, rfl, rfl, by decide, Nat.le_refl _, Lib.hid rfl, Lib.hid (by simp), Below.refl _ _⟩
  case round =>
    obtain ⟨j, x, t, hj, rfl, rfl, rfl, ht, hxn, hT, hX, hB⟩ := hrel
    by_cases hlt : j < k
    · have h8 : (j : Int) < 8 := by omega
      have hc2 : (convert 74 9 (.slice (some ⟨wr.heap.size, 0, none⟩) 1 1)).run Try.prog (wr.alloc (.cells #[.int .u8 ((x : Int) % 256)] 5)) = .ok (.string (mk [UInt8.ofNat x])) (wr.alloc (.cells #[.int .u8 ((x : Int) % 256)] 5)) := conv_new wr [UInt8.ofNat x] _ 1 (by rw [← ofNat_mod]; rfl) rfl
      have hq := mk_size [UInt8.ofNat x]
      have hcat : mk [UInt8.ofNat x] ++ t = mk (beTail n (j + 1)) := by rw [hT.out, mk_cat, hX.out]; rfl
      have hX2 : Hid (x / 256 = n / 256 ^ (j + 1)) := by show _ = _; rw [Nat.pow_succ, ← Nat.div_div_eq_div_mul, ← hX.out]
      have hz : (mk [UInt8.ofNat x] ++ t).size ≤ 8 := by rw [hcat, mk_size, beTail_length]; omega
      generalize mk [UInt8.ofNat x] = q at *
      have hq1 : q.size ≤ 1 := Nat.le_of_eq hq
      have HC := Lib.hid hcat
      clear hq hcat hT hX
      go_wp2_with fail
      go_roundw
      case rel => exact ⟨j + 1, x / 256, _, by omega, by go_num, by go_num, rfl, hz, by omega, HC, hX2, hB.alloc (by have := hB.size; have := G.out; omega) _⟩
      case measure => simp [intOf]; omega
    · obtain rfl : j = k := by omega
      have hr2 : r = s ++ t := list_inj (by rw [← hr.out, cat_list, hT.out, mk_list])
      have HR := Lib.hid hr2
      clear hr2 hT hX hr
      go_wp2_with fail
      go_ret
      exact ⟨by rw [HR.out]; rfl, hB⟩
end Go.Proofs.Ytpmmjmnleoicjaa

/- strings.Builder: the contracts of copyCheck, WriteByte and WriteString at a builder that the call made, with the frame that reaches above it. For texts of at most 2^47 bytes. -/
namespace Go.Proofs.Ytpmmjmnleoicjaa
open Go.RowKit Bytes

theorem infoB : (Try.prog.info? 171).map (·.size) = some 2 := by kernel_rfl
theorem liesB : liesAt Try.prog Try.prog.depth 171 (2 / Try.prog.cellsOf 171) 0 171 1 = true := by kernel_rfl
/-- A builder of the call's own that holds these bytes. -/
abbrev Bld (B b : Nat) (l : List UInt8) (w : World) : Prop := Lib.IsBuilder 171 5 B b (Bytes.byteCells l) w

set_option maxHeartbeats 1000000 in
set_option maxRecDepth 100000 in
theorem copyCheck_used (b : Nat) (w : World) (h0 : w.cell? ⟨b, 0, none⟩ = some (.pointer (some ⟨b, 0, none⟩))) :
    Calls Try.prog 154 #[.pointer (some ⟨b, 0, none⟩)] w fun e w' => e = .returned (.tuple #[]) ∧ w' = w := by
  obtain ⟨j, hj, _⟩ := Option.map_eq_some_iff.1 infoB
  go_enter Try.func154, Try.ntmps154
  go_wp2
  rw [Lib.run_neq_ptr_same w _ Try.underlying169 hj]
  go_wp2
  go_end0
  exact ⟨rfl, rfl⟩

set_option maxHeartbeats 1000000 in
set_option maxRecDepth 100000 in
theorem copyCheck_fresh (b : Nat) (w : World) (h0 : w.cell? ⟨b, 0, none⟩ = some (.pointer none)) (hsh : w.shape? b = some (171, 2)) (hfz : w.frozen? ⟨b, 0, none⟩ = false) :
    Calls Try.prog 154 #[.pointer (some ⟨b, 0, none⟩)] w fun e w' => e = .returned (.tuple #[]) ∧ w' = w.setCell ⟨b, 0, none⟩ (.pointer (some ⟨b, 0, none⟩)) := by
  obtain ⟨j, hj, hjs⟩ := Option.map_eq_some_iff.1 infoB
  go_enter Try.func154, Try.ntmps154
  go_wp2
  rw [Lib.run_to_unsafe w ⟨b, 0, none⟩ Try.underlying169 Try.underlying178 hj (by rw [hjs]; decide) hsh (Nat.zero_lt_succ 1)]
  simp only [Result.andThen]
  rw [Oper.upon_value]
  go_wp2
  rw [run_callFunc_extern Try.func155 (by kernel_rfl) (by kernel_rfl) (by kernel_rfl) (e := Extern.AbiNoEscape.same) (by kernel_rfl)]
  rw [Lib.run_noEscape]
  simp only [Result.andThen]
  rw [Oper.upon_value]
  go_wp2
  rw [Lib.run_from_unsafe w ⟨b, 0, none⟩ Try.underlying178 Try.underlying169 hj hsh liesB]
  simp only [Result.andThen]
  rw [Oper.upon_value]
  go_wp2
  go_end0
  exact ⟨rfl, rfl⟩

theorem copyCheck_any (B b : Nat) (bs : List Value) (w : World) (h : Lib.IsBuilder 171 5 B b bs w) :
    Calls Try.prog 154 #[.pointer (some ⟨b, 0, none⟩)] w fun e w' => e = .returned (.tuple #[]) ∧ (Lib.BuilderAt 171 5 B b (.pointer (some ⟨b, 0, none⟩)) bs w' ∧ Below B w w' ∧ Lib.OthersKept 5 (some b) w w') := by
  rcases h with h | h
  · refine (copyCheck_fresh b w h.cell0 h.shape h.frozen0).mono ?_
    rintro e w' ⟨rfl, rfl⟩
    exact ⟨rfl, h.used _, (Below.refl B w).setCell (p := ⟨b, 0, none⟩) h.1 _, (Lib.OthersKept.refl _ _ w).setCell ⟨b, 0, none⟩ rfl _⟩
  · refine (copyCheck_used b w h.cell0).mono ?_
    rintro e w' ⟨rfl, rfl⟩
    exact ⟨rfl, h, Below.refl B _, Lib.OthersKept.refl _ _ _⟩
theorem ownsRow_kind {w : World} {B : Nat} {e : TypeId} {v : Value} {n : Nat} {xs : List Value} (h : w.ownsRow B e 1 v n xs) : ∀ g, v.ownBlock = some g → ∃ c fz, w.heap[g]? = some (.cells c e fz) := by
  intro g hg
  rcases h.2 with ⟨rfl, _⟩ | ⟨g', cap, cur, rfl, _, hgg, _⟩
  · simp [Value.ownBlock] at hg
  · simp [Value.ownBlock] at hg
    subst hg
    exact ⟨cur, (0, 0), hgg⟩
/-- A row of another kind than bytes stands behind a write to a builder. -/
theorem own_others {w w' : World} {B b n : Nat} {e : TypeId} {v : Value} {xs : List Value} (h : w.ownsRow B e 1 v n xs) (hk : Lib.OthersKept 5 (some b) w w') (he : e ≠ 5) (hb : v.ownBlock ≠ some b) : w'.ownsRow B e 1 v n xs := by
  refine ⟨h.1, ?_⟩
  rcases h.2 with h0 | ⟨g, cap, cur, rfl, hB, hg, r⟩
  · exact .inl h0
  · exact .inr ⟨g, cap, cur, rfl, hB, hk g _ hg (fun e1 => hb (by rw [← e1]; rfl)) (fun c fz e1 => he (by injection e1)), r⟩

set_option maxHeartbeats 2000000 in
set_option maxRecDepth 100000 in
theorem writeByte_any (B b : Nat) (l : List UInt8) (c : UInt8) (w : World) (h : Bld B b l w) (hlen : l.length + 1 ≤ 140737488355328) (hBw : B ≤ w.heap.size) :
    Calls Try.prog 150 #[.pointer (some ⟨b, 0, none⟩), .int .u8 c.toNat] w fun e w' => e = .returned .nilIface ∧ (Bld B b (l ++ [c]) w' ∧ Below B w w' ∧ Lib.OthersKept 5 (some b) w w') := by
  obtain ⟨i0, hi, hz0, hz1, hz2⟩ := info_parts info5
  go_enter Try.func150, Try.ntmps150
  go_wp2_with fail
  refine (copyCheck_any B b _ _ h).mono ?_
  rintro e w1 ⟨rfl, h1, hb1, hk1⟩
  obtain ⟨hB, v, hbk, hown, hne⟩ := h1
  have hbl := Nat.le_of_eq (byteCells_len l)
  have c0 : w1.cell? ⟨b, 0, none⟩ = some (.pointer (some ⟨b, 0, none⟩)) := by rw [Lib.cell_of_heap hbk]; rfl
  have c1 : w1.cell? ⟨b, 1, none⟩ = some v := by rw [Lib.cell_of_heap hbk]; rfl
  go_wp2_with (at_builtin; refine wpList_append_own _ rfl _ _ 74 rfl B 5 i0 (.int .u8 0) 1 1 Try.underlying74 hi hz0 hz1 hz2 rfl (by decide) _ _ _ rfl (hown.alloc _) ⟨w1.heap.size, 0, none⟩ 1 1 [.int .u8 (c.toNat : Int)] rfl rfl ?c1 ?c2 ?c3 ?c4 ?c5 ?_)
  case c1 =>
    intro j u hj
    match j, hj with
    | 0, hj => simp at hj; subst hj; simp [Addr.add]
  case c2 => intro u hu; simp at hu; subst hu; rfl
  case c3 => unfold maxLen; omega
  case c4 => omega
  case c5 => have := hb1.size; simp; omega
  intro v' w2 hown' hgrow _
  have hlt : b < w1.heap.size := by
    rcases Nat.lt_or_ge b w1.heap.size with h' | h'
    · exact h'
    · simp [Array.getElem?_eq_none h'] at hbk
  have hb2 : w2.heap[b]? = some (.cells #[.pointer (some ⟨b, 0, none⟩), v] 171 (0, 0)) := by
    rw [hgrow.block b (by simp; omega) (fun e => hne e.symm), Lib.alloc_old w1 _ b hlt]
    exact hbk
  have d0 : w2.cell? ⟨b, 0, none⟩ = some (.pointer (some ⟨b, 0, none⟩)) := by rw [Lib.cell_of_heap hb2]; rfl
  have d1 : w2.cell? ⟨b, 1, none⟩ = some v := by rw [Lib.cell_of_heap hb2]; rfl
  have f1 : w2.frozen? ⟨b, 1, none⟩ = false := Lib.frozen_of_heap hb2 1
  obtain ⟨g, cap, rfl⟩ : ∃ g cap, v' = .slice (some ⟨g, 0, none⟩) ((Bytes.byteCells l).length + 1) cap := by
    rcases hown'.2 with ⟨_, h0⟩ | ⟨g, cap, cur, hv, _⟩
    · omega
    · exact ⟨g, cap, hv⟩
  go_wp2
  go_ret
  refine ⟨rfl, ?_, ?_, ((hk1.alloc _).grown hgrow (ownsRow_kind (hown.alloc _))).setCell ⟨b, 1, none⟩ rfl _⟩
  · refine Or.inr ?_
    rw [byteCells_cat, byteCells_one]
    exact Lib.BuilderAt.put (T := 171) (e := 5) hB hb2 (bs' := Bytes.byteCells l ++ [.int .u8 c.toNat]) (by simpa using hown') (by decide)
  · exact ((hb1.alloc (by have := hb1.size; omega) _).grown hgrow (by have := hb1.size; simp; omega) (fun k hk => (hown.lt k hk).1)).setCell (p := ⟨b, 1, none⟩) hB _

theorem strCells_bytesB (s : ByteArray) : Lib.strCells s = Bytes.byteCells s.data.toList := by
  unfold Bytes.byteCells
  simp [Lib.strCells]

set_option maxHeartbeats 2000000 in
set_option maxRecDepth 100000 in
theorem writeString_any (B b : Nat) (l : List UInt8) (s : ByteArray) (w : World) (h : Bld B b l w) (hlen : l.length + s.size ≤ 140737488355328) (hBw : B ≤ w.heap.size) :
    Calls Try.prog 151 #[.pointer (some ⟨b, 0, none⟩), .string s] w fun e w' => e = .returned (.tuple #[.int .i64 s.size, .nilIface]) ∧ (Bld B b (l ++ s.data.toList) w' ∧ Below B w w' ∧ Lib.OthersKept 5 (some b) w w') := by
  obtain ⟨i0, hi, hz0, hz1, hz2⟩ := info_parts info5
  go_enter Try.func151, Try.ntmps151
  go_wp2_with fail
  refine (copyCheck_any B b _ _ h).mono ?_
  rintro e w1 ⟨rfl, h1, hb1, hk1⟩
  obtain ⟨hB, v, hbk, hown, hne⟩ := h1
  have hbl := Nat.le_of_eq (byteCells_len l)
  have c0 : w1.cell? ⟨b, 0, none⟩ = some (.pointer (some ⟨b, 0, none⟩)) := by rw [Lib.cell_of_heap hbk]; rfl
  have c1 : w1.cell? ⟨b, 1, none⟩ = some v := by rw [Lib.cell_of_heap hbk]; rfl
  go_wp2_with (at_builtin; refine Lib.wpList_append_own_string _ rfl _ _ 74 9 rfl B 5 i0 Try.underlying74 Try.underlying9 hi hz0 hz1 hz2 _ _ _ rfl hown s rfl ?c3 ?c4 ?c5 ?_)
  case c3 => unfold maxLen; omega
  case c4 => omega
  case c5 => have := hb1.size; omega
  intro v' w2 hown' hgrow _
  have hlt : b < w1.heap.size := by
    rcases Nat.lt_or_ge b w1.heap.size with h' | h'
    · exact h'
    · simp [Array.getElem?_eq_none h'] at hbk
  have hb2 : w2.heap[b]? = some (.cells #[.pointer (some ⟨b, 0, none⟩), v] 171 (0, 0)) := by
    rw [hgrow.block b hlt (fun e => hne e.symm)]
    exact hbk
  have d0 : w2.cell? ⟨b, 0, none⟩ = some (.pointer (some ⟨b, 0, none⟩)) := by rw [Lib.cell_of_heap hb2]; rfl
  have d1 : w2.cell? ⟨b, 1, none⟩ = some v := by rw [Lib.cell_of_heap hb2]; rfl
  have f1 : w2.frozen? ⟨b, 1, none⟩ = false := Lib.frozen_of_heap hb2 1
  obtain ⟨ao, n', cap, rfl⟩ : ∃ ao n' cap, v' = .slice ao n' cap := by
    rcases hown'.2 with ⟨hv, _⟩ | ⟨g, cap, cur, hv, _⟩
    · exact ⟨_, _, _, hv⟩
    · exact ⟨_, _, _, hv⟩
  go_wp2
  go_ret2
  refine ⟨rfl, ?_, ?_, (hk1.grown hgrow (ownsRow_kind hown)).setCell ⟨b, 1, none⟩ rfl _⟩
  · refine Or.inr ?_
    rw [byteCells_cat, ← strCells_bytesB s]
    exact Lib.BuilderAt.put (T := 171) (e := 5) hB hb2 (bs' := Bytes.byteCells l ++ Lib.strCells s) (by simpa [Lib.strCells_length] using hown') (by decide)
  · exact (hb1.grown hgrow (by have := hb1.size; omega) (fun k hk => (hown.lt k hk).1)).setCell (p := ⟨b, 1, none⟩) hB _
end Go.Proofs.Ytpmmjmnleoicjaa

/- The contracts of rdata's numbers and measured: the plain bytes of numbers, and of texts behind their lengths. For lists of at most 10^5. -/
namespace Go.Proofs.Ytpmmjmnleoicjaa
open Go.RowKit Bytes Strs Nums RecMath

/-- Bytes of the call's own, as num's Put leaves them: none yet, or a block that is known whole. -/
def BufAt (w : World) (A : Option Addr) (m c : Nat) (l : List UInt8) : Prop :=
  (A = none ∧ m = 0 ∧ c = 0 ∧ l = []) ∨ ∃ g, A = some ⟨g, 0, none⟩ ∧ m = l.length ∧ g < w.heap.size ∧ w.heap[g]? = some (.cells (Lib.byteCells l).toArray 5 (0, 0))
theorem BufAt.rd {w : World} {A : Option Addr} {m c : Nat} {l : List UInt8} (h : BufAt w A m c l) : RdB w w.heap.size A l ∧ l.length = m := by
  rcases h with ⟨rfl, rfl, _, rfl⟩ | ⟨g, rfl, rfl, hg, hh⟩
  · exact ⟨fun hp => absurd hp (Nat.lt_irrefl 0), rfl⟩
  · refine ⟨fun _ => ⟨_, rfl, hg, fun i v hv => ?_⟩, rfl⟩
    rw [show ((⟨g, 0, none⟩ : Addr).add i) = ⟨g, i, none⟩ from by unfold Addr.add; split <;> simp_all]
    rw [Lib.cell_of_heap hh, ← Array.getElem?_toList]
    exact hv
theorem BufAt.conv {w : World} {A : Option Addr} {m c : Nat} {l : List UInt8} (h : BufAt w A m c l) : (convert 74 9 (.slice A m c)).run Try.prog w = .ok (.string (mk l)) w := by
  rcases h with ⟨rfl, rfl, rfl, rfl⟩ | ⟨g, rfl, rfl, hg, hh⟩
  · exact Lib.run_convert_nil_bytes w _ _ 5 0 Try.underlying74 Try.underlying5 Try.underlying9
  · refine run_convert_bytes_back w _ _ 5 ⟨g, 0, none⟩ c l Try.underlying74 Try.underlying5 Try.underlying9 (fun j hj => ?_)
    rw [show ((⟨g, 0, none⟩ : Addr).add j) = ⟨g, j, none⟩ from by unfold Addr.add; split <;> simp_all]
    rw [Lib.cell_of_heap hh, ← Array.getElem?_toList]
    simp [Lib.byteCells, hj]
def PutRes (w : World) (l : List UInt8) (n k : Nat) (e : Ending) (w' : World) : Prop :=
  ∃ A m c, e = .returned (.slice A m c) ∧ BufAt w' A m c (l ++ beTail n k) ∧ Below w.heap.size w w'
theorem put_buf (A : Option Addr) (m c : Nat) (l : List UInt8) (n k : Nat) (w : World) (hk : k ≤ 8) (hb : BufAt w A m c l) (hl : m ≤ 1000000) :
    Calls Try.prog 112 #[.slice A m c, .int .u64 n, .int .i64 k] w (PutRes w l n k) := by
  obtain ⟨hr, hm⟩ := hb.rd
  have := put_any A c l n k w hk hr (by omega)
  rw [hm] at this
  exact this.mono fun _ _ ⟨he, hB, hlt, hh⟩ => ⟨_, _, _, he, Or.inr ⟨_, rfl, by rw [List.length_append, beTail_length, hm], hlt, hh⟩, hB⟩

set_option maxHeartbeats 2000000 in
theorem numbers_is (A : Option Addr) (c n k : Nat) (L : List Nat) (r : ByteArray) (w : World) (hr : RdN w w.heap.size A L) (hn0 : Hid (L.length = n)) (hn : n ≤ 100000) (hk : k ≤ 8) (hu : Hid (∀ k, k < L.length → L.getD k 0 ≤ 4294967295)) (hR : Hid (numsL k L = r.data.toList)) :
    Calls Try.prog 146 #[.slice A n c, .int .i64 k] w fun e w' => e = .returned (.string r) ∧ Below w.heap.size w w' := by
  have HR := Lib.hid hr; clear hr
  generalize hg : w.heap.size = g at *
  have G := Lib.hid hg; clear hg
  go_enter Try.func146, Try.ntmps146
  go_wp2_with fail
  go_loopw [10, 5, 7] (fun i b u wr => ∃ (j m q : Nat) (B : Option Addr) (l : List UInt8), j ≤ n ∧ i = .int .i64 j ∧ b = .slice B m q ∧ m ≤ 8 * j ∧ Hid (BufAt wr B m q l) ∧ Hid (l ++ numsL k (L.drop j) = r.data.toList) ∧ Below g w wr) (fun i _ _ _ => n - (intOf i).toNat)
  case atStart => exact ⟨0, 0, 0, none, [], Nat.zero_le _, rfl, rfl, Nat.zero_le _, Lib.hid (Or.inl ⟨rfl, rfl, rfl, rfl⟩), hR, Below.refl _ _⟩
  case round =>
    obtain ⟨j, m, q, B, l, hj, rfl, rfl, hm, hBuf, hH, hB⟩ := hrel
    have hsz := hB.size
    by_cases hlt : j < n
    · have hkl : j < L.length := by rw [hn0.out]; exact hlt
      obtain ⟨ad, rfl, hab, hcell⟩ := (HR.out.on hB (Nat.le_refl g)).get hkl
      have hd := hH.out
      rw [numsL_drop k hkl, ← List.append_assoc] at hd
      have HD := Lib.hid hd
      have hy := hu.out j hkl
      generalize L.getD j 0 = y at *
      clear hd hH hkl
      go_wp2_with fail
      refine (put_buf B m q l y k _ hk hBuf.out (by omega)).mono ?_
      rintro e w3 ⟨B2, m2, q2, rfl, hb2, hB3⟩
      have hm2 := hb2.rd.2
      rw [List.length_append, beTail_length, hBuf.out.rd.2] at hm2
      have HB2 := Lib.hid hb2
      have hBB := hB.trans (hB3.mono (by have := G.out; omega))
      have hm3 : m2 ≤ 8 * (j + 1) := by omega
      clear hB hB3 hb2 hm2 hsz
      go_wp2_with fail
      go_roundw
      case rel => exact ⟨j + 1, m2, q2, B2, _, by omega, by go_num, rfl, hm3, HB2, HD, hBB⟩
      case measure => simp [intOf]; omega
    · have hd := hH.out
      rw [List.drop_of_length_le (by rw [hn0.out]; omega)] at hd
      have he : l = r.data.toList := by rw [← hd]; simp [numsL]
      have hcv := hBuf.out.conv
      rw [he, mk_data] at hcv
      clear hd hH he
      go_wp2_with fail
      go_ret
      exact ⟨rfl, hB⟩

theorem bld_below {w w' : World} {B b : Nat} {l : List UInt8} (h : Bld B b l w) (hB : Below w.heap.size w w') : Bld B b l w' := by
  have key : ∀ p, Lib.BuilderAt 171 5 B b p (Bytes.byteCells l) w → Lib.BuilderAt 171 5 B b p (Bytes.byteCells l) w' := fun p h => by
    have hlt := h.lt
    obtain ⟨h1, v, hb, hown, hne⟩ := h
    exact ⟨h1, v, (hB.block b hlt).trans hb, own_below hown hB, hne⟩
  rcases h with h | h
  · exact Or.inl (key _ h)
  · exact Or.inr (key _ h)
theorem writeByte_is (B b : Nat) (l : List UInt8) (c : UInt8) (z : Int) (w : World) (h : Bld B b l w) (hlen : l.length + 1 ≤ 140737488355328) (hBw : B ≤ w.heap.size) (hz : (c.toNat : Int) = z) :
    Calls Try.prog 150 #[.pointer (some ⟨b, 0, none⟩), .int .u8 z] w fun e w' => e = .returned .nilIface ∧ Bld B b (l ++ [c]) w' ∧ Below B w w' := by
  subst hz
  exact (writeByte_any B b l c w h hlen hBw).mono fun _ _ ⟨he, h1, h2, _⟩ => ⟨he, h1, h2⟩
theorem writeString_is (B b : Nat) (l : List UInt8) (s : ByteArray) (w : World) (h : Bld B b l w) (hlen : l.length + s.size ≤ 140737488355328) (hBw : B ≤ w.heap.size) :
    Calls Try.prog 151 #[.pointer (some ⟨b, 0, none⟩), .string s] w fun e w' => e = .returned (.tuple #[.int .i64 s.size, .nilIface]) ∧ Bld B b (l ++ s.data.toList) w' ∧ Below B w w' :=
  (writeString_any B b l s w h hlen hBw).mono fun _ _ ⟨he, h1, h2, _⟩ => ⟨he, h1, h2⟩

set_option maxHeartbeats 4000000 in
set_option maxRecDepth 100000 in
theorem measured_is (A : Option Addr) (c n : Nat) (L : List (List UInt8)) (r : ByteArray) (w : World) (hr : RdS w w.heap.size A L) (hn0 : Hid (L.length = n)) (hn : n ≤ 100000) (hs : Hid (∀ j, j < L.length → (L.getD j []).length ≤ 255)) (hrz : r.size ≤ 1000000) (hR : Hid (L.flatMap (textL 16) = r.data.toList)) :
    Calls Try.prog 147 #[.slice A n c] w fun e w' => e = .returned (.string r) ∧ Below w.heap.size w w' := by
  have HR := Lib.hid hr; clear hr
  have hfr : Bld w.heap.size w.heap.size [] (w.alloc (.cells #[.pointer none, .slice none 0 0] 171)) := Lib.fresh_isBuilder 171 5 w
  have HF := Lib.hid hfr
  clear hfr
  have hBA : Below w.heap.size w (w.alloc (.cells #[.pointer none, .slice none 0 0] 171)) := (Below.refl _ _).alloc (Nat.le_refl _) _
  have HBA := Lib.hid hBA
  clear hBA
  go_enter Try.func147, Try.ntmps147
  go_wp2_with fail
  generalize w.alloc (.cells #[.pointer none, .slice none 0 0] 171) = w1 at *
  generalize hg : w.heap.size = g at *
  have G := Lib.hid hg
  clear hg
  go_loopw [8, 5] (fun i u wr => ∃ (j : Nat) (l : List UInt8), j ≤ n ∧ i = .int .i64 j ∧ Hid (Bld g g l wr) ∧ Hid (l ++ (L.drop j).flatMap (textL 16) = r.data.toList) ∧ Below g w wr) (fun i _ _ => n - (intOf i).toNat)
  case atStart => exact ⟨0, [], Nat.zero_le _, rfl, HF, hR, HBA.out⟩
  case round =>
    obtain ⟨j, l, hj, rfl, hBd, hH, hB⟩ := hrel
    have hsz := hB.size
    have hle : l.length ≤ r.size := by rw [Lib.size_eq, ← hH.out, List.length_append]; omega
    by_cases hlt : j < n
    · have hkl : j < L.length := by rw [hn0.out]; exact hlt
      obtain ⟨ad, rfl, hab, hcell⟩ := (HR.out.on hB (Nat.le_refl g)).get hkl
      have hd := hH.out
      have h255 := hs.out j hkl
      have hml := mk_list (L.getD j [])
      have hlq := mk_size (L.getD j [])
      have hof := ofNat_mod (L.getD j []).length
      have hd2 : (l ++ [UInt8.ofNat (L.getD j []).length] ++ (mk (L.getD j [])).data.toList) ++ (L.drop (j + 1)).flatMap (textL 16) = r.data.toList := by
        rw [← hd, textL_drop 16 hkl, textL_16, mk_list]
        simp
      have hz : ((UInt8.ofNat (L.getD j []).length).toNat : Int) = ((mk (L.getD j [])).size : Int) := by rw [hof, hlq]; omega
      have hy : (mk (L.getD j [])).size ≤ 255 := by omega
      generalize UInt8.ofNat (L.getD j []).length = cc at *
      generalize mk (L.getD j []) = y at *
      have HZ := Lib.hid hz
      have HD := Lib.hid hd2
      have HLE := Lib.hid hle
      clear hd hd2 hH hkl hml hlq hof h255 hz hle
      go_wp2_with fail
      refine (writeByte_is g g l cc (y.size : Int) _ hBd.out (by have := HLE.out; omega) (by have := G.out; omega) HZ.out).mono ?_
      rintro e w3 ⟨rfl, hb3, hB3⟩
      have HB3 := Lib.hid hb3
      have hBB := hB.trans hB3
      have hsz3 := hBB.size
      clear hB hB3 hb3 hsz hcell
      go_wp2_with fail
      refine (writeString_is g g _ y _ HB3.out (by rw [List.length_append, List.length_singleton]; have := HLE.out; omega) (by have := G.out; omega)).mono ?_
      rintro e w4 ⟨rfl, hb4, hB4⟩
      have HB4 := Lib.hid hb4
      have hBC := hBB.trans hB4
      clear hBB hB4 hb4 hsz3
      go_wp2_with fail
      go_roundw
      case rel => exact ⟨j + 1, _, by omega, by go_num, HB4, HD, hBC⟩
      case measure => simp [intOf]; omega
    · have hd := hH.out
      rw [List.drop_of_length_le (by rw [hn0.out]; omega), List.flatMap_nil, List.append_nil] at hd
      have hbk := hBd.out
      rw [hd] at hbk
      have HBK := Lib.hid hbk
      clear hd hH hbk
      go_wp2_with fail
      refine (Try.Builder_String_any g g r.data.toList _ HBK.out (by have := G.out; omega)).mono ?_
      rintro e w4 ⟨rfl, hB4⟩
      go_wp2_with fail
      go_ret
      exact ⟨rfl, by rw [G.out]; exact hB.trans hB4⟩
end Go.Proofs.Ytpmmjmnleoicjaa

/- The contract of rdata's Plain. For records of at most 10^5 texts of at most 10^5 bytes. -/
namespace Go.Proofs.Ytpmmjmnleoicjaa
open Go.RowKit Bytes Strs Nums NameMath RecMath

theorem one_flat {L : List (List UInt8)} (h : L.length = 1) : L.flatten = L.getD 0 [] := by
  match L, h with
  | [a], _ => simp
theorem two_flat {L : List (List UInt8)} (h : L.length = 2) : L.flatten = L.getD 0 [] ++ L.getD 1 [] := by
  match L, h with
  | [a, b], _ => simp
theorem one_map {L : List (List UInt8)} {k : Nat} (hk : k ≠ 16) (h : L.length = 1) : L.flatMap (textL k) = L.getD 0 [] := by
  match L, h with
  | [a], _ => simp [textL_not hk]
theorem nil_of {α : Type} {L : List α} (h : L.length = 0) : L = [] := List.length_eq_zero_iff.1 h
theorem check_at (R : Rec) (x : ByteArray) (k l t : Nat) (A1 : Option Addr) (n1 c1 : Nat) (A2 : Option Addr) (n2 c2 : Nat) (A3 : Option Addr) (n3 c3 : Nat) (E : Nat) (kk ee : Int) (w : World) (hR : Hid (RecAt w w.heap.size R x k l t A1 n1 A2 n2 A3 n3)) (hS : Hid (Small R)) (hE : Hid (checkE R = E)) (hkk : (k : Int) = kk) (hee : (E : Int) = ee) :
    Calls Try.prog 51 #[.agg #[.string x, .int .u16 kk, .int .u16 l, .int .u32 t, .slice A1 n1 c1, .slice A2 n2 c2, .slice A3 n3 c3]] w fun e w' => e = .returned (.int .i64 ee) ∧ Below w.heap.size w w' := by
  subst hkk
  subst hee
  exact check_is R x k l t A1 n1 c1 A2 n2 c2 A3 n3 c3 E w hR hS hE
theorem numbers_held (A : Option Addr) (c n k : Nat) (L : List Nat) (r : ByteArray) (pa pb pc pd : Addr) (va vb vc vd : Value) (w W : World)
    (ha : pa.block < w.heap.size) (hb : pb.block < w.heap.size) (hc : pc.block < w.heap.size) (hd : pd.block < w.heap.size)
    (hS : W.cell? pa = some va ∧ W.cell? pb = some vb ∧ W.cell? pc = some vc ∧ W.cell? pd = some vd ∧ Held w W)
    (hr : Hid (RdN w w.heap.size A L)) (hn0 : Hid (L.length = n)) (hn : n ≤ 100000) (hk : k ≤ 8) (hu : Hid (∀ k, k < L.length → L.getD k 0 ≤ 4294967295)) (hR : Hid (numsL k L = r.data.toList)) (kk : Int) (hkk : (k : Int) = kk) :
    Calls Try.prog 146 #[.slice A n c, .int .i64 kk] W fun e w' => e = .returned (.string r) ∧ w'.cell? pa = some va ∧ w'.cell? pb = some vb ∧ w'.cell? pc = some vc ∧ w'.cell? pd = some vd ∧ Held w w' := by
  subst hkk
  obtain ⟨h1, h2, h3, h4, hH⟩ := hS
  have hH' : Below w.heap.size w W := hH
  have hle := hH'.size
  exact (numbers_is A c n k L r W (hr.out.on hH' hle) hn0 hn hk hu hR).mono fun _ _ ⟨he, hB⟩ => ⟨he, (hB.cell (by omega)).trans h1, (hB.cell (by omega)).trans h2, (hB.cell (by omega)).trans h3, (hB.cell (by omega)).trans h4, hH'.trans (hB.mono hle)⟩

set_option maxHeartbeats 4000000 in
set_option maxRecDepth 100000 in
theorem plain_2 (R : Rec) (x : ByteArray) (k l t : Nat) (A1 : Option Addr) (n1 c1 : Nat) (A2 : Option Addr) (n2 c2 : Nat) (A3 : Option Addr) (n3 c3 : Nat) (p : ByteArray) (w : World) (hR : Hid (RecAt w w.heap.size R x k l t A1 n1 A2 n2 A3 n3)) (hS : Hid (Small R)) (hk : k = 2) (hE : Hid (checkE R = 0)) (hp : Hid (plainL R = p.data.toList)) :
    Calls Try.prog 129 #[.agg #[.string x, .int .u16 k, .int .u16 l, .int .u32 t, .slice A1 n1 c1, .slice A2 n2 c2, .slice A3 n3 c3]] w fun e w' => e = .returned (.string p) ∧ Below w.heap.size w w' := by
  subst hk
  have hm1 := hR.out.m1 hS.out
  have hm2 := hR.out.m2 hS.out
  have hm3 := hR.out.m3 hS.out
  have hkd := hR.out.kind
  have HR2 := Lib.hid (hR.out.box (.cells #[.string x, .int .u16 2, .int .u16 l, .int .u32 t, .slice A1 n1 c1, .slice A2 n2 c2, .slice A3 n3 c3] 60))
  have HB0 : Hid (Below w.heap.size w (w.alloc (.cells #[.string x, .int .u16 2, .int .u16 l, .int .u32 t, .slice A1 n1 c1, .slice A2 n2 c2, .slice A3 n3 c3] 60))) := (Below.refl _ _).alloc (Nat.le_refl _) _
  have d1 : (w.alloc (.cells #[.string x, .int .u16 2, .int .u16 l, .int .u32 t, .slice A1 n1 c1, .slice A2 n2 c2, .slice A3 n3 c3] 60)).cell? ⟨w.heap.size, 1, none⟩ = some (.int .u16 2) := by simp
  have d4 : (w.alloc (.cells #[.string x, .int .u16 2, .int .u16 l, .int .u32 t, .slice A1 n1 c1, .slice A2 n2 c2, .slice A3 n3 c3] 60)).cell? ⟨w.heap.size, 4, none⟩ = some (.slice A1 n1 c1) := by simp
  have d5 : (w.alloc (.cells #[.string x, .int .u16 2, .int .u16 l, .int .u32 t, .slice A1 n1 c1, .slice A2 n2 c2, .slice A3 n3 c3] 60)).cell? ⟨w.heap.size, 5, none⟩ = some (.slice A2 n2 c2) := by simp
  have d6 : (w.alloc (.cells #[.string x, .int .u16 2, .int .u16 l, .int .u32 t, .slice A1 n1 c1, .slice A2 n2 c2, .slice A3 n3 c3] 60)).cell? ⟨w.heap.size, 6, none⟩ = some (.slice A3 n3 c3) := by simp
  have hgl : w.heap.size < (w.alloc (.cells #[.string x, .int .u16 2, .int .u16 l, .int .u32 t, .slice A1 n1 c1, .slice A2 n2 c2, .slice A3 n3 c3] 60)).heap.size := by simp
  have HL1 := Lib.hid HR2.out.len1
  have HL2 := Lib.hid HR2.out.len2
  have HL3 := Lib.hid HR2.out.len3
  have HRD1 := Lib.hid HR2.out.rd1
  have HRD2 := Lib.hid HR2.out.rd2
  have HRD3 := Lib.hid HR2.out.rd3
  have hok := (check_ok hE.out).2.1
  have hoc := okB_cnt hok
  obtain ⟨l1, l2, l3⟩ := cnt_of hoc.1
  rw [HL1.out, hkd] at l1
  rw [HL2.out, hkd] at l2
  rw [HL3.out, hkd] at l3
  rw [show shA 2 = 1 from rfl] at l1
  rw [show shB 2 = 0 from rfl] at l2
  rw [show shC 2 = 0 from rfl] at l3
  have hpl : R.names.getD 0 [] = p.data.toList := by
    rw [← hp.out, plainL_not (by rw [hkd]; decide), nil_of (L := R.nums) (by rw [HL2.out]; exact l2), nil_of (L := R.texts) (by rw [HL3.out]; omega), one_flat (by rw [HL1.out]; exact l1)]
    simp [numsL]
  have HPL := Lib.hid hpl
  have M1 := Lib.hid l1
  have M2 := Lib.hid l2
  have M3 := Lib.hid l3
  clear hok hoc hpl hp hkd l1 l2 l3
  go_enter Try.func129, Try.ntmps129
  go_wp2_with fail
  generalize w.alloc (.cells #[.string x, .int .u16 2, .int .u16 l, .int .u32 t, .slice A1 n1 c1, .slice A2 n2 c2, .slice A3 n3 c3] 60) = wb at *
  generalize hgw : w.heap.size = g at *
  have HGW := Lib.hid hgw
  clear hgw
  ((with_reducible refine (check_at R x 2 l t A1 n1 c1 A2 n2 c2 A3 n3 c3 0 2 0 _ HR2 hS hE rfl rfl).mono ?_))
  rintro e w1 ⟨rfl, hB⟩
  have hw1 := hB.size
  have q1 : w1.cell? ⟨g, 1, none⟩ = some (.int .u16 2) := (hB.cell (p := ⟨g, 1, none⟩) hgl).trans d1
  have q4 : w1.cell? ⟨g, 4, none⟩ = some (.slice A1 n1 c1) := (hB.cell (p := ⟨g, 4, none⟩) hgl).trans d4
  have q5 : w1.cell? ⟨g, 5, none⟩ = some (.slice A2 n2 c2) := (hB.cell (p := ⟨g, 5, none⟩) hgl).trans d5
  have q6 : w1.cell? ⟨g, 6, none⟩ = some (.slice A3 n3 c3) := (hB.cell (p := ⟨g, 6, none⟩) hgl).trans d6
  have hgl1 : g < w1.heap.size := Nat.lt_of_lt_of_le hgl hw1
  have h1n : 0 < R.names.length := by rw [HL1.out]; have := M1.out; have := M3.out; omega
  obtain ⟨ad, rfl, hab, hcell⟩ := (HRD1.out.on hB hw1).get h1n
  have hy := hS.out.s1 0 h1n
  rw [HPL.out, ← Lib.size_eq] at hy
  rw [HPL.out, mk_data, show ad.add 0 = ad from by simp [Addr.add]] at hcell
  have hn0 : (0 : Int) < n1 := by have := M1.out; have := M3.out; omega
  have hn0n : 0 < n1 := by have := M1.out; have := M3.out; omega
  clear h1n
  have hy6 : p.size ≤ 1000000 := by omega
  go_wp2_with fail
  refine (clone_any p _ hy6).mono ?_
  rintro e w2 ⟨rfl, hB2⟩
  have hBB := hB.trans (hB2.mono hw1)
  go_wp2_with fail
  go_ret
  exact ⟨rfl, by have h := HB0.out; rw [← HGW.out] at h; exact h.trans (hBB.mono h.size)⟩

set_option maxHeartbeats 4000000 in
set_option maxRecDepth 100000 in
theorem plain_5 (R : Rec) (x : ByteArray) (k l t : Nat) (A1 : Option Addr) (n1 c1 : Nat) (A2 : Option Addr) (n2 c2 : Nat) (A3 : Option Addr) (n3 c3 : Nat) (p : ByteArray) (w : World) (hR : Hid (RecAt w w.heap.size R x k l t A1 n1 A2 n2 A3 n3)) (hS : Hid (Small R)) (hk : k = 5) (hE : Hid (checkE R = 0)) (hp : Hid (plainL R = p.data.toList)) :
    Calls Try.prog 129 #[.agg #[.string x, .int .u16 k, .int .u16 l, .int .u32 t, .slice A1 n1 c1, .slice A2 n2 c2, .slice A3 n3 c3]] w fun e w' => e = .returned (.string p) ∧ Below w.heap.size w w' := by
  subst hk
  have hm1 := hR.out.m1 hS.out
  have hm2 := hR.out.m2 hS.out
  have hm3 := hR.out.m3 hS.out
  have hkd := hR.out.kind
  have HR2 := Lib.hid (hR.out.box (.cells #[.string x, .int .u16 5, .int .u16 l, .int .u32 t, .slice A1 n1 c1, .slice A2 n2 c2, .slice A3 n3 c3] 60))
  have HB0 : Hid (Below w.heap.size w (w.alloc (.cells #[.string x, .int .u16 5, .int .u16 l, .int .u32 t, .slice A1 n1 c1, .slice A2 n2 c2, .slice A3 n3 c3] 60))) := (Below.refl _ _).alloc (Nat.le_refl _) _
  have d1 : (w.alloc (.cells #[.string x, .int .u16 5, .int .u16 l, .int .u32 t, .slice A1 n1 c1, .slice A2 n2 c2, .slice A3 n3 c3] 60)).cell? ⟨w.heap.size, 1, none⟩ = some (.int .u16 5) := by simp
  have d4 : (w.alloc (.cells #[.string x, .int .u16 5, .int .u16 l, .int .u32 t, .slice A1 n1 c1, .slice A2 n2 c2, .slice A3 n3 c3] 60)).cell? ⟨w.heap.size, 4, none⟩ = some (.slice A1 n1 c1) := by simp
  have d5 : (w.alloc (.cells #[.string x, .int .u16 5, .int .u16 l, .int .u32 t, .slice A1 n1 c1, .slice A2 n2 c2, .slice A3 n3 c3] 60)).cell? ⟨w.heap.size, 5, none⟩ = some (.slice A2 n2 c2) := by simp
  have d6 : (w.alloc (.cells #[.string x, .int .u16 5, .int .u16 l, .int .u32 t, .slice A1 n1 c1, .slice A2 n2 c2, .slice A3 n3 c3] 60)).cell? ⟨w.heap.size, 6, none⟩ = some (.slice A3 n3 c3) := by simp
  have hgl : w.heap.size < (w.alloc (.cells #[.string x, .int .u16 5, .int .u16 l, .int .u32 t, .slice A1 n1 c1, .slice A2 n2 c2, .slice A3 n3 c3] 60)).heap.size := by simp
  have HL1 := Lib.hid HR2.out.len1
  have HL2 := Lib.hid HR2.out.len2
  have HL3 := Lib.hid HR2.out.len3
  have HRD1 := Lib.hid HR2.out.rd1
  have HRD2 := Lib.hid HR2.out.rd2
  have HRD3 := Lib.hid HR2.out.rd3
  have hok := (check_ok hE.out).2.1
  have hoc := okB_cnt hok
  obtain ⟨l1, l2, l3⟩ := cnt_of hoc.1
  rw [HL1.out, hkd] at l1
  rw [HL2.out, hkd] at l2
  rw [HL3.out, hkd] at l3
  rw [show shA 5 = 1 from rfl] at l1
  rw [show shB 5 = 0 from rfl] at l2
  rw [show shC 5 = 0 from rfl] at l3
  have hpl : R.names.getD 0 [] = p.data.toList := by
    rw [← hp.out, plainL_not (by rw [hkd]; decide), nil_of (L := R.nums) (by rw [HL2.out]; exact l2), nil_of (L := R.texts) (by rw [HL3.out]; omega), one_flat (by rw [HL1.out]; exact l1)]
    simp [numsL]
  have HPL := Lib.hid hpl
  have M1 := Lib.hid l1
  have M2 := Lib.hid l2
  have M3 := Lib.hid l3
  clear hok hoc hpl hp hkd l1 l2 l3
  go_enter Try.func129, Try.ntmps129
  go_wp2_with fail
  generalize w.alloc (.cells #[.string x, .int .u16 5, .int .u16 l, .int .u32 t, .slice A1 n1 c1, .slice A2 n2 c2, .slice A3 n3 c3] 60) = wb at *
  generalize hgw : w.heap.size = g at *
  have HGW := Lib.hid hgw
  clear hgw
  ((with_reducible refine (check_at R x 5 l t A1 n1 c1 A2 n2 c2 A3 n3 c3 0 5 0 _ HR2 hS hE rfl rfl).mono ?_))
  rintro e w1 ⟨rfl, hB⟩
  have hw1 := hB.size
  have q1 : w1.cell? ⟨g, 1, none⟩ = some (.int .u16 5) := (hB.cell (p := ⟨g, 1, none⟩) hgl).trans d1
  have q4 : w1.cell? ⟨g, 4, none⟩ = some (.slice A1 n1 c1) := (hB.cell (p := ⟨g, 4, none⟩) hgl).trans d4
  have q5 : w1.cell? ⟨g, 5, none⟩ = some (.slice A2 n2 c2) := (hB.cell (p := ⟨g, 5, none⟩) hgl).trans d5
  have q6 : w1.cell? ⟨g, 6, none⟩ = some (.slice A3 n3 c3) := (hB.cell (p := ⟨g, 6, none⟩) hgl).trans d6
  have hgl1 : g < w1.heap.size := Nat.lt_of_lt_of_le hgl hw1
  have h1n : 0 < R.names.length := by rw [HL1.out]; have := M1.out; have := M3.out; omega
  obtain ⟨ad, rfl, hab, hcell⟩ := (HRD1.out.on hB hw1).get h1n
  have hy := hS.out.s1 0 h1n
  rw [HPL.out, ← Lib.size_eq] at hy
  rw [HPL.out, mk_data, show ad.add 0 = ad from by simp [Addr.add]] at hcell
  have hn0 : (0 : Int) < n1 := by have := M1.out; have := M3.out; omega
  have hn0n : 0 < n1 := by have := M1.out; have := M3.out; omega
  clear h1n
  have hy6 : p.size ≤ 1000000 := by omega
  go_wp2_with fail
  refine (clone_any p _ hy6).mono ?_
  rintro e w2 ⟨rfl, hB2⟩
  have hBB := hB.trans (hB2.mono hw1)
  go_wp2_with fail
  go_ret
  exact ⟨rfl, by have h := HB0.out; rw [← HGW.out] at h; exact h.trans (hBB.mono h.size)⟩

set_option maxHeartbeats 4000000 in
set_option maxRecDepth 100000 in
theorem plain_12 (R : Rec) (x : ByteArray) (k l t : Nat) (A1 : Option Addr) (n1 c1 : Nat) (A2 : Option Addr) (n2 c2 : Nat) (A3 : Option Addr) (n3 c3 : Nat) (p : ByteArray) (w : World) (hR : Hid (RecAt w w.heap.size R x k l t A1 n1 A2 n2 A3 n3)) (hS : Hid (Small R)) (hk : k = 12) (hE : Hid (checkE R = 0)) (hp : Hid (plainL R = p.data.toList)) :
    Calls Try.prog 129 #[.agg #[.string x, .int .u16 k, .int .u16 l, .int .u32 t, .slice A1 n1 c1, .slice A2 n2 c2, .slice A3 n3 c3]] w fun e w' => e = .returned (.string p) ∧ Below w.heap.size w w' := by
  subst hk
  have hm1 := hR.out.m1 hS.out
  have hm2 := hR.out.m2 hS.out
  have hm3 := hR.out.m3 hS.out
  have hkd := hR.out.kind
  have HR2 := Lib.hid (hR.out.box (.cells #[.string x, .int .u16 12, .int .u16 l, .int .u32 t, .slice A1 n1 c1, .slice A2 n2 c2, .slice A3 n3 c3] 60))
  have HB0 : Hid (Below w.heap.size w (w.alloc (.cells #[.string x, .int .u16 12, .int .u16 l, .int .u32 t, .slice A1 n1 c1, .slice A2 n2 c2, .slice A3 n3 c3] 60))) := (Below.refl _ _).alloc (Nat.le_refl _) _
  have d1 : (w.alloc (.cells #[.string x, .int .u16 12, .int .u16 l, .int .u32 t, .slice A1 n1 c1, .slice A2 n2 c2, .slice A3 n3 c3] 60)).cell? ⟨w.heap.size, 1, none⟩ = some (.int .u16 12) := by simp
  have d4 : (w.alloc (.cells #[.string x, .int .u16 12, .int .u16 l, .int .u32 t, .slice A1 n1 c1, .slice A2 n2 c2, .slice A3 n3 c3] 60)).cell? ⟨w.heap.size, 4, none⟩ = some (.slice A1 n1 c1) := by simp
  have d5 : (w.alloc (.cells #[.string x, .int .u16 12, .int .u16 l, .int .u32 t, .slice A1 n1 c1, .slice A2 n2 c2, .slice A3 n3 c3] 60)).cell? ⟨w.heap.size, 5, none⟩ = some (.slice A2 n2 c2) := by simp
  have d6 : (w.alloc (.cells #[.string x, .int .u16 12, .int .u16 l, .int .u32 t, .slice A1 n1 c1, .slice A2 n2 c2, .slice A3 n3 c3] 60)).cell? ⟨w.heap.size, 6, none⟩ = some (.slice A3 n3 c3) := by simp
  have hgl : w.heap.size < (w.alloc (.cells #[.string x, .int .u16 12, .int .u16 l, .int .u32 t, .slice A1 n1 c1, .slice A2 n2 c2, .slice A3 n3 c3] 60)).heap.size := by simp
  have HL1 := Lib.hid HR2.out.len1
  have HL2 := Lib.hid HR2.out.len2
  have HL3 := Lib.hid HR2.out.len3
  have HRD1 := Lib.hid HR2.out.rd1
  have HRD2 := Lib.hid HR2.out.rd2
  have HRD3 := Lib.hid HR2.out.rd3
  have hok := (check_ok hE.out).2.1
  have hoc := okB_cnt hok
  obtain ⟨l1, l2, l3⟩ := cnt_of hoc.1
  rw [HL1.out, hkd] at l1
  rw [HL2.out, hkd] at l2
  rw [HL3.out, hkd] at l3
  rw [show shA 12 = 1 from rfl] at l1
  rw [show shB 12 = 0 from rfl] at l2
  rw [show shC 12 = 0 from rfl] at l3
  have hpl : R.names.getD 0 [] = p.data.toList := by
    rw [← hp.out, plainL_not (by rw [hkd]; decide), nil_of (L := R.nums) (by rw [HL2.out]; exact l2), nil_of (L := R.texts) (by rw [HL3.out]; omega), one_flat (by rw [HL1.out]; exact l1)]
    simp [numsL]
  have HPL := Lib.hid hpl
  have M1 := Lib.hid l1
  have M2 := Lib.hid l2
  have M3 := Lib.hid l3
  clear hok hoc hpl hp hkd l1 l2 l3
  go_enter Try.func129, Try.ntmps129
  go_wp2_with fail
  generalize w.alloc (.cells #[.string x, .int .u16 12, .int .u16 l, .int .u32 t, .slice A1 n1 c1, .slice A2 n2 c2, .slice A3 n3 c3] 60) = wb at *
  generalize hgw : w.heap.size = g at *
  have HGW := Lib.hid hgw
  clear hgw
  ((with_reducible refine (check_at R x 12 l t A1 n1 c1 A2 n2 c2 A3 n3 c3 0 12 0 _ HR2 hS hE rfl rfl).mono ?_))
  rintro e w1 ⟨rfl, hB⟩
  have hw1 := hB.size
  have q1 : w1.cell? ⟨g, 1, none⟩ = some (.int .u16 12) := (hB.cell (p := ⟨g, 1, none⟩) hgl).trans d1
  have q4 : w1.cell? ⟨g, 4, none⟩ = some (.slice A1 n1 c1) := (hB.cell (p := ⟨g, 4, none⟩) hgl).trans d4
  have q5 : w1.cell? ⟨g, 5, none⟩ = some (.slice A2 n2 c2) := (hB.cell (p := ⟨g, 5, none⟩) hgl).trans d5
  have q6 : w1.cell? ⟨g, 6, none⟩ = some (.slice A3 n3 c3) := (hB.cell (p := ⟨g, 6, none⟩) hgl).trans d6
  have hgl1 : g < w1.heap.size := Nat.lt_of_lt_of_le hgl hw1
  have h1n : 0 < R.names.length := by rw [HL1.out]; have := M1.out; have := M3.out; omega
  obtain ⟨ad, rfl, hab, hcell⟩ := (HRD1.out.on hB hw1).get h1n
  have hy := hS.out.s1 0 h1n
  rw [HPL.out, ← Lib.size_eq] at hy
  rw [HPL.out, mk_data, show ad.add 0 = ad from by simp [Addr.add]] at hcell
  have hn0 : (0 : Int) < n1 := by have := M1.out; have := M3.out; omega
  have hn0n : 0 < n1 := by have := M1.out; have := M3.out; omega
  clear h1n
  have hy6 : p.size ≤ 1000000 := by omega
  go_wp2_with fail
  refine (clone_any p _ hy6).mono ?_
  rintro e w2 ⟨rfl, hB2⟩
  have hBB := hB.trans (hB2.mono hw1)
  go_wp2_with fail
  go_ret
  exact ⟨rfl, by have h := HB0.out; rw [← HGW.out] at h; exact h.trans (hBB.mono h.size)⟩

set_option maxHeartbeats 4000000 in
set_option maxRecDepth 100000 in
theorem plain_6 (R : Rec) (x : ByteArray) (k l t : Nat) (A1 : Option Addr) (n1 c1 : Nat) (A2 : Option Addr) (n2 c2 : Nat) (A3 : Option Addr) (n3 c3 : Nat) (p : ByteArray) (w : World) (hR : Hid (RecAt w w.heap.size R x k l t A1 n1 A2 n2 A3 n3)) (hS : Hid (Small R)) (hk : k = 6) (hE : Hid (checkE R = 0)) (hp : Hid (plainL R = p.data.toList)) :
    Calls Try.prog 129 #[.agg #[.string x, .int .u16 k, .int .u16 l, .int .u32 t, .slice A1 n1 c1, .slice A2 n2 c2, .slice A3 n3 c3]] w fun e w' => e = .returned (.string p) ∧ Below w.heap.size w w' := by
  subst hk
  have hm1 := hR.out.m1 hS.out
  have hm2 := hR.out.m2 hS.out
  have hm3 := hR.out.m3 hS.out
  have hkd := hR.out.kind
  have HR2 := Lib.hid (hR.out.box (.cells #[.string x, .int .u16 6, .int .u16 l, .int .u32 t, .slice A1 n1 c1, .slice A2 n2 c2, .slice A3 n3 c3] 60))
  have HB0 : Hid (Below w.heap.size w (w.alloc (.cells #[.string x, .int .u16 6, .int .u16 l, .int .u32 t, .slice A1 n1 c1, .slice A2 n2 c2, .slice A3 n3 c3] 60))) := (Below.refl _ _).alloc (Nat.le_refl _) _
  have d1 : (w.alloc (.cells #[.string x, .int .u16 6, .int .u16 l, .int .u32 t, .slice A1 n1 c1, .slice A2 n2 c2, .slice A3 n3 c3] 60)).cell? ⟨w.heap.size, 1, none⟩ = some (.int .u16 6) := by simp
  have d4 : (w.alloc (.cells #[.string x, .int .u16 6, .int .u16 l, .int .u32 t, .slice A1 n1 c1, .slice A2 n2 c2, .slice A3 n3 c3] 60)).cell? ⟨w.heap.size, 4, none⟩ = some (.slice A1 n1 c1) := by simp
  have d5 : (w.alloc (.cells #[.string x, .int .u16 6, .int .u16 l, .int .u32 t, .slice A1 n1 c1, .slice A2 n2 c2, .slice A3 n3 c3] 60)).cell? ⟨w.heap.size, 5, none⟩ = some (.slice A2 n2 c2) := by simp
  have d6 : (w.alloc (.cells #[.string x, .int .u16 6, .int .u16 l, .int .u32 t, .slice A1 n1 c1, .slice A2 n2 c2, .slice A3 n3 c3] 60)).cell? ⟨w.heap.size, 6, none⟩ = some (.slice A3 n3 c3) := by simp
  have hgl : w.heap.size < (w.alloc (.cells #[.string x, .int .u16 6, .int .u16 l, .int .u32 t, .slice A1 n1 c1, .slice A2 n2 c2, .slice A3 n3 c3] 60)).heap.size := by simp
  have HL1 := Lib.hid HR2.out.len1
  have HL2 := Lib.hid HR2.out.len2
  have HL3 := Lib.hid HR2.out.len3
  have HRD1 := Lib.hid HR2.out.rd1
  have HRD2 := Lib.hid HR2.out.rd2
  have HRD3 := Lib.hid HR2.out.rd3
  have hok := (check_ok hE.out).2.1
  have hoc := okB_cnt hok
  obtain ⟨l1, l2, l3⟩ := cnt_of hoc.1
  rw [HL1.out, hkd] at l1
  rw [HL2.out, hkd] at l2
  rw [HL3.out, hkd] at l3
  rw [show shA 6 = 2 from rfl] at l1
  rw [show shB 6 = 5 from rfl] at l2
  rw [show shC 6 = 0 from rfl] at l3
  have hpl : R.names.getD 0 [] ++ R.names.getD 1 [] ++ numsL 4 R.nums = p.data.toList := by
    rw [← hp.out, plainL_6 hkd, nil_of (L := R.texts) (by rw [HL3.out]; omega), two_flat (by rw [HL1.out]; exact l1)]
    simp
  have HPL := Lib.hid hpl
  have M1 := Lib.hid l1
  have M2 := Lib.hid l2
  have M3 := Lib.hid l3
  clear hok hoc hpl hp hkd l1 l2 l3
  go_enter Try.func129, Try.ntmps129
  go_wp2_with fail
  generalize w.alloc (.cells #[.string x, .int .u16 6, .int .u16 l, .int .u32 t, .slice A1 n1 c1, .slice A2 n2 c2, .slice A3 n3 c3] 60) = wb at *
  generalize hgw : w.heap.size = g at *
  have HGW := Lib.hid hgw
  clear hgw
  ((with_reducible refine (check_at R x 6 l t A1 n1 c1 A2 n2 c2 A3 n3 c3 0 6 0 _ HR2 hS hE rfl rfl).mono ?_))
  rintro e w1 ⟨rfl, hB⟩
  have hw1 := hB.size
  have q1 : w1.cell? ⟨g, 1, none⟩ = some (.int .u16 6) := (hB.cell (p := ⟨g, 1, none⟩) hgl).trans d1
  have q4 : w1.cell? ⟨g, 4, none⟩ = some (.slice A1 n1 c1) := (hB.cell (p := ⟨g, 4, none⟩) hgl).trans d4
  have q5 : w1.cell? ⟨g, 5, none⟩ = some (.slice A2 n2 c2) := (hB.cell (p := ⟨g, 5, none⟩) hgl).trans d5
  have q6 : w1.cell? ⟨g, 6, none⟩ = some (.slice A3 n3 c3) := (hB.cell (p := ⟨g, 6, none⟩) hgl).trans d6
  have hgl1 : g < w1.heap.size := Nat.lt_of_lt_of_le hgl hw1
  have h1n : 0 < R.names.length := by rw [HL1.out]; have := M1.out; omega
  have h2n : 1 < R.names.length := by rw [HL1.out]; have := M1.out; omega
  obtain ⟨ad, rfl, hab, hcell⟩ := (HRD1.out.on hB hw1).get h1n
  obtain ⟨ad', e', _, hcell2⟩ := (HRD1.out.on hB hw1).get h2n
  injection e' with e'
  subst e'
  rw [show ad.add 0 = ad from by simp [Addr.add]] at hcell
  rw [show ad.add 1 = ⟨ad.block, ad.off + 1, none⟩ from by simp [Addr.add]] at hcell2
  have hy := hS.out.s1 0 h1n
  have hy2 := hS.out.s1 1 h2n
  have hnl := numsL_len 4 R.nums
  rw [HL2.out] at hnl
  have HRN := Lib.hid (HRD2.out.on hB hw1)
  obtain ⟨r, hr⟩ : ∃ r, mk (numsL 4 R.nums) = r := ⟨_, rfl⟩
  have HRR : Hid (numsL 4 R.nums = r.data.toList) := by show _ = _; rw [← hr, mk_list]
  have hpe : p = mk (R.names.getD 0 []) ++ mk (R.names.getD 1 []) ++ r := list_inj (by rw [← HPL.out, cat_list, cat_list, mk_list, mk_list, HRR.out])
  have hrz : r.size ≤ 100 := by rw [← hr, mk_size, hnl]; have := M2.out; omega
  rw [← mk_size] at hy hy2
  generalize mk (R.names.getD 0 []) = y0 at *
  generalize mk (R.names.getD 1 []) = y1 at *
  have hy02 : (y0 ++ y1).size ≤ 200000 := by rw [ByteArray.size_append]; omega
  have hs1 : (9223372036854775807 < y0.size + y1.size) = False := eq_false (by omega)
  have hs2 : (9223372036854775807 < y0.size + y1.size + r.size) = False := eq_false (by omega)
  have HPE := Lib.hid hpe
  have hn0 : (0 : Int) < n1 := by have := M1.out; omega
  have hn0n : 0 < n1 := by have := M1.out; omega
  have hn1 : (1 : Int) < n1 := by have := M1.out; omega
  have hab1 : (⟨ad.block, ad.off + 1, none⟩ : Addr).block < w1.heap.size := hab
  have hH0 : Held w1 w1.drew := (Below.refl _ _).drew
  have hg4 : (⟨g, 4, none⟩ : Addr).block < w1.heap.size := hgl1
  have hg5 : (⟨g, 5, none⟩ : Addr).block < w1.heap.size := hgl1
  have hu := Lib.hid hS.out.u2
  clear h1n h2n hpe hr hnl
  go_wp2_with fail
  go_region_held3 (fun w' => w'.cell? ad = some (.string y0) ∧ w'.cell? ⟨ad.block, ad.off + 1, none⟩ = some (.string y1) ∧ w'.cell? ⟨g, 4, none⟩ = some (.slice (some ad) n1 c1) ∧ w'.cell? ⟨g, 5, none⟩ = some (.slice A2 n2 c2) ∧ Held w1 w') (go_keep)
    (first | ((go_at_call 146; (with_reducible refine (numbers_held A2 c2 n2 4 R.nums r ad ⟨ad.block, ad.off + 1, none⟩ ⟨g, 4, none⟩ ⟨g, 5, none⟩ (.string y0) (.string y1) (.slice (some ad) n1 c1) (.slice A2 n2 c2) w1 _ hab hab1 hg4 hg5 ?_ HRN HL2 hm2 (by decide) hu HRR 4 rfl).mono ?_)); (simp [*]); rintro e w2 ⟨rfl, k0, k1, k2, k3, hH2⟩))
  have hBB := hB.trans (Below.mono hH2 hw1)
  go_wp2_with fail
  go_ret
  exact ⟨by rw [HPE.out]; rfl, by have h := HB0.out; rw [← HGW.out] at h; exact h.trans (hBB.mono h.size)⟩

set_option maxHeartbeats 4000000 in
set_option maxRecDepth 100000 in
theorem plain_15 (R : Rec) (x : ByteArray) (k l t : Nat) (A1 : Option Addr) (n1 c1 : Nat) (A2 : Option Addr) (n2 c2 : Nat) (A3 : Option Addr) (n3 c3 : Nat) (p : ByteArray) (w : World) (hR : Hid (RecAt w w.heap.size R x k l t A1 n1 A2 n2 A3 n3)) (hS : Hid (Small R)) (hk : k = 15) (hE : Hid (checkE R = 0)) (hp : Hid (plainL R = p.data.toList)) :
    Calls Try.prog 129 #[.agg #[.string x, .int .u16 k, .int .u16 l, .int .u32 t, .slice A1 n1 c1, .slice A2 n2 c2, .slice A3 n3 c3]] w fun e w' => e = .returned (.string p) ∧ Below w.heap.size w w' := by
  subst hk
  have hm1 := hR.out.m1 hS.out
  have hm2 := hR.out.m2 hS.out
  have hm3 := hR.out.m3 hS.out
  have hkd := hR.out.kind
  have HR2 := Lib.hid (hR.out.box (.cells #[.string x, .int .u16 15, .int .u16 l, .int .u32 t, .slice A1 n1 c1, .slice A2 n2 c2, .slice A3 n3 c3] 60))
  have HB0 : Hid (Below w.heap.size w (w.alloc (.cells #[.string x, .int .u16 15, .int .u16 l, .int .u32 t, .slice A1 n1 c1, .slice A2 n2 c2, .slice A3 n3 c3] 60))) := (Below.refl _ _).alloc (Nat.le_refl _) _
  have d1 : (w.alloc (.cells #[.string x, .int .u16 15, .int .u16 l, .int .u32 t, .slice A1 n1 c1, .slice A2 n2 c2, .slice A3 n3 c3] 60)).cell? ⟨w.heap.size, 1, none⟩ = some (.int .u16 15) := by simp
  have d4 : (w.alloc (.cells #[.string x, .int .u16 15, .int .u16 l, .int .u32 t, .slice A1 n1 c1, .slice A2 n2 c2, .slice A3 n3 c3] 60)).cell? ⟨w.heap.size, 4, none⟩ = some (.slice A1 n1 c1) := by simp
  have d5 : (w.alloc (.cells #[.string x, .int .u16 15, .int .u16 l, .int .u32 t, .slice A1 n1 c1, .slice A2 n2 c2, .slice A3 n3 c3] 60)).cell? ⟨w.heap.size, 5, none⟩ = some (.slice A2 n2 c2) := by simp
  have d6 : (w.alloc (.cells #[.string x, .int .u16 15, .int .u16 l, .int .u32 t, .slice A1 n1 c1, .slice A2 n2 c2, .slice A3 n3 c3] 60)).cell? ⟨w.heap.size, 6, none⟩ = some (.slice A3 n3 c3) := by simp
  have hgl : w.heap.size < (w.alloc (.cells #[.string x, .int .u16 15, .int .u16 l, .int .u32 t, .slice A1 n1 c1, .slice A2 n2 c2, .slice A3 n3 c3] 60)).heap.size := by simp
  have HL1 := Lib.hid HR2.out.len1
  have HL2 := Lib.hid HR2.out.len2
  have HL3 := Lib.hid HR2.out.len3
  have HRD1 := Lib.hid HR2.out.rd1
  have HRD2 := Lib.hid HR2.out.rd2
  have HRD3 := Lib.hid HR2.out.rd3
  have hok := (check_ok hE.out).2.1
  have hoc := okB_cnt hok
  obtain ⟨l1, l2, l3⟩ := cnt_of hoc.1
  rw [HL1.out, hkd] at l1
  rw [HL2.out, hkd] at l2
  rw [HL3.out, hkd] at l3
  rw [show shA 15 = 1 from rfl] at l1
  rw [show shB 15 = 1 from rfl] at l2
  rw [show shC 15 = 0 from rfl] at l3
  have hpl : numsL 2 R.nums ++ R.names.getD 0 [] = p.data.toList := by
    rw [← hp.out, plainL_not (by rw [hkd]; decide), nil_of (L := R.texts) (by rw [HL3.out]; omega), one_flat (by rw [HL1.out]; exact l1)]
    simp
  have HPL := Lib.hid hpl
  have M1 := Lib.hid l1
  have M2 := Lib.hid l2
  have M3 := Lib.hid l3
  clear hok hoc hpl hp hkd l1 l2 l3
  go_enter Try.func129, Try.ntmps129
  go_wp2_with fail
  generalize w.alloc (.cells #[.string x, .int .u16 15, .int .u16 l, .int .u32 t, .slice A1 n1 c1, .slice A2 n2 c2, .slice A3 n3 c3] 60) = wb at *
  generalize hgw : w.heap.size = g at *
  have HGW := Lib.hid hgw
  clear hgw
  ((with_reducible refine (check_at R x 15 l t A1 n1 c1 A2 n2 c2 A3 n3 c3 0 15 0 _ HR2 hS hE rfl rfl).mono ?_))
  rintro e w1 ⟨rfl, hB⟩
  have hw1 := hB.size
  have q1 : w1.cell? ⟨g, 1, none⟩ = some (.int .u16 15) := (hB.cell (p := ⟨g, 1, none⟩) hgl).trans d1
  have q4 : w1.cell? ⟨g, 4, none⟩ = some (.slice A1 n1 c1) := (hB.cell (p := ⟨g, 4, none⟩) hgl).trans d4
  have q5 : w1.cell? ⟨g, 5, none⟩ = some (.slice A2 n2 c2) := (hB.cell (p := ⟨g, 5, none⟩) hgl).trans d5
  have q6 : w1.cell? ⟨g, 6, none⟩ = some (.slice A3 n3 c3) := (hB.cell (p := ⟨g, 6, none⟩) hgl).trans d6
  have hgl1 : g < w1.heap.size := Nat.lt_of_lt_of_le hgl hw1
  have h1n : 0 < R.names.length := by rw [HL1.out]; have := M1.out; omega
  obtain ⟨ad, rfl, hab, hcell⟩ := (HRD1.out.on hB hw1).get h1n
  rw [show ad.add 0 = ad from by simp [Addr.add]] at hcell
  have hy := hS.out.s1 0 h1n
  have hnl := numsL_len 2 R.nums
  rw [HL2.out] at hnl
  have HRN := Lib.hid (HRD2.out.on hB hw1)
  obtain ⟨r, hr⟩ : ∃ r, mk (numsL 2 R.nums) = r := ⟨_, rfl⟩
  have HRR : Hid (numsL 2 R.nums = r.data.toList) := by show _ = _; rw [← hr, mk_list]
  have hpe : p = r ++ mk (R.names.getD 0 []) := list_inj (by rw [← HPL.out, cat_list, mk_list, HRR.out])
  have hrz : r.size ≤ 100 := by rw [← hr, mk_size, hnl]; have := M2.out; omega
  rw [← mk_size] at hy
  generalize mk (R.names.getD 0 []) = y0 at *
  have hs1 : (9223372036854775807 < r.size + y0.size) = False := eq_false (by omega)
  have HPE := Lib.hid hpe
  have hn0 : (0 : Int) < n1 := by have := M1.out; omega
  have hn0n : 0 < n1 := by have := M1.out; omega
  have hH0 : Held w1 w1.drew := (Below.refl _ _).drew
  have hg4 : (⟨g, 4, none⟩ : Addr).block < w1.heap.size := hgl1
  have hg5 : (⟨g, 5, none⟩ : Addr).block < w1.heap.size := hgl1
  have hu := Lib.hid hS.out.u2
  clear h1n hpe hr hnl
  go_wp2_with fail
  go_region_held3 (fun w' => w'.cell? ad = some (.string y0) ∧ w'.cell? ⟨g, 4, none⟩ = some (.slice (some ad) n1 c1) ∧ w'.cell? ⟨g, 5, none⟩ = some (.slice A2 n2 c2) ∧ Held w1 w') (go_keep)
    (first | ((go_at_call 146; (with_reducible refine (numbers_held A2 c2 n2 2 R.nums r ad ⟨g, 4, none⟩ ⟨g, 5, none⟩ ⟨g, 5, none⟩ (.string y0) (.slice (some ad) n1 c1) (.slice A2 n2 c2) (.slice A2 n2 c2) w1 _ hab hg4 hg5 hg5 ?_ HRN HL2 hm2 (by decide) hu HRR 2 rfl).mono ?_)); (simp [*]); rintro e w2 ⟨rfl, k0, k1, k2, k3, hH2⟩))
  have hBB := hB.trans (Below.mono hH2 hw1)
  go_wp2_with fail
  go_ret
  exact ⟨by rw [HPE.out]; rfl, by have h := HB0.out; rw [← HGW.out] at h; exact h.trans (hBB.mono h.size)⟩

set_option maxHeartbeats 4000000 in
set_option maxRecDepth 100000 in
theorem plain_33 (R : Rec) (x : ByteArray) (k l t : Nat) (A1 : Option Addr) (n1 c1 : Nat) (A2 : Option Addr) (n2 c2 : Nat) (A3 : Option Addr) (n3 c3 : Nat) (p : ByteArray) (w : World) (hR : Hid (RecAt w w.heap.size R x k l t A1 n1 A2 n2 A3 n3)) (hS : Hid (Small R)) (hk : k = 33) (hE : Hid (checkE R = 0)) (hp : Hid (plainL R = p.data.toList)) :
    Calls Try.prog 129 #[.agg #[.string x, .int .u16 k, .int .u16 l, .int .u32 t, .slice A1 n1 c1, .slice A2 n2 c2, .slice A3 n3 c3]] w fun e w' => e = .returned (.string p) ∧ Below w.heap.size w w' := by
  subst hk
  have hm1 := hR.out.m1 hS.out
  have hm2 := hR.out.m2 hS.out
  have hm3 := hR.out.m3 hS.out
  have hkd := hR.out.kind
  have HR2 := Lib.hid (hR.out.box (.cells #[.string x, .int .u16 33, .int .u16 l, .int .u32 t, .slice A1 n1 c1, .slice A2 n2 c2, .slice A3 n3 c3] 60))
  have HB0 : Hid (Below w.heap.size w (w.alloc (.cells #[.string x, .int .u16 33, .int .u16 l, .int .u32 t, .slice A1 n1 c1, .slice A2 n2 c2, .slice A3 n3 c3] 60))) := (Below.refl _ _).alloc (Nat.le_refl _) _
  have d1 : (w.alloc (.cells #[.string x, .int .u16 33, .int .u16 l, .int .u32 t, .slice A1 n1 c1, .slice A2 n2 c2, .slice A3 n3 c3] 60)).cell? ⟨w.heap.size, 1, none⟩ = some (.int .u16 33) := by simp
  have d4 : (w.alloc (.cells #[.string x, .int .u16 33, .int .u16 l, .int .u32 t, .slice A1 n1 c1, .slice A2 n2 c2, .slice A3 n3 c3] 60)).cell? ⟨w.heap.size, 4, none⟩ = some (.slice A1 n1 c1) := by simp
  have d5 : (w.alloc (.cells #[.string x, .int .u16 33, .int .u16 l, .int .u32 t, .slice A1 n1 c1, .slice A2 n2 c2, .slice A3 n3 c3] 60)).cell? ⟨w.heap.size, 5, none⟩ = some (.slice A2 n2 c2) := by simp
  have d6 : (w.alloc (.cells #[.string x, .int .u16 33, .int .u16 l, .int .u32 t, .slice A1 n1 c1, .slice A2 n2 c2, .slice A3 n3 c3] 60)).cell? ⟨w.heap.size, 6, none⟩ = some (.slice A3 n3 c3) := by simp
  have hgl : w.heap.size < (w.alloc (.cells #[.string x, .int .u16 33, .int .u16 l, .int .u32 t, .slice A1 n1 c1, .slice A2 n2 c2, .slice A3 n3 c3] 60)).heap.size := by simp
  have HL1 := Lib.hid HR2.out.len1
  have HL2 := Lib.hid HR2.out.len2
  have HL3 := Lib.hid HR2.out.len3
  have HRD1 := Lib.hid HR2.out.rd1
  have HRD2 := Lib.hid HR2.out.rd2
  have HRD3 := Lib.hid HR2.out.rd3
  have hok := (check_ok hE.out).2.1
  have hoc := okB_cnt hok
  obtain ⟨l1, l2, l3⟩ := cnt_of hoc.1
  rw [HL1.out, hkd] at l1
  rw [HL2.out, hkd] at l2
  rw [HL3.out, hkd] at l3
  rw [show shA 33 = 1 from rfl] at l1
  rw [show shB 33 = 3 from rfl] at l2
  rw [show shC 33 = 0 from rfl] at l3
  have hpl : numsL 2 R.nums ++ R.names.getD 0 [] = p.data.toList := by
    rw [← hp.out, plainL_not (by rw [hkd]; decide), nil_of (L := R.texts) (by rw [HL3.out]; omega), one_flat (by rw [HL1.out]; exact l1)]
    simp
  have HPL := Lib.hid hpl
  have M1 := Lib.hid l1
  have M2 := Lib.hid l2
  have M3 := Lib.hid l3
  clear hok hoc hpl hp hkd l1 l2 l3
  go_enter Try.func129, Try.ntmps129
  go_wp2_with fail
  generalize w.alloc (.cells #[.string x, .int .u16 33, .int .u16 l, .int .u32 t, .slice A1 n1 c1, .slice A2 n2 c2, .slice A3 n3 c3] 60) = wb at *
  generalize hgw : w.heap.size = g at *
  have HGW := Lib.hid hgw
  clear hgw
  ((with_reducible refine (check_at R x 33 l t A1 n1 c1 A2 n2 c2 A3 n3 c3 0 33 0 _ HR2 hS hE rfl rfl).mono ?_))
  rintro e w1 ⟨rfl, hB⟩
  have hw1 := hB.size
  have q1 : w1.cell? ⟨g, 1, none⟩ = some (.int .u16 33) := (hB.cell (p := ⟨g, 1, none⟩) hgl).trans d1
  have q4 : w1.cell? ⟨g, 4, none⟩ = some (.slice A1 n1 c1) := (hB.cell (p := ⟨g, 4, none⟩) hgl).trans d4
  have q5 : w1.cell? ⟨g, 5, none⟩ = some (.slice A2 n2 c2) := (hB.cell (p := ⟨g, 5, none⟩) hgl).trans d5
  have q6 : w1.cell? ⟨g, 6, none⟩ = some (.slice A3 n3 c3) := (hB.cell (p := ⟨g, 6, none⟩) hgl).trans d6
  have hgl1 : g < w1.heap.size := Nat.lt_of_lt_of_le hgl hw1
  have h1n : 0 < R.names.length := by rw [HL1.out]; have := M1.out; omega
  obtain ⟨ad, rfl, hab, hcell⟩ := (HRD1.out.on hB hw1).get h1n
  rw [show ad.add 0 = ad from by simp [Addr.add]] at hcell
  have hy := hS.out.s1 0 h1n
  have hnl := numsL_len 2 R.nums
  rw [HL2.out] at hnl
  have HRN := Lib.hid (HRD2.out.on hB hw1)
  obtain ⟨r, hr⟩ : ∃ r, mk (numsL 2 R.nums) = r := ⟨_, rfl⟩
  have HRR : Hid (numsL 2 R.nums = r.data.toList) := by show _ = _; rw [← hr, mk_list]
  have hpe : p = r ++ mk (R.names.getD 0 []) := list_inj (by rw [← HPL.out, cat_list, mk_list, HRR.out])
  have hrz : r.size ≤ 100 := by rw [← hr, mk_size, hnl]; have := M2.out; omega
  rw [← mk_size] at hy
  generalize mk (R.names.getD 0 []) = y0 at *
  have hs1 : (9223372036854775807 < r.size + y0.size) = False := eq_false (by omega)
  have HPE := Lib.hid hpe
  have hn0 : (0 : Int) < n1 := by have := M1.out; omega
  have hn0n : 0 < n1 := by have := M1.out; omega
  have hH0 : Held w1 w1.drew := (Below.refl _ _).drew
  have hg4 : (⟨g, 4, none⟩ : Addr).block < w1.heap.size := hgl1
  have hg5 : (⟨g, 5, none⟩ : Addr).block < w1.heap.size := hgl1
  have hu := Lib.hid hS.out.u2
  clear h1n hpe hr hnl
  go_wp2_with fail
  go_region_held3 (fun w' => w'.cell? ad = some (.string y0) ∧ w'.cell? ⟨g, 4, none⟩ = some (.slice (some ad) n1 c1) ∧ w'.cell? ⟨g, 5, none⟩ = some (.slice A2 n2 c2) ∧ Held w1 w') (go_keep)
    (first | ((go_at_call 146; (with_reducible refine (numbers_held A2 c2 n2 2 R.nums r ad ⟨g, 4, none⟩ ⟨g, 5, none⟩ ⟨g, 5, none⟩ (.string y0) (.slice (some ad) n1 c1) (.slice A2 n2 c2) (.slice A2 n2 c2) w1 _ hab hg4 hg5 hg5 ?_ HRN HL2 hm2 (by decide) hu HRR 2 rfl).mono ?_)); (simp [*]); rintro e w2 ⟨rfl, k0, k1, k2, k3, hH2⟩))
  have hBB := hB.trans (Below.mono hH2 hw1)
  go_wp2_with fail
  go_ret
  exact ⟨by rw [HPE.out]; rfl, by have h := HB0.out; rw [← HGW.out] at h; exact h.trans (hBB.mono h.size)⟩

set_option maxHeartbeats 4000000 in
set_option maxRecDepth 100000 in
theorem plain_16 (R : Rec) (x : ByteArray) (k l t : Nat) (A1 : Option Addr) (n1 c1 : Nat) (A2 : Option Addr) (n2 c2 : Nat) (A3 : Option Addr) (n3 c3 : Nat) (p : ByteArray) (w : World) (hR : Hid (RecAt w w.heap.size R x k l t A1 n1 A2 n2 A3 n3)) (hS : Hid (Small R)) (hk : k = 16) (hE : Hid (checkE R = 0)) (hp : Hid (plainL R = p.data.toList)) :
    Calls Try.prog 129 #[.agg #[.string x, .int .u16 k, .int .u16 l, .int .u32 t, .slice A1 n1 c1, .slice A2 n2 c2, .slice A3 n3 c3]] w fun e w' => e = .returned (.string p) ∧ Below w.heap.size w w' := by
  subst hk
  have hm1 := hR.out.m1 hS.out
  have hm2 := hR.out.m2 hS.out
  have hm3 := hR.out.m3 hS.out
  have hkd := hR.out.kind
  have HR2 := Lib.hid (hR.out.box (.cells #[.string x, .int .u16 16, .int .u16 l, .int .u32 t, .slice A1 n1 c1, .slice A2 n2 c2, .slice A3 n3 c3] 60))
  have HB0 : Hid (Below w.heap.size w (w.alloc (.cells #[.string x, .int .u16 16, .int .u16 l, .int .u32 t, .slice A1 n1 c1, .slice A2 n2 c2, .slice A3 n3 c3] 60))) := (Below.refl _ _).alloc (Nat.le_refl _) _
  have d1 : (w.alloc (.cells #[.string x, .int .u16 16, .int .u16 l, .int .u32 t, .slice A1 n1 c1, .slice A2 n2 c2, .slice A3 n3 c3] 60)).cell? ⟨w.heap.size, 1, none⟩ = some (.int .u16 16) := by simp
  have d4 : (w.alloc (.cells #[.string x, .int .u16 16, .int .u16 l, .int .u32 t, .slice A1 n1 c1, .slice A2 n2 c2, .slice A3 n3 c3] 60)).cell? ⟨w.heap.size, 4, none⟩ = some (.slice A1 n1 c1) := by simp
  have d5 : (w.alloc (.cells #[.string x, .int .u16 16, .int .u16 l, .int .u32 t, .slice A1 n1 c1, .slice A2 n2 c2, .slice A3 n3 c3] 60)).cell? ⟨w.heap.size, 5, none⟩ = some (.slice A2 n2 c2) := by simp
  have d6 : (w.alloc (.cells #[.string x, .int .u16 16, .int .u16 l, .int .u32 t, .slice A1 n1 c1, .slice A2 n2 c2, .slice A3 n3 c3] 60)).cell? ⟨w.heap.size, 6, none⟩ = some (.slice A3 n3 c3) := by simp
  have hgl : w.heap.size < (w.alloc (.cells #[.string x, .int .u16 16, .int .u16 l, .int .u32 t, .slice A1 n1 c1, .slice A2 n2 c2, .slice A3 n3 c3] 60)).heap.size := by simp
  have HL1 := Lib.hid HR2.out.len1
  have HL2 := Lib.hid HR2.out.len2
  have HL3 := Lib.hid HR2.out.len3
  have HRD1 := Lib.hid HR2.out.rd1
  have HRD2 := Lib.hid HR2.out.rd2
  have HRD3 := Lib.hid HR2.out.rd3
  have hok := (check_ok hE.out).2.1
  have hoc := okB_cnt hok
  obtain ⟨l1, l2, l3⟩ := cnt_of hoc.1
  rw [HL1.out, hkd] at l1
  rw [HL2.out, hkd] at l2
  rw [HL3.out, hkd] at l3
  rw [show shA 16 = 0 from rfl] at l1
  rw [show shB 16 = 0 from rfl] at l2
  rw [show shC 16 = 1 from rfl] at l3
  have hpl : R.texts.flatMap (textL 16) = p.data.toList := by
    rw [← hp.out, plainL_not (by rw [hkd]; decide), nil_of (L := R.nums) (by rw [HL2.out]; exact l2), nil_of (L := R.names) (by rw [HL1.out]; exact l1), hkd]
    simp [numsL]
  have hpz : p.size ≤ 1000000 := by
    have h1 := textL_len 16 R.texts
    have h2 := hoc.2.2.2
    rw [hkd] at h2
    rw [Lib.size_eq, ← hpl, h1]
    omega
  have h255 := Lib.hid (any_short (by have h := hoc.2.2.1; rw [hkd] at h; exact h))
  have HPL := Lib.hid hpl
  have M1 := Lib.hid l1
  have M2 := Lib.hid l2
  have M3 := Lib.hid l3
  clear hok hoc hpl hp hkd l1 l2 l3
  go_enter Try.func129, Try.ntmps129
  go_wp2_with fail
  generalize w.alloc (.cells #[.string x, .int .u16 16, .int .u16 l, .int .u32 t, .slice A1 n1 c1, .slice A2 n2 c2, .slice A3 n3 c3] 60) = wb at *
  generalize hgw : w.heap.size = g at *
  have HGW := Lib.hid hgw
  clear hgw
  ((with_reducible refine (check_at R x 16 l t A1 n1 c1 A2 n2 c2 A3 n3 c3 0 16 0 _ HR2 hS hE rfl rfl).mono ?_))
  rintro e w1 ⟨rfl, hB⟩
  have hw1 := hB.size
  have q1 : w1.cell? ⟨g, 1, none⟩ = some (.int .u16 16) := (hB.cell (p := ⟨g, 1, none⟩) hgl).trans d1
  have q4 : w1.cell? ⟨g, 4, none⟩ = some (.slice A1 n1 c1) := (hB.cell (p := ⟨g, 4, none⟩) hgl).trans d4
  have q5 : w1.cell? ⟨g, 5, none⟩ = some (.slice A2 n2 c2) := (hB.cell (p := ⟨g, 5, none⟩) hgl).trans d5
  have q6 : w1.cell? ⟨g, 6, none⟩ = some (.slice A3 n3 c3) := (hB.cell (p := ⟨g, 6, none⟩) hgl).trans d6
  have hgl1 : g < w1.heap.size := Nat.lt_of_lt_of_le hgl hw1
  have HM := (HRD3.out.on hB hw1)
  have HM2 := Lib.hid HM
  clear HM
  go_wp2_with fail
  refine (measured_is A3 c3 n3 R.texts p _ HM2.out HL3 hm3 h255 hpz HPL).mono ?_
  rintro e w2 ⟨rfl, hB2⟩
  have hBB := hB.trans (hB2.mono hw1)
  go_wp2_with fail
  go_ret
  exact ⟨rfl, by have h := HB0.out; rw [← HGW.out] at h; exact h.trans (hBB.mono h.size)⟩

set_option maxHeartbeats 4000000 in
set_option maxRecDepth 100000 in
theorem plain_other (R : Rec) (x : ByteArray) (k l t : Nat) (A1 : Option Addr) (n1 c1 : Nat) (A2 : Option Addr) (n2 c2 : Nat) (A3 : Option Addr) (n3 c3 : Nat) (p : ByteArray) (w : World) (hR : Hid (RecAt w w.heap.size R x k l t A1 n1 A2 n2 A3 n3)) (hS : Hid (Small R)) (h2 : k ≠ 2) (h5 : k ≠ 5) (h12 : k ≠ 12) (h6 : k ≠ 6) (h15 : k ≠ 15) (h33 : k ≠ 33) (h16 : k ≠ 16) (hE : Hid (checkE R = 0)) (hp : Hid (plainL R = p.data.toList)) :
    Calls Try.prog 129 #[.agg #[.string x, .int .u16 k, .int .u16 l, .int .u32 t, .slice A1 n1 c1, .slice A2 n2 c2, .slice A3 n3 c3]] w fun e w' => e = .returned (.string p) ∧ Below w.heap.size w w' := by
  have g2 : ((k : Int) == 2) = false := int_ne h2
  have g5 : ((k : Int) == 5) = false := int_ne h5
  have g12 : ((k : Int) == 12) = false := int_ne h12
  have g6 : ((k : Int) == 6) = false := int_ne h6
  have g15 : ((k : Int) == 15) = false := int_ne h15
  have g33 : ((k : Int) == 33) = false := int_ne h33
  have g16 : ((k : Int) == 16) = false := int_ne h16
  have hm1 := hR.out.m1 hS.out
  have hm2 := hR.out.m2 hS.out
  have hm3 := hR.out.m3 hS.out
  have hkd := hR.out.kind
  have HR2 := Lib.hid (hR.out.box (.cells #[.string x, .int .u16 k, .int .u16 l, .int .u32 t, .slice A1 n1 c1, .slice A2 n2 c2, .slice A3 n3 c3] 60))
  have HB0 : Hid (Below w.heap.size w (w.alloc (.cells #[.string x, .int .u16 k, .int .u16 l, .int .u32 t, .slice A1 n1 c1, .slice A2 n2 c2, .slice A3 n3 c3] 60))) := (Below.refl _ _).alloc (Nat.le_refl _) _
  have d1 : (w.alloc (.cells #[.string x, .int .u16 k, .int .u16 l, .int .u32 t, .slice A1 n1 c1, .slice A2 n2 c2, .slice A3 n3 c3] 60)).cell? ⟨w.heap.size, 1, none⟩ = some (.int .u16 k) := by simp
  have d4 : (w.alloc (.cells #[.string x, .int .u16 k, .int .u16 l, .int .u32 t, .slice A1 n1 c1, .slice A2 n2 c2, .slice A3 n3 c3] 60)).cell? ⟨w.heap.size, 4, none⟩ = some (.slice A1 n1 c1) := by simp
  have d5 : (w.alloc (.cells #[.string x, .int .u16 k, .int .u16 l, .int .u32 t, .slice A1 n1 c1, .slice A2 n2 c2, .slice A3 n3 c3] 60)).cell? ⟨w.heap.size, 5, none⟩ = some (.slice A2 n2 c2) := by simp
  have d6 : (w.alloc (.cells #[.string x, .int .u16 k, .int .u16 l, .int .u32 t, .slice A1 n1 c1, .slice A2 n2 c2, .slice A3 n3 c3] 60)).cell? ⟨w.heap.size, 6, none⟩ = some (.slice A3 n3 c3) := by simp
  have hgl : w.heap.size < (w.alloc (.cells #[.string x, .int .u16 k, .int .u16 l, .int .u32 t, .slice A1 n1 c1, .slice A2 n2 c2, .slice A3 n3 c3] 60)).heap.size := by simp
  have HL1 := Lib.hid HR2.out.len1
  have HL2 := Lib.hid HR2.out.len2
  have HL3 := Lib.hid HR2.out.len3
  have HRD1 := Lib.hid HR2.out.rd1
  have HRD2 := Lib.hid HR2.out.rd2
  have HRD3 := Lib.hid HR2.out.rd3
  have hok := (check_ok hE.out).2.1
  have hoc := okB_cnt hok
  obtain ⟨l1, l2, l3⟩ := cnt_of hoc.1
  rw [HL1.out, hkd] at l1
  rw [HL2.out, hkd] at l2
  rw [HL3.out, hkd] at l3
  have s1 : shA k = 0 := by unfold shA; simp [h2, h5, h12, h6, h15, h33]
  have s2 : shB k = 0 := by unfold shB; simp [h2, h5, h12, h6, h15, h33]
  have s3 : shC k = 1 := by unfold shC; simp [h2, h5, h12, h6, h15, h33]
  rw [s1] at l1
  rw [s2] at l2
  rw [s3] at l3
  have hpl : R.texts.getD 0 [] = p.data.toList := by
    rw [← hp.out, plainL_not (by rw [hkd]; exact h6), nil_of (L := R.nums) (by rw [HL2.out]; exact l2), nil_of (L := R.names) (by rw [HL1.out]; exact l1), hkd, one_map h16 (by rw [HL3.out]; omega)]
    simp [numsL]
  have HPL := Lib.hid hpl
  have M1 := Lib.hid l1
  have M2 := Lib.hid l2
  have M3 := Lib.hid l3
  clear hok hoc hpl hp hkd l1 l2 l3
  go_enter Try.func129, Try.ntmps129
  go_wp2_with fail
  generalize w.alloc (.cells #[.string x, .int .u16 k, .int .u16 l, .int .u32 t, .slice A1 n1 c1, .slice A2 n2 c2, .slice A3 n3 c3] 60) = wb at *
  generalize hgw : w.heap.size = g at *
  have HGW := Lib.hid hgw
  clear hgw
  ((with_reducible refine (check_at R x k l t A1 n1 c1 A2 n2 c2 A3 n3 c3 0 (k : Int) 0 _ HR2 hS hE rfl rfl).mono ?_))
  rintro e w1 ⟨rfl, hB⟩
  have hw1 := hB.size
  have q1 : w1.cell? ⟨g, 1, none⟩ = some (.int .u16 k) := (hB.cell (p := ⟨g, 1, none⟩) hgl).trans d1
  have q4 : w1.cell? ⟨g, 4, none⟩ = some (.slice A1 n1 c1) := (hB.cell (p := ⟨g, 4, none⟩) hgl).trans d4
  have q5 : w1.cell? ⟨g, 5, none⟩ = some (.slice A2 n2 c2) := (hB.cell (p := ⟨g, 5, none⟩) hgl).trans d5
  have q6 : w1.cell? ⟨g, 6, none⟩ = some (.slice A3 n3 c3) := (hB.cell (p := ⟨g, 6, none⟩) hgl).trans d6
  have hgl1 : g < w1.heap.size := Nat.lt_of_lt_of_le hgl hw1
  have h1n : 0 < R.texts.length := by rw [HL3.out]; have := M1.out; have := M3.out; omega
  obtain ⟨ad, rfl, hab, hcell⟩ := (HRD3.out.on hB hw1).get h1n
  have hy := hS.out.s3 0 h1n
  rw [HPL.out, ← Lib.size_eq] at hy
  rw [HPL.out, mk_data, show ad.add 0 = ad from by simp [Addr.add]] at hcell
  have hn0 : (0 : Int) < n3 := by have := M1.out; have := M3.out; omega
  have hn0n : 0 < n3 := by have := M1.out; have := M3.out; omega
  clear h1n
  have hy6 : p.size ≤ 1000000 := by omega
  go_wp2_with fail
  refine (clone_any p _ hy6).mono ?_
  rintro e w2 ⟨rfl, hB2⟩
  have hBB := hB.trans (hB2.mono hw1)
  go_wp2_with fail
  go_ret
  exact ⟨rfl, by have h := HB0.out; rw [← HGW.out] at h; exact h.trans (hBB.mono h.size)⟩

set_option maxHeartbeats 1000000 in
theorem plain_not (R : Rec) (x : ByteArray) (k l t : Nat) (A1 : Option Addr) (n1 c1 : Nat) (A2 : Option Addr) (n2 c2 : Nat) (A3 : Option Addr) (n3 c3 : Nat) (E : Nat) (w : World) (hR : Hid (RecAt w w.heap.size R x k l t A1 n1 A2 n2 A3 n3)) (hS : Hid (Small R)) (hE : Hid (checkE R = E)) (h0 : E ≠ 0) :
    Calls Try.prog 129 #[.agg #[.string x, .int .u16 k, .int .u16 l, .int .u32 t, .slice A1 n1 c1, .slice A2 n2 c2, .slice A3 n3 c3]] w fun e w' => e = .returned (.string ⟨#[]⟩) ∧ Below w.heap.size w w' := by
  have HR2 := Lib.hid (hR.out.box (.cells #[.string x, .int .u16 k, .int .u16 l, .int .u32 t, .slice A1 n1 c1, .slice A2 n2 c2, .slice A3 n3 c3] 60))
  have HB0 : Hid (Below w.heap.size w (w.alloc (.cells #[.string x, .int .u16 k, .int .u16 l, .int .u32 t, .slice A1 n1 c1, .slice A2 n2 c2, .slice A3 n3 c3] 60))) := (Below.refl _ _).alloc (Nat.le_refl _) _
  have g0 : ((E : Int) != 0) = true := int_nne h0
  clear h0
  go_enter Try.func129, Try.ntmps129
  go_wp2_with fail
  generalize w.alloc (.cells #[.string x, .int .u16 k, .int .u16 l, .int .u32 t, .slice A1 n1 c1, .slice A2 n2 c2, .slice A3 n3 c3] 60) = wb at *
  generalize hgw : w.heap.size = g at *
  have HGW := Lib.hid hgw
  clear hgw
  ((with_reducible refine (check_is R x k l t A1 n1 c1 A2 n2 c2 A3 n3 c3 E _ HR2 hS hE).mono ?_))
  rintro e w1 ⟨rfl, hB⟩
  go_wp2_with fail
  go_ret
  exact ⟨rfl, by have h := HB0.out; rw [← HGW.out] at h; exact h.trans (hB.mono h.size)⟩
theorem plain_is (R : Rec) (x : ByteArray) (k l t : Nat) (A1 : Option Addr) (n1 c1 : Nat) (A2 : Option Addr) (n2 c2 : Nat) (A3 : Option Addr) (n3 c3 : Nat) (p : ByteArray) (w : World) (hR : Hid (RecAt w w.heap.size R x k l t A1 n1 A2 n2 A3 n3)) (hS : Hid (Small R)) (hp : Hid (mk (plainO R) = p)) :
    Calls Try.prog 129 #[.agg #[.string x, .int .u16 k, .int .u16 l, .int .u32 t, .slice A1 n1 c1, .slice A2 n2 c2, .slice A3 n3 c3]] w fun e w' => e = .returned (.string p) ∧ Below w.heap.size w w' := by
  by_cases h0 : checkE R = 0
  · have hpp : Hid (plainL R = p.data.toList) := by show _ = _; rw [← hp.out, mk_list, plainO_ok h0]
    have hE := Lib.hid h0
    by_cases h2 : k = 2
    · exact plain_2 R x k l t A1 n1 c1 A2 n2 c2 A3 n3 c3 p w hR hS h2 hE hpp
    by_cases h5 : k = 5
    · exact plain_5 R x k l t A1 n1 c1 A2 n2 c2 A3 n3 c3 p w hR hS h5 hE hpp
    by_cases h12 : k = 12
    · exact plain_12 R x k l t A1 n1 c1 A2 n2 c2 A3 n3 c3 p w hR hS h12 hE hpp
    by_cases h6 : k = 6
    · exact plain_6 R x k l t A1 n1 c1 A2 n2 c2 A3 n3 c3 p w hR hS h6 hE hpp
    by_cases h15 : k = 15
    · exact plain_15 R x k l t A1 n1 c1 A2 n2 c2 A3 n3 c3 p w hR hS h15 hE hpp
    by_cases h33 : k = 33
    · exact plain_33 R x k l t A1 n1 c1 A2 n2 c2 A3 n3 c3 p w hR hS h33 hE hpp
    by_cases h16 : k = 16
    · exact plain_16 R x k l t A1 n1 c1 A2 n2 c2 A3 n3 c3 p w hR hS h16 hE hpp
    · exact plain_other R x k l t A1 n1 c1 A2 n2 c2 A3 n3 c3 p w hR hS h2 h5 h12 h6 h15 h33 h16 hE hpp
  · obtain rfl : p = ⟨#[]⟩ := by rw [← hp.out, plainO_no h0]; rfl
    exact plain_not R x k l t A1 n1 c1 A2 n2 c2 A3 n3 c3 (checkE R) w hR hS (Lib.hid rfl) h0
end Go.Proofs.Ytpmmjmnleoicjaa
