/- The contracts of rdata's numbers and measured: the plain bytes of numbers, and of texts behind their lengths. For lists of at most 10^5. -/
import Derived.Test.YtnpdhfjglfpjcaaProg
import Derived.Test.YtnpdhfjglfpjcaaBytes
import Derived.Test.YtnpdhfjglfpjcaaStrs
import Derived.Test.YtnpdhfjglfpjcaaNums
import Derived.Test.YtnpdhfjglfpjcaaRecMath
import Derived.Test.YtnpdhfjglfpjcaaNumPut
import Derived.Test.YtnpdhfjglfpjcaaNumRefPut
import Derived.Test.YtnpdhfjglfpjcaaBuilder
import Derived.Test.YtnpdhfjglfpjcaaShelf
import Derived.WalkKit
import Derived.Lib.Hide
import Derived.Outline
import Derived.IntWalk
import Derived.WalkSpells
import Derived.WalkLawsBesides
namespace Go.Proofs.Ytnpdhfjglfpjcaa
open Go.RowKit Bytes Strs Nums RecMath

/-- Bytes of the call's own, as num's Put leaves them: none yet, or a block that is known whole. -/
def BufAt (w : World) (A : Option Addr) (m c : Nat) (l : List UInt8) : Prop :=
  (A = none ∧ m = 0 ∧ c = 0 ∧ l = []) ∨ ∃ g, A = some ⟨g, 0, none⟩ ∧ m = l.length ∧ g < w.heap.size ∧ w.heap[g]? = some (.cells (Lib.byteCells l).toArray 5 (0, 0))
theorem BufAt.rd {w : World} {A : Option Addr} {m c : Nat} {l : List UInt8} (h : BufAt w A m c l) : RdB w w.heap.size A l ∧ l.length = m := by
  rcases h with ⟨rfl, rfl, _, rfl⟩ | ⟨g, rfl, rfl, hg, hh⟩
  · exact ⟨fun hp => absurd hp (Nat.lt_irrefl 0), rfl⟩
  · refine ⟨fun _ => ⟨_, rfl, hg, fun i v hv => ?_⟩, rfl⟩
    rw [show ((⟨g, 0, none⟩ : Addr).add i) = ⟨g, i, none⟩ from by unfold Addr.add; split <;> simp_all]
    rw [Lib.cell_of_heap hh, ← Array.getElem?_toList]
    exact hv
theorem BufAt.conv {w : World} {A : Option Addr} {m c : Nat} {l : List UInt8} (h : BufAt w A m c l) : (convert 63 9 (.slice A m c)).run Try.prog w = .ok (.string (mk l)) w := by
  rcases h with ⟨rfl, rfl, rfl, rfl⟩ | ⟨g, rfl, rfl, hg, hh⟩
  · exact Lib.run_convert_nil_bytes w _ _ 5 0 Try.underlying63 Try.underlying5 Try.underlying9
  · refine run_convert_bytes_back w _ _ 5 ⟨g, 0, none⟩ c l Try.underlying63 Try.underlying5 Try.underlying9 (fun j hj => ?_)
    rw [show ((⟨g, 0, none⟩ : Addr).add j) = ⟨g, j, none⟩ from by unfold Addr.add; split <;> simp_all]
    rw [Lib.cell_of_heap hh, ← Array.getElem?_toList]
    simp [Lib.byteCells, hj]
def PutRes (w : World) (l : List UInt8) (n k : Nat) (e : Ending) (w' : World) : Prop :=
  ∃ A m c, e = .returned (.slice A m c) ∧ BufAt w' A m c (l ++ beTail n k) ∧ Below w.heap.size w w'
theorem put_buf (A : Option Addr) (m c : Nat) (l : List UInt8) (n k : Nat) (w : World) (hk : k ≤ 8) (hb : BufAt w A m c l) (hl : m ≤ 1000000) :
    Calls Try.prog 44 #[.slice A m c, .int .u64 n, .int .i64 k] w (PutRes w l n k) := by
  obtain ⟨hr, hm⟩ := hb.rd
  have := put_any A c l n k w hk hr (by omega)
  rw [hm] at this
  exact this.mono fun _ _ ⟨he, hB, hlt, hh⟩ => ⟨_, _, _, he, Or.inr ⟨_, rfl, by rw [List.length_append, beTail_length, hm], hlt, hh⟩, hB⟩

set_option maxHeartbeats 2000000 in
theorem numbers_is (A : Option Addr) (c n k : Nat) (L : List Nat) (r : ByteArray) (w : World) (hr : RdN w w.heap.size A L) (hn0 : Hid (L.length = n)) (hn : n ≤ 100000) (hk : k ≤ 8) (hu : Hid (∀ k, k < L.length → L.getD k 0 ≤ 4294967295)) (hR : Hid (numsL k L = r.data.toList)) :
    Calls Try.prog 29 #[.slice A n c, .int .i64 k] w fun e w' => e = .returned (.string r) ∧ Below w.heap.size w w' := by
  have HR := Lib.hid hr; clear hr
  generalize hg : w.heap.size = g at *
  have G := Lib.hid hg; clear hg
  go_enter Try.func29, Try.ntmps29
  go_wp2_with fail
  go_loopw [10, 5, 7] (fun i b u wr => ∃ (j m q : Nat) (B : Option Addr) (l : List UInt8), j ≤ n ∧ i = .int .i64 j ∧ b = .slice B m q ∧ m ≤ 8 * j ∧ Hid (BufAt wr B m q l) ∧ Hid (l ++ numsL k (L.drop j) = r.data.toList) ∧ Below g w wr) (fun i _ _ _ => n - (intOf i).toNat)
  case atStart => exact ⟨0, 0, 0, none, [], Nat.zero_le _, rfl, rfl, Nat.zero_le _, Lib.hid (Or.inl ⟨rfl, rfl, rfl, rfl⟩), hR, Below.refl _ _⟩
  case round =>
    obtain ⟨j, m, q, B, l, hj, rfl, rfl, hm, hBuf, hH, hB⟩ := hrel
    have hsz := hB.size
    by_cases hlt : j < n
    · have hkl : j < L.length := by rw [hn0.out]; exact hlt
      obtain ⟨ad, rfl, hab, hcell⟩ := (HR.out.on hB (Nat.le_refl g)).get hkl
      have hd := hH.out
      rw [numsL_drop k hkl, ← List.append_assoc] at hd
      have HD := Lib.hid hd
      have hy := hu.out j hkl
      generalize L.getD j 0 = y at *
      clear hd hH hkl
      go_wp2_with fail
      refine (put_buf B m q l y k _ hk hBuf.out (by omega)).mono ?_
      rintro e w3 ⟨B2, m2, q2, rfl, hb2, hB3⟩
      have hm2 := hb2.rd.2
      rw [List.length_append, beTail_length, hBuf.out.rd.2] at hm2
      have HB2 := Lib.hid hb2
      have hBB := hB.trans (hB3.mono (by have := G.out; omega))
      have hm3 : m2 ≤ 8 * (j + 1) := by omega
      clear hB hB3 hb2 hm2 hsz
      go_wp2_with fail
      go_roundw
      case rel => exact ⟨j + 1, m2, q2, B2, _, by omega, by go_num, rfl, hm3, HB2, HD, hBB⟩
      case measure => simp [intOf]; omega
    · have hd := hH.out
      rw [List.drop_of_length_le (by rw [hn0.out]; omega)] at hd
      have he : l = r.data.toList := by rw [← hd]; simp [numsL]
      have hcv := hBuf.out.conv
      rw [he, mk_data] at hcv
      clear hd hH he
      go_wp2_with fail
      go_ret
      exact ⟨rfl, hB⟩

theorem bld_below {w w' : World} {B b : Nat} {l : List UInt8} (h : Bld B b l w) (hB : Below w.heap.size w w') : Bld B b l w' := by
  have key : ∀ p, Lib.BuilderAt 67 5 B b p (byteCells l) w → Lib.BuilderAt 67 5 B b p (byteCells l) w' := fun p h => by
    have hlt := h.lt
    obtain ⟨h1, v, hb, hown, hne⟩ := h
    exact ⟨h1, v, (hB.block b hlt).trans hb, own_below hown hB, hne⟩
  rcases h with h | h
  · exact Or.inl (key _ h)
  · exact Or.inr (key _ h)
theorem writeByte_is (B b : Nat) (l : List UInt8) (c : UInt8) (z : Int) (w : World) (h : Bld B b l w) (hlen : l.length + 1 ≤ 140737488355328) (hBw : B ≤ w.heap.size) (hz : (c.toNat : Int) = z) :
    Calls Try.prog 45 #[.pointer (some ⟨b, 0, none⟩), .int .u8 z] w fun e w' => e = .returned .nilIface ∧ Bld B b (l ++ [c]) w' ∧ Below B w w' := by
  subst hz
  exact (writeByte_any B b l c w h hlen hBw).mono fun _ _ ⟨he, h1, h2, _⟩ => ⟨he, h1, h2⟩
theorem writeString_is (B b : Nat) (l : List UInt8) (s : ByteArray) (w : World) (h : Bld B b l w) (hlen : l.length + s.size ≤ 140737488355328) (hBw : B ≤ w.heap.size) :
    Calls Try.prog 46 #[.pointer (some ⟨b, 0, none⟩), .string s] w fun e w' => e = .returned (.tuple #[.int .i64 s.size, .nilIface]) ∧ Bld B b (l ++ s.data.toList) w' ∧ Below B w w' :=
  (writeString_any B b l s w h hlen hBw).mono fun _ _ ⟨he, h1, h2, _⟩ => ⟨he, h1, h2⟩

set_option maxHeartbeats 4000000 in
set_option maxRecDepth 100000 in
theorem measured_is (A : Option Addr) (c n : Nat) (L : List (List UInt8)) (r : ByteArray) (w : World) (hr : RdS w w.heap.size A L) (hn0 : Hid (L.length = n)) (hn : n ≤ 100000) (hs : Hid (∀ j, j < L.length → (L.getD j []).length ≤ 255)) (hrz : r.size ≤ 1000000) (hR : Hid (L.flatMap (textL 16) = r.data.toList)) :
    Calls Try.prog 30 #[.slice A n c] w fun e w' => e = .returned (.string r) ∧ Below w.heap.size w w' := by
  have HR := Lib.hid hr; clear hr
  have hfr : Bld w.heap.size w.heap.size [] (w.alloc (.cells #[.pointer none, .slice none 0 0] 67)) := Lib.fresh_isBuilder 67 5 w
  have HF := Lib.hid hfr
  clear hfr
  have hBA : Below w.heap.size w (w.alloc (.cells #[.pointer none, .slice none 0 0] 67)) := (Below.refl _ _).alloc (Nat.le_refl _) _
  have HBA := Lib.hid hBA
  clear hBA
  go_enter Try.func30, Try.ntmps30
  go_wp2_with fail
  generalize w.alloc (.cells #[.pointer none, .slice none 0 0] 67) = w1 at *
  generalize hg : w.heap.size = g at *
  have G := Lib.hid hg
  clear hg
  go_loopw [8, 5] (fun i u wr => ∃ (j : Nat) (l : List UInt8), j ≤ n ∧ i = .int .i64 j ∧ Hid (Bld g g l wr) ∧ Hid (l ++ (L.drop j).flatMap (textL 16) = r.data.toList) ∧ Below g w wr) (fun i _ _ => n - (intOf i).toNat)
  case atStart => exact ⟨0, [], Nat.zero_le _, rfl, HF, hR, HBA.out⟩
  case round =>
    obtain ⟨j, l, hj, rfl, hBd, hH, hB⟩ := hrel
    have hsz := hB.size
    have hle : l.length ≤ r.size := by rw [Lib.size_eq, ← hH.out, List.length_append]; omega
    by_cases hlt : j < n
    · have hkl : j < L.length := by rw [hn0.out]; exact hlt
      obtain ⟨ad, rfl, hab, hcell⟩ := (HR.out.on hB (Nat.le_refl g)).get hkl
      have hd := hH.out
      have h255 := hs.out j hkl
      have hml := mk_list (L.getD j [])
      have hlq := mk_size (L.getD j [])
      have hof := ofNat_mod (L.getD j []).length
      have hd2 : (l ++ [UInt8.ofNat (L.getD j []).length] ++ (mk (L.getD j [])).data.toList) ++ (L.drop (j + 1)).flatMap (textL 16) = r.data.toList := by
        rw [← hd, textL_drop 16 hkl, textL_16, mk_list]
        simp
      have hz : ((UInt8.ofNat (L.getD j []).length).toNat : Int) = ((mk (L.getD j [])).size : Int) := by rw [hof, hlq]; omega
      have hy : (mk (L.getD j [])).size ≤ 255 := by omega
      generalize UInt8.ofNat (L.getD j []).length = cc at *
      generalize mk (L.getD j []) = y at *
      have HZ := Lib.hid hz
      have HD := Lib.hid hd2
      have HLE := Lib.hid hle
      clear hd hd2 hH hkl hml hlq hof h255 hz hle
      go_wp2_with fail
      refine (writeByte_is g g l cc (y.size : Int) _ hBd.out (by have := HLE.out; omega) (by have := G.out; omega) HZ.out).mono ?_
      rintro e w3 ⟨rfl, hb3, hB3⟩
      have HB3 := Lib.hid hb3
      have hBB := hB.trans hB3
      have hsz3 := hBB.size
      clear hB hB3 hb3 hsz hcell
      go_wp2_with fail
      refine (writeString_is g g _ y _ HB3.out (by rw [List.length_append, List.length_singleton]; have := HLE.out; omega) (by have := G.out; omega)).mono ?_
      rintro e w4 ⟨rfl, hb4, hB4⟩
      have HB4 := Lib.hid hb4
      have hBC := hBB.trans hB4
      clear hBB hB4 hb4 hsz3
      go_wp2_with fail
      go_roundw
      case rel => exact ⟨j + 1, _, by omega, by go_num, HB4, HD, hBC⟩
      case measure => simp [intOf]; omega
    · have hd := hH.out
      rw [List.drop_of_length_le (by rw [hn0.out]; omega), List.flatMap_nil, List.append_nil] at hd
      have hbk := hBd.out
      rw [hd] at hbk
      have HBK := Lib.hid hbk
      clear hd hH hbk
      go_wp2_with fail
      refine (Try.Builder_String_any g g r.data.toList _ HBK.out (by have := G.out; omega)).mono ?_
      rintro e w4 ⟨rfl, hB4⟩
      go_wp2_with fail
      go_ret
      exact ⟨rfl, by rw [G.out]; exact hB.trans hB4⟩
end Go.Proofs.Ytnpdhfjglfpjcaa
