/- The document's Print of layer 14. For payloads of at most 10^6 bytes. -/
import Derived.Test.YtekcipmhljhelaaProg
import Derived.Test.YtekcipmhljhelaaBytes
import Derived.Test.YtekcipmhljhelaaNumBe
import Derived.Test.YtekcipmhljhelaaNumRefPut
import Derived.Test.YtekcipmhljhelaaFrMath
import Derived.Test.YtekcipmhljhelaaFrBox
import Derived.WalkKit
import Derived.Lib.Hide
import Derived.Laws.Rows
import Derived.Outline
import Derived.IntWalk
import Derived.WalkSpells
import Derived.WalkLawsBesides
import Derived.Deep.CutRange
import Derived.Deep.RegionWith
namespace Go.Proofs.Ytekcipmhljhelaa
open Go Go.RowKit Bytes Fr

theorem conv_at {W : World} {X : Nat} {cs : Array Value} {l : List UInt8} {n : Nat} (hb : W.heap[X]? = some (.cells cs 5 (0, 0))) (h : cs.toList = byteCells l) (hn : l.length = n) :
    (convert 43 9 (.slice (some ⟨X, 0, none⟩) n n)).run Try.prog W = .ok (.string (mk l)) W := by
  subst hn
  refine run_convert_bytes_back _ _ _ 5 ⟨X, 0, none⟩ l.length l Try.underlying43 Try.underlying5 Try.underlying9 (fun j hj => ?_)
  rw [show ((⟨X, 0, none⟩ : Addr).add j) = ⟨X, j, none⟩ from by unfold Addr.add; split <;> simp_all]
  rw [Lib.cell_of_heap hb, ← Array.getElem?_toList, h]
  simp [byteCells, hj]
theorem two_bytes (f : Frm) (hf : Okf f) : #[Value.int .u8 (f.ty : Int), .int .u8 (f.fl : Int)].toList = byteCells [UInt8.ofNat f.ty, UInt8.ofNat f.fl] := by
  have h1 := ofNat_mod f.ty
  have h2 := ofNat_mod f.fl
  have a := hf.ty
  have b := hf.fl
  have e1 : ((UInt8.ofNat f.ty).toNat : Int) = (f.ty : Int) := by omega
  have e2 : ((UInt8.ofNat f.fl).toNat : Int) = (f.fl : Int) := by omega
  unfold byteCells
  simp only [List.map_cons, List.map_nil, e1, e2]
set_option maxHeartbeats 8000000 in
set_option maxRecDepth 100000 in
theorem fprint_is (f : Frm) (l : List UInt8) (c : Nat) (r : ByteArray) (w : World) (hf : Okf f) (hs : f.data.size ≤ 1000000) (hr : Hid (printF f = (l, c))) (hl : Hid (mk l = r)) :
    Calls Try.prog 14 #[.agg #[.int .u8 (f.ty : Int), .int .u8 (f.fl : Int), .int .u32 (f.st : Int), .string f.data]] w fun e w' => e = .returned (.tuple #[.string r, .int .i64 (c : Int)]) ∧ Below w.heap.size w w' := by
  obtain ⟨hX0, hB⟩ := boxF_new w f
  obtain ⟨X, hX⟩ : ∃ X, w.heap.size = X := ⟨_, rfl⟩
  rw [hX] at hX0 hB ⊢
  have HX := Lib.hid hX0
  have HB := Lib.hid hB
  have hst := hf.st
  have hrr := hr.out
  unfold printF at hrr
  have hll := hl.out
  clear hX0 hB hr hl
  obtain ⟨a0, a1, a2, a3⟩ := HX.out.c
  go_enter Try.func14, Try.ntmps14
  go_upto_region 1 with fail
  generalize w.alloc (.cells #[.int .u8 (f.ty : Int), .int .u8 (f.fl : Int), .int .u32 (f.st : Int), .string f.data] 40) = W at *
  clear hX
  by_cases h1 : 2147483647 < f.st
  · have s1 : (2147483647 : Int) < (f.st : Int) := by omega
    rw [if_pos h1] at hrr
    injection hrr with e1 e2
    subst e1 e2
    subst hll
    clear h1
    go_wp2_with fail
    go_ret2
    exact ⟨rfl, HB.out⟩
  have s1 : ¬ ((2147483647 : Int) < (f.st : Int)) := by omega
  have s1d : decide ((2147483647 : Int) < (f.st : Int)) = false := decide_eq_false s1
  rw [if_neg h1] at hrr
  by_cases h2 : 16384 < f.data.size
  · have s2 : (16384 : Int) < (f.data.size : Int) := by omega
    rw [if_pos h2] at hrr
    injection hrr with e1 e2
    subst e1 e2
    subst hll
    clear h2
    go_wp2_with fail
    go_ret2
    exact ⟨rfl, HB.out⟩
  have s2 : ¬ ((16384 : Int) < (f.data.size : Int)) := by omega
  have s2d : decide ((16384 : Int) < (f.data.size : Int)) = false := decide_eq_false s2
  rw [if_neg h2] at hrr
  injection hrr with e1 e2
  subst e1 e2
  have hw : IntKind.u64.wrap (f.data.size : Int) = (f.data.size : Int) := by rw [IntKind.wrap_u64]; omega
  have hw4 : IntKind.u64.wrap (f.st : Int) = (f.st : Int) := by rw [IntKind.wrap_u64]; omega
  obtain ⟨p, hp⟩ : ∃ p, mk (beTail f.data.size 3) = p := ⟨_, rfl⟩
  obtain ⟨q, hq⟩ : ∃ q, mk [UInt8.ofNat f.ty, UInt8.ofNat f.fl] = q := ⟨_, rfl⟩
  have hps : p.size = 3 := by rw [← hp, mk_size, beTail_length]
  have hqs : q.size = 2 := by rw [← hq, mk_size]; rfl
  obtain ⟨u, hu⟩ : ∃ u, p ++ q = u := ⟨_, rfl⟩
  have hus : u.size = 5 := by rw [← hu, ByteArray.size_append, hps, hqs]
  obtain ⟨v, hv⟩ : ∃ v, mk (u.data.toList ++ beTail f.st 4) = v := ⟨_, rfl⟩
  have hvs : v.size = 9 := by rw [← hv, mk_size, List.length_append, beTail_length, size_l, hus]
  have hfin : v ++ f.data = r := by
    rw [← hll]
    apply list_inj
    unfold headF
    rw [mk_list, cat_list, ← hv, mk_list, ← hu, cat_list, ← hp, ← hq, mk_list, mk_list]
    simp only [List.append_assoc]
  have HFIN := Lib.hid hfin
  have HU := Lib.hid hu
  have HP1 := Lib.hid (fun W1 : World => refPut_is ⟨#[]⟩ p f.data.size 3 W1 (by decide) (by decide) (by omega) (Lib.hid (by rw [← hp, mk_list]; rfl)))
  have HP2 := Lib.hid (fun W1 : World => refPut_is u v f.st 4 W1 (by omega) (by decide) (by omega) (Lib.hid (by rw [← hv, mk_list])))
  have HTB := Lib.hid (two_bytes f hf)
  have HCQ := Lib.hid (fun (W1 : World) (Y : Nat) (hY : W1.heap[Y]? = some (.cells #[.int .u8 (f.ty : Int), .int .u8 (f.fl : Int)] 5 (0, 0))) => hq ▸ conv_at hY (two_bytes f hf) (n := 2) rfl)
  have HXd := Lib.hid (HX.out.below (Below.refl _ W).drew)
  have HBd := Lib.hid HB.out.drew
  have hXW := HX.out.lt
  clear h1 h2 hll hp hq hu hv hfin
  go_upto_region 5 with fail
  go_cut [4] from 12 to 23 (fun s wx => s = .string u ∧ Hid (BoxF wx X f) ∧ Hid (Below X w wx))
  case first =>
    clear a0 a1 a2 a3
    obtain ⟨a0, a1, a2, a3⟩ := HXd.out.c
    have hcv0 := HCQ.out (W.drew.alloc (.cells #[.int .u8 (f.ty : Int), .int .u8 (f.fl : Int)] 5)) W.heap.size (heap_alloc_new W.drew _)
    have hcv1 := HCQ.out ((W.alloc (.cells #[.int .u8 (f.ty : Int), .int .u8 (f.fl : Int)] 5)).drew) W.heap.size (heap_alloc_new W _)
    have hBA : Below X w ((W.alloc (.cells #[.int .u8 (f.ty : Int), .int .u8 (f.fl : Int)] 5)).drew) := (HB.out.trans (((Below.refl _ W).alloc (Nat.le_refl _) (.cells #[.int .u8 (f.ty : Int), .int .u8 (f.fl : Int)] 5)).mono (Nat.le_of_lt hXW))).drew
    have HBA := Lib.hid hBA
    have HXA := Lib.hid (show BoxF ((W.alloc (.cells #[.int .u8 (f.ty : Int), .int .u8 (f.fl : Int)] 5)).drew) X f from HX.out.below ((Below.refl _ W).alloc (Nat.le_refl _) (.cells #[.int .u8 (f.ty : Int), .int .u8 (f.fl : Int)] 5)).drew)
    have HLA := Lib.hid (show W.heap.size < ((W.alloc (.cells #[.int .u8 (f.ty : Int), .int .u8 (f.fl : Int)] 5)).drew).heap.size by show W.heap.size < (W.alloc (.cells #[.int .u8 (f.ty : Int), .int .u8 (f.fl : Int)] 5)).heap.size; simp)
    have HLA2 := Lib.hid (show X ≤ ((W.alloc (.cells #[.int .u8 (f.ty : Int), .int .u8 (f.fl : Int)] 5)).drew).heap.size from Nat.le_of_lt (Nat.lt_trans hXW HLA.out))
    have HNA := Lib.hid (show ((W.alloc (.cells #[.int .u8 (f.ty : Int), .int .u8 (f.fl : Int)] 5)).drew).heap[W.heap.size]? = some (.cells #[.int .u8 (f.ty : Int), .int .u8 (f.fl : Int)] 5 (0, 0)) from heap_alloc_new W _)
    clear hBA
    obtain ⟨d0, d1, d2, d3⟩ := HXA.out.c
    first | go_region_with (go_at_call 21; refine (HP1.out _).mono ?_; rintro e w3 ⟨rfl, hB3⟩; (first | (have HX3 := Lib.hid (HXA.out.below hB3); have HB3 := Lib.hid (HBA.out.trans (hB3.mono HLA2.out)); have hcv := HCQ.out w3 W.heap.size ((hB3.block _ HLA.out).trans HNA.out); have HX4 := HX3; have HB4 := HB3) | (have HX3 := Lib.hid (HXd.out.below hB3); have HB3 := Lib.hid (HBd.out.trans (hB3.mono (Nat.le_of_lt hXW))); have hcv := HCQ.out (w3.alloc (.cells #[.int .u8 (f.ty : Int), .int .u8 (f.fl : Int)] 5)) w3.heap.size (heap_alloc_new _ _); have HX4 := Lib.hid (show BoxF (w3.alloc (.cells #[.int .u8 (f.ty : Int), .int .u8 (f.fl : Int)] 5)) X f from HX3.out.below ((Below.refl _ w3).alloc (Nat.le_refl _) _)); have HB4 := Lib.hid (show Below X w (w3.alloc (.cells #[.int .u8 (f.ty : Int), .int .u8 (f.fl : Int)] 5)) from HB3.out.alloc (Nat.le_of_lt HX3.out.lt) _))); clear hB3; (obtain ⟨b0, b1, b2, b3⟩ := HX3.out.c))
    all_goals
      go_wp2_with fail
      go_meet
      exact ⟨by rw [HU.out], HX4, HB4⟩
  case rest =>
    obtain ⟨rfl, HX2, HB2⟩ := hcut
    generalize wc = w2 at *
    clear a0 a1 a2 a3 HXd HBd
    have HX2d := Lib.hid (HX2.out.below (Below.refl _ w2).drew)
    have HB2d := Lib.hid HB2.out.drew
    have hle := HX2.out.lt
    go_upto_region 6 with fail
    obtain ⟨a0, a1, a2, a3⟩ := HX2d.out.c
    first | go_region_with (go_at_call 21; refine (HP2.out _).mono ?_; rintro e w3 ⟨rfl, hB3⟩; have HX3 := Lib.hid (HX2d.out.below hB3); have HB3 := Lib.hid (HB2d.out.trans (hB3.mono (Nat.le_of_lt hle))); clear hB3; (obtain ⟨b0, b1, b2, b3⟩ := HX3.out.c))
    all_goals
      go_wp2_with fail
      go_ret2
      exact ⟨by rw [HFIN.out]; rfl, HB3.out⟩
end Go.Proofs.Ytekcipmhljhelaa
