/- The law's awake of layer 15. No condition. -/
import Derived.Test.YtekcipmhljhelaaProg
import Derived.Test.YtekcipmhljhelaaBytes
import Derived.Test.YtekcipmhljhelaaFrMath
import Derived.Test.YtekcipmhljhelaaFdMath
import Derived.Test.YtekcipmhljhelaaFdRow
import Derived.Test.YtekcipmhljhelaaFdCode
import Derived.WalkKit
import Derived.Lib.Hide
import Derived.Laws.Rows
import Derived.Outline
import Derived.IntWalk
import Derived.WalkSpells
import Derived.WalkLawsBesides
import Derived.Deep.CutRange
namespace Go.Proofs.Ytekcipmhljhelaa
open Go Go.RowKit Bytes Fr Fd

set_option maxHeartbeats 8000000 in
set_option maxRecDepth 100000 in
theorem awake_is (w : World) : Calls Try.prog 6 #[] w fun e w' => e = .returned (.bool true) ∧ Below w.heap.size w w' := by
  obtain ⟨p1, hp1⟩ : ∃ p, Bytes.mk (pre.take 5) = p := ⟨_, rfl⟩
  obtain ⟨p2, hp2⟩ : ∃ p, Bytes.mk (pre.drop 5 ++ [0, 0, 0, 4, 0, 0, 0, 0, 0]) = p := ⟨_, rfl⟩
  have ha1 : add ⟨true, [], false⟩ p1.data.toList = ([], 0, ⟨true, pre.take 5, false⟩) := by rw [← hp1]; kernel_rfl
  have ha2 : add ⟨true, pre.take 5, false⟩ p2.data.toList = ([⟨4, 0, 0, ⟨#[]⟩⟩], 0, ⟨false, [], false⟩) := by rw [← hp2]; kernel_rfl
  have HA1 := Lib.hid ha1
  have HA2 := Lib.hid ha2
  have hs1 : Hid ((FSt.mk true [] false).held.length + p1.size ≤ 200000) := Lib.hid (by rw [← hp1]; decide)
  have hs2 : Hid ((FSt.mk true (pre.take 5) false).held.length + p2.size ≤ 200000) := Lib.hid (by rw [← hp2]; decide)
  have e1 : (⟨#[80, 82, 73, 32, 42, 32, 72, 84, 84, 80, 47, 50, 46, 48, 13, 10, 13, 10, 83, 77, 13, 10, 13, 10]⟩ : ByteArray).extract 0 5 = p1 := by rw [← hp1]; apply list_inj; rw [extract_list]; rfl
  have e2 : (⟨#[80, 82, 73, 32, 42, 32, 72, 84, 84, 80, 47, 50, 46, 48, 13, 10, 13, 10, 83, 77, 13, 10, 13, 10]⟩ : ByteArray).extract 5 24 ++ ⟨#[0, 0, 0, 4, 0, 0, 0, 0, 0]⟩ = p2 := by rw [← hp2]; apply list_inj; rw [cat_list, extract_list]; rfl
  clear ha1 ha2
  go_enter Try.func6, Try.ntmps6
  go_wp2_with fail
  refine (fnew_is true _).mono ?_
  rintro e w1 ⟨b, rfl, hb, hF, hB1⟩
  have HB1 := Lib.hid hB1
  clear hB1
  go_wp2_with fail
  first | rw [e1] | skip
  refine (fadd_is b _ _ p1 _ _ w1 hF hs1 HA1).mono ?_
  rintro e w2 ⟨v2, n2, rfl, hE⟩
  have HB2 := Lib.hid (HB1.out.trans (hE.out.kept.below (g := w.heap.size) hb HB1.out.size))
  have HF2 := Lib.hid hE.out.fd
  obtain rfl : n2 = 0 := hE.out.len.symm
  obtain ⟨A2, c2, rfl, _⟩ := own_rdf hE.out.own rfl
  clear hE
  have hsz : ¬ 9223372036854775807 < 19 + 9 := by omega
  go_wp2_with fail
  first | rw [e2] | skip
  refine (fadd_is b _ _ p2 _ _ w2 HF2 hs2 HA2).mono ?_
  rintro e w3 ⟨v3, n3, rfl, hE⟩
  have HB3 := Lib.hid (HB2.out.trans (hE.out.kept.below (g := w.heap.size) hb HB2.out.size))
  have HF3 := Lib.hid hE.out.fd
  obtain rfl : n3 = 1 := hE.out.len.symm
  obtain ⟨A3, c3, rfl, hr3, _⟩ := own_rdf hE.out.own rfl
  obtain ⟨b3, o3, rfl, hb3, h4⟩ := hr3.get (k := 0) (by decide)
  obtain ⟨a0, _, _, _⟩ := h4
  have d0 : w3.cell? ⟨b3, o3, none⟩ = some (.int .u8 4) := a0
  clear hE a0 hr3
  go_wp2_with fail
  refine (fheld_is b _ _ HF3).mono ?_
  rintro e w4 ⟨rfl, rfl⟩
  go_wp2_with fail
  refine (fdown_is b _ _ HF3).mono ?_
  rintro e w4 ⟨rfl, rfl⟩
  go_wp2_with fail
  go_ret
  exact ⟨rfl, HB3.out⟩
end Go.Proofs.Ytekcipmhljhelaa
