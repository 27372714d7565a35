/- Blocks that came in: a slice of texts, nil or at an address. No condition. -/
import Derived.Test.YtekcipmhljhelaaProg
import Derived.Test.YtekcipmhljhelaaBytes
import Derived.Test.YtekcipmhljhelaaStrs
import Derived.WalkKit
import Derived.ProofKit
import Derived.OpenShut
import Derived.ShutString
import Derived.ChangeOld
import Derived.SliceStrings
import Derived.Below
namespace Go.Proofs.Ytekcipmhljhelaa
open Go.ChangeShapes Go.WideShapes Go.ChangeAt Go.RowKit
open Bytes Strs

theorem rds_of_trod {H : Type} {enc : TypeId × Value → H} {w : World} {base : Nat} {spare : Nat → Bool} {held : Bool} {fuel : Nat} {a : Option Addr} {len cap : Nat} {x : DataW H × List MemPlace}
    (h : DataW.trod enc Try.prog w base spare held fuel 22 [.slice a len cap] = some x) : len ≤ maxLen ∧ ∃ L : List (List UInt8), L.length = len ∧ RdS w w.heap.size a L := by
  rcases open_strings Try.underlying22 Try.underlying9 (by kernel_rfl) h with ⟨hcs, _⟩ | ⟨ad, l, c, ss, hcs, _, hl, hm, hz, _, hcell, _⟩
  · simp at hcs
    obtain ⟨rfl, rfl, rfl⟩ := hcs
    exact ⟨Nat.zero_le _, [], rfl, RdS.void _ _ _⟩
  · simp at hcs
    obtain ⟨rfl, rfl, rfl⟩ := hcs
    have hls : len ≤ ss.length := by rw [hz]; split <;> omega
    have hlen : ((ss.take len).map fun s => s.data.toList).length = len := by rw [List.length_map, List.length_take]; omega
    have hc : ∀ k, k < ((ss.take len).map fun s => s.data.toList).length → w.cell? (ad.add k) = some (.string (mk (((ss.take len).map fun s => s.data.toList).getD k []))) := fun k hk => by
      rw [hlen] at hk
      rw [hcell k (by omega)]
      refine congrArg (fun s => some (Value.string s)) ?_
      have hk2 : k < (ss.take len).length := by rw [List.length_take]; omega
      rw [List.getD_eq_getElem?_getD, List.getD_eq_getElem?_getD, List.getElem?_map, List.getElem?_eq_getElem hk2, List.getElem_take, List.getElem?_eq_getElem (by omega)]
      exact (mk_data _).symm
    refine ⟨by omega, (ss.take len).map fun s => s.data.toList, hlen, fun hp => ⟨ad, rfl, ?_, hc⟩⟩
    have := World.block_lt_of_cell? _ _ (hc 0 hp)
    rwa [add_block] at this
end Go.Proofs.Ytekcipmhljhelaa
