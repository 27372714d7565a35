/- Contracts of the document's At and Find. For tables of at most 30000 entries. -/
import Derived.Test.YtamgnbjdeoklbaaProg
import Derived.Test.YtamgnbjdeoklbaaTbMath
import Derived.Test.YtamgnbjdeoklbaaTbMem
import Derived.Test.YtamgnbjdeoklbaaTbRef
import Derived.Test.YtamgnbjdeoklbaaTbFix
import Derived.Test.YtamgnbjdeoklbaaTbAll
import Derived.WalkKit
import Derived.Lib.Hide
import Derived.Outline
import Derived.IntWalk
import Derived.WalkSpells
import Derived.WalkLawsBesides
namespace Go.Proofs.Ytamgnbjdeoklbaa
open Go.RowKit Tb

/-- A table's entries in memory below a block: nil, or at an address. -/
def TabE (w : World) (B : Nat) (A : Option Addr) (n c : Nat) (L : List Ent) : Prop :=
  (A = none ∧ c = 0 ∧ n = 0 ∧ L = []) ∨ ∃ b o, A = some ⟨b, o, none⟩ ∧ 0 < n ∧ L.length = n ∧ RdE w B (some ⟨b, o, none⟩) L
theorem TabE.on {w w' : World} {B B' : Nat} {A : Option Addr} {n c : Nat} {L : List Ent} (h : TabE w B A n c L) (hb : Below B w w') (hB : B ≤ B') : TabE w' B' A n c L := by
  rcases h with h | ⟨b, o, h1, h2, h3, h4⟩
  · exact .inl h
  · exact .inr ⟨b, o, h1, h2, h3, h4.on hb hB⟩
theorem tabE_own {w : World} {base n : Nat} {v : Value} {L : List Ent} (h : w.ownsRow base 95 2 v n (entCs L)) (hn : n = L.length) (hp : n = 0 → v = .slice none 0 0) : ∃ A c, v = .slice A n c ∧ TabE w w.heap.size A n c L := by
  obtain ⟨A, c, hv, _, hr, _⟩ := own_rde h hn
  rcases Nat.eq_zero_or_pos n with h0 | h0
  · have h1 := hp h0
    rw [hv] at h1
    injection h1 with h1 h2 h3
    exact ⟨A, c, hv, .inl ⟨h1, h3, h0, List.length_eq_zero_iff.1 (by omega)⟩⟩
  · obtain ⟨b, o, hA, _, _⟩ := hr (by omega)
    refine ⟨A, c, hv, .inr ⟨b, o, hA, h0, hn.symm, ?_⟩⟩
    rw [← hA]
    exact hr
theorem all_is (M : Int) (A : Option Addr) (n c : Nat) (L : List Ent) (w : World) (h : Hid (TabE w w.heap.size A n c L)) (hb : n ≤ 30000) :
    Calls Try.prog 55 #[.agg #[.int .i64 M, .slice A n c]] w fun e w' => ∃ g cap, e = .returned (.slice (some ⟨g, 0, none⟩) (61 + n) cap) ∧ RdE w' w'.heap.size (some ⟨g, 0, none⟩) (fixedT ++ L) ∧ Below w.heap.size w w' := by
  have fin : ∀ (e : Ending) (w' : World) (v : Value), e = .returned v → w'.ownsRow w.heap.size 95 2 v (61 + n) (entCs (fixedT ++ L)) → (61 + n = (fixedT ++ L).length) → Below w.heap.size w w' → ∃ g cap, e = .returned (.slice (some ⟨g, 0, none⟩) (61 + n) cap) ∧ RdE w' w'.heap.size (some ⟨g, 0, none⟩) (fixedT ++ L) ∧ Below w.heap.size w w' := by
    intro e w' v he hO hl hB
    rcases hO.2 with ⟨_, h0⟩ | ⟨g, cap, cur, rfl, _⟩
    · omega
    · obtain ⟨A2, c2, hv, _, hr, _⟩ := own_rde hO hl
      injection hv with hv
      subst hv
      exact ⟨g, cap, he, hr, hB⟩
  rcases h.out with ⟨rfl, rfl, rfl, rfl⟩ | ⟨b, o, rfl, h2, h3, h4⟩
  · exact (all_nil M w).mono fun e w' ⟨v, he, hO, hB⟩ => fin e w' v he (by rw [List.append_nil]; exact hO) (by rw [List.append_nil]; rfl) hB
  · exact (all_some M b o n c L w (Lib.hid h3) (Lib.hid h4) hb h2).mono fun e w' ⟨v, he, hO, hB⟩ => fin e w' v he hO (by rw [List.length_append, h3]; rfl) hB
theorem entInfo : (Try.prog.info? 95).map (·.size) = some 2 := by kernel_rfl
/-- What At answers. -/
def atR (l : List Ent) (i : Int) : Ent × Bool := if i < 1 ∨ (l.length : Int) < i then ((⟨#[]⟩, ⟨#[]⟩), false) else (entAt l (i.toNat - 1), true)
end Go.Proofs.Ytamgnbjdeoklbaa
