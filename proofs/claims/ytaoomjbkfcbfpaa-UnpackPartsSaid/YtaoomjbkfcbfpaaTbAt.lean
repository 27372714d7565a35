/- Contracts of the document's At and Find. For tables of at most 30000 entries. -/
import Derived.Test.YtaoomjbkfcbfpaaProg
import Derived.Test.YtaoomjbkfcbfpaaTbMath
import Derived.Test.YtaoomjbkfcbfpaaTbMem
import Derived.Test.YtaoomjbkfcbfpaaTbRef
import Derived.Test.YtaoomjbkfcbfpaaTbFix
import Derived.Test.YtaoomjbkfcbfpaaTbAll
import Derived.WalkKit
import Derived.Lib.Hide
import Derived.Outline
import Derived.IntWalk
import Derived.WalkSpells
import Derived.WalkLawsBesides
namespace Go.Proofs.Ytaoomjbkfcbfpaa
open Go.RowKit Tb

/-- A table's entries in memory below a block: nil, or at an address. -/
def TabE (w : World) (B : Nat) (A : Option Addr) (n c : Nat) (L : List Ent) : Prop :=
  (A = none ∧ c = 0 ∧ n = 0 ∧ L = []) ∨ ∃ b o, A = some ⟨b, o, none⟩ ∧ 0 < n ∧ L.length = n ∧ RdE w B (some ⟨b, o, none⟩) L
theorem TabE.on {w w' : World} {B B' : Nat} {A : Option Addr} {n c : Nat} {L : List Ent} (h : TabE w B A n c L) (hb : Below B w w') (hB : B ≤ B') : TabE w' B' A n c L := by
  rcases h with h | ⟨b, o, h1, h2, h3, h4⟩
  · exact .inl h
  · exact .inr ⟨b, o, h1, h2, h3, h4.on hb hB⟩
theorem tabE_own {w : World} {base n : Nat} {v : Value} {L : List Ent} (h : w.ownsRow base 62 2 v n (entCs L)) (hn : n = L.length) (hp : n = 0 → v = .slice none 0 0) : ∃ A c, v = .slice A n c ∧ TabE w w.heap.size A n c L := by
  obtain ⟨A, c, hv, _, hr, _⟩ := own_rde h hn
  rcases Nat.eq_zero_or_pos n with h0 | h0
  · have h1 := hp h0
    rw [hv] at h1
    injection h1 with h1 h2 h3
    exact ⟨A, c, hv, .inl ⟨h1, h3, h0, List.length_eq_zero_iff.1 (by omega)⟩⟩
  · obtain ⟨b, o, hA, _, _⟩ := hr (by omega)
    refine ⟨A, c, hv, .inr ⟨b, o, hA, h0, hn.symm, ?_⟩⟩
    rw [← hA]
    exact hr
theorem all_is (M : Int) (A : Option Addr) (n c : Nat) (L : List Ent) (w : World) (h : Hid (TabE w w.heap.size A n c L)) (hb : n ≤ 30000) :
    Calls Try.prog 47 #[.agg #[.int .i64 M, .slice A n c]] w fun e w' => ∃ g cap, e = .returned (.slice (some ⟨g, 0, none⟩) (61 + n) cap) ∧ RdE w' w'.heap.size (some ⟨g, 0, none⟩) (fixedT ++ L) ∧ Below w.heap.size w w' := by
  have fin : ∀ (e : Ending) (w' : World) (v : Value), e = .returned v → w'.ownsRow w.heap.size 62 2 v (61 + n) (entCs (fixedT ++ L)) → (61 + n = (fixedT ++ L).length) → Below w.heap.size w w' → ∃ g cap, e = .returned (.slice (some ⟨g, 0, none⟩) (61 + n) cap) ∧ RdE w' w'.heap.size (some ⟨g, 0, none⟩) (fixedT ++ L) ∧ Below w.heap.size w w' := by
    intro e w' v he hO hl hB
    rcases hO.2 with ⟨_, h0⟩ | ⟨g, cap, cur, rfl, _⟩
    · omega
    · obtain ⟨A2, c2, hv, _, hr, _⟩ := own_rde hO hl
      injection hv with hv
      subst hv
      exact ⟨g, cap, he, hr, hB⟩
  rcases h.out with ⟨rfl, rfl, rfl, rfl⟩ | ⟨b, o, rfl, h2, h3, h4⟩
  · exact (all_nil M w).mono fun e w' ⟨v, he, hO, hB⟩ => fin e w' v he (by rw [List.append_nil]; exact hO) (by rw [List.append_nil]; rfl) hB
  · exact (all_some M b o n c L w (Lib.hid h3) (Lib.hid h4) hb h2).mono fun e w' ⟨v, he, hO, hB⟩ => fin e w' v he hO (by rw [List.length_append, h3]; rfl) hB
theorem entInfo : (Try.prog.info? 62).map (·.size) = some 2 := by kernel_rfl
/-- What At answers. -/
def atR (l : List Ent) (i : Int) : Ent × Bool := if i < 1 ∨ (l.length : Int) < i then ((⟨#[]⟩, ⟨#[]⟩), false) else (entAt l (i.toNat - 1), true)

set_option maxHeartbeats 4000000 in
set_option maxRecDepth 100000 in
theorem refAt_is (M : Int) (A : Option Addr) (n c : Nat) (L : List Ent) (i : Int) (x y : ByteArray) (q : Bool) (w : World) (h : Hid (TabE w w.heap.size A n c L)) (hL : Hid (L.length = n)) (hb : n ≤ 30000) (hi1 : -9223372036854775808 ≤ i) (hi2 : i ≤ 9223372036854775807) (hR : Hid (atR (fixedT ++ L) i = ((x, y), q))) :
    Calls Try.prog 36 #[.agg #[.int .i64 M, .slice A n c], .int .i64 i] w fun e w' => e = .returned (.tuple #[.agg #[.string x, .string y], .bool q]) ∧ Below w.heap.size w w' := by
  have hlen : (fixedT ++ L).length = 61 + n := by rw [List.length_append, hL.out]; rfl
  have hr := hR.out
  unfold atR at hr
  rw [hlen] at hr
  have K0 := heap_alloc2_old w (.cells #[.int .i64 M, .slice A n c] 29) (.cells #[.string ⟨#[]⟩, .string ⟨#[]⟩] 62)
  have K1 := Lib.hid (heap_alloc2_new w (.cells #[.int .i64 M, .slice A n c] 29) (.cells #[.string ⟨#[]⟩, .string ⟨#[]⟩] 62))
  obtain ⟨a1, a2, a3, a4⟩ := two_cells K0
  have HS2 := Lib.hid (show ((w.alloc (.cells #[.int .i64 M, .slice A n c] 29)).alloc (.cells #[.string ⟨#[]⟩, .string ⟨#[]⟩] 62)).heap.size = w.heap.size + 2 by simp)
  have HB0 := Lib.hid (((Below.refl w.heap.size w).alloc (Nat.le_refl _) (.cells #[.int .i64 M, .slice A n c] 29)).alloc (by simp) (.cells #[.string ⟨#[]⟩, .string ⟨#[]⟩] 62))
  clear K0
  go_enter Try.func36, Try.ntmps36
  go_wp2_with fail
  generalize ((w.alloc (.cells #[.int .i64 M, .slice A n c] 29)).alloc (.cells #[.string ⟨#[]⟩, .string ⟨#[]⟩] 62)) = W at *
  refine (all_is M A n c L W (Lib.hid (h.out.on HB0.out HB0.out.size)) hb).mono ?_
  rintro e w3 ⟨g, cap, rfl, hrd, hB⟩
  have hW := HS2.out
  have k1 := (hB.block (w.heap.size + 1) (by omega)).trans K1.out
  obtain ⟨b1, b2, b3, b4⟩ := two_cells k1
  have hn3 := HB0.out.trans (hB.mono HB0.out.size)
  have H1 := Lib.hid k1
  by_cases hlo : i < 1
  · rw [if_pos (.inl hlo)] at hr
    injection hr with hr hq
    injection hr with hx hy
    subst hx hy hq
    have R2 := two_set (x := .string ⟨#[]⟩) (y := .string ⟨#[]⟩) H1.out
    obtain ⟨d1, d2, d3, d4⟩ := two_cells (zero_set (y := .string ⟨#[]⟩) H1.out)
    have hld := run_loadVar_row (P := Try.prog) _ (w.heap.size + 1) _ 62 _ (0, 0) _ R2 Try.underlying62 rfl entInfo
    have hn5 := (hn3.setCell (p := ⟨w.heap.size + 1, 0, none⟩) (by show w.heap.size ≤ w.heap.size + 1; omega) (.string ⟨#[]⟩)).setCell (p := ⟨w.heap.size + 1, 1, none⟩) (by show w.heap.size ≤ w.heap.size + 1; omega) (.string ⟨#[]⟩)
    have HN5 := Lib.hid hn5
    have HLD := Lib.hid hld
    clear hn5 hld R2
    go_wp2_with fail
    exact bodyPost_ret (v := .tuple #[.agg #[.string ⟨#[]⟩, .string ⟨#[]⟩], .bool false]) (by have hld := HLD.out; simp [results, Try.results36, asAddr, hld]) rfl ⟨rfl, HN5.out⟩
  · by_cases hhi : (61 : Int) + (n : Int) < i
    · rw [if_pos (.inr (by omega))] at hr
      injection hr with hr hq
      injection hr with hx hy
      subst hx hy hq
      have R2 := two_set (x := .string ⟨#[]⟩) (y := .string ⟨#[]⟩) H1.out
      obtain ⟨d1, d2, d3, d4⟩ := two_cells (zero_set (y := .string ⟨#[]⟩) H1.out)
      have hld := run_loadVar_row (P := Try.prog) _ (w.heap.size + 1) _ 62 _ (0, 0) _ R2 Try.underlying62 rfl entInfo
      have hn5 := (hn3.setCell (p := ⟨w.heap.size + 1, 0, none⟩) (by show w.heap.size ≤ w.heap.size + 1; omega) (.string ⟨#[]⟩)).setCell (p := ⟨w.heap.size + 1, 1, none⟩) (by show w.heap.size ≤ w.heap.size + 1; omega) (.string ⟨#[]⟩)
      have HN5 := Lib.hid hn5
      have HLD := Lib.hid hld
      clear hn5 hld R2
      go_wp2_with fail
      exact bodyPost_ret (v := .tuple #[.agg #[.string ⟨#[]⟩, .string ⟨#[]⟩], .bool false]) (by have hld := HLD.out; simp [results, Try.results36, asAddr, hld]) rfl ⟨rfl, HN5.out⟩
    · rw [if_neg (by omega)] at hr
      injection hr with hr hq
      subst hq
      obtain ⟨k, hk⟩ : ∃ k : Nat, i = (k : Int) + 1 := ⟨(i - 1).toNat, by omega⟩
      rw [show i.toNat - 1 = k by omega] at hr
      have hkl : k < (fixedT ++ L).length := by rw [hlen]; omega
      obtain ⟨b5, o5, hA5, _, hc1, hc2⟩ := hrd.get hkl
      injection hA5 with hA5
      injection hA5 with e1 e2
      subst e1 e2
      rw [hr, Nat.zero_add] at hc1 hc2
      have e1 : IntKind.i64.wrap (i - 1) = (k : Int) := by rw [IntKind.wrap_i64]; omega
      have hk1 : (0 : Int) ≤ (k : Int) := by omega
      have hk2 : (k : Int) < 61 + (n : Int) := by omega
      clear hr hkl hrd hW hk
      have R2 := two_set (x := .string x) (y := .string y) H1.out
      obtain ⟨d1, d2, d3, d4⟩ := two_cells (zero_set (y := .string x) H1.out)
      have hld := run_loadVar_row (P := Try.prog) _ (w.heap.size + 1) _ 62 _ (0, 0) _ R2 Try.underlying62 rfl entInfo
      have hn5 := (hn3.setCell (p := ⟨w.heap.size + 1, 0, none⟩) (by show w.heap.size ≤ w.heap.size + 1; omega) (.string x)).setCell (p := ⟨w.heap.size + 1, 1, none⟩) (by show w.heap.size ≤ w.heap.size + 1; omega) (.string y)
      have HN5 := Lib.hid hn5
      have HLD := Lib.hid hld
      clear hn5 hld R2
      go_wp2_with fail
      exact bodyPost_ret (v := .tuple #[.agg #[.string x, .string y], .bool true]) (by have hld := HLD.out; simp [results, Try.results36, asAddr, hld]) rfl ⟨rfl, HN5.out⟩
end Go.Proofs.Ytaoomjbkfcbfpaa
