/- The contracts of slices.Clone over texts and numbers. For lists of at most 10^5. -/
import Derived.Test.YtnpdhfjglfpjcaaProg
import Derived.Test.YtnpdhfjglfpjcaaSrcs
import Derived.WalkKit
import Derived.Lib.Hide
import Derived.Outline
import Derived.IntWalk
import Derived.WalkSpells
import Derived.WalkLawsBesides
namespace Go.Proofs.Ytnpdhfjglfpjcaa
open Go.RowKit Bytes Strs Nums

/-- A row of texts of the call's own came back, and nothing that stood has changed. -/
def RowS (w : World) (n : Nat) (L : List (List UInt8)) (e : Ending) (w' : World) : Prop := ∃ v, e = .returned v ∧ w'.ownsRow w.heap.size 9 1 v n (strCs L) ∧ Below w.heap.size w w'
def RowN (w : World) (n : Nat) (L : List Nat) (e : Ending) (w' : World) : Prop := ∃ v, e = .returned v ∧ w'.ownsRow w.heap.size 23 1 v n (numCs L) ∧ Below w.heap.size w w'

set_option maxHeartbeats 1000000 in
theorem cloneS_is (A : Option Addr) (c n : Nat) (L : List (List UInt8)) (w : World) (hr : RdS w w.heap.size A L) (hn0 : Hid (L.length = n)) (hn : n ≤ 100000) (hf : A = none → c = 0) :
    Calls Try.prog 48 #[.slice A n c] w (RowS w n L) := by
  have hsrc := strs_of hr hn0.out hf
  have HSRC := Lib.hid hsrc
  have heq : ∀ W : World, (binOp .eql 24 (.slice A n c) (.slice none 0 0)).run Try.prog W = .ok (.bool A.isNone) W := fun W => Lib.run_eql_slice_nil W 24 9 A n c 0 0 Try.underlying24
  clear hsrc hr
  cases A with
  | none =>
    have h0 : n = 0 ∧ L = [] := by
      rcases HSRC.out with ⟨_, h1, h2⟩ | ⟨ad, c', h, _⟩
      · exact ⟨h1, h2⟩
      · cases h
    obtain ⟨rfl, rfl⟩ := h0
    obtain rfl : c = 0 := hf rfl
    have heq0 : ∀ W : World, (binOp .eql 24 (.slice none 0 0) (.slice none 0 0)).run Try.prog W = .ok (.bool true) W := heq
    clear heq
    go_enter Try.func48, Try.ntmps48
    go_wp2_with fail
    go_ret
    exact ⟨_, rfl, World.ownsRow_nil _ _ _ _, Below.refl _ _⟩
  | some ad =>
    have heq0 : ∀ W : World, (binOp .eql 24 (.slice (some ad) n c) (.slice none 0 0)).run Try.prog W = .ok (.bool false) W := heq
    clear heq
    have hown : (w.alloc (.cells #[] 9)).ownsRow w.heap.size 9 1 (.slice (some ⟨w.heap.size, 0, none⟩) 0 0) 0 [] := World.ownsRow_made w #[] 0 (Nat.le_refl _) (by decide) rfl
    have HOWN := Lib.hid hown
    have HS2 := Lib.hid (strs_below HSRC.out ((Below.refl _ w).alloc (Nat.le_refl _) (.cells #[] 9)))
    have HB := Lib.hid ((Below.refl w.heap.size w).alloc (Nat.le_refl _) (.cells #[] 9))
    clear hown
    go_enter Try.func48, Try.ntmps48
    go_wp2_with (at_builtin; refine wpList_append_strs rfl _ _ rfl w.heap.size _ 0 [] rfl HOWN.out n L HS2.out (by omega) (by simp) ?_)
    intro v' w2 hown2 hgrow
    have HO := Lib.hid hown2
    have HB2 := Lib.hid (HB.out.grown hgrow HB.out.size (fun k hk => (HOWN.out.lt k hk).1))
    clear hown2 hgrow
    go_wp2_with fail
    go_ret
    exact ⟨_, rfl, HO.out, HB2.out⟩

set_option maxHeartbeats 1000000 in
theorem cloneN_is (A : Option Addr) (c n : Nat) (L : List Nat) (w : World) (hr : RdN w w.heap.size A L) (hn0 : Hid (L.length = n)) (hn : n ≤ 100000) (hf : A = none → c = 0) :
    Calls Try.prog 32 #[.slice A n c] w (RowN w n L) := by
  have hsrc := nums_of hr hn0.out hf
  have HSRC := Lib.hid hsrc
  have heq : ∀ W : World, (binOp .eql 25 (.slice A n c) (.slice none 0 0)).run Try.prog W = .ok (.bool A.isNone) W := fun W => Lib.run_eql_slice_nil W 25 23 A n c 0 0 Try.underlying25
  clear hsrc hr
  cases A with
  | none =>
    have h0 : n = 0 ∧ L = [] := by
      rcases HSRC.out with ⟨_, h1, h2⟩ | ⟨ad, c', h, _⟩
      · exact ⟨h1, h2⟩
      · cases h
    obtain ⟨rfl, rfl⟩ := h0
    obtain rfl : c = 0 := hf rfl
    have heq0 : ∀ W : World, (binOp .eql 25 (.slice none 0 0) (.slice none 0 0)).run Try.prog W = .ok (.bool true) W := heq
    clear heq
    go_enter Try.func32, Try.ntmps32
    go_wp2_with fail
    go_ret
    exact ⟨_, rfl, World.ownsRow_nil _ _ _ _, Below.refl _ _⟩
  | some ad =>
    have heq0 : ∀ W : World, (binOp .eql 25 (.slice (some ad) n c) (.slice none 0 0)).run Try.prog W = .ok (.bool false) W := heq
    clear heq
    have hown : (w.alloc (.cells #[] 23)).ownsRow w.heap.size 23 1 (.slice (some ⟨w.heap.size, 0, none⟩) 0 0) 0 [] := World.ownsRow_made w #[] 0 (Nat.le_refl _) (by decide) rfl
    have HOWN := Lib.hid hown
    have HS2 := Lib.hid (nums_below HSRC.out ((Below.refl _ w).alloc (Nat.le_refl _) (.cells #[] 23)))
    have HB := Lib.hid ((Below.refl w.heap.size w).alloc (Nat.le_refl _) (.cells #[] 23))
    clear hown
    go_enter Try.func32, Try.ntmps32
    go_wp2_with (at_builtin; refine wpList_append_nums rfl _ _ rfl w.heap.size _ 0 [] rfl HOWN.out n L HS2.out (by omega) (by simp) ?_)
    intro v' w2 hown2 hgrow
    have HO := Lib.hid hown2
    have HB2 := Lib.hid (HB.out.grown hgrow HB.out.size (fun k hk => (HOWN.out.lt k hk).1))
    clear hown2 hgrow
    go_wp2_with fail
    go_ret
    exact ⟨_, rfl, HO.out, HB2.out⟩
end Go.Proofs.Ytnpdhfjglfpjcaa
