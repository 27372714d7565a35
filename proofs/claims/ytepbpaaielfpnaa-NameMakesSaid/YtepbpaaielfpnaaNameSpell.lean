/- The contracts of name's behind, spell and first, and of the document's sign. No condition. -/
import Derived.Test.YtepbpaaielfpnaaProg
import Derived.Test.YtepbpaaielfpnaaBytes
import Derived.Test.YtepbpaaielfpnaaNameMath
import Derived.Test.YtepbpaaielfpnaaNameText
import Derived.WalkKit
import Derived.Lib.Hide
import Derived.Outline
import Derived.IntWalk
import Derived.WalkSpells
import Derived.WalkLawsBesides
import Derived.Deep.QuietTactic
import Derived.BigQuiet
import Derived.Deep.Draws
import Derived.Deep.RegionHeld3
import Derived.Deep.DeepCutAuto
namespace Go.Proofs.Ytepbpaaielfpnaa
open Go.RowKit Bytes NameMath

/-- string([]byte{..}) of a block that was just laid. -/
theorem conv_new (W : World) (l : List UInt8) (cs : Array Value) (n : Nat) (h : cs.toList = byteCells l) (hn : l.length = n) :
    (convert 41 9 (.slice (some ⟨W.heap.size, 0, none⟩) n n)).run Try.prog (W.alloc (.cells cs 5)) = .ok (.string (mk l)) (W.alloc (.cells cs 5)) := by
  subst hn
  refine run_convert_bytes_back _ _ _ 5 ⟨W.heap.size, 0, none⟩ l.length l Try.underlying41 Try.underlying5 Try.underlying9 (fun j hj => ?_)
  rw [show ((⟨W.heap.size, 0, none⟩ : Addr).add j) = ⟨W.heap.size, j, none⟩ from by unfold Addr.add; split <;> simp_all]
  rw [Lib.cell_of_heap (heap_alloc_new W _), ← Array.getElem?_toList, h]
  simp [byteCells, hj]

set_option maxHeartbeats 1000000 in
theorem spell_any (c : UInt8) (w : World) :
    Calls Try.prog 38 #[.int .u8 c.toNat] w fun e w' => e = .returned (.string (mk (sp c))) ∧ Below w.heap.size w w' := by
  have hl := c.toNat_lt
  obtain ⟨r, hr⟩ : ∃ r, r = mk (sp c) := ⟨_, rfl⟩
  rw [← hr]
  by_cases h1 : c.toNat = 46 ∨ c.toNat = 92
  · have hc := conv_new w [92, c] #[.int .u8 92, .int .u8 c.toNat] 2 rfl rfl
    rw [show mk [92, c] = r from by rw [hr, sp_esc h1]] at hc
    clear hr
    rcases h1 with h1 | h1
    · rw [show (c.toNat : Int) = 46 by omega] at hc ⊢
      clear h1 hl
      go_enter Try.func38, Try.ntmps38
      go_wp2_with fail
      go_ret
      exact ⟨rfl, (Below.refl _ _).alloc (Nat.le_refl _) _⟩
    · rw [show (c.toNat : Int) = 92 by omega] at hc ⊢
      clear h1 hl
      go_enter Try.func38, Try.ntmps38
      go_wp2_with fail
      go_ret
      exact ⟨rfl, (Below.refl _ _).alloc (Nat.le_refl _) _⟩
  · have e1 : ((c.toNat : Int) == 46) = false := beq_eq_false_iff_ne.2 (by omega)
    have e2 : ((c.toNat : Int) == 92) = false := beq_eq_false_iff_ne.2 (by omega)
    by_cases h2 : c.toNat < 33 ∨ 126 < c.toNat
    · have a1 := toNat_of (show 48 + c.toNat / 100 < 256 by omega)
      have a2 := toNat_of (show 48 + c.toNat / 10 % 10 < 256 by omega)
      have a3 := toNat_of (show 48 + c.toNat % 10 < 256 by omega)
      have hc := conv_new w [92, UInt8.ofNat (48 + c.toNat / 100), UInt8.ofNat (48 + c.toNat / 10 % 10), UInt8.ofNat (48 + c.toNat % 10)] #[.int .u8 92, .int .u8 (48 + (c.toNat : Int) / 100), .int .u8 (48 + (c.toNat : Int) / 10 % 10), .int .u8 (48 + (c.toNat : Int) % 10)] 4 (by simp only [byteCells, List.map_cons, List.map_nil, a1, a2, a3]; rfl) rfl
      rw [show mk [92, UInt8.ofNat (48 + c.toNat / 100), UInt8.ofNat (48 + c.toNat / 10 % 10), UInt8.ofNat (48 + c.toNat % 10)] = r from by rw [hr, sp_num h2]] at hc
      clear hr a1 a2 a3 h1
      by_cases h3 : c.toNat < 33
      · have t1 : decide ((c.toNat : Int) < 33) = true := decide_eq_true (by omega)
        have t2 : decide (33 ≤ (c.toNat : Int)) = false := decide_eq_false (by omega)
        clear h2 h3
        go_enter Try.func38, Try.ntmps38
        go_wp2_with fail
        go_ret
        exact ⟨rfl, (Below.refl _ _).alloc (Nat.le_refl _) _⟩
      · have t1 : decide ((c.toNat : Int) < 33) = false := decide_eq_false (by omega)
        have t2 : decide (126 < (c.toNat : Int)) = true := decide_eq_true (by omega)
        have t3 : decide (33 ≤ (c.toNat : Int)) = true := decide_eq_true (by omega)
        have t4 : decide ((c.toNat : Int) ≤ 126) = false := decide_eq_false (by omega)
        clear h2 h3
        go_enter Try.func38, Try.ntmps38
        go_wp2_with fail
        go_ret
        exact ⟨rfl, (Below.refl _ _).alloc (Nat.le_refl _) _⟩
    · have hc := conv_new w [c] #[.int .u8 c.toNat] 1 rfl rfl
      rw [show mk [c] = r from by rw [hr, sp_plain h1 h2]] at hc
      clear hr h1
      have t1 : decide ((c.toNat : Int) < 33) = false := decide_eq_false (by omega)
      have t2 : decide (126 < (c.toNat : Int)) = false := decide_eq_false (by omega)
      have t3 : decide (33 ≤ (c.toNat : Int)) = true := decide_eq_true (by omega)
      have t4 : decide ((c.toNat : Int) ≤ 126) = true := decide_eq_true (by omega)
      clear h2
      go_enter Try.func38, Try.ntmps38
      go_wp2_with fail
      go_ret
      exact ⟨rfl, (Below.refl _ _).alloc (Nat.le_refl _) _⟩

set_option maxHeartbeats 1000000 in
theorem sign_any (c : UInt8) (w : World) :
    Calls Try.prog 36 #[.int .u8 c.toNat] w fun e w' => e = .returned (.string (mk (sp c))) ∧ Below w.heap.size w w' := by
  have hl := c.toNat_lt
  obtain ⟨r, hr⟩ : ∃ r, r = mk (sp c) := ⟨_, rfl⟩
  rw [← hr]
  by_cases h1 : c.toNat = 46 ∨ c.toNat = 92
  · have hc := conv_new w [92, c] #[.int .u8 92, .int .u8 c.toNat] 2 rfl rfl
    rw [show mk [92, c] = r from by rw [hr, sp_esc h1]] at hc
    clear hr
    rcases h1 with h1 | h1
    · rw [show (c.toNat : Int) = 46 by omega] at hc ⊢
      clear h1 hl
      go_enter Try.func36, Try.ntmps36
      go_wp2_with fail
      go_ret
      exact ⟨rfl, (Below.refl _ _).alloc (Nat.le_refl _) _⟩
    · rw [show (c.toNat : Int) = 92 by omega] at hc ⊢
      clear h1 hl
      go_enter Try.func36, Try.ntmps36
      go_wp2_with fail
      go_ret
      exact ⟨rfl, (Below.refl _ _).alloc (Nat.le_refl _) _⟩
  · have e1 : ((c.toNat : Int) == 46) = false := beq_eq_false_iff_ne.2 (by omega)
    have e2 : ((c.toNat : Int) == 92) = false := beq_eq_false_iff_ne.2 (by omega)
    by_cases h2 : c.toNat < 33 ∨ 126 < c.toNat
    · have a1 := toNat_of (show 48 + c.toNat / 100 < 256 by omega)
      have a2 := toNat_of (show 48 + c.toNat / 10 % 10 < 256 by omega)
      have a3 := toNat_of (show 48 + c.toNat % 10 < 256 by omega)
      have hc := conv_new w [92, UInt8.ofNat (48 + c.toNat / 100), UInt8.ofNat (48 + c.toNat / 10 % 10), UInt8.ofNat (48 + c.toNat % 10)] #[.int .u8 92, .int .u8 (48 + (c.toNat : Int) / 100), .int .u8 (48 + (c.toNat : Int) / 10 % 10), .int .u8 (48 + (c.toNat : Int) % 10)] 4 (by simp only [byteCells, List.map_cons, List.map_nil, a1, a2, a3]; rfl) rfl
      rw [show mk [92, UInt8.ofNat (48 + c.toNat / 100), UInt8.ofNat (48 + c.toNat / 10 % 10), UInt8.ofNat (48 + c.toNat % 10)] = r from by rw [hr, sp_num h2]] at hc
      clear hr a1 a2 a3 h1
      by_cases h3 : c.toNat < 33
      · have t1 : decide ((c.toNat : Int) < 33) = true := decide_eq_true (by omega)
        have t2 : decide (33 ≤ (c.toNat : Int)) = false := decide_eq_false (by omega)
        clear h2 h3
        go_enter Try.func36, Try.ntmps36
        go_wp2_with fail
        go_ret
        exact ⟨rfl, (Below.refl _ _).alloc (Nat.le_refl _) _⟩
      · have t1 : decide ((c.toNat : Int) < 33) = false := decide_eq_false (by omega)
        have t2 : decide (126 < (c.toNat : Int)) = true := decide_eq_true (by omega)
        have t3 : decide (33 ≤ (c.toNat : Int)) = true := decide_eq_true (by omega)
        have t4 : decide ((c.toNat : Int) ≤ 126) = false := decide_eq_false (by omega)
        clear h2 h3
        go_enter Try.func36, Try.ntmps36
        go_wp2_with fail
        go_ret
        exact ⟨rfl, (Below.refl _ _).alloc (Nat.le_refl _) _⟩
    · have hc := conv_new w [c] #[.int .u8 c.toNat] 1 rfl rfl
      rw [show mk [c] = r from by rw [hr, sp_plain h1 h2]] at hc
      clear hr h1
      have t1 : decide ((c.toNat : Int) < 33) = false := decide_eq_false (by omega)
      have t2 : decide (126 < (c.toNat : Int)) = false := decide_eq_false (by omega)
      have t3 : decide (33 ≤ (c.toNat : Int)) = true := decide_eq_true (by omega)
      have t4 : decide ((c.toNat : Int) ≤ 126) = true := decide_eq_true (by omega)
      clear h2
      go_enter Try.func36, Try.ntmps36
      go_wp2_with fail
      go_ret
      exact ⟨rfl, (Below.refl _ _).alloc (Nat.le_refl _) _⟩

end Go.Proofs.Ytepbpaaielfpnaa
