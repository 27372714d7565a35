/- The contract of text's Same. For texts of at most 2^47 - 4096 bytes. -/
import Derived.Test.YtepbpaaielfpnaaProg
import Derived.Test.YtepbpaaielfpnaaBytes
import Derived.Test.YtepbpaaielfpnaaLow
import Derived.WalkKit
import Derived.Lib.Hide
import Derived.Outline
import Derived.IntWalk
import Derived.WalkSpells
import Derived.WalkLawsBesides
import Derived.Deep.QuietTactic
import Derived.BigQuiet
import Derived.Deep.Draws
namespace Go.Proofs.Ytepbpaaielfpnaa
open Go.RowKit Bytes Low

theorem below_drewN {B : Nat} {a w : World} (h : Below B a w) (n : Nat) : Below B a (w.drewN n) := ⟨h.os, h.tape, h.output, h.size, h.block⟩
theorem lower_q (c : UInt8) (w : World) :
    Calls Try.prog 43 #[.int .u8 c.toNat] w fun e w' => e = .returned (.int .u8 (lowB c).toNat) ∧ ∃ n, w' = w.drewN n :=
  (lower_any c w).mono fun _ _ ⟨h, e⟩ => ⟨h, 0, by rw [World.drewN_zero, e]⟩

theorem fold_same {s t : ByteArray} (hs : s.size = t.size) (h : ∀ j, j < s.size → lowB (s.data.toList.getD j 0) = lowB (t.data.toList.getD j 0)) : foldS s = foldS t := by
  unfold foldS
  congr 1
  unfold lowL
  apply List.ext_getElem
  · rw [List.length_map, List.length_map, ← Lib.size_eq, ← Lib.size_eq, hs]
  · intro j h1 h2
    rw [List.length_map, ← Lib.size_eq] at h1 h2
    have := h j h1
    rw [getD_byte h1, getD_byte h2] at this
    rw [List.getElem_map, List.getElem_map]
    exact this
theorem fold_other {s t : ByteArray} {j : Nat} (h1 : j < s.size) (h2 : j < t.size) (h : lowB (s.data.toList.getD j 0) ≠ lowB (t.data.toList.getD j 0)) : foldS s ≠ foldS t := by
  intro e
  apply h
  have e2 : (foldS s).data.toList = (foldS t).data.toList := by rw [e]
  simp only [foldS, mk_list, lowL] at e2
  have := congrArg (fun l => l[j]?) e2
  have h1' : j < s.data.toList.length := by rw [← Lib.size_eq]; exact h1
  have h2' : j < t.data.toList.length := by rw [← Lib.size_eq]; exact h2
  simp only [List.getElem?_map, List.getElem?_eq_getElem h1', List.getElem?_eq_getElem h2', Option.map_some, Option.some.injEq] at this
  rw [getD_byte h1, getD_byte h2]
  exact this
theorem fold_len {s t : ByteArray} (h : s.size ≠ t.size) : foldS s ≠ foldS t := fun e => h (by rw [← foldS_size s, ← foldS_size t, e])

set_option maxHeartbeats 1000000 in
theorem same_any (s t : ByteArray) (w : World) (hs : s.size ≤ 140737488351232) :
    Calls Try.prog 31 #[.string s, .string t] w fun e w' => e = .returned (.bool (decide (foldS s = foldS t))) ∧ Below w.heap.size w w' := by
  obtain ⟨r, hr⟩ : ∃ r, r = decide (foldS s = foldS t) := ⟨_, rfl⟩
  rw [← hr]
  have R := Lib.hid hr; clear hr
  generalize hg : w.heap.size = g at *
  by_cases hsz : s.size = t.size
  · go_enter Try.func31, Try.ntmps31
    go_wp2_with fail
    go_loopw [13] (fun i wr => ∃ k : Nat, k ≤ s.size ∧ i = .int .i64 k ∧ Hid (∀ j, j < k → lowB (s.data.toList.getD j 0) = lowB (t.data.toList.getD j 0)) ∧ Below g w wr) (fun i _ => s.size - (intOf i).toNat)
    case atStart => exact ⟨0, Nat.zero_le _, rfl, Lib.hid (fun j hj => absurd hj (Nat.not_lt_zero _)), Below.refl _ _⟩
    case round =>
      rename_i wr _
      obtain ⟨k, hk, rfl, hR, hB⟩ := hrel
      by_cases hlt : k < s.size
      · have hlt2 : k < t.size := by omega
        have hx0 := getD_byte hlt
        have hy0 := getD_byte hlt2
        generalize hx1 : s.data.toList.getD k 0 = x at hx0
        generalize hy1 : t.data.toList.getD k 0 = y at hy0
        have hx : s[k]'hlt = x := hx0.symm
        have hy : t[k]'hlt2 = y := hy0.symm
        have HX := Lib.hid hx1
        have HY := Lib.hid hy1
        clear hx0 hx1 hy0 hy1
        by_cases he : lowB x = lowB y
        · have hR' : Hid (∀ j, j < k + 1 → lowB (s.data.toList.getD j 0) = lowB (t.data.toList.getD j 0)) := fun j hj => by
            rcases Nat.lt_or_ge j k with h | h
            · exact hR.out j h
            · have e : j = k := by omega
              subst e
              rw [HX.out, HY.out, he]
          have hz : (((lowB x).toNat : Int) != (lowB y).toNat) = false := by rw [he]; exact bne_self_eq_false _
          clear he
          go_wp2_with fail
          go_quiet ((go_at_call 43; exact Calls.quiet_of (lower_q _ _)))
          go_wp2_with fail
          go_roundw
          case rel => exact ⟨k + 1, by omega, by go_num, hR', below_drewN hB _⟩
          case measure => simp [intOf]; omega
        · have hz : (((lowB x).toNat : Int) != (lowB y).toNat) = true := bne_iff_ne.2 (fun e => he (UInt8.toNat_inj.1 (by omega)))
          have hF : r = false := by rw [R.out]; exact decide_eq_false (fold_other hlt hlt2 (by rw [HX.out, HY.out]; exact he))
          subst hF
          clear he
          go_wp2_with fail
          go_quiet ((go_at_call 43; exact Calls.quiet_of (lower_q _ _)))
          go_wp2_with fail
          go_ret
          exact ⟨rfl, below_drewN hB _⟩
      · have hT : r = true := by rw [R.out]; exact decide_eq_true (fold_same hsz (fun j hj => hR.out j (by omega)))
        subst hT
        clear hR
        go_wp2_with fail
        go_ret
        exact ⟨rfl, hB⟩
  · have hF : r = false := by rw [R.out]; exact decide_eq_false (fold_len hsz)
    subst hF
    have hne : ((s.size : Int) != t.size) = true := bne_iff_ne.2 (by omega)
    go_enter Try.func31, Try.ntmps31
    go_wp2_with fail
    go_ret
    exact ⟨rfl, Below.refl _ _⟩

end Go.Proofs.Ytepbpaaielfpnaa
