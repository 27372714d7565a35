/- What layer 9's laws take: the contracts of Put under the value that it leaves; the laws' own look at answers that the document fixes: all stand. -/
import Derived.Test.YtfkdkkbmcbmdjaaProg
import Derived.Test.YtfkdkkbmcbmdjaaBytes
import Derived.Test.YtfkdkkbmcbmdjaaPfMath
import Derived.Test.YtfkdkkbmcbmdjaaPfGet
import Derived.Test.YtfkdkkbmcbmdjaaPfPut
import Derived.Test.YtfkdkkbmcbmdjaaPfRefPut
import Derived.WalkKit
import Derived.Lib.Hide
import Derived.Outline
import Derived.IntWalk
import Derived.WalkSpells
namespace Go.Proofs.Ytfkdkkbmcbmdjaa
open Go.RowKit Bytes Pf

theorem own_drewN {w : World} {B n : Nat} {e : TypeId} {v : Value} {xs : List Value} (h : w.ownsRow B e 1 v n xs) (q : Nat) : (w.drewN q).ownsRow B e 1 v n xs := h
theorem below_drewN {B : Nat} {a w : World} (h : Below B a w) (n : Nat) : Below B a (w.drewN n) := ⟨h.os, h.tape, h.output, h.size, h.block⟩
/-- Put into nil. -/
theorem put_nil (r : List UInt8) (k c n : Nat) (b : Int) (w : World) (hk : Hid (r.length = k)) (hc : c < 256) (hn : n < 18446744073709551616) (h3 : -9223372036854775808 ≤ b) (h4 : b ≤ 9223372036854775807) (h : Hid (putL (fullN b) c n = r)) :
    Calls Try.prog 9 #[.slice none 0 0, .int .u8 c, .int .i64 b, .int .u64 n] w fun e w' => ∃ g cap, e = .returned (.slice (some ⟨g, 0, none⟩) k cap) ∧ w'.ownsRow w.heap.size 5 1 (.slice (some ⟨g, 0, none⟩) k cap) k (byteCells r) ∧ Below w.heap.size w w' := by
  refine (put_is none 0 [] r c n b w (by decide) (RdC.nil _ _) hc hn h3 h4 h).mono ?_
  rintro e w' ⟨v, rfl, hO, hB⟩
  have hp : 1 ≤ r.length := by rw [← h.out]; exact putL_pos _ _ _
  rw [List.length_nil, Nat.zero_add, List.nil_append, hk.out] at hO
  rw [hk.out] at hp
  rcases hO.2 with ⟨_, h0⟩ | ⟨g, cap, cur, rfl, _⟩
  · omega
  · exact ⟨g, cap, rfl, hO, hB⟩
/-- Put: what it leaves is no nil slice. -/
theorem put_own (a0 : Option Addr) (cap0 N k : Nat) (l r : List UInt8) (c n : Nat) (b : Int) (w : World) (hN : Hid (l.length = N)) (hk : Hid (r.length = k)) (hl : N ≤ 1000000) (hr : RdC w w.heap.size a0 cap0 l) (hc : c < 256) (hn : n < 18446744073709551616) (h3 : -9223372036854775808 ≤ b) (h4 : b ≤ 9223372036854775807) (h : Hid (putL (fullN b) c n = r)) :
    Calls Try.prog 9 #[.slice a0 N cap0, .int .u8 c, .int .i64 b, .int .u64 n] w fun e w' => ∃ g cap, e = .returned (.slice (some ⟨g, 0, none⟩) (N + k) cap) ∧ N + k ≤ cap ∧ cap ≤ maxLen ∧ w.heap.size ≤ g ∧ w'.ownsRow w.heap.size 5 1 (.slice (some ⟨g, 0, none⟩) (N + k) cap) (N + k) (byteCells (l ++ r)) ∧ Below w.heap.size w w' := by
  have hp : 1 ≤ r.length := by rw [← h.out]; exact putL_pos _ _ _
  have e1 := hN.out
  have e2 := hk.out
  clear hN hk
  subst e1 e2
  refine (put_is a0 cap0 l r c n b w hl hr hc hn h3 h4 h).mono ?_
  rintro e w' ⟨v, rfl, hO, hB⟩
  rcases hO.2 with ⟨_, h0⟩ | ⟨g, cap, cur, rfl, h5, h6, h7, h8, _⟩
  · omega
  · exact ⟨g, cap, rfl, h7, h8, h5, hO, hB⟩
/-- string(b[:k]) of a row that the call gathered itself. -/
theorem convert_cut {W : World} {base n g K cap c2 : Nat} {l : List UInt8} (h : W.ownsRow base 5 1 (.slice (some ⟨g, 0, none⟩) n cap) n (byteCells l)) (hK : K ≤ n) :
    (convert 22 9 (.slice (some ⟨g, 0, none⟩) K c2)).run Try.prog W = .ok (.string (mk (l.take K))) W := by
  have hl : l.length = n := by have := h.1; simpa [byteCells] using this
  have hc := h.cells (g := g) rfl
  have hk : (l.take K).length = K := by rw [List.length_take]; omega
  have := run_convert_bytes_back W _ _ 5 ⟨g, 0, none⟩ c2 (l.take K) Try.underlying22 Try.underlying5 Try.underlying9 (fun j hj => hc j _ (by
    rw [hk] at hj
    simp only [byteCells, List.getElem?_map]
    rw [List.getElem?_eq_getElem (by omega), List.getElem_take]
    rfl))
  rw [hk] at this
  exact this
theorem getZ_nat (l : List UInt8) (p : Nat) (b : Int) : getZ l p b = getM l p (fullN b) := by
  unfold getZ
  rw [if_neg (by omega), Int.toNat_natCast]
theorem aw_get1 : getZ (⟨#[31, 154, 10]⟩ : ByteArray).data.toList 0 5 = (1337, 3, 0) := by decide +kernel
theorem aw_get2 : getZ (⟨#[31]⟩ : ByteArray).data.toList 0 5 = (0, 0, 2) := by decide +kernel
theorem aw_put1 : putL (fullN 5) 0 1337 = [31, 154, 10] := by
  rw [show fullN 5 = 31 by decide +kernel]
  unfold putL
  rw [if_neg (by decide), gs_ge (by decide), gs_lt (by decide)]
  decide +kernel
theorem aw_put2 : putL (fullN 5) 224 10 = [234] := by
  rw [show fullN 5 = 31 by decide +kernel]
  unfold putL
  rw [if_pos (by decide)]
  decide +kernel
set_option maxHeartbeats 400000 in
theorem awake_any (w : World) : Calls Try.prog 8 #[] w fun e w' => e = .returned (.bool true) ∧ Below w.heap.size w w' := by
  go_enter Try.func8, Try.ntmps8
  go_wp2_with fail
  refine (get_is ⟨#[31, 154, 10]⟩ 0 5 1337 3 0 _ (by decide) (by decide) (by decide) (by decide) (by decide) (Lib.hid aw_get1)).mono ?_
  rintro e w' ⟨rfl, rfl⟩
  go_wp2_with fail
  refine (get_is ⟨#[31]⟩ 0 5 0 0 2 _ (by decide) (by decide) (by decide) (by decide) (by decide) (Lib.hid aw_get2)).mono ?_
  rintro e w' ⟨rfl, rfl⟩
  go_wp2_with fail
  refine (put_nil [31, 154, 10] 3 0 1337 5 _ (Lib.hid rfl) (by decide) (by decide) (by decide) (by decide) (Lib.hid aw_put1)).mono ?_
  rintro e w1 ⟨g, cap, rfl, hO, hB⟩
  have hc1 : (convert 22 9 (.slice (some ⟨g, 0, none⟩) 3 cap)).run Try.prog w1 = .ok (.string ⟨#[31, 154, 10]⟩) w1 := convert_own hO
  have s1 := hB.size
  clear hO
  go_wp2_with fail
  refine (put_nil [234] 1 224 10 5 _ (Lib.hid rfl) (by decide) (by decide) (by decide) (by decide) (Lib.hid aw_put2)).mono ?_
  rintro e w2 ⟨g2, cap2, rfl, hO2, hB2⟩
  have hc2 : (convert 22 9 (.slice (some ⟨g2, 0, none⟩) 1 cap2)).run Try.prog w2 = .ok (.string ⟨#[234]⟩) w2 := convert_own hO2
  clear hO2 hc1
  go_wp2_with fail
  go_ret
  exact ⟨rfl, hB.trans (hB2.mono s1)⟩
end Go.Proofs.Ytfkdkkbmcbmdjaa
