/- The contract of the document's Decode. For texts of at most 10^6 bytes. -/
import Derived.Test.YtaoomjbkfcbfpaaProg
import Derived.Test.YtaoomjbkfcbfpaaBytes
import Derived.Test.YtaoomjbkfcbfpaaHfMath
import Derived.Test.YtaoomjbkfcbfpaaHfRefCodes
import Derived.Test.YtaoomjbkfcbfpaaHfDecode
import Derived.WalkKit
import Derived.Lib.Hide
import Derived.Outline
import Derived.IntWalk
import Derived.WalkSpells
import Derived.WalkLawsBesides
namespace Go.Proofs.Ytaoomjbkfcbfpaa
open Go.RowKit Bytes Hf

namespace Hf
theorem bits8_drop (m : Nat) (B : List Bool) : ∀ i, i < 8 → (Hf.bits m 8 ++ B).drop i = (m / 2 ^ (7 - i) % 2 == 1) :: (Hf.bits m 8 ++ B).drop (i + 1) := by
  intro i hi
  have : i = 0 ∨ i = 1 ∨ i = 2 ∨ i = 3 ∨ i = 4 ∨ i = 5 ∨ i = 6 ∨ i = 7 := by omega
  rcases this with rfl | rfl | rfl | rfl | rfl | rfl | rfl | rfl <;> rfl
/-- The bit at one place of a text of bytes. -/
theorem bit_at : ∀ (l : List UInt8) (i : Nat), i < 8 * l.length → (bitsOf l).drop i = ((l.getD (i / 8) 0).toNat / 2 ^ (7 - i % 8) % 2 == 1) :: (bitsOf l).drop (i + 1)
  | [], i, h => absurd h (Nat.not_lt_zero i)
  | x :: l, i, h => by
    rw [bitsOf]
    rcases Nat.lt_or_ge i 8 with h8 | h8
    · rw [bits8_drop _ _ i h8, show i / 8 = 0 by omega, show i % 8 = i by omega]
      rfl
    · obtain ⟨j, rfl⟩ : ∃ j, i = j + 8 := ⟨i - 8, by omega⟩
      have e1 : ∀ k, (Hf.bits x.toNat 8 ++ bitsOf l).drop (k + 8) = (bitsOf l).drop k := fun k => by
        have h := List.drop_length_add_append (l₁ := Hf.bits x.toNat 8) (l₂ := bitsOf l) (i := k)
        rw [bits_len] at h
        rw [Nat.add_comm k 8]
        exact h
      rw [e1, show j + 8 + 1 = (j + 1) + 8 by omega, e1, bit_at l j (by rw [List.length_cons] at h; omega), show (j + 8) / 8 = j / 8 + 1 by omega, show (j + 8) % 8 = j % 8 by omega]
      rfl
theorem all_ones : ((List.range 8).all fun n => (List.range n).all fun j => decide ((2 ^ n - 1) / 2 ^ j % 2 = 1)) = true := by decide +kernel
theorem one_at {n j : Nat} (hn : n < 8) (hj : j < n) : (2 ^ n - 1) / 2 ^ j % 2 = 1 := by
  have := all_lt (all_lt all_ones n hn) j hj
  simpa using this
theorem ones_next {c j : Nat} (h : c % 2 ^ j = 2 ^ j - 1) (h1 : c / 2 ^ j % 2 = 1) : c % 2 ^ (j + 1) = 2 ^ (j + 1) - 1 := by
  have hp : 0 < 2 ^ j := Nat.pow_pos (by decide)
  rw [Nat.mod_pow_succ, h, h1, Nat.pow_succ]
  omega
end Hf

set_option maxHeartbeats 4000000 in
set_option maxRecDepth 100000 in
theorem refDecode_is (s : ByteArray) (r : ByteArray) (e : Nat) (w : World) (hs : s.size ≤ 1000000) (h1 : Hid (mk (decT (Hf.decode s.data.toList)) = r)) (h2 : Hid (decC (Hf.decode s.data.toList) = e)) :
    Calls Try.prog 49 #[.string s] w fun x w' => x = .returned (.tuple #[.string r, .int .i64 (e : Int)]) ∧ Below w.heap.size w w' := by
  obtain ⟨i0, hi, hz0, hz1, hz2⟩ := info_parts info5
  have HI := Lib.hid hi; clear hi
  have HZ0 := Lib.hid hz0; clear hz0
  have HZ1 := Lib.hid hz1; clear hz1
  have HZ2 := Lib.hid hz2; clear hz2
  obtain ⟨D, hD⟩ : ∃ D, Hid (Hf.decode s.data.toList = D) := ⟨_, rfl⟩
  rw [hD.out] at h1 h2
  have e8 : IntKind.i64.wrap (8 * (s.size : Int)) = 8 * (s.size : Int) := by rw [IntKind.wrap_i64]; omega
  go_enter Try.func49, Try.ntmps49
  go_wp2_with fail
  refine (refCodes_is _).mono ?_
  rintro x w1 ⟨rfl, hrow, hB0⟩
  have HROW := Lib.hid hrow
  have HB0 := Lib.hid hB0
  have hlt1 : w.heap.size < w1.heap.size := (Array.getElem?_eq_some_iff.1 hrow).1
  clear hrow hB0
  generalize hg : w1.heap.size = g at *
  have G := Lib.hid hg; clear hg
  go_wp2_with fail
  go_loopw [5, 6, 7, 8] (fun b x h i wr => ∃ (k : Nat) (l : List UInt8) (c n : Nat), k ≤ 8 * s.size ∧ x = .int .u64 (c : Int) ∧ h = .int .i64 (n : Int) ∧ i = .int .i64 (k : Int) ∧ l.length ≤ k ∧ Hid (Part c n) ∧ Hid (wr.ownsRow g 5 1 b l.length (byteCells l)) ∧ Hid (Goes l c n ((bitsOf s.data.toList).drop k) D) ∧ Below g w1 wr) (fun _ _ _ i _ => 8 * s.size - (intOf i).toNat)
  case atStart => exact ⟨0, [], 0, 0, by omega, rfl, rfl, rfl, by decide, Lib.hid part_zero, Lib.hid (World.ownsRow_nil _ _ _ _), Lib.hid (by rw [← hD.out]; unfold Goes Hf.decode; simp), Below.refl _ _⟩
  case round =>
    obtain ⟨k, l, c, n, hk, rfl, rfl, rfl, hll, hP, hO, hF, hB⟩ := hrel
    by_cases hlt : k < 8 * s.size
    · have hdk : decide ((k : Int) < 8 * (s.size : Int)) = true := by rw [decide_eq_true_eq]; omega
      obtain ⟨q, hq⟩ : ∃ q, k / 8 = q := ⟨_, rfl⟩
      obtain ⟨p, hp⟩ : ∃ p, k % 8 = p := ⟨_, rfl⟩
      have hq2 : (k : Int) / 8 = (q : Int) := by omega
      have hp2 : (k : Int) % 8 = (p : Int) := by omega
      have hqs : q < s.size := by omega
      have hq3 : (0 : Int) ≤ (q : Int) := by omega
      have hq4 : (q : Int) < (s.size : Int) := by omega
      obtain ⟨y, hy⟩ : ∃ y, s[q] = y := ⟨_, rfl⟩
      have hyb := y.toNat_lt
      have hF1 : Goes l c n ((y.toNat / 2 ^ (7 - p) % 2 == 1) :: (bitsOf s.data.toList).drop (k + 1)) D := by
        have h3 := hF.out
        rw [bit_at _ _ (by rw [← Lib.size_eq]; exact hlt), hq, hp, getD_byte hqs, hy] at h3
        exact h3
      have hbn := bn_le (y.toNat / 2 ^ (7 - p) % 2 == 1)
      have hcb := part_lt hP.out
      have hn30 := hP.out.2.2
      have hpn := @part_next c n (y.toNat / 2 ^ (7 - p) % 2 == 1) hP.out
      have hg1 := @goes_part l c n _ _ D hF1 hn30
      have hg2 := fun sg => @goes_sign l c n sg _ _ D hF1 hn30
      have hg3 := goes_end hF1 hn30
      have hbe : y.toNat / 2 ^ (7 - p) % 2 = bn (y.toNat / 2 ^ (7 - p) % 2 == 1) := by
        rcases Nat.mod_two_eq_zero_or_one (y.toNat / 2 ^ (7 - p)) with e | e <;> rw [e] <;> rfl
      generalize bn (y.toNat / 2 ^ (7 - p) % 2 == 1) = bt at *
      obtain ⟨c2, hc2⟩ : ∃ c2, 2 * c + bt = c2 := ⟨_, rfl⟩
      rw [hc2] at hpn hg1 hg2 hg3
      have HPN := Lib.hid hpn
      have HG1 := Lib.hid hg1
      have HG2 := Lib.hid hg2
      have HG3 := Lib.hid hg3
      have HBE := Lib.hid hbe
      have HP7 : p ≤ 7 := by omega
      clear hF hF1 hpn hg1 hg2 hg3 hbe hq hp
      go_wp2_with fail
      go_loop [9, 10] (fun b i => ∃ (j z : Nat), p + j ≤ 7 ∧ b = .int .u8 (z : Int) ∧ i = .int .i64 ((p + j : Nat) : Int) ∧ Hid (y.toNat / 2 ^ j = z)) (fun _ i => 7 - (intOf i).toNat)
      case atStart => exact ⟨0, y.toNat, by omega, rfl, by rw [Nat.add_zero, ← hp2], Lib.hid (by rw [Nat.pow_zero, Nat.div_one])⟩
      case round =>
        obtain ⟨j, z, hj, rfl, rfl, hz⟩ := hrel
        have hzb : z < 256 := by rw [← hz.out]; exact Nat.lt_of_le_of_lt (Nat.div_le_self _ _) hyb
        by_cases hj7 : p + j < 7
        · have HZ := Lib.hid (show y.toNat / 2 ^ (j + 1) = z / 2 by rw [← hz.out, Nat.pow_succ, Nat.div_div_eq_div_mul])
          go_wp2_with fail
          go_round
          case rel => exact ⟨j + 1, z / 2, by omega, by rw [Int.natCast_ediv]; rfl, by congr 1, HZ⟩
          case measure => simp [intOf] <;> omega
        · have ej : j = 7 - p := by omega
          have hzz : z % 2 = bt := by rw [← hz.out, ej]; exact HBE.out
          have hz2 : (z : Int) % 2 = (bt : Int) := by omega
          have e1 : IntKind.u64.wrap ((c : Int) * 2) = (c : Int) * 2 := by rw [IntKind.wrap_u64]; omega
          have e2 : IntKind.u64.wrap (bt : Int) = (bt : Int) := by rw [IntKind.wrap_u64]; omega
          have e3 : IntKind.u64.wrap ((c : Int) * 2 + (bt : Int)) = (c2 : Int) := by rw [IntKind.wrap_u64]; omega
          have e4 : IntKind.i64.wrap ((n : Int) + 1) = ((n + 1 : Nat) : Int) := by rw [IntKind.wrap_i64]; omega
          have hng : ¬ (30 : Int) < (n : Int) + 1 := by omega
          have hng2 : ¬ (30 : Int) < ((n + 1 : Nat) : Int) := by omega
          clear hz hzz ej
          go_wp2_with fail
          have hcc : ∀ a, a < 257 → wr.cell? ⟨w.heap.size, a, none⟩ = some (.int .u64 (cd a : Int)) := fun a ha => by
            rw [cell_of_row _ _ _ _ _ _ ((hB.block _ hlt1).trans HROW.out), tab_get _ ha]
          have HCC := Lib.hid hcc
          clear hcc
          go_loop [5, 6, 7, 11] (fun b x h i => ∃ a : Nat, a ≤ 257 ∧ x = .int .u64 (c2 : Int) ∧ h = .int .i64 ((n : Int) + 1) ∧ i = .int .i64 (a : Int) ∧ Hid (wr.ownsRow g 5 1 b l.length (byteCells l)) ∧ Hid (∀ t, t < a → ¬ (cd t = c2 ∧ len t = n + 1))) (fun _ _ _ i => 257 - (intOf i).toNat)
          case atStart => exact ⟨0, by omega, rfl, rfl, rfl, hO, Lib.hid (fun t ht => absurd ht (Nat.not_lt_zero t))⟩
          clear hO
          case round =>
            obtain ⟨a, ha, rfl, rfl, rfl, hO, hA⟩ := hrel
            by_cases hat : a < 257
            · have hx1 := HCC.out a hat
              have ha1 : (0 : Int) ≤ (a : Int) := by omega
              have ha2 : (a : Int) < 257 := by omega
              by_cases hlen : len a = n + 1
              · by_cases hcd : cd a = c2
                · have hlk : Hf.look c2 (n + 1) = some a := (look_iff hat).2 ⟨hcd, hlen⟩
                  have RL := refLength_is a wr hat
                  rw [hlen] at RL
                  have f1 : (((n + 1 : Nat) : Int) == (n : Int) + 1) = true := by rw [beq_iff_eq]; omega
                  have f2 : ((cd a : Int) == (c2 : Int)) = true := by rw [beq_iff_eq, hcd]
                  have HRL := Lib.hid RL
                  clear RL
                  by_cases h256 : a = 256
                  · subst h256
                    have hDn := HG3.out hlk
                    have r1 := h1.out
                    have r2 := h2.out
                    rw [hDn] at r1 r2
                    have r3 : (mk []) = r := r1
                    have r4 : (e : Int) = 91 := by have : (91 : Nat) = e := r2; omega
                    have hfin2 := HB0.out.trans (hB.mono (Nat.le_of_lt hlt1))
                    clear hDn r1 r2 hB hO hP hlk
                    go_wp2_with fail
                    refine (HRL.out).mono ?_
                    rintro x w5 ⟨rfl, rfl⟩
                    go_wp2_with fail
                    go_ret2
                    exact ⟨by first | rfl | (rw [← r3, r4]; done) | (rw [← r3, r4]; rfl) | (rw [← r3]; done) | (rw [← r3]; rfl), hfin2⟩
                  · have HF := Lib.hid (HG2.out a hlk h256)
                    have e7 : IntKind.u8.wrap (a : Int) = (a : Int) := by rw [IntKind.wrap_u8]; omega
                    have f9 : ((a : Int) == 256) = false := by rw [beq_eq_false_iff_ne]; omega
                    have HVN := Lib.hid (show ((UInt8.ofNat a).toNat : Int) = (a : Int) by rw [UInt8.toNat_ofNat', Nat.mod_eq_of_lt (by omega)])
                    clear hlk hP
                    go_wp2_with fail
                    refine (HRL.out).mono ?_
                    rintro x w5 ⟨rfl, rfl⟩
                    go_wp2_with (at_builtin; refine wpList_append_own _ rfl _ _ 102 rfl g 5 i0 (.int .u8 0) 1 1 Try.underlying102 HI.out HZ0.out HZ1.out HZ2.out rfl (by decide) _ _ _ rfl (hO.out.alloc _) ⟨wr.heap.size, 0, none⟩ 1 1 [.int .u8 ((a : Int))] rfl rfl ?d11 ?d21 ?d31 ?d41 ?d51 ?_)
                    case d11 =>
                      intro j u hj
                      match j, hj with
                      | 0, hj => simp at hj; subst hj; simp [Addr.add]
                    case d21 => first | rfl | (intro u hu; simp at hu; subst hu; rfl)
                    case d31 => unfold maxLen; omega
                    case d41 => omega
                    case d51 => have := hB.size; have := G.out; simp; omega
                    intro v' w2 hown hgrow _
                    have RS := own_step (x := UInt8.ofNat a) hO.out hB G.out HVN.out hown hgrow
                    have R1 := Lib.hid RS.1
                    have R2 := RS.2
                    clear RS hown hgrow
                    go_wp2_with fail
                    go_roundw
                    case rel => exact ⟨k + 1, l ++ [UInt8.ofNat a], 0, 0, by omega, rfl, rfl, rfl, by rw [List.length_append, List.length_singleton]; omega, Lib.hid part_zero, Lib.hid (by rw [List.length_append]; exact R1.out), HF, R2⟩
                    case measure => simp [intOf] <;> omega
                · have hA2 := Lib.hid (show ∀ t, t < a + 1 → ¬ (cd t = c2 ∧ len t = n + 1) from fun t ht => by
                    rcases Nat.lt_or_ge t a with h | h
                    · exact hA.out t h
                    · obtain rfl : t = a := by omega
                      exact fun h => hcd h.1)
                  have RL := refLength_is a wr hat
                  rw [hlen] at RL
                  have f1 : (((n + 1 : Nat) : Int) == (n : Int) + 1) = true := by rw [beq_iff_eq]; omega
                  have f2 : ((cd a : Int) == (c2 : Int)) = false := by rw [beq_eq_false_iff_ne]; omega
                  have HRL := Lib.hid RL
                  clear RL
                  go_wp2_with fail
                  refine (HRL.out).mono ?_
                  rintro x w5 ⟨rfl, rfl⟩
                  go_wp2_with fail
                  go_round
                  case rel => exact ⟨a + 1, by omega, rfl, rfl, rfl, hO, hA2⟩
                  case measure => simp [intOf] <;> omega
              · have hA2 := Lib.hid (show ∀ t, t < a + 1 → ¬ (cd t = c2 ∧ len t = n + 1) from fun t ht => by
                  rcases Nat.lt_or_ge t a with h | h
                  · exact hA.out t h
                  · obtain rfl : t = a := by omega
                    exact fun h => hlen h.2)
                have RL := Lib.hid (refLength_is a wr hat)
                have f1 : ((len a : Int) == (n : Int) + 1) = false := by rw [beq_eq_false_iff_ne]; omega
                go_wp2_with fail
                refine (RL.out).mono ?_
                rintro x w5 ⟨rfl, rfl⟩
                go_wp2_with fail
                go_round
                case rel => exact ⟨a + 1, by omega, rfl, rfl, rfl, hO, hA2⟩
                case measure => simp [intOf] <;> omega
            · have ea : a = 257 := by omega
              have hno : Hf.look c2 (n + 1) = none := by
                cases hl : Hf.look c2 (n + 1) with
                | none => rfl
                | some t =>
                  have := look_some hl
                  exact absurd this.2 (hA.out t (by omega))
              have HP := Lib.hid (HPN.out hno)
              have HF := Lib.hid (HG1.out hno)
              clear hno
              go_wp2_with fail
              go_roundw
              case rel => exact ⟨k + 1, l, c2, n + 1, by omega, rfl, rfl, rfl, by omega, HP, hO, HF, hB⟩
              case measure => simp [intOf] <;> omega
    · have hdk : decide ((k : Int) < 8 * (s.size : Int)) = false := by rw [decide_eq_false_iff_not]; omega
      have hF2 := hF.out
      rw [List.drop_of_length_le (by rw [bitsOf_len, ← Lib.size_eq]; omega)] at hF2
      have hfin2 := HB0.out.trans (hB.mono (Nat.le_of_lt hlt1))
      have hn30 := hP.out.2.2
      have hcn := hP.out.2.1
      have hcb := part_lt hP.out
      have r1 := h1.out
      have r2 := h2.out
      by_cases h8 : 8 ≤ n
      · have hDn := goes_bad hF2 (by omega)
        rw [hDn] at r1 r2
        have r3 : (mk []) = r := r1
        have r4 : (e : Int) = 91 := by have : (91 : Nat) = e := r2; omega
        clear hF hF2 hDn r1 r2 hB hO hP
        go_wp2_with fail
        go_ret2
        exact ⟨by first | rfl | (rw [← r3, r4]; done) | (rw [← r3, r4]; rfl) | (rw [← r3]; done) | (rw [← r3]; rfl), hfin2⟩
      · have HG := Lib.hid hF2
        have HCN := Lib.hid hcn
        clear hF hF2 hP hcn r1 r2
        go_wp2_with fail
        go_loop [6, 12] (fun x i => ∃ (j z : Nat), j ≤ n ∧ x = .int .u64 (z : Int) ∧ i = .int .i64 (j : Int) ∧ Hid (c / 2 ^ j = z) ∧ Hid (c % 2 ^ j = 2 ^ j - 1)) (fun _ i => n - (intOf i).toNat)
        case atStart => exact ⟨0, c, by omega, rfl, rfl, Lib.hid (by rw [Nat.pow_zero, Nat.div_one]), Lib.hid (by rw [Nat.pow_zero, Nat.mod_one])⟩
        case round =>
          obtain ⟨j, z, hj, rfl, rfl, hz, hm⟩ := hrel
          have hzb : z < 536870912 := by rw [← hz.out]; exact Nat.lt_of_le_of_lt (Nat.div_le_self _ _) hcb
          by_cases hjn : j < n
          · by_cases hz0 : z % 2 = 0
            · have hDn := goes_bad HG.out (by
                rintro ⟨_, hc⟩
                have h3 := one_at (show n < 8 by omega) hjn
                rw [← hc, hz.out] at h3
                omega)
              have r1 := h1.out
              have r2 := h2.out
              rw [hDn] at r1 r2
              have r3 : (mk []) = r := r1
              have r4 : (e : Int) = 91 := by have : (91 : Nat) = e := r2; omega
              have f1 : ((z : Int) % 2 == 0) = true := by rw [beq_iff_eq]; omega
              clear hDn r1 r2 hB hO
              go_wp2_with fail
              go_ret2
              exact ⟨by first | rfl | (rw [← r3, r4]; done) | (rw [← r3, r4]; rfl) | (rw [← r3]; done) | (rw [← r3]; rfl), hfin2⟩
            · have f1 : ((z : Int) % 2 == 0) = false := by rw [beq_eq_false_iff_ne]; omega
              have HZ := Lib.hid (show c / 2 ^ (j + 1) = z / 2 by rw [← hz.out, Nat.pow_succ, Nat.div_div_eq_div_mul])
              have HM := Lib.hid (ones_next hm.out (by rw [hz.out]; omega))
              go_wp2_with fail
              go_round
              case rel => exact ⟨j + 1, z / 2, by omega, by rw [Int.natCast_ediv]; rfl, rfl, HZ, HM⟩
              case measure => simp [intOf] <;> omega
          · have ej : j = n := by omega
            have hDn := goes_stop HG.out ⟨by omega, by
              have h3 := hm.out
              rw [ej, Nat.mod_eq_of_lt HCN.out] at h3
              exact h3⟩
            have r1 := h1.out
            have r2 := h2.out
            rw [hDn] at r1 r2
            have r3 : mk l = r := r1
            have r4 : (e : Int) = 0 := by have : (0 : Nat) = e := r2; omega
            have hcv := convert_own hO.out
            rw [r3] at hcv
            clear hDn r1 r2 hB hO ej
            go_wp2_with fail
            go_ret2
            exact ⟨by first | rfl | (rw [r4]; done) | (rw [r4]; rfl), hfin2⟩
end Go.Proofs.Ytaoomjbkfcbfpaa
