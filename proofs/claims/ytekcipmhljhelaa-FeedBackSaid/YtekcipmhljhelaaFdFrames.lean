/- The code's frames of layer 15: the frames at the front, what is left, the code. For texts of at most 10^6 bytes. -/
import Derived.Test.YtekcipmhljhelaaProg
import Derived.Test.YtekcipmhljhelaaBytes
import Derived.Test.YtekcipmhljhelaaFrMath
import Derived.Test.YtekcipmhljhelaaFrBox
import Derived.Test.YtekcipmhljhelaaFrPar
import Derived.Test.YtekcipmhljhelaaFdMath
import Derived.Test.YtekcipmhljhelaaFdRow
import Derived.WalkKit
import Derived.Lib.Hide
import Derived.Laws.Rows
import Derived.Outline
import Derived.IntWalk
import Derived.WalkSpells
import Derived.WalkLawsBesides
import Derived.LoopTactic
import Derived.Deep.CutRange
import Derived.Deep.CutBlock
namespace Go.Proofs.Ytekcipmhljhelaa
open Go Go.RowKit Bytes Fr Fd

namespace Fd
def lenV : Value → Nat
  | .string t => t.size
  | _ => 0
/-- What is left of bytes: nothing, where something was wrong. -/
def restL (l : List UInt8) (c h : Nat) : List UInt8 := if c ≠ 0 then [] else l.drop (l.length - h)
theorem lenV_mk (t : ByteArray) : lenV (.string t) = t.size := rfl
end Fd

set_option maxHeartbeats 8000000 in
set_option maxRecDepth 100000 in
theorem cframes_is (s : ByteArray) (gs : List Frm) (c h : Nat) (w : World) (hs : s.size ≤ 1000000) (hr : Hid (run s.data.toList = (gs, c, h))) :
    Calls Try.prog 24 #[.string s] w fun e w' => ∃ (v : Value) (n : Nat) (r : ByteArray), e = .returned (.tuple #[v, .string r, .int .u32 (c : Int)]) ∧ Hid (w'.ownsRow w.heap.size 40 4 v n (frCs gs)) ∧ Hid (gs.length = n) ∧ Hid (r.data.toList = restL s.data.toList c h) ∧ Below w.heap.size w w' := by
  have hsl := size_l s
  obtain ⟨g, hg⟩ : ∃ g, w.heap.size = g := ⟨_, rfl⟩
  have G := Lib.hid hg
  have HB0 : Hid (Below g w w) := Lib.hid (Below.refl _ w)
  obtain ⟨N, hN⟩ : ∃ N, s.size = N := ⟨_, rfl⟩
  have HN := Lib.hid hN
  rw [hg]
  clear hg hN
  go_enter Try.func24, Try.ntmps24
  go_wp2_with fail
  go_loopw [0, 2, 5, 6, 7] (fun i o _ _ _ wr => ∃ (k m : Nat) (t : ByteArray) (K : List Frm), k ≤ N ∧ 9 * m ≤ k ∧ i = .string t ∧ Hid (t.data.toList = s.data.toList.drop k) ∧ t.size = N - k ∧ Hid (K.length = m) ∧ Hid (wr.ownsRow g 40 4 o m (frCs K)) ∧ Hid (K ++ (run t.data.toList).1 = gs ∧ (run t.data.toList).2.1 = c ∧ (run t.data.toList).2.2 = h) ∧ Hid (Below g w wr)) (fun i _ _ _ _ _ => lenV i)
  case atStart => exact ⟨0, 0, s, [], Nat.zero_le _, Nat.zero_le _, rfl, Lib.hid rfl, by rw [HN.out]; rfl, Lib.hid rfl, Lib.hid ⟨rfl, .inl ⟨rfl, rfl⟩⟩, Lib.hid (by rw [hr.out]; exact ⟨rfl, rfl, rfl⟩), HB0⟩
  case round =>
    obtain ⟨k, m, t, K, hk, h9m, rfl, hT, hts, hKm, hO, hRun, hBw⟩ := hrel
    have hNs := HN.out
    have hds : t.size ≤ 1000000 := by omega
    obtain ⟨⟨f, n, e⟩, hp⟩ : ∃ z, parseF t = z := ⟨_, rfl⟩
    have hp2 := hp
    rw [show t = mk t.data.toList from list_inj (mk_list _).symm] at hp2
    have HP := Lib.hid (fun W : World => cparse_is t f n e W hds (Lib.hid hp))
    have hcode := parse_code t
    rw [hp] at hcode
    have hcode : e = 0 ∨ e = 2 ∨ e = 3 := hcode
    have hgw := hBw.out.size
    have HW1 : g ≤ wr.heap.size := by have := G.out; omega
    have HP2 := Lib.hid hp2
    clear hp hp2 hgw
    go_wp2_with fail
    refine (HP.out _).mono ?_
    rintro e1 w1 ⟨rfl, hB1⟩
    unfold frV
    have hX := (boxF_new w1 f).1
    have hB1a := hB1.trans (((Below.refl _ w1).alloc (Nat.le_refl _) (.cells #[.int .u8 (f.ty : Int), .int .u8 (f.fl : Int), .int .u32 (f.st : Int), .string f.data] 40)).mono hB1.size)
    have HO1 := Lib.hid (own_rest hO.out hB1a)
    have HB1 := Lib.hid (hBw.out.trans (hB1a.mono HW1))
    have HX := Lib.hid hX
    have hs1 := hB1.size
    clear hB1 hB1a hO hBw hX
    go_upto_region 2 with fail
    obtain ⟨w2, hw2⟩ : ∃ w2, w1.alloc (.cells #[.int .u8 (f.ty : Int), .int .u8 (f.fl : Int), .int .u32 (f.st : Int), .string f.data] 40) = w2 := ⟨_, rfl⟩
    have hw2s : w1.heap.size < w2.heap.size := by rw [← hw2]; simp
    rw [hw2] at HO1 HB1 HX ⊢
    clear hw2
    obtain ⟨X, hXX⟩ : ∃ X, w1.heap.size = X := ⟨_, rfl⟩
    rw [hXX] at HX hs1 hw2s ⊢
    clear hXX
    obtain ⟨a0, a1, a2, a3⟩ := HX.out.c
    rcases hcode with he | he | he
    · subst he
      have hlen := parse_len HP2.out
      rw [size_l] at hlen
      have hrun := hRun.out
      rw [run_one HP2.out] at hrun
      have hcell : (cellsF f).length = 4 := rfl
      have hn0 : (0 : Int) ≤ (n : Int) := by omega
      have hns : (n : Int) ≤ (t.size : Int) := by omega
      obtain ⟨t2, ht2⟩ : ∃ t2, t.extract n (N - k) = t2 := ⟨_, rfl⟩
      have ht2l : t2.data.toList = t.data.toList.drop n := by rw [← ht2, extract_list, ← hts, ← size_l, List.take_length]
      have HT2 : Hid (t2.data.toList = s.data.toList.drop (k + n)) := Lib.hid (by rw [ht2l, hT.out, List.drop_drop])
      have ht2s : t2.size = N - (k + n) := by rw [← size_l, ht2l, List.length_drop, size_l]; omega
      have HRUN2 : Hid ((K ++ [f]) ++ (run t2.data.toList).1 = gs ∧ (run t2.data.toList).2.1 = c ∧ (run t2.data.toList).2.2 = h) := Lib.hid (by rw [ht2l, List.append_assoc]; exact hrun)
      have hkn : k + n ≤ N := by omega
      have h9n : 9 * (m + 1) ≤ k + n := by omega
      have hKm2 : Hid ((K ++ [f]).length = m + 1) := Lib.hid (by rw [List.length_append, hKm.out]; rfl)
      have hmb : m ≤ 200000 := by omega
      obtain ⟨i0, hi, hz0, hz1, hz2⟩ := info_parts infoF
      have HI := Lib.hid hi
      have HZ0 := Lib.hid hz0
      have HZ1 := Lib.hid hz1
      have HZ2 := Lib.hid hz2
      have HDEC : Hid (t2.size < t.size) := Lib.hid (by omega)
      clear hrun hi hz0 hz1 hz2 ht2l
      go_wp2_with (at_builtin; refine wpList_append_own _ rfl _ _ 27 rfl g 40 i0 (.agg #[.int .u8 0, .int .u8 0, .int .u32 0, .string ⟨#[]⟩]) 4 24 Try.underlying27 HI.out HZ0.out HZ1.out HZ2.out rfl (by decide) _ _ _ rfl (HO1.out.alloc _) ⟨w2.heap.size, 0, none⟩ 1 1 (cellsF f) rfl rfl ?c1 ?c2 ?c3 ?c4 ?c5 ?_)
      case c1 =>
        intro j u hj
        exact hj
      case c2 => intro u hu; exact frCs_one_cell (L := [f]) u hu
      case c3 => unfold maxLen; omega
      case c4 => omega
      case c5 => have := HB1.out.size; have := G.out; simp; omega
      intro v' w3 hown hgrow _
      obtain ⟨hO3, hB3⟩ := own_frm HO1.out HB1.out G.out hown hgrow
      have HO3 := Lib.hid hO3
      have HB3 := Lib.hid hB3
      clear hown hgrow hO3 hB3 hmb
      go_wp2_with fail
      go_roundw
      case rel => exact ⟨k + n, m + 1, t2, K ++ [f], hkn, h9n, rfl, HT2, ht2s, hKm2, HO3, HRUN2, HB3⟩
      case measure => rw [lenV_mk, lenV_mk]; exact HDEC.out
    · subst he
      have hrun := hRun.out
      rw [run_short HP2.out] at hrun
      obtain ⟨h1, h2, h3⟩ := hrun
      rw [List.append_nil] at h1
      have h2 : 0 = c := h2
      have h3 : t.data.toList.length = h := h3
      subst h1 h2
      have HREST : Hid (t.data.toList = restL s.data.toList 0 h) := Lib.hid (by
        unfold restL
        rw [if_neg (by decide), hT.out]
        congr 1
        rw [size_l] at h3
        omega)
      clear h3 HX
      go_wp2_with fail
      go_ret3
      exact ⟨_, m, t, rfl, HO1, hKm, HREST, HB1.out⟩
    · subst he
      have hrun := hRun.out
      rw [run_long HP2.out] at hrun
      obtain ⟨h1, h2, h3⟩ := hrun
      rw [List.append_nil] at h1
      have h2 : 6 = c := h2
      have h3 : 0 = h := h3
      subst h1 h2 h3
      clear HX
      go_wp2_with fail
      go_ret3
      exact ⟨_, m, ⟨#[]⟩, rfl, HO1, hKm, Lib.hid (by unfold restL; rw [if_pos (by decide)]), HB1.out⟩
end Go.Proofs.Ytekcipmhljhelaa
