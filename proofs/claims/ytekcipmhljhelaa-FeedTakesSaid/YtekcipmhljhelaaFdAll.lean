/- The document's All of layer 15: the frames of all bytes that came. For texts of at most 10^6 bytes. -/
import Derived.Test.YtekcipmhljhelaaProg
import Derived.Test.YtekcipmhljhelaaBytes
import Derived.Test.YtekcipmhljhelaaFrMath
import Derived.Test.YtekcipmhljhelaaFrBox
import Derived.Test.YtekcipmhljhelaaFrRefS
import Derived.Test.YtekcipmhljhelaaFdMath
import Derived.Test.YtekcipmhljhelaaFdRow
import Derived.WalkKit
import Derived.Lib.Hide
import Derived.Laws.Rows
import Derived.Outline
import Derived.IntWalk
import Derived.WalkSpells
import Derived.WalkLawsBesides
import Derived.LoopTactic
import Derived.Deep.CutRange
import Derived.Deep.CutBlock
import Derived.Deep.QuietTactic
import Derived.BigQuiet
namespace Go.Proofs.Ytekcipmhljhelaa
open Go Go.RowKit Bytes Fr Fd

namespace Fd
theorem ext_drop (s : ByteArray) (k : Nat) : s.extract k s.size = mk (s.data.toList.drop k) := by
  apply list_inj
  rw [extract_list, mk_list, ← size_l, List.take_length]
/-- A wrong byte ahead: no preface, nor its beginning. -/
theorem all_wrong {l : List UInt8} {k : Nat} (hk : k < 24) (hl : k < l.length) (hne : l.getD k 0 ≠ pre.getD k 0) : all true l = ([], 1, 0) := by
  have get : ∀ {A B : List UInt8} {m : Nat}, A.take m = B → k < m → A.getD k 0 = B.getD k 0 := fun {A B m} h hm => by
    rw [← h, List.getD_eq_getElem?_getD, List.getD_eq_getElem?_getD, List.getElem?_take_of_lt hm]
  have h1 : ¬ l.take 24 = pre := fun h => hne (get h hk)
  have h2 : ¬ l = pre.take l.length := fun h => hne (get h.symm hl).symm
  unfold all
  rw [if_pos rfl, if_neg h1, if_neg h2]
theorem all_part {l : List UInt8} (hk : l.length < 24) (h : l = pre.take l.length) : all true l = ([], 0, l.length) := by
  have h1 : ¬ l.take 24 = pre := fun e => by have := len_of_pre e; omega
  unfold all
  rw [if_pos rfl, if_neg h1, if_pos h]
theorem all_whole {l : List UInt8} (h : l.take 24 = pre) : all true l = run (l.drop 24) := by
  unfold all
  rw [if_pos rfl, if_pos h]
theorem pre_at : ∀ k, k < 24 → (pre.getD k 0) = (mk pre).data.toList.getD k 0 := fun _ _ => rfl
end Fd

set_option maxHeartbeats 8000000 in
set_option maxRecDepth 100000 in
theorem fall_is (s : ByteArray) (q : Bool) (L : List Frm) (c h : Nat) (w : World) (hs : s.size ≤ 1000000) (hr : Hid (all q s.data.toList = (L, c, h))) :
    Calls Try.prog 12 #[.string s, .bool q] w fun e w' => ∃ (A : Option Addr) (n cp : Nat), e = .returned (.tuple #[.slice A n cp, .int .i64 (c : Int), .int .i64 (h : Int)]) ∧ Hid (RdF w' w'.heap.size A L) ∧ Hid (L.length = n) ∧ (A = none → cp = 0 ∧ n = 0) ∧ Below w.heap.size w w' := by
  have hsl := size_l s
  go_enter Try.func12, Try.ntmps12
  go_upto_block 0 with fail
  go_cut [7] from 12 to 30 (fun i wx => ∃ k : Nat, i = .int .i64 (k : Int) ∧ k ≤ s.size ∧ Hid (run (s.data.toList.drop k) = (L, c, h)) ∧ Hid (Below w.heap.size w wx))
  case first =>
    cases q with
    | false =>
      have hrr := hr.out
      rw [all_off] at hrr
      have HRR : Hid (run (s.data.toList.drop 0) = (L, c, h)) := Lib.hid hrr
      clear hrr hr
      go_wp2_with fail
      go_loop [7] (fun i => i = .int .i64 0) (fun _ => 0)
      case atStart => rfl
      case round =>
        subst hrel
        go_wp2_with fail
        go_meet
        exact ⟨0, rfl, Nat.zero_le _, HRR, Lib.hid (Below.refl _ w)⟩
    | true =>
      go_wp2_with fail
      go_loopw [7] (fun i wr => ∃ k : Nat, k ≤ 24 ∧ k ≤ s.size ∧ i = .int .i64 (k : Int) ∧ Hid (s.data.toList.take k = pre.take k) ∧ Hid (Below w.heap.size w wr)) (fun i _ => 24 - (intOf i).toNat)
      case atStart => exact ⟨0, by omega, Nat.zero_le _, rfl, Lib.hid rfl, Lib.hid (Below.refl _ w)⟩
      case round =>
        obtain ⟨k, hk, hks, rfl, hT, hBw⟩ := hrel
        by_cases h24 : k = 24
        · subst h24
          have hw : s.data.toList.take 24 = pre := hT.out
          have hrr := hr.out
          rw [all_whole hw] at hrr
          have HRR := Lib.hid hrr
          clear hrr hw hr
          go_wp2_with fail
          go_meet
          exact ⟨24, rfl, hks, HRR, hBw⟩
        have hk24 : k < 24 := by omega
        have hki : (k : Int) < 24 := by omega
        by_cases hend : k = s.size
        · have hrr := hr.out
          have hlt : s.data.toList.length < 24 := by omega
          have htk : s.data.toList = pre.take s.data.toList.length := by
            have h1 := hT.out
            rw [hend, ← hsl, List.take_length] at h1
            exact h1
          rw [all_part hlt htk, hsl] at hrr
          injection hrr with e1 e2
          injection e2 with e2 e3
          subst e1 e2 e3
          have hge : (s.size : Int) ≤ (k : Int) := by omega
          clear hend htk hlt hr
          go_wp2_with fail
          go_ret3
          exact ⟨none, 0, 0, rfl, Lib.hid (RdF.void _ _ _), Lib.hid rfl, fun _ => ⟨rfl, rfl⟩, hBw.out⟩
        have hlt : k < s.size := by omega
        have hli : (k : Int) < (s.size : Int) := by omega
        have hk0 : (0 : Int) ≤ (k : Int) := by omega
        have hg := getD_byte hlt
        obtain ⟨x, hx⟩ : ∃ x, s[k] = x := ⟨_, rfl⟩
        obtain ⟨y, hy⟩ : ∃ y, pre.getD k 0 = y := ⟨_, rfl⟩
        rw [hx] at hg
        have hyy : ∀ hh, (⟨#[80, 82, 73, 32, 42, 32, 72, 84, 84, 80, 47, 50, 46, 48, 13, 10, 13, 10, 83, 77, 13, 10, 13, 10]⟩ : ByteArray)[k]'hh = y := fun hh => by
          have h1 := getD_byte hh
          rw [← h1, ← hy]
          rfl
        by_cases hxy : x = y
        · have hT2 : Hid (s.data.toList.take (k + 1) = pre.take (k + 1)) := Lib.hid (by
            rw [take_snoc (by rw [hsl]; exact hlt), take_snoc (by rw [pre_len]; exact hk24), hT.out, hg, hy, hxy])
          have hf : ((x.toNat : Int) != (y.toNat : Int)) = false := bne_eq_false_iff_eq.2 (by rw [hxy])
          have HBm : Hid (∀ m, Below w.heap.size w (wr.drewN m)) := Lib.hid (fun _ => ⟨hBw.out.os, hBw.out.tape, hBw.out.output, hBw.out.size, hBw.out.block⟩)
          clear hxy hg hy h24 hend
          go_upto_region 5 with fail
          go_quiet (fail)
          go_wp2_with fail
          go_roundw
          case rel => exact ⟨k + 1, by omega, by omega, by go_num, hT2, Lib.hid (HBm.out _)⟩
          case measure => simp [intOf]; omega
        · have hrr := hr.out
          rw [all_wrong hk24 (by rw [hsl]; exact hlt) (by rw [hg, hy]; exact hxy)] at hrr
          injection hrr with e1 e2
          injection e2 with e2 e3
          subst e1 e2 e3
          have hf : ((x.toNat : Int) != (y.toNat : Int)) = true := bne_iff_ne.2 (fun e => hxy (UInt8.toNat_inj.1 (by omega)))
          have HBm : Hid (∀ m, Below w.heap.size w (wr.drewN m)) := Lib.hid (fun _ => ⟨hBw.out.os, hBw.out.tape, hBw.out.output, hBw.out.size, hBw.out.block⟩)
          clear hxy hg hy h24 hend hr
          go_upto_region 5 with fail
          go_quiet (fail)
          go_wp2_with fail
          go_ret3
          exact ⟨none, 0, 0, rfl, Lib.hid (RdF.void _ _ _), Lib.hid rfl, fun _ => ⟨rfl, rfl⟩, HBm.out _⟩
  case rest =>
    obtain ⟨k0, rfl, hk0s, HR0, HB0⟩ := hcut
    generalize wc = w0 at *
    clear hr
    obtain ⟨g, hg⟩ : ∃ g, w.heap.size = g := ⟨_, rfl⟩
    rw [hg] at HB0
    have G := Lib.hid hg
    clear hg
    go_wp2_with fail
    go_loopw [7, 8, 9, 10, 11] (fun i o _ _ _ wr => ∃ (k m : Nat) (K : List Frm), k ≤ s.size ∧ 9 * m ≤ k ∧ i = .int .i64 (k : Int) ∧ Hid (K.length = m) ∧ Hid (wr.ownsRow g 40 4 o m (frCs K)) ∧ Hid (K ++ (run (s.data.toList.drop k)).1 = L ∧ (run (s.data.toList.drop k)).2.1 = c ∧ (run (s.data.toList.drop k)).2.2 = h) ∧ Hid (Below g w wr)) (fun i _ _ _ _ _ => s.size - (intOf i).toNat)
    case atStart => exact ⟨k0, 0, [], hk0s, Nat.zero_le _, rfl, Lib.hid rfl, Lib.hid ⟨rfl, .inl ⟨rfl, rfl⟩⟩, Lib.hid (by rw [HR0.out]; exact ⟨rfl, rfl, rfl⟩), HB0⟩
    case round =>
      obtain ⟨k, m, K, hk, h9m, rfl, hKm, hO, hRun, hBw⟩ := hrel
      have hk0 : (0 : Int) ≤ (k : Int) := by omega
      have hki : (k : Int) ≤ (s.size : Int) := by omega
      obtain ⟨d, hd⟩ : ∃ d, s.extract k s.size = d := ⟨_, rfl⟩
      have hdm : d = mk (s.data.toList.drop k) := by rw [← hd]; exact ext_drop s k
      have hds : d.size ≤ 1000000 := by rw [hdm, mk_size, List.length_drop]; omega
      obtain ⟨⟨f, n, e⟩, hp⟩ : ∃ z, parseF d = z := ⟨_, rfl⟩
      have hp2 := hp
      rw [hdm] at hp2
      have HP := Lib.hid (fun W : World => fparse_is d f n e W hds (Lib.hid hp))
      have hcode := parse_code d
      rw [hp] at hcode
      have hcode : e = 0 ∨ e = 2 ∨ e = 3 := hcode
      have hgw := hBw.out.size
      have HW1 : g ≤ wr.heap.size := by have := G.out; omega
      have HP2 := Lib.hid hp2
      clear hp hp2 hdm hds hgw
      go_wp2_with fail
      refine (HP.out _).mono ?_
      rintro e1 w1 ⟨rfl, hB1⟩
      unfold frV
      have hX := (boxF_new w1 f).1
      have hB1a := hB1.trans (((Below.refl _ w1).alloc (Nat.le_refl _) (.cells #[.int .u8 (f.ty : Int), .int .u8 (f.fl : Int), .int .u32 (f.st : Int), .string f.data] 40)).mono hB1.size)
      have HO1 := Lib.hid (own_rest hO.out hB1a)
      have HB1 := Lib.hid (hBw.out.trans (hB1a.mono HW1))
      have HX := Lib.hid hX
      have hs1 := hB1.size
      clear hB1 hB1a hO hBw hX
      go_upto_region 10 with fail
      obtain ⟨w2, hw2⟩ : ∃ w2, w1.alloc (.cells #[.int .u8 (f.ty : Int), .int .u8 (f.fl : Int), .int .u32 (f.st : Int), .string f.data] 40) = w2 := ⟨_, rfl⟩
      have hw2s : w1.heap.size < w2.heap.size := by rw [← hw2]; simp
      rw [hw2] at HO1 HB1 HX ⊢
      clear hw2
      obtain ⟨X, hXX⟩ : ∃ X, w1.heap.size = X := ⟨_, rfl⟩
      rw [hXX] at HX hs1 hw2s ⊢
      clear hXX
      obtain ⟨a0, a1, a2, a3⟩ := HX.out.c
      rcases hcode with he | he | he
      · subst he
        have hlen := parse_len HP2.out
        rw [List.length_drop, size_l] at hlen
        have hrun := hRun.out
        rw [run_one HP2.out, List.drop_drop] at hrun
        have hcell : (cellsF f).length = 4 := rfl
        have e3 : IntKind.i64.wrap ((k : Int) + (n : Int)) = ((k + n : Nat) : Int) := by rw [IntKind.wrap_i64]; omega
        have HRUN2 : Hid ((K ++ [f]) ++ (run (s.data.toList.drop (k + n))).1 = L ∧ (run (s.data.toList.drop (k + n))).2.1 = c ∧ (run (s.data.toList.drop (k + n))).2.2 = h) := Lib.hid (by rw [List.append_assoc]; exact hrun)
        have hkn : k + n ≤ s.size := by omega
        have h9n : 9 * (m + 1) ≤ k + n := by omega
        have hKm2 : Hid ((K ++ [f]).length = m + 1) := Lib.hid (by rw [List.length_append, hKm.out]; rfl)
        have hmb : m ≤ 200000 := by omega
        obtain ⟨i0, hi, hz0, hz1, hz2⟩ := info_parts infoF
        have HI := Lib.hid hi
        have HZ0 := Lib.hid hz0
        have HZ1 := Lib.hid hz1
        have HZ2 := Lib.hid hz2
        clear hrun hi hz0 hz1 hz2
        go_wp2_with (at_builtin; refine wpList_append_own _ rfl _ _ 27 rfl g 40 i0 (.agg #[.int .u8 0, .int .u8 0, .int .u32 0, .string ⟨#[]⟩]) 4 24 Try.underlying27 HI.out HZ0.out HZ1.out HZ2.out rfl (by decide) _ _ _ rfl (HO1.out.alloc _) ⟨w2.heap.size, 0, none⟩ 1 1 (cellsF f) rfl rfl ?c1 ?c2 ?c3 ?c4 ?c5 ?_)
        case c1 =>
          intro j u hj
          exact hj
        case c2 => intro u hu; exact frCs_one_cell (L := [f]) u hu
        case c3 => unfold maxLen; omega
        case c4 => omega
        case c5 => have := HB1.out.size; have := G.out; simp; omega
        intro v' w3 hown hgrow _
        obtain ⟨hO3, hB3⟩ := own_frm HO1.out HB1.out G.out hown hgrow
        have HO3 := Lib.hid hO3
        have HB3 := Lib.hid hB3
        clear hown hgrow hO3 hB3 hmb
        go_wp2_with fail
        go_roundw
        case rel => exact ⟨k + n, m + 1, K ++ [f], hkn, h9n, by go_num, hKm2, HO3, HRUN2, HB3⟩
        case measure => simp [intOf]; omega
      · subst he
        have hrun := hRun.out
        rw [run_short HP2.out] at hrun
        obtain ⟨h1, h2, h3⟩ := hrun
        rw [List.append_nil] at h1
        have h2 : 0 = c := h2
        have h3 : (s.data.toList.drop k).length = h := h3
        rw [List.length_drop, size_l] at h3
        subst h1 h2
        have e3 : IntKind.i64.wrap ((s.size : Int) - (k : Int)) = (h : Int) := by rw [IntKind.wrap_i64]; omega
        have hrd := own_rdf HO1.out hKm.out.symm
        obtain ⟨A, cp, rfl, hr2, _, hnil⟩ := hrd
        have HN := Lib.hid hnil
        clear hnil
        have HR2 := Lib.hid hr2
        clear hr2 h3 HX
        go_wp2_with fail
        go_ret3
        exact ⟨A, m, cp, rfl, HR2, hKm, HN.out, by rw [G.out]; exact HB1.out⟩
      · subst he
        have hrun := hRun.out
        rw [run_long HP2.out] at hrun
        obtain ⟨h1, h2, h3⟩ := hrun
        rw [List.append_nil] at h1
        have h2 : 6 = c := h2
        have h3 : 0 = h := h3
        subst h1 h2 h3
        have hrd := own_rdf HO1.out hKm.out.symm
        obtain ⟨A, cp, rfl, hr2, _, hnil⟩ := hrd
        have HN := Lib.hid hnil
        clear hnil
        have HR2 := Lib.hid hr2
        clear hr2 HX
        go_wp2_with fail
        go_ret3
        exact ⟨A, m, cp, rfl, HR2, hKm, HN.out, by rw [G.out]; exact HB1.out⟩
end Go.Proofs.Ytekcipmhljhelaa
