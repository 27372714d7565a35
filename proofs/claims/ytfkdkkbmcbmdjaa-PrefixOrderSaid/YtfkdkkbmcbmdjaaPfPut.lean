/- The contract of prefix's Put: bytes with an integer behind them, in new memory. For at most 10^6 bytes. -/
import Derived.Test.YtfkdkkbmcbmdjaaProg
import Derived.Test.YtfkdkkbmcbmdjaaBytes
import Derived.Test.YtfkdkkbmcbmdjaaPfMath
import Derived.Test.YtfkdkkbmcbmdjaaPfFull
import Derived.Test.YtfkdkkbmcbmdjaaShelf
import Derived.WalkKit
import Derived.Lib.Hide
import Derived.Laws.Bits64b
import Derived.Laws.BitsAllLaws
import Derived.ArgAppend
import Derived.Outline
import Derived.IntWalk
import Derived.WalkSpells
namespace Go.Proofs.Ytfkdkkbmcbmdjaa
open Go.RowKit Bytes Pf

/-- A slice of bytes that reads as the bytes l, nil or not; what it has of memory lies below block B. -/
def RdC (w : World) (B : Nat) (a : Option Addr) (cap : Nat) (l : List UInt8) : Prop :=
  l.length ≤ cap ∧ cap ≤ 9223372036854775807 ∧ (a = none → l = [] ∧ cap = 0) ∧ ∀ x, a = some x → ∀ i v, (byteCells l)[i]? = some v → x.block < B ∧ w.cell? (x.add i) = some v
theorem RdC.nil (w : World) (B : Nat) : RdC w B none 0 [] := ⟨Nat.le_refl _, by omega, fun _ => ⟨rfl, rfl⟩, fun _ h => by cases h⟩
theorem add_block (a : Addr) (n : Nat) : (a.add n).block = a.block := by unfold Addr.add; split <;> rfl
theorem RdC.on {w w' : World} {B B' : Nat} {a : Option Addr} {cap : Nat} {l : List UInt8} (h : RdC w B a cap l) (hb : Below B w w') (hB : B ≤ B') : RdC w' B' a cap l :=
  ⟨h.1, h.2.1, h.2.2.1, fun x hx i v hv => by
    have ⟨h1, h2⟩ := h.2.2.2 x hx i v hv
    exact ⟨by omega, by rw [hb.cell (by rw [add_block]; exact h1)]; exact h2⟩⟩
theorem andNot_full {f : Nat} (hf : isF f) (c : Nat) (hc : c < 256) : bits .andNot .u8 (c : Int) (f : Int) = ((c / (f + 1) * (f + 1) : Nat) : Int) := by
  have hb := isF_bd hf
  rw [u8_andNot_nat c f hc (by omega)]
  have h : ((List.range 256).all fun c => c &&& (255 - f) == c / (f + 1) * (f + 1)) = true := by
    unfold isF at hf
    rcases hf with rfl | rfl | rfl | rfl | rfl | rfl | rfl | rfl <;> decide +kernel
  have h2 := List.all_eq_true.1 h c (List.mem_range.2 hc)
  rw [eq_of_beq h2]
theorem or_first {f : Nat} (hf : isF f) (c n : Nat) (hc : c < 256) (hn : n ≤ f) : bits .or .u8 ((c / (f + 1) * (f + 1) : Nat) : Int) (n : Int) = ((c / (f + 1) * (f + 1) + n : Nat) : Int) := by
  have h0 := (first_mod hf hc hn).2
  rw [u8_or_nat _ _ (by omega) (by omega)]
  have h : ∃ k, f + 1 = 2 ^ k := by
    unfold isF at hf
    rcases hf with rfl | rfl | rfl | rfl | rfl | rfl | rfl | rfl
    · exact ⟨1, rfl⟩
    · exact ⟨2, rfl⟩
    · exact ⟨3, rfl⟩
    · exact ⟨4, rfl⟩
    · exact ⟨5, rfl⟩
    · exact ⟨6, rfl⟩
    · exact ⟨7, rfl⟩
    · exact ⟨8, rfl⟩
  obtain ⟨k, hk⟩ := h
  have h3 := Nat.shiftLeft_add_eq_or_of_lt (i := k) (b := n) (by omega) (c / (f + 1))
  rw [Nat.shiftLeft_eq, ← hk] at h3
  rw [← h3]
theorem or_128 (n : Nat) : bits .or .u8 128 ((n : Int) % 256) = ((128 + n % 128 : Nat) : Int) := by
  have h : ((List.range 256).all fun c => 128 ||| c == 128 + c % 128) = true := by decide +kernel
  have h2 := eq_of_beq (List.all_eq_true.1 h (n % 256) (List.mem_range.2 (by omega)))
  have h3 := u8_or_nat 128 (n % 256) (by omega) (by omega)
  rw [h2] at h3
  rw [Int.natCast_emod] at h3
  rw [show n % 256 % 128 = n % 128 by omega] at h3
  exact h3
theorem own_base {w : World} {g g' : Nat} {e : TypeId} {v : Value} {n : Nat} {xs : List Value} (h : w.ownsRow g' e 1 v n xs) (hg : g ≤ g') : w.ownsRow g e 1 v n xs := by
  refine ⟨h.1, ?_⟩
  rcases h.2 with h2 | ⟨b, cap, cur, h1, h2, h3⟩
  · exact .inl h2
  · exact .inr ⟨b, cap, cur, h1, by omega, h3⟩

/-- The first append: what it leaves. -/
theorem own_first {w w1 : World} {g n : Nat} {v' : Value} {o : Obj} {l : List UInt8} {x : UInt8} {z : Int} (hg : w.heap.size = g) (hz : (x.toNat : Int) = z)
    (hown : w1.ownsRow (w.heap.size + 1) 5 1 v' n (byteCells l ++ [.int .u8 z])) (hgrow : (w.alloc o).grownBy w1 none) :
    w1.ownsRow g 5 1 v' n (byteCells (l ++ [x])) ∧ Below g w w1 := by
  subst hg
  refine ⟨?_, ?_⟩
  · rw [byteCells_cat, byteCells_one, hz]
    exact own_base hown (Nat.le_succ _)
  · exact ((Below.refl w.heap.size w).alloc (Nat.le_refl _) o).grown hgrow (by have := (Below.refl 0 w).alloc (Nat.zero_le _) o; exact this.size) (fun b hb => by cases hb)

/-- How many bytes follow. -/
theorem groups_is (n k : Nat) (w : World) (h : n < 18446744073709551616) (hk : Hid ((gs n).length = k)) :
    Calls Try.prog 14 #[.int .u64 n] w fun e w' => e = .returned (.int .i64 k) ∧ w = w' := by
  have ⟨e, l1, l2⟩ := gs_len h
  rw [hk.out] at e
  have ho : bits .or .u64 (n : Int) 1 = ((n ||| 1 : Nat) : Int) := bits_or_u64_nat n 1 h (by omega)
  have hx : n ||| 1 < 18446744073709551616 := by rw [or_one]; omega
  generalize n ||| 1 = x at *
  obtain ⟨L, hL⟩ : ∃ L, Lib.bitLen x = L := ⟨_, rfl⟩
  have hc := Try.bits_Len64 (x : Int) w (by omega) (by omega)
  rw [Int.toNat_natCast] at hc
  rw [hL] at e l1 l2 hc
  have HC := Lib.hid hc
  clear hc hL
  go_enter Try.func14, Try.ntmps14
  go_wp2_with fail
  refine HC.out.mono ?_
  rintro e' w' ⟨rfl, rfl⟩
  go_wp2_with fail
  go_ret
  exact ⟨congrArg (fun z : Int => Ending.returned (.int .i64 z)) (by omega), rfl⟩

set_option maxHeartbeats 1000000 in
set_option maxRecDepth 100000 in
theorem put_is (a0 : Option Addr) (cap0 : Nat) (l r : List UInt8) (c n : Nat) (b : Int) (w : World) (hl : l.length ≤ 1000000) (hr : RdC w w.heap.size a0 cap0 l) (hc : c < 256) (hn : n < 18446744073709551616) (h3 : -9223372036854775808 ≤ b) (h4 : b ≤ 9223372036854775807) (h : Hid (putL (fullN b) c n = r)) :
    Calls Try.prog 9 #[.slice a0 l.length cap0, .int .u8 c, .int .i64 b, .int .u64 n] w fun e w' => ∃ v, e = .returned v ∧ w'.ownsRow w.heap.size 5 1 v (l.length + r.length) (byteCells (l ++ r)) ∧ Below w.heap.size w w' := by
  have hcap := hr.1
  have hcap2 := hr.2.1
  have R := Lib.hid hr; clear hr
  have hF := fullN_is b
  obtain ⟨f, hf⟩ : ∃ f, fullN b = f := ⟨_, rfl⟩
  have hh := h.out
  rw [hf] at hh hF
  have HF := Lib.hid hf
  have hfb := isF_bd hF
  have hA := andNot_full hF c hc
  have hO := fun m (hm : m ≤ f) => or_first hF c m hc hm
  have hB := (first_mod hF hc (Nat.le_refl f)).2
  unfold putL at hh
  generalize c / (f + 1) * (f + 1) = o at *
  obtain ⟨N, hN⟩ : ∃ N, N = l.length := ⟨_, rfl⟩
  rw [← hN] at hl hcap ⊢
  have HN := Lib.hid hN; clear hN
  clear hf
  have HH := Lib.hid hh; clear hh
  generalize hg : w.heap.size = g at *
  have G := Lib.hid hg; clear hg
  obtain ⟨i0, hi, hz0, hz1, hz2⟩ := info_parts info5
  have HI := Lib.hid hi; clear hi
  have HZ0 := Lib.hid hz0; clear hz0
  have HZ1 := Lib.hid hz1; clear hz1
  have HZ2 := Lib.hid hz2; clear hz2
  by_cases hnf : n < f
  · have hon := hO n (by omega)
    have hyb : o + n < 256 := by omega
    have hr2 := HH.out
    rw [if_pos hnf] at hr2
    subst hr2
    clear hO HH
    generalize o + n = y at *
    rcases a0 with _ | x
    · go_enter Try.func9, Try.ntmps9
      go_wp2_with fail
      refine (full_is b f _ h3 h4 HF).mono ?_
      rintro e w' ⟨rfl, rfl⟩
      go_wp2_with (at_builtin; refine wpList_append_grows _ rfl _ _ 22 rfl 5 i0 (.int .u8 0) 1 1 Try.underlying22 HI.out HZ0.out HZ1.out HZ2.out rfl (by decide) _ N N (byteCells l) rfl ?n1a ?n2a ?n3a ⟨w.heap.size, 0, none⟩ 1 1 [.int .u8 (y : Int)] rfl rfl ?c1a ?c2a ?c3a ?c4a ?c5a ?_)
      case n1a => rw [HN.out, (R.out.2.2.1 rfl).1]; rfl
      case n2a => rw [byteCells_len, ← HN.out]; omega
      case n3a =>
        intro bb hbb j u hj
        have h5 := R.out.2.2.2 _ hbb j u hj
        rw [World.cell?_alloc_lt w _ _ (by rw [add_block, G.out]; exact h5.1)]
        exact h5.2
      case c1a =>
        intro j u hj
        match j, hj with
        | 0, hj => simp at hj; subst hj; simp [Addr.add]
      case c2a => intro u hu; simp at hu; subst hu; rfl
      case c3a => omega
      case c4a => unfold maxLen; omega
      case c5a => omega
      intro v' w1 hown hgrow
      have RS := own_first (x := UInt8.ofNat y) G.out (by rw [nat_of hyb]) hown hgrow
      have R1 := Lib.hid RS.1
      have R2 := RS.2
      clear RS hown hgrow
      go_wp2_with fail
      go_ret
      exact ⟨v', rfl, R1.out, R2⟩
    · go_enter Try.func9, Try.ntmps9
      go_wp2_with fail
      refine (full_is b f _ h3 h4 HF).mono ?_
      rintro e w' ⟨rfl, rfl⟩
      go_wp2_with (at_builtin; refine wpList_append_grows _ rfl _ _ 22 rfl 5 i0 (.int .u8 0) 1 1 Try.underlying22 HI.out HZ0.out HZ1.out HZ2.out rfl (by decide) _ N N (byteCells l) rfl ?n1b ?n2b ?n3b ⟨w.heap.size, 0, none⟩ 1 1 [.int .u8 (y : Int)] rfl rfl ?c1b ?c2b ?c3b ?c4b ?c5b ?_)
      case n1b => first | contradiction | (intro h; cases h)
      case n2b => rw [byteCells_len, ← HN.out]; omega
      case n3b =>
        intro bb hbb j u hj
        have h5 := R.out.2.2.2 _ hbb j u hj
        rw [World.cell?_alloc_lt w _ _ (by rw [add_block, G.out]; exact h5.1)]
        exact h5.2
      case c1b =>
        intro j u hj
        match j, hj with
        | 0, hj => simp at hj; subst hj; simp [Addr.add]
      case c2b => intro u hu; simp at hu; subst hu; rfl
      case c3b => omega
      case c4b => unfold maxLen; omega
      case c5b => omega
      intro v' w1 hown hgrow
      have RS := own_first (x := UInt8.ofNat y) G.out (by rw [nat_of hyb]) hown hgrow
      have R1 := Lib.hid RS.1
      have R2 := RS.2
      clear RS hown hgrow
      go_wp2_with fail
      go_ret
      exact ⟨v', rfl, R1.out, R2⟩
  · have hon := hO f (by omega)
    have hyb : o + f < 256 := by omega
    have hr2 := HH.out
    rw [if_neg hnf] at hr2
    clear hO HH
    generalize o + f = y at *
    obtain ⟨m, rfl⟩ : ∃ m, n = f + m := ⟨n - f, by omega⟩
    rw [Nat.add_sub_cancel_left] at hr2
    have HR2 := Lib.hid hr2
    clear hr2
    have hm : m < 18446744073709551616 := by omega
    have hsub : (f : Int) + (m : Int) - (f : Int) = (m : Int) := by omega
    obtain ⟨k, hk⟩ : ∃ k, (gs m).length = k := ⟨_, rfl⟩
    have hk1 := gs_pos m
    have hk2 := gs_few 9 m (by omega)
    rw [hk] at hk1 hk2
    have HK := Lib.hid hk
    clear hk
    rcases a0 with _ | x
    · go_enter Try.func9, Try.ntmps9
      go_wp2_with fail
      refine (full_is b f _ h3 h4 HF).mono ?_
      rintro e w' ⟨rfl, rfl⟩
      go_wp2_with (at_builtin; refine wpList_append_grows _ rfl _ _ 22 rfl 5 i0 (.int .u8 0) 1 1 Try.underlying22 HI.out HZ0.out HZ1.out HZ2.out rfl (by decide) _ N N (byteCells l) rfl ?n1c ?n2c ?n3c ⟨w.heap.size, 0, none⟩ 1 1 [.int .u8 (y : Int)] rfl rfl ?c1c ?c2c ?c3c ?c4c ?c5c ?_)
      case n1c => rw [HN.out, (R.out.2.2.1 rfl).1]; rfl
      case n2c => rw [byteCells_len, ← HN.out]; omega
      case n3c =>
        intro bb hbb j u hj
        have h5 := R.out.2.2.2 _ hbb j u hj
        rw [World.cell?_alloc_lt w _ _ (by rw [add_block, G.out]; exact h5.1)]
        exact h5.2
      case c1c =>
        intro j u hj
        match j, hj with
        | 0, hj => simp at hj; subst hj; simp [Addr.add]
      case c2c => intro u hu; simp at hu; subst hu; rfl
      case c3c => omega
      case c4c => unfold maxLen; omega
      case c5c => omega
      intro v' w1 hown hgrow
      have RS := own_first (x := UInt8.ofNat y) G.out (by rw [nat_of hyb]) hown hgrow
      have R1 := Lib.hid RS.1
      have R2 := RS.2
      clear RS hown hgrow
      go_wp2_with fail
      refine (groups_is m k _ hm HK).mono ?_
      rintro e w' ⟨rfl, rfl⟩
      go_wp2_with fail
      go_loopw [11, 3, 47] (fun v u i wr => ∃ (j z : Nat) (d : List UInt8), i = .int .i64 j ∧ j + 1 ≤ k ∧ u = .int .u64 z ∧ z ≤ m ∧ d.length = j + 1 ∧ Hid (wr.ownsRow g 5 1 v (N + (j + 1)) (byteCells (l ++ d))) ∧ Hid (d ++ gs z = r) ∧ Hid (j + (gs z).length = k) ∧ Below g w wr) (fun _ _ i _ => k - (intOf i).toNat)
      case atStart => exact ⟨0, m, [UInt8.ofNat y], rfl, by omega, rfl, Nat.le_refl _, rfl, R1, HR2, Lib.hid (by rw [Nat.zero_add]; exact HK.out), R2⟩
      case round =>
        obtain ⟨j, z, d, rfl, hj, rfl, hz, hd, hO, hD, hL, hB⟩ := hrel
        by_cases hlt : j + 1 < k
        · have hz2 : 128 ≤ z := by
            have h6 := hL.out
            rcases Nat.lt_or_ge z 128 with h7 | h7
            · rw [gs_lt h7] at h6
              simp at h6
              omega
            · exact h7
          have hon2 := or_128 z
          have hD2 : Hid ((d ++ [UInt8.ofNat (128 + z % 128)]) ++ gs (z / 128) = r) := by
            have h8 := hD.out
            show _ = _
            rw [gs_ge hz2] at h8
            rw [List.append_assoc]
            exact h8
          have hL2 : Hid (j + 1 + (gs (z / 128)).length = k) := by
            have h8 := hL.out
            show _ = _
            rw [gs_ge hz2, List.length_cons] at h8
            omega
          have hyb2 : 128 + z % 128 < 256 := by omega
          generalize hx2 : 128 + z % 128 = x2 at *
          have hlt' : (j : Int) < (k : Int) - 1 := by omega
          clear hD hL hx2
          go_wp2_with (at_builtin; refine wpList_append_own _ rfl _ _ 22 rfl g 5 i0 (.int .u8 0) 1 1 Try.underlying22 HI.out HZ0.out HZ1.out HZ2.out rfl (by decide) _ _ _ rfl (hO.out.alloc _) ⟨wr.heap.size, 0, none⟩ 1 1 [.int .u8 ((x2 : Nat) : Int)] rfl rfl ?d12c ?d22c ?d32c ?d42c ?d52c ?_)
          case d12c =>
            intro j u hj
            match j, hj with
            | 0, hj => simp at hj; subst hj; simp [Addr.add]
          case d22c => first | rfl | (intro u hu; simp at hu; subst hu; rfl)
          case d32c => unfold maxLen; omega
          case d42c => omega
          case d52c => have := hB.size; have := G.out; simp; omega
          intro v' w1 hown hgrow _
          have RS := own_step (x := UInt8.ofNat x2) hO.out hB G.out (by rw [nat_of hyb2]) hown hgrow
          have R1' := Lib.hid RS.1
          have R2' := RS.2
          clear RS hown hgrow hO hB
          go_wp2_with fail
          go_roundw
          case rel => exact ⟨j + 1, z / 128, d ++ [UInt8.ofNat x2], by go_num, by omega, by go_num, by omega, by rw [List.length_append, hd]; rfl, by rw [← List.append_assoc]; exact R1', hD2, hL2, R2'⟩
          case measure => simp [intOf]; omega
        · have hz2 : z < 128 := gs_one (by have h6 := hL.out; omega)
          have hD2 := hD.out
          have hk3 : k = j + 1 := by omega
          rw [gs_lt hz2] at hD2
          have hlt' : ¬ (j : Int) < (k : Int) - 1 := by omega
          have hmz : (z : Int) % 256 = (z : Int) := by omega
          have HD2 := Lib.hid hD2
          clear hD hL hk3 hD2
          go_wp2_with (at_builtin; refine wpList_append_own _ rfl _ _ 22 rfl g 5 i0 (.int .u8 0) 1 1 Try.underlying22 HI.out HZ0.out HZ1.out HZ2.out rfl (by decide) _ _ _ rfl (hO.out.alloc _) ⟨wr.heap.size, 0, none⟩ 1 1 [.int .u8 ((z : Nat) : Int)] rfl rfl ?d13c ?d23c ?d33c ?d43c ?d53c ?_)
          case d23c => first | rfl | (intro u hu; simp at hu; subst hu; rfl)
          case d33c => unfold maxLen; omega
          case d43c => omega
          case d53c => have := hB.size; have := G.out; simp; omega
          intro v' w1 hown hgrow _
          have RS := own_step (x := UInt8.ofNat z) hO.out hB G.out (by rw [nat_of (by omega)]) hown hgrow
          have R1' := RS.1
          have R2' := RS.2
          rw [List.append_assoc, HD2.out] at R1'
          have hrl : r.length = j + 2 := by rw [← HD2.out, List.length_append, hd]; rfl
          rw [show N + (j + 1) + 1 = N + r.length by omega] at R1'
          have R3 := Lib.hid R1'
          clear RS hown hgrow hO hB R1' hrl
          go_wp2_with fail
          go_ret
          exact ⟨v', rfl, R3.out, R2'⟩
    · go_enter Try.func9, Try.ntmps9
      go_wp2_with fail
      refine (full_is b f _ h3 h4 HF).mono ?_
      rintro e w' ⟨rfl, rfl⟩
      go_wp2_with (at_builtin; refine wpList_append_grows _ rfl _ _ 22 rfl 5 i0 (.int .u8 0) 1 1 Try.underlying22 HI.out HZ0.out HZ1.out HZ2.out rfl (by decide) _ N N (byteCells l) rfl ?n1d ?n2d ?n3d ⟨w.heap.size, 0, none⟩ 1 1 [.int .u8 (y : Int)] rfl rfl ?c1d ?c2d ?c3d ?c4d ?c5d ?_)
      case n1d => first | contradiction | (intro h; cases h)
      case n2d => rw [byteCells_len, ← HN.out]; omega
      case n3d =>
        intro bb hbb j u hj
        have h5 := R.out.2.2.2 _ hbb j u hj
        rw [World.cell?_alloc_lt w _ _ (by rw [add_block, G.out]; exact h5.1)]
        exact h5.2
      case c1d =>
        intro j u hj
        match j, hj with
        | 0, hj => simp at hj; subst hj; simp [Addr.add]
      case c2d => intro u hu; simp at hu; subst hu; rfl
      case c3d => omega
      case c4d => unfold maxLen; omega
      case c5d => omega
      intro v' w1 hown hgrow
      have RS := own_first (x := UInt8.ofNat y) G.out (by rw [nat_of hyb]) hown hgrow
      have R1 := Lib.hid RS.1
      have R2 := RS.2
      clear RS hown hgrow
      go_wp2_with fail
      refine (groups_is m k _ hm HK).mono ?_
      rintro e w' ⟨rfl, rfl⟩
      go_wp2_with fail
      go_loopw [11, 3, 47] (fun v u i wr => ∃ (j z : Nat) (d : List UInt8), i = .int .i64 j ∧ j + 1 ≤ k ∧ u = .int .u64 z ∧ z ≤ m ∧ d.length = j + 1 ∧ Hid (wr.ownsRow g 5 1 v (N + (j + 1)) (byteCells (l ++ d))) ∧ Hid (d ++ gs z = r) ∧ Hid (j + (gs z).length = k) ∧ Below g w wr) (fun _ _ i _ => k - (intOf i).toNat)
      case atStart => exact ⟨0, m, [UInt8.ofNat y], rfl, by omega, rfl, Nat.le_refl _, rfl, R1, HR2, Lib.hid (by rw [Nat.zero_add]; exact HK.out), R2⟩
      case round =>
        obtain ⟨j, z, d, rfl, hj, rfl, hz, hd, hO, hD, hL, hB⟩ := hrel
        by_cases hlt : j + 1 < k
        · have hz2 : 128 ≤ z := by
            have h6 := hL.out
            rcases Nat.lt_or_ge z 128 with h7 | h7
            · rw [gs_lt h7] at h6
              simp at h6
              omega
            · exact h7
          have hon2 := or_128 z
          have hD2 : Hid ((d ++ [UInt8.ofNat (128 + z % 128)]) ++ gs (z / 128) = r) := by
            have h8 := hD.out
            show _ = _
            rw [gs_ge hz2] at h8
            rw [List.append_assoc]
            exact h8
          have hL2 : Hid (j + 1 + (gs (z / 128)).length = k) := by
            have h8 := hL.out
            show _ = _
            rw [gs_ge hz2, List.length_cons] at h8
            omega
          have hyb2 : 128 + z % 128 < 256 := by omega
          generalize hx2 : 128 + z % 128 = x2 at *
          have hlt' : (j : Int) < (k : Int) - 1 := by omega
          clear hD hL hx2
          go_wp2_with (at_builtin; refine wpList_append_own _ rfl _ _ 22 rfl g 5 i0 (.int .u8 0) 1 1 Try.underlying22 HI.out HZ0.out HZ1.out HZ2.out rfl (by decide) _ _ _ rfl (hO.out.alloc _) ⟨wr.heap.size, 0, none⟩ 1 1 [.int .u8 ((x2 : Nat) : Int)] rfl rfl ?d12d ?d22d ?d32d ?d42d ?d52d ?_)
          case d12d =>
            intro j u hj
            match j, hj with
            | 0, hj => simp at hj; subst hj; simp [Addr.add]
          case d22d => first | rfl | (intro u hu; simp at hu; subst hu; rfl)
          case d32d => unfold maxLen; omega
          case d42d => omega
          case d52d => have := hB.size; have := G.out; simp; omega
          intro v' w1 hown hgrow _
          have RS := own_step (x := UInt8.ofNat x2) hO.out hB G.out (by rw [nat_of hyb2]) hown hgrow
          have R1' := Lib.hid RS.1
          have R2' := RS.2
          clear RS hown hgrow hO hB
          go_wp2_with fail
          go_roundw
          case rel => exact ⟨j + 1, z / 128, d ++ [UInt8.ofNat x2], by go_num, by omega, by go_num, by omega, by rw [List.length_append, hd]; rfl, by rw [← List.append_assoc]; exact R1', hD2, hL2, R2'⟩
          case measure => simp [intOf]; omega
        · have hz2 : z < 128 := gs_one (by have h6 := hL.out; omega)
          have hD2 := hD.out
          have hk3 : k = j + 1 := by omega
          rw [gs_lt hz2] at hD2
          have hlt' : ¬ (j : Int) < (k : Int) - 1 := by omega
          have hmz : (z : Int) % 256 = (z : Int) := by omega
          have HD2 := Lib.hid hD2
          clear hD hL hk3 hD2
          go_wp2_with (at_builtin; refine wpList_append_own _ rfl _ _ 22 rfl g 5 i0 (.int .u8 0) 1 1 Try.underlying22 HI.out HZ0.out HZ1.out HZ2.out rfl (by decide) _ _ _ rfl (hO.out.alloc _) ⟨wr.heap.size, 0, none⟩ 1 1 [.int .u8 ((z : Nat) : Int)] rfl rfl ?d13d ?d23d ?d33d ?d43d ?d53d ?_)
          case d23d => first | rfl | (intro u hu; simp at hu; subst hu; rfl)
          case d33d => unfold maxLen; omega
          case d43d => omega
          case d53d => have := hB.size; have := G.out; simp; omega
          intro v' w1 hown hgrow _
          have RS := own_step (x := UInt8.ofNat z) hO.out hB G.out (by rw [nat_of (by omega)]) hown hgrow
          have R1' := RS.1
          have R2' := RS.2
          rw [List.append_assoc, HD2.out] at R1'
          have hrl : r.length = j + 2 := by rw [← HD2.out, List.length_append, hd]; rfl
          rw [show N + (j + 1) + 1 = N + r.length by omega] at R1'
          have R3 := Lib.hid R1'
          clear RS hown hgrow hO hB R1' hrl
          go_wp2_with fail
          go_ret
          exact ⟨v', rfl, R3.out, R2'⟩
end Go.Proofs.Ytfkdkkbmcbmdjaa
