/- The contract of the document's Put: a text with an integer behind it. For texts of at most 10^6 bytes. -/
import Derived.Test.YtfkdkkbmcbmdjaaProg
import Derived.Test.YtfkdkkbmcbmdjaaBytes
import Derived.Test.YtfkdkkbmcbmdjaaPfMath
import Derived.Test.YtfkdkkbmcbmdjaaPfFull
import Derived.WalkKit
import Derived.Lib.Hide
import Derived.Outline
import Derived.IntWalk
import Derived.WalkSpells
import Derived.WalkLawsBesides
namespace Go.Proofs.Ytfkdkkbmcbmdjaa
open Go.RowKit Bytes Pf

set_option maxHeartbeats 1000000 in
set_option maxRecDepth 100000 in
theorem refPut_is (s : ByteArray) (r : List UInt8) (c n : Nat) (b : Int) (w : World) (hs : s.size ≤ 1000000) (hc : c < 256) (hn : n < 18446744073709551616) (h3 : -9223372036854775808 ≤ b) (h4 : b ≤ 9223372036854775807) (h : Hid (putL (fullN b) c n = r)) :
    Calls Try.prog 10 #[.string s, .int .u8 c, .int .i64 b, .int .u64 n] w fun e w' => e = .returned (.string (mk (s.data.toList ++ r))) ∧ Below w.heap.size w w' := by
  have hF := fullN_is b
  obtain ⟨f, hf⟩ : ∃ f, fullN b = f := ⟨_, rfl⟩
  have hh := h.out
  rw [hf] at hh hF
  have HF := Lib.hid hf
  have hfb := isF_bd hF
  have hB := (first_mod hF hc (Nat.le_refl f)).2
  unfold putL at hh
  obtain ⟨q, hq⟩ : ∃ q, c / (f + 1) = q := ⟨_, rfl⟩
  have hq2 : (c : Int) / ((f : Int) + 1) = (q : Int) := by rw [← hq, Int.natCast_ediv, Int.natCast_add]; rfl
  rw [hq] at hh hB
  obtain ⟨o, ho⟩ : ∃ o, q * (f + 1) = o := ⟨_, rfl⟩
  have ho2 : (q : Int) * ((f : Int) + 1) = (o : Int) := by rw [← ho, Int.natCast_mul, Int.natCast_add]; rfl
  rw [ho] at hh hB
  have hqb : q < 256 := by rw [← hq]; exact Nat.lt_of_le_of_lt (Nat.div_le_self _ _) hc
  clear hq ho hf
  have HH := Lib.hid hh; clear hh
  generalize hg : w.heap.size = g at *
  have G := Lib.hid hg; clear hg
  have hwc : IntKind.u64.wrap (c : Int) = (c : Int) := by rw [IntKind.wrap_u64]; omega
  have hwq : IntKind.u64.wrap (q : Int) = (q : Int) := by rw [IntKind.wrap_u64]; omega
  have hwo : IntKind.u64.wrap (o : Int) = (o : Int) := by rw [IntKind.wrap_u64]; omega
  have hrl := putL_few (fullN b) c n hn
  rw [h.out] at hrl
  by_cases hnf : n < f
  · have hr2 := HH.out
    rw [if_pos hnf] at hr2
    have hon : o + n < 256 := by omega
    have hc2 : (convert 22 9 (.slice (some ⟨w.heap.size, 0, none⟩) 1 1)).run Try.prog (w.alloc (.cells #[.int .u8 ((o : Int) + (n : Int))] 5)) = .ok (.string (mk [UInt8.ofNat (o + n)])) (w.alloc (.cells #[.int .u8 ((o : Int) + (n : Int))] 5)) := conv_new w [UInt8.ofNat (o + n)] _ 1 (by show _ = [Value.int .u8 ((UInt8.ofNat (o + n)).toNat : Int)]; rw [nat_of hon]; rfl) rfl
    rw [hr2] at hc2
    have hq0 := mk_size r
    have hcat : mk (s.data.toList ++ r) = s ++ mk r := by rw [← mk_cat, mk_data]
    rw [hcat]
    generalize mk r = t at *
    have ht : t.size ≤ 11 := by omega
    clear HH hr2 hcat hq0
    go_enter Try.func10, Try.ntmps10
    go_wp2_with fail
    refine (refFull_is b f _ h3 h4 HF).mono ?_
    rintro e w' ⟨rfl, rfl⟩
    go_wp2_with fail
    go_ret
    exact ⟨rfl, (Below.refl _ _).alloc (by have := G.out; omega) _⟩
  · have hr2 := HH.out
    rw [if_neg hnf] at hr2
    have hon : o + f < 256 := by omega
    have hc2 : (convert 22 9 (.slice (some ⟨w.heap.size, 0, none⟩) 1 1)).run Try.prog (w.alloc (.cells #[.int .u8 ((o : Int) + (f : Int))] 5)) = .ok (.string (mk [UInt8.ofNat (o + f)])) (w.alloc (.cells #[.int .u8 ((o : Int) + (f : Int))] 5)) := conv_new w [UInt8.ofNat (o + f)] _ 1 (by show _ = [Value.int .u8 ((UInt8.ofNat (o + f)).toNat : Int)]; rw [nat_of hon]; rfl) rfl
    obtain ⟨m, rfl⟩ : ∃ m, n = f + m := ⟨n - f, by omega⟩
    rw [Nat.add_sub_cancel_left] at hr2
    have hm : m < 18446744073709551616 := by omega
    have hsub : (f : Int) + (m : Int) - (f : Int) = (m : Int) := by omega
    have hq0 := mk_size [UInt8.ofNat (o + f)]
    have hD : Hid ((s ++ mk [UInt8.ofNat (o + f)]).data.toList ++ gs m = s.data.toList ++ r) := by
      show _ = _
      rw [cat_list, mk_list, List.append_assoc, List.singleton_append, hr2]
    generalize mk [UInt8.ofNat (o + f)] = t at *
    have ht : t.size ≤ 1 := by rw [hq0]; exact Nat.le_refl _
    obtain ⟨R0, hR0⟩ : ∃ R0, mk (s.data.toList ++ r) = R0 := ⟨_, rfl⟩
    rw [hR0]
    have HR0 := Lib.hid hR0
    clear HH hr2 hq0 hR0
    go_enter Try.func10, Try.ntmps10
    go_wp2_with fail
    refine (refFull_is b f _ h3 h4 HF).mono ?_
    rintro e w' ⟨rfl, rfl⟩
    go_wp2_with fail
    go_loopw [0, 3] (fun v u wr => ∃ (z : Nat) (T : ByteArray), u = .int .u64 z ∧ z ≤ m ∧ v = .string T ∧ Hid (T.data.toList ++ gs z = s.data.toList ++ r) ∧ Below g w wr) (fun _ u _ => (intOf u).toNat)
    case atStart => exact ⟨m, _, rfl, Nat.le_refl _, rfl, hD, (Below.refl _ _).alloc (by have := G.out; omega) _⟩
    case round =>
      obtain ⟨z, T, rfl, hz, rfl, hT, hBw⟩ := hrel
      have hTl := congrArg List.length hT.out
      rw [List.length_append, List.length_append, ← Lib.size_eq, ← Lib.size_eq] at hTl
      have hTs : T.size ≤ 1000011 := by omega
      clear hTl
      have hgr : g ≤ wr.heap.size := by have := hBw.size; have := G.out; omega
      by_cases hz2 : 127 < z
      · have hyb : 128 + z % 128 < 256 := by omega
        have hc3 : (convert 22 9 (.slice (some ⟨wr.heap.size, 0, none⟩) 1 1)).run Try.prog (wr.alloc (.cells #[.int .u8 (128 + (z : Int) % 128)] 5)) = .ok (.string (mk [UInt8.ofNat (128 + z % 128)])) (wr.alloc (.cells #[.int .u8 (128 + (z : Int) % 128)] 5)) := conv_new wr [UInt8.ofNat (128 + z % 128)] _ 1 (by show _ = [Value.int .u8 ((UInt8.ofNat (128 + z % 128)).toNat : Int)]; rw [nat_of hyb]; rfl) rfl
        have hq0 := mk_size [UInt8.ofNat (128 + z % 128)]
        have hT2 : Hid ((T ++ mk [UInt8.ofNat (128 + z % 128)]).data.toList ++ gs (z / 128) = s.data.toList ++ r) := by
          show _ = _
          rw [cat_list, mk_list, List.append_assoc, List.singleton_append, ← gs_ge (by omega), hT.out]
        generalize mk [UInt8.ofNat (128 + z % 128)] = t2 at *
        have ht2 : t2.size ≤ 1 := by rw [hq0]; exact Nat.le_refl _
        clear hq0 hT
        go_wp2_with fail
        go_roundw
        case rel => exact ⟨z / 128, _, by go_num, by omega, rfl, hT2, hBw.alloc hgr _⟩
        case measure => simp [intOf]; omega
      · have hzb : z < 128 := by omega
        have hc3 : (convert 22 9 (.slice (some ⟨wr.heap.size, 0, none⟩) 1 1)).run Try.prog (wr.alloc (.cells #[.int .u8 (z : Int)] 5)) = .ok (.string (mk [UInt8.ofNat z])) (wr.alloc (.cells #[.int .u8 (z : Int)] 5)) := conv_new wr [UInt8.ofNat z] _ 1 (by show _ = [Value.int .u8 ((UInt8.ofNat z).toNat : Int)]; rw [nat_of (by omega)]) rfl
        have hq0 := mk_size [UInt8.ofNat z]
        have hE : R0 = T ++ mk [UInt8.ofNat z] := by
          apply list_inj
          rw [cat_list, mk_list, ← gs_lt hzb, hT.out, ← HR0.out, mk_list]
        have HE := Lib.hid hE
        generalize mk [UInt8.ofNat z] = t2 at *
        have ht2 : t2.size ≤ 1 := by rw [hq0]; exact Nat.le_refl _
        clear hq0 hT hE
        go_wp2_with fail
        go_ret
        exact ⟨by rw [HE.out]; rfl, hBw.alloc hgr _⟩
end Go.Proofs.Ytfkdkkbmcbmdjaa
