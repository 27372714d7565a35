/- The contracts of name's Fold, Same and Under (and of slices.EqualFunc as it calls it), and of the document's Fold, Same and Under. For texts of at most 10^6 bytes. -/
import Derived.Test.YtepbpaaielfpnaaProg
import Derived.Test.YtepbpaaielfpnaaBytes
import Derived.Test.YtepbpaaielfpnaaLow
import Derived.Test.YtepbpaaielfpnaaLowFold
import Derived.Test.YtepbpaaielfpnaaLowSame
import Derived.Test.YtepbpaaielfpnaaStrs
import Derived.Test.YtepbpaaielfpnaaNameMath
import Derived.Test.YtepbpaaielfpnaaNameLabels
import Derived.Test.YtepbpaaielfpnaaNameRefLabels
import Derived.Test.YtepbpaaielfpnaaNameMake
import Derived.Test.YtepbpaaielfpnaaNameRefMake
import Derived.WalkKit
import Derived.Lib.Hide
import Derived.Outline
import Derived.IntWalk
import Derived.WalkSpells
import Derived.WalkLawsBesides
import Derived.Deep.RegionHeld3
import Derived.Deep.DeepCutAuto
import Derived.Deep.Draws
namespace Go.Proofs.Ytepbpaaielfpnaa
open Go.RowKit Bytes Low Strs NameMath

theorem nameFold_is (s t : ByteArray) (w : World) (hs : s.size ≤ 1000000) (h : Hid (mk (foldN s.data.toList) = t)) :
    Calls Try.prog 16 #[.string s] w fun e w' => e = .returned (.string t) ∧ Below w.heap.size w w' := by
  cases hN : isN s.data.toList with
  | true =>
    have ht : foldS s = t := by rw [← h.out, foldN_yes hN]; rfl
    have HF := Lib.hid (fun w => fold_any s w (by omega))
    rw [ht] at HF
    have HN := Lib.hid hN
    clear h hN ht
    go_enter Try.func16, Try.ntmps16
    go_wp2_with fail
    refine (is_is s true _ hs HN).mono ?_
    rintro e w' ⟨rfl, rfl⟩
    go_wp2_with fail
    refine (HF.out _).mono ?_
    rintro e w1 ⟨rfl, hB⟩
    go_wp2_with fail
    go_ret
    exact ⟨rfl, hB⟩
  | false =>
    obtain rfl : ⟨#[]⟩ = t := by rw [← h.out, foldN_no hN]; rfl
    have HN := Lib.hid hN
    clear h hN
    go_enter Try.func16, Try.ntmps16
    go_wp2_with fail
    refine (is_is s false _ hs HN).mono ?_
    rintro e w' ⟨rfl, rfl⟩
    go_wp2_with fail
    go_ret
    exact ⟨rfl, Below.refl _ _⟩

set_option maxHeartbeats 2000000 in
set_option maxRecDepth 100000 in
theorem refFolded_any (A : Option Addr) (c n : Nat) (L : List (List UInt8)) (w : World) (hr : RdS w w.heap.size A L) (hn0 : Hid (L.length = n)) (hn : n ≤ 1000000) (hl : ∀ k, (L.getD k []).length ≤ 1000000) :
    Calls Try.prog 30 #[.slice A n c] w (RetStrs w (lowLs L)) := by
  have HR := Lib.hid hr; clear hr
  have HL := Lib.hid hl; clear hl
  obtain ⟨i0, hi, hz0, hz1, hz2⟩ := info_parts info9
  have HI := Lib.hid hi; clear hi
  have HZ0 := Lib.hid hz0; clear hz0
  have HZ1 := Lib.hid hz1; clear hz1
  have HZ2 := Lib.hid hz2; clear hz2
  generalize hg : w.heap.size = g at *
  have G := Lib.hid hg; clear hg
  go_enter Try.func30, Try.ntmps30
  go_wp2_with fail
  go_loopw [3, 4] (fun v i wr => ∃ k : Nat, k ≤ n ∧ i = .int .i64 k ∧ Hid (wr.ownsRow g 9 1 v k (strCs (lowLs (L.take k)))) ∧ Below g w wr) (fun _ i _ => n - (intOf i).toNat)
  case atStart => exact ⟨0, Nat.zero_le _, rfl, Lib.hid (World.ownsRow_nil _ _ _ _), Below.refl _ _⟩
  case round =>
    obtain ⟨k, hk, rfl, hO, hB⟩ := hrel
    by_cases hlt : k < n
    · have hkl : k < L.length := by rw [hn0.out]; exact hlt
      obtain ⟨a, rfl, hab, hcell⟩ := (HR.out.on hB (Nat.le_refl _)).get hkl
      have hlen := HL.out k
      have htk := lab_take hkl
      generalize L.getD k [] = l at *
      have hF := Lib.hid (fun w => refFold_any (mk l) w (by rw [mk_size]; omega))
      have hfs : foldS (mk l) = mk (lowL l) := rfl
      rw [hfs] at hF
      have HTK := Lib.hid (show strCs (lowLs (L.take (k + 1))) = strCs (lowLs (L.take k) ++ [lowL l]) by rw [htk]; unfold lowLs; rw [List.map_append]; rfl)
      have hml := Lib.hid (mk_list (lowL l))
      generalize mk (lowL l) = y at *
      generalize mk l = x at *
      clear htk hkl hlen hfs
      go_wp2_with fail
      refine (hF.out _).mono ?_
      rintro e w1 ⟨rfl, hB1⟩
      have HO1 := Lib.hid (own_below hO.out hB1)
      have hBB := hB.trans (hB1.mono (by have := hB.size; have := G.out; omega))
      clear hO hB hB1 hcell
      go_wp2_with (at_builtin; refine wpList_append_own _ rfl _ _ 22 rfl g 9 i0 (.string ⟨#[]⟩) 1 16 Try.underlying22 HI.out HZ0.out HZ1.out HZ2.out rfl (by decide) _ _ _ rfl (HO1.out.alloc _) ⟨w1.heap.size, 0, none⟩ 1 1 [.string y] rfl rfl ?c1 ?c2 ?c3 ?c4 ?c5 ?_)
      case c1 =>
        intro j u hj
        match j, hj with
        | 0, hj => simp at hj; subst hj; simp [Addr.add]
      case c2 => intro u hu; simp at hu; subst hu; rfl
      case c3 => unfold maxLen; omega
      case c4 => omega
      case c5 => have := hBB.size; have := G.out; simp; omega
      intro v' w2 hown hgrow _
      have RS := own_str (x := y) HO1.out hBB G.out hown hgrow
      rw [hml.out, ← HTK.out] at RS
      have R1 := Lib.hid RS.1
      have R2 := RS.2
      clear RS hown hgrow HO1 hBB
      go_wp2_with fail
      go_roundw
      case rel => exact ⟨k + 1, by omega, by go_num, R1, R2⟩
      case measure => simp [intOf]; omega
    · have hkn : k = n := by omega
      have hO1 := hO.out
      rw [List.take_of_length_le (by rw [hn0.out]; omega), hkn] at hO1
      have HO1 := Lib.hid hO1
      clear hO hO1 hkn
      go_wp2_with fail
      go_ret
      exact ⟨_, rfl, by rw [G.out, lowLs_len, hn0.out]; exact HO1.out, by rw [G.out]; exact hB⟩

theorem lab_small {s : ByteArray} {L : List (List UInt8)} (h : labels s.data.toList = some L) : L.length ≤ 255 ∧ ∀ k, (L.getD k []).length ≤ 1000000 := by
  obtain ⟨h1, h2, h3⟩ := labels_some h
  have hc := lbs_count (labels_lbs h)
  refine ⟨by omega, fun k => ?_⟩
  rcases Nat.lt_or_ge k L.length with hk | hk
  · have := okLab_iff.1 (List.all_eq_true.1 h2 (L.getD k []) (by rw [List.getD_eq_getElem?_getD, List.getElem?_eq_getElem hk]; exact List.getElem_mem hk))
    omega
  · rw [List.getD_eq_getElem?_getD, List.getElem?_eq_none hk]
    exact Nat.zero_le _

set_option maxHeartbeats 2000000 in
theorem refNameFold_is (s t : ByteArray) (w : World) (hs : s.size ≤ 1000000) (h : Hid (mk (foldN s.data.toList) = t)) :
    Calls Try.prog 17 #[.string s] w fun e w' => e = .returned (.string t) ∧ Below w.heap.size w w' := by
  cases hN : isN s.data.toList with
  | true =>
    obtain ⟨L, hL⟩ := isN_some hN
    have hft := fold_make hL
    have ht : mk (makeL (lowLs L)) = t := by rw [hft, ← h.out, foldN_yes hN]
    obtain ⟨hc, hl⟩ := lab_small hL
    have HLL := Lib.hid hl
    have HLow := Lib.hid (fun A c w hr => refMake_any A c (lowLs L) w hr (by rw [lowLs_len]; omega))
    rw [ht] at HLow
    have HL := Lib.hid hL
    clear h hN ht hft hl hL
    go_enter Try.func17, Try.ntmps17
    go_wp2_with fail
    refine (refLabels_yes s L _ hs HL).mono ?_
    rintro e w1 ⟨v, rfl, hO, hB⟩
    obtain ⟨A, c, rfl, _, hr, _⟩ := own_rds hO rfl
    have hb1 := hB.size
    clear hO
    go_wp2_with fail
    refine (refFolded_any A c L.length L _ hr (Lib.hid rfl) (by omega) HLL.out).mono ?_
    rintro e w2 ⟨v2, rfl, hO2, hB2⟩
    obtain ⟨A2, c2, rfl, _, hr2, _⟩ := own_rds hO2 rfl
    have hB3 := hB.trans (hB2.mono hb1)
    have hb3 := hB3.size
    clear hO2 hB2 hr hB hb1
    go_wp2_with fail
    refine (HLow.out A2 c2 _ hr2).mono ?_
    rintro e w3 ⟨rfl, hB4⟩
    go_wp2_with fail
    go_ret
    exact ⟨rfl, hB3.trans (hB4.mono hb3)⟩
  | false =>
    obtain rfl : ⟨#[]⟩ = t := by rw [← h.out, foldN_no hN]; rfl
    have HN := Lib.hid hN
    clear h hN
    go_enter Try.func17, Try.ntmps17
    go_wp2_with fail
    refine (refLabels_no s _ hs HN).mono ?_
    rintro e w1 ⟨v, rfl, hB⟩
    go_wp2_with fail
    go_ret
    exact ⟨rfl, hB⟩
end Go.Proofs.Ytepbpaaielfpnaa
