/- The contracts of text's Media and of the document's. For texts of fewer than 2^32 - 15 bytes; what internal/bytealg.MaxLen holds is free. -/
import Derived.Test.YtpbbeeggblmneaaDoorProg
import Derived.Test.YtpbbeeggblmneaaDoorTextMath
import Derived.Test.YtpbbeeggblmneaaDoorTextBytes
import Derived.Test.YtpbbeeggblmneaaDoorTextFold
import Derived.Test.YtpbbeeggblmneaaDoorTextSame
import Derived.Test.YtpbbeeggblmneaaDoorTextValue
import Derived.Test.YtpbbeeggblmneaaDoorShelf
import Derived.WalkKit
import Derived.Lib.Hide
import Derived.Outline
import Derived.IntWalk
import Derived.WalkSpells
import Derived.WalkLawsBesides
import Derived.Deep.Draws
import Derived.Deep.CutBlock
import Derived.Deep.DeepCutAuto
namespace Go.Proofs.YtpbbeeggblmneaaDoor
open Go.RowKit TextMath

theorem kindL_len (l : List UInt8) : (kindL l).length ≤ l.length := (List.takeWhile_prefix _).length_le
theorem trimL_len (l : List UInt8) : (trimL l).length ≤ l.length := by
  unfold trimL Lib.trimS Lib.trimLeftS Lib.trimRightS
  have h1 := (List.dropWhile_suffix (l := (l.reverse.dropWhile (blanks.contains ·)).reverse) (blanks.contains ·)).length_le
  have h2 := (List.dropWhile_suffix (l := l.reverse) (blanks.contains ·)).length_le
  rw [List.length_reverse] at h1 h2
  omega

theorem cut_is (B : Nat) (s k : ByteArray) (h : Hid (mk (kindL s.data.toList) = k)) (w : World) (hS : Std B w) (hs : s.size < 4294967281) :
    Calls Tryd.prog 29 #[.string s, .string ⟨#[59]⟩] w fun e w' => ∃ a b, e = .returned (.tuple #[.string k, .string a, .bool b]) ∧ Below w.heap.size w w' := by
  obtain ⟨m, hm⟩ := hS.len
  refine (Tryd.strings_Cut s ⟨#[59]⟩ m w hs hm).mono ?_
  rintro e w' ⟨rfl, n, rfl⟩
  refine ⟨mk (Lib.cut s.data.toList [59]).2.1, (Lib.cut s.data.toList [59]).2.2, ?_, below_drewN (Below.refl _ _) n⟩
  have e : mk (Lib.cut s.data.toList [59]).1 = k := by rw [cut_semi, h.out]
  rw [← e]
  rfl

set_option maxHeartbeats 1000000 in
theorem media_any (B : Nat) (s : ByteArray) (w : World) (hS : Std B w) (hs : s.size < 4294967281) :
    Calls Tryd.prog 16 #[.string s] w fun e w' => e = .returned (.string (mediaS s)) ∧ Below w.heap.size w w' := by
  obtain ⟨r, hr⟩ : ∃ r, r = mediaS s := ⟨_, rfl⟩
  rw [← hr]
  obtain ⟨k, hk⟩ : ∃ k, mk (kindL s.data.toList) = k := ⟨_, rfl⟩
  obtain ⟨t, ht⟩ : ∃ t, mk (trimL k.data.toList) = t := ⟨_, rfl⟩
  have hks : k.size ≤ s.size := by rw [← hk, mk_size, Lib.size_eq s]; exact kindL_len _
  have hts : t.size ≤ k.size := by rw [← ht, mk_size, Lib.size_eq k]; exact trimL_len _
  have hrt : foldS t = r := by rw [hr, ← ht, ← hk]; rfl
  have HR := Lib.hid hrt
  have HK := Lib.hid hk
  have HT := Lib.hid ht
  clear hr hk ht hrt
  have HS := Lib.hid hS
  clear hS
  go_enter Tryd.func16, Tryd.ntmps16
  go_wp2_with fail
  refine (cut_is B s k HK _ HS.out hs).mono ?_
  rintro e w1 ⟨a, b, rfl, hB1⟩
  go_wp2_with fail
  refine (trim_is k t HT _ (by omega)).mono ?_
  rintro e w2 ⟨rfl, hB2⟩
  go_wp2_with fail
  refine (fold_any t _ (by omega)).mono ?_
  rintro e w3 ⟨rfl, hB3⟩
  rw [HR.out]
  go_wp2_with fail
  go_ret
  exact ⟨rfl, (hB1.trans (hB2.mono hB1.size)).trans (hB3.mono (Nat.le_trans hB1.size hB2.size))⟩

theorem getD_some {s : ByteArray} {j : Nat} {c : UInt8} (h : s.data.toList[j]? = some c) : j < s.size ∧ s.data.toList.getD j 0 = c := by
  have hj : j < s.data.toList.length := by
    rcases Nat.lt_or_ge j s.data.toList.length with h' | h'
    · exact h'
    · rw [List.getElem?_eq_none h'] at h; cases h
  refine ⟨by rw [Lib.size_eq]; exact hj, ?_⟩
  rw [List.getD_eq_getElem?_getD, h]
  rfl
/-- The document's three searches end where the text's own type of media begins and ends. -/
theorem ref_media {s : ByteArray} {k f e : Nat} (hk : k ≤ s.size) (h1 : ∀ j, j < k → s.data.toList.getD j 0 ≠ 59) (h2 : k = s.size ∨ s.data.toList.getD k 0 = 59)
    (hfe : f ≤ e) (he : e ≤ k) (h3 : ∀ j, j < f → blankB (s.data.toList.getD j 0) = true) (h4 : f = k ∨ blankB (s.data.toList.getD f 0) = false)
    (h5 : ∀ j, e ≤ j → j < k → blankB (s.data.toList.getD j 0) = true) (h6 : e = f ∨ blankB (s.data.toList.getD (e - 1) 0) = false) : foldS (s.extract f e) = mediaS s := by
  have hK : kindL s.data.toList = s.data.toList.take k := by
    refine kindL_of (by rw [← Lib.size_eq]; exact hk) (fun j c hj hc => ?_) (fun c hc => ?_)
    · rw [← (getD_some hc).2]; exact h1 j hj
    · obtain ⟨hlt, e⟩ := getD_some hc
      rcases h2 with h2 | h2
      · omega
      · rw [← e, h2]
  have hl : s.data.toList.length = s.size := by rw [Lib.size_eq]
  have tk : ∀ j c, (s.data.toList.take k)[j]? = some c → j < k ∧ s.data.toList.getD j 0 = c := fun j c hc => by
    have hj : j < k := by
      rcases Nat.lt_or_ge j k with h' | h'
      · exact h'
      · rw [List.getElem?_eq_none (by rw [List.length_take]; omega)] at hc; cases hc
    rw [List.getElem?_take_of_lt hj] at hc
    exact ⟨hj, (getD_some hc).2⟩
  have hT := trimL_of (l := s.data.toList.take k) (f := f) (e := e) hfe (by rw [List.length_take]; omega)
    (fun j c hj hc => by rw [← (tk j c hc).2]; exact h3 j hj)
    (fun j c hj hc => by rw [← (tk j c hc).2]; exact h5 j hj (tk j c hc).1)
    (by
      rcases h4 with h4 | h4
      · left; rw [List.length_take]; omega
      · right; intro c hc; rw [← (tk f c hc).2]; exact h4)
    (by
      rcases h6 with h6 | h6
      · left; exact h6
      · right; intro c hc; rw [← (tk (e - 1) c hc).2]; exact h6)
  unfold mediaS foldS
  rw [hK, hT, Lib.extract_data, List.take_take, Nat.min_eq_left he, List.drop_take]

set_option maxHeartbeats 2000000 in
set_option maxRecDepth 100000 in
theorem refMedia_any (s : ByteArray) (w : World) (hs : s.size ≤ 140737488351232) :
    Calls Tryd.prog 17 #[.string s] w fun e w' => e = .returned (.string (mediaS s)) ∧ Below w.heap.size w w' := by
  obtain ⟨r, hr⟩ : ∃ r, r = mediaS s := ⟨_, rfl⟩
  rw [← hr]
  have R := Lib.hid hr; clear hr
  go_enter Tryd.func17, Tryd.ntmps17
  go_upto_block 0 with fail
  go_cut [3] from 5 to 16 (fun i wx => ∃ k : Nat, i = .int .i64 k ∧ k ≤ s.size ∧ Hid (∀ j, j < k → s.data.toList.getD j 0 ≠ 59) ∧ Hid (k = s.size ∨ s.data.toList.getD k 0 = 59) ∧ w = wx)
  case first =>
    go_wp2_with fail
    go_loop [3] (fun i => ∃ k : Nat, k ≤ s.size ∧ i = .int .i64 k ∧ Hid (∀ j, j < k → s.data.toList.getD j 0 ≠ 59)) (fun i => s.size - (intOf i).toNat)
    case atStart => exact ⟨0, Nat.zero_le _, rfl, Lib.hid (fun j hj => absurd hj (Nat.not_lt_zero _))⟩
    case round =>
      obtain ⟨k, hk, rfl, hR⟩ := hrel
      by_cases hlt : k < s.size
      · have hx0 := getD_byte hlt
        generalize hx1 : s.data.toList.getD k 0 = x at hx0
        have hx : s[k]'hlt = x := hx0.symm
        have HX := Lib.hid hx1
        clear hx0 hx1
        by_cases h9 : x.toNat = 59
        · have f9 : ((x.toNat : Int) != 59) = false := by rw [h9]; rfl
          have hx59 : x = 59 := UInt8.toNat_inj.1 h9
          have hE : Hid (k = s.size ∨ s.data.toList.getD k 0 = 59) := .inr (by rw [HX.out, hx59])
          clear h9 hx59
          go_wp2_with fail
          go_meet
          exact ⟨k, rfl, hk, hR, hE, rfl⟩
        · have f9 : ((x.toNat : Int) != 59) = true := bne_iff_ne.2 (by omega)
          have hR' : Hid (∀ j, j < k + 1 → s.data.toList.getD j 0 ≠ 59) := fun j hj => by
            rcases Nat.lt_or_ge j k with h | h
            · exact hR.out j h
            · have e : j = k := by omega
              subst e
              rw [HX.out]
              intro e; apply h9; rw [e]; rfl
          go_wp2_with fail
          go_round
          case rel => exact ⟨k + 1, by omega, by go_num, hR'⟩
          case measure => simp [intOf]; omega
      · have hE : Hid (k = s.size ∨ s.data.toList.getD k 0 = 59) := .inl (by omega)
        go_wp2_with fail
        go_meet
        exact ⟨k, rfl, hk, hR, hE, rfl⟩
  case rest =>
    obtain ⟨k, rfl, hk, hK1, hK2, rfl⟩ := hcut
    go_upto_block 2 with fail
    go_cut [4] from 17 to 27 (fun i wx => ∃ f : Nat, i = .int .i64 f ∧ f ≤ k ∧ Hid (∀ j, j < f → blankB (s.data.toList.getD j 0) = true) ∧ Hid (f = k ∨ blankB (s.data.toList.getD f 0) = false) ∧ w = wx)
    case first =>
      go_wp2_with fail
      go_loop [4] (fun i => ∃ f : Nat, f ≤ k ∧ i = .int .i64 f ∧ Hid (∀ j, j < f → blankB (s.data.toList.getD j 0) = true)) (fun i => k - (intOf i).toNat)
      case atStart => exact ⟨0, Nat.zero_le _, rfl, Lib.hid (fun j hj => absurd hj (Nat.not_lt_zero _))⟩
      case round =>
        obtain ⟨f, hf, rfl, hR⟩ := hrel
        by_cases hltk : f < k
        · have hlt : f < s.size := by omega
          have hx0 := getD_byte hlt
          generalize hx1 : s.data.toList.getD f 0 = x at hx0
          have hx : s[f]'hlt = x := hx0.symm
          have HX := Lib.hid hx1
          clear hx0 hx1
          obtain ⟨q, hq⟩ : ∃ q, blankB x = q := ⟨_, rfl⟩
          have HQ := Lib.hid hq
          clear hq
          cases q with
          | false =>
            have hE : Hid (f = k ∨ blankB (s.data.toList.getD f 0) = false) := .inr (by rw [HX.out, HQ.out])
            go_wp2_with fail
            refine (blank_is x false HQ _).mono ?_
            rintro e w' ⟨rfl, rfl⟩
            go_wp2_with fail
            go_meet
            exact ⟨f, rfl, hf, hR, hE, rfl⟩
          | true =>
            have hR' : Hid (∀ j, j < f + 1 → blankB (s.data.toList.getD j 0) = true) := fun j hj => by
              rcases Nat.lt_or_ge j f with h | h
              · exact hR.out j h
              · have e : j = f := by omega
                subst e
                rw [HX.out, HQ.out]
            go_wp2_with fail
            refine (blank_is x true HQ _).mono ?_
            rintro e w' ⟨rfl, rfl⟩
            go_wp2_with fail
            go_round
            case rel => exact ⟨f + 1, by omega, by go_num, hR'⟩
            case measure => simp [intOf]; omega
        · have hE : Hid (f = k ∨ blankB (s.data.toList.getD f 0) = false) := .inl (by omega)
          go_wp2_with fail
          go_meet
          exact ⟨f, rfl, hf, hR, hE, rfl⟩
    case rest =>
      obtain ⟨f, rfl, hf, hF1, hF2, rfl⟩ := hcut
      go_upto_block 4 with fail
      go_cut [3] from 28 to 39 (fun i wx => ∃ e : Nat, i = .int .i64 e ∧ f ≤ e ∧ e ≤ k ∧ Hid (∀ j, e ≤ j → j < k → blankB (s.data.toList.getD j 0) = true) ∧ Hid (e = f ∨ blankB (s.data.toList.getD (e - 1) 0) = false) ∧ w = wx)
      case first =>
        go_wp2_with fail
        go_loop [3] (fun i => ∃ e : Nat, f ≤ e ∧ e ≤ k ∧ i = .int .i64 e ∧ Hid (∀ j, e ≤ j → j < k → blankB (s.data.toList.getD j 0) = true)) (fun i => (intOf i).toNat)
        case atStart => exact ⟨k, hf, Nat.le_refl _, rfl, Lib.hid (fun j hj hj2 => absurd hj2 (by omega))⟩
        case round =>
          obtain ⟨e, hfe, hek, rfl, hR⟩ := hrel
          by_cases hlte : f < e
          · obtain ⟨m, rfl⟩ : ∃ m, e = m + 1 := ⟨e - 1, by omega⟩
            have hlt : m < s.size := by omega
            have hx0 := getD_byte hlt
            generalize hx1 : s.data.toList.getD m 0 = x at hx0
            have hx : s[m]'hlt = x := hx0.symm
            have HX := Lib.hid hx1
            clear hx0 hx1
            obtain ⟨q, hq⟩ : ∃ q, blankB x = q := ⟨_, rfl⟩
            have HQ := Lib.hid hq
            clear hq
            have hz : ((m + 1 : Nat) : Int) - 1 = m := by omega
            cases q with
            | false =>
              have hE : Hid (m + 1 = f ∨ blankB (s.data.toList.getD (m + 1 - 1) 0) = false) := .inr (by rw [Nat.add_sub_cancel, HX.out, HQ.out])
              go_wp2_with fail
              refine (blank_is x false HQ _).mono ?_
              rintro e w' ⟨rfl, rfl⟩
              go_wp2_with fail
              go_meet
              exact ⟨m + 1, by go_num, hfe, hek, hR, hE, rfl⟩
            | true =>
              have hR' : Hid (∀ j, m ≤ j → j < k → blankB (s.data.toList.getD j 0) = true) := fun j hj hj2 => by
                rcases Nat.lt_or_ge m j with h | h
                · exact hR.out j h hj2
                · have e : j = m := by omega
                  subst e
                  rw [HX.out, HQ.out]
              go_wp2_with fail
              refine (blank_is x true HQ _).mono ?_
              rintro e w' ⟨rfl, rfl⟩
              go_wp2_with fail
              go_round
              case rel => exact ⟨m, by omega, by omega, by go_num, hR'⟩
              case measure => simp [intOf]
          · have hE : Hid (e = f ∨ blankB (s.data.toList.getD (e - 1) 0) = false) := .inl (by omega)
            go_wp2_with fail
            go_meet
            exact ⟨e, rfl, hfe, hek, hR, hE, rfl⟩
      case rest =>
        obtain ⟨e, rfl, hfe, hek, hE1, hE2, rfl⟩ := hcut
        have hM := ref_media hk hK1.out hK2.out hfe hek hF1.out hF2.out hE1.out hE2.out
        have hps : (s.extract f e).size ≤ s.size := by rw [ByteArray.size_extract]; omega
        rw [← R.out] at hM
        generalize hp : s.extract f e = p at hM hps
        have HM := Lib.hid hM
        clear hM
        have c1 : (0 : Int) ≤ f := by omega
        have c2 : (f : Int) ≤ e := by omega
        have c3 : (e : Int) ≤ s.size := by omega
        go_wp2_with fail
        refine (refFold_any p _ (by omega)).mono ?_
        rintro e w3 ⟨rfl, hB3⟩
        rw [HM.out]
        go_wp2_with fail
        go_ret
        exact ⟨rfl, hB3⟩
end Go.Proofs.YtpbbeeggblmneaaDoor
