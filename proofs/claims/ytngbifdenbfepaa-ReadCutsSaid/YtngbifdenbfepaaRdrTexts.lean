/- The contract of a message's reader: the texts of a record's data. For texts of at most 10^6 bytes. -/
import Derived.Test.YtngbifdenbfepaaProg
import Derived.Test.YtngbifdenbfepaaBytes
import Derived.Test.YtngbifdenbfepaaStrs
import Derived.Test.YtngbifdenbfepaaNmMath
import Derived.Test.YtngbifdenbfepaaNmAt
import Derived.Test.YtngbifdenbfepaaMsgMath
import Derived.Test.YtngbifdenbfepaaStMath
import Derived.Test.YtngbifdenbfepaaDatMath
import Derived.Test.YtngbifdenbfepaaKept
import Derived.Test.YtngbifdenbfepaaOwnRow
import Derived.Test.YtngbifdenbfepaaRdr
import Derived.Test.YtngbifdenbfepaaRdrText
import Derived.Test.YtngbifdenbfepaaRdrName
import Derived.Test.YtngbifdenbfepaaRdrNums
import Derived.Test.YtngbifdenbfepaaRdrSkip
import Derived.Test.YtngbifdenbfepaaRdrNames
import Derived.Test.YtngbifdenbfepaaRefNames
import Derived.WalkKit
import Derived.Lib.Hide
import Derived.Laws.Rows
import Derived.Laws.AppendOwn
import Derived.Outline
import Derived.IntWalk
import Derived.WalkSpells
import Derived.WalkLawsBesides
namespace Go.Proofs.Ytngbifdenbfepaa
open Go.RowKit NumMath NmMath Bytes Strs MsgMath StMath DatMath

theorem grown_alloc {w w' : World} {row : Option Nat} (h : w.grownBy w' row) (o : Obj) : w.grownBy (w'.alloc o) row :=
  ⟨h.os, h.tape, h.output, by have := h.size; simp; omega, fun i hi hne => (Below.heap_alloc w' o i (Nat.lt_of_lt_of_le hi h.size)).trans (h.block i hi hne)⟩
theorem own_lit1 (w : World) (base : Nat) (o : List UInt8) (hb : base ≤ w.heap.size) :
    (w.alloc (.cells #[.string (mk o)] 9)).ownsRow base 9 1 (.slice (some ⟨w.heap.size, 0, none⟩) 1 1) 1 (strCs [o]) :=
  ⟨rfl, Or.inr ⟨w.heap.size, 1, #[.string (mk o)], rfl, hb, heap_alloc_new w _, Nat.le_refl _, by unfold maxLen; decide, rfl, rfl⟩⟩
theorem extract_ahead {a s : ByteArray} {p n : Nat} (hsa : s.data.toList = a.data.toList.take s.size) (h : p + n ≤ s.size) : s.extract p (p + n) = mk (cut a.data.toList p n) := by
  refine list_inj ?_
  rw [cut_extract, hsa, cut_take h, mk_list]

theorem texts_size4 (a s : ByteArray) (r p : Nat) (R : Except Nat (List (List UInt8) × Nat)) (w : World) (h : RdrAt w r a s p 50) (hsa : Hid (s.data.toList = a.data.toList.take s.size)) (hs : s.size ≤ 1000000) (hp : p ≤ s.size) (hR : Hid (partE a.data.toList s.size 4 p = R)) :
    Calls Try.prog 60 #[.pointer (some ⟨r, 0, none⟩), .int .u16 1] w (NmsEnd w r a s R) := by
  by_cases hin : p + 4 ≤ s.size
  · obtain ⟨o, ho⟩ : ∃ o, cut a.data.toList p 4 = o := ⟨_, rfl⟩
    have hRe : Hid (R = .ok ([o], p + 4)) := by show _ = _; rw [← hR.out, partE_ok hin, ho]
    have HT := Lib.hid (text_yes a s (mk o) r p 4 50 w h hin hs (by (show _ = _; rw [extract_ahead hsa.out hin, ho])))
    clear h hR ho
    go_enter Try.func60, Try.ntmps60
    go_wp2_with fail
    refine HT.out.mono ?_
    rintro e w1 ⟨rfl, hD, hG⟩
    have HD := Lib.hid (hD.held ((Below.refl _ _).alloc (Nat.le_refl _) (.cells #[.string (mk o)] 9)))
    have HG := Lib.hid (grown_alloc hG (.cells #[.string (mk o)] 9))
    have HL := Lib.hid (own_lit1 w1 w.heap.size o hG.size)
    clear hD hG HT
    go_wp2_with fail
    go_ret
    rw [hRe.out]
    exact ⟨_, rfl, HL.out, HD.out, HG.out⟩
  · have hRe : Hid (R = .error 50) := by show _ = _; rw [← hR.out, partE_no (by omega)]
    have HT := Lib.hid (text_no a s r 50 p 4 w h hs (by omega) (by omega) (by omega) (holds_no (n := s.size) (p := p) (m := 4) (by omega)))
    clear h hR
    go_enter Try.func60, Try.ntmps60
    go_wp2_with fail
    refine HT.out.mono ?_
    rintro e w1 ⟨rfl, m, rfl⟩
    go_wp2_with fail
    rw [hRe.out]
    exact ⟨rfl, rfl, grown_drewN (grown_refl _ _) m⟩

theorem texts_size16 (a s : ByteArray) (r p : Nat) (R : Except Nat (List (List UInt8) × Nat)) (w : World) (h : RdrAt w r a s p 50) (hsa : Hid (s.data.toList = a.data.toList.take s.size)) (hs : s.size ≤ 1000000) (hp : p ≤ s.size) (hR : Hid (partE a.data.toList s.size 16 p = R)) :
    Calls Try.prog 60 #[.pointer (some ⟨r, 0, none⟩), .int .u16 28] w (NmsEnd w r a s R) := by
  by_cases hin : p + 16 ≤ s.size
  · obtain ⟨o, ho⟩ : ∃ o, cut a.data.toList p 16 = o := ⟨_, rfl⟩
    have hRe : Hid (R = .ok ([o], p + 16)) := by show _ = _; rw [← hR.out, partE_ok hin, ho]
    have HT := Lib.hid (text_yes a s (mk o) r p 16 50 w h hin hs (by (show _ = _; rw [extract_ahead hsa.out hin, ho])))
    clear h hR ho
    go_enter Try.func60, Try.ntmps60
    go_wp2_with fail
    refine HT.out.mono ?_
    rintro e w1 ⟨rfl, hD, hG⟩
    have HD := Lib.hid (hD.held ((Below.refl _ _).alloc (Nat.le_refl _) (.cells #[.string (mk o)] 9)))
    have HG := Lib.hid (grown_alloc hG (.cells #[.string (mk o)] 9))
    have HL := Lib.hid (own_lit1 w1 w.heap.size o hG.size)
    clear hD hG HT
    go_wp2_with fail
    go_ret
    rw [hRe.out]
    exact ⟨_, rfl, HL.out, HD.out, HG.out⟩
  · have hRe : Hid (R = .error 50) := by show _ = _; rw [← hR.out, partE_no (by omega)]
    have HT := Lib.hid (text_no a s r 50 p 16 w h hs (by omega) (by omega) (by omega) (holds_no (n := s.size) (p := p) (m := 16) (by omega)))
    clear h hR
    go_enter Try.func60, Try.ntmps60
    go_wp2_with fail
    refine HT.out.mono ?_
    rintro e w1 ⟨rfl, m, rfl⟩
    go_wp2_with fail
    rw [hRe.out]
    exact ⟨rfl, rfl, grown_drewN (grown_refl _ _) m⟩

theorem texts_rest (a s : ByteArray) (r p kind : Nat) (w : World) (h : RdrAt w r a s p 50) (hsa : Hid (s.data.toList = a.data.toList.take s.size)) (hs : s.size ≤ 1000000) (hp : p ≤ s.size) (h1 : ((kind : Int) == 1) = false) (h28 : ((kind : Int) == 28) = false) (h16 : ((kind : Int) == 16) = false) :
    Calls Try.prog 60 #[.pointer (some ⟨r, 0, none⟩), .int .u16 kind] w (NmsEnd w r a s (.ok ([cut a.data.toList p (s.size - p)], s.size))) := by
  obtain ⟨o, ho⟩ : ∃ o, cut a.data.toList p (s.size - p) = o := ⟨_, rfl⟩
  have hz : ((s.size : Int) - p) = ((s.size - p : Nat) : Int) := by omega
  have HL := Lib.hid (left_any a s r p 50 w h hp hs)
  have HT := Lib.hid (fun m => text_yes a s (mk o) r p (s.size - p) 50 (w.drewN m) (h.drewN m) (by omega) hs (by (show _ = _; rw [extract_ahead hsa.out (by omega), ho])))
  rw [hz] at HL
  rw [ho]
  have HE : Hid (p + (s.size - p) = s.size) := by show _ = _; omega
  obtain ⟨z, hzz⟩ : ∃ z, s.size - p = z := ⟨_, rfl⟩
  rw [hzz] at HL HT HE
  clear h ho hz hzz
  go_enter Try.func60, Try.ntmps60
  go_wp2_with fail
  refine HL.out.mono ?_
  rintro e w0 ⟨rfl, m, rfl⟩
  go_wp2_with fail
  refine (HT.out m).mono ?_
  rintro e w1 ⟨rfl, hD, hG⟩
  have hD' : RdrAt w1 r a s (s.size : Int) 50 := by have := hD; rw [← Int.natCast_add, HE.out] at this; exact this
  have HD := Lib.hid (hD'.held ((Below.refl _ _).alloc (Nat.le_refl _) (.cells #[.string (mk o)] 9)))
  have hG' : w.grownBy w1 (some r) := ⟨hG.os, hG.tape, hG.output, hG.size, hG.block⟩
  have HG := Lib.hid (grown_alloc hG' (.cells #[.string (mk o)] 9))
  have HLL := Lib.hid (own_lit1 w1 w.heap.size o hG'.size)
  clear hD hG hD' hG' HT HL
  go_wp2_with fail
  go_ret
  exact ⟨_, rfl, HLL.out, HD.out, HG.out⟩

set_option maxHeartbeats 2000000 in
set_option maxRecDepth 100000 in
theorem texts_txt (a s : ByteArray) (r p : Nat) (R : Except Nat (List (List UInt8) × Nat)) (w : World) (h : RdrAt w r a s p 50) (hsa : Hid (s.data.toList = a.data.toList.take s.size)) (hs : s.size ≤ 1000000) (hp : p ≤ s.size) (hR : Hid ((if p < s.size then txtE a.data.toList s.size [] p else .error 50) = R)) :
    Calls Try.prog 60 #[.pointer (some ⟨r, 0, none⟩), .int .u16 16] w (NmsEnd w r a s R) := by
  obtain ⟨Q0, hQ0⟩ : ∃ Q0, measE a.data.toList s.size p = Q0 := ⟨_, rfl⟩
  have HM := Lib.hid (measured_any a s r p Q0 w h hsa hs (by omega) hQ0)
  obtain ⟨g, hg⟩ : ∃ g, w.heap.size = g := ⟨_, rfl⟩
  have G := Lib.hid hg
  cases Q0 with
  | error x =>
    have hRe : Hid (R = .error x) := by
      show _ = _
      rw [← hR.out]
      split
      · next hlt => exact txtE_err hlt hQ0
      · next hlt =>
        rw [measE_no (by omega)] at hQ0
        injection hQ0 with hQ0
        rw [hQ0]
    clear h hR hQ0 hg
    go_enter Try.func60, Try.ntmps60
    go_wp2_with fail
    refine HM.out.mono ?_
    rintro e w1 ⟨rfl, hG⟩
    have HG := Lib.hid hG
    clear hG HM
    go_wp2_with fail
    rw [hRe.out]
    exact ⟨rfl, rfl, HG.out⟩
  | ok oq =>
    obtain ⟨o, q⟩ := oq
    obtain ⟨hq1, hq2, hq3⟩ := measE_at hQ0
    have HR0 : Hid (txtE a.data.toList s.size [o] q = R) := by
      show _ = _
      rw [← hR.out, if_pos (by omega), txtE_more (by omega) hQ0]
      rfl
    obtain ⟨i0, hi, hz0, hz1, hz2⟩ := info_parts info9
    have HI := Lib.hid hi; clear hi
    have HZ0 := Lib.hid hz0; clear hz0
    have HZ1 := Lib.hid hz1; clear hz1
    have HZ2 := Lib.hid hz2; clear hz2
    clear h hR hQ0 hg
    go_enter Try.func60, Try.ntmps60
    go_wp2_with fail
    refine HM.out.mono ?_
    rintro e w1 ⟨rfl, hD, hG⟩
    have HD : Hid (RdrAt (w1.alloc (.cells #[.string (mk o)] 9)) r a s (q : Int) 50) := hD.held ((Below.refl _ _).alloc (Nat.le_refl _) _)
    have HK : Hid (Kept g r w (w1.alloc (.cells #[.string (mk o)] 9))) := (Kept.of_grown hG (by rw [G.out]; exact Nat.le_refl _)).alloc (by have := hG.size; rw [G.out] at this; exact this) _
    have HO : Hid ((w1.alloc (.cells #[.string (mk o)] 9)).ownsRow g 9 1 (.slice (some ⟨w1.heap.size, 0, none⟩) 1 1) 1 (strCs [o])) := own_lit1 w1 g o (by have := hG.size; rw [G.out] at this; exact this)
    clear hD hG HM
    go_wp2_with fail
    generalize w1.alloc (.cells #[.string (mk o)] 9) = w2 at HD HK HO ⊢
    go_loopw [5] (fun v wr => ∃ (L : List (List UInt8)) (p : Nat), p ≤ s.size ∧ L.length ≤ p ∧ Hid (wr.ownsRow g 9 1 v L.length (strCs L)) ∧ Hid (RdrAt wr r a s p 50) ∧ Hid (txtE a.data.toList s.size L p = R) ∧ Hid (Kept g r w wr)) (fun _ wr => s.size - placeOf wr r)
    case atStart => exact ⟨[o], q, hq2, by show 1 ≤ q; omega, HO, HD, HR0, HK⟩
    case round =>
      obtain ⟨L, p, hp, hLp, hO, hD, hR, hK⟩ := hrel
      have hgw : Hid (g ≤ wr.heap.size) := by have := hK.out.size; rw [G.out] at this; exact this
      have hpl := placeOf_at hD.out
      have HP := Lib.hid hpl
      clear hpl
      have HL := Lib.hid (left_any a s r p 50 wr hD.out hp hs)
      obtain ⟨Ln, hLn⟩ : ∃ n, L.length = n := ⟨_, rfl⟩
      have HLN := Lib.hid hLn
      rw [hLn] at hO
      rw [hLn] at hLp
      clear hLn
      by_cases hlt : p < s.size
      · have hpos : (0 : Int) < (s.size : Int) - p := by omega
        obtain ⟨Q1, hQ1⟩ : ∃ Q1, measE a.data.toList s.size p = Q1 := ⟨_, rfl⟩
        have HQ := Lib.hid (fun m => measured_any a s r p Q1 (wr.drewN m) (hD.out.drewN m) hsa hs (by omega) hQ1)
        cases Q1 with
        | error x =>
          have hRe : Hid (R = .error x) := by show _ = _; rw [← hR.out]; exact txtE_err hlt hQ1
          clear hQ1
          go_wp2_with fail
          refine HL.out.mono ?_
          rintro e w3 ⟨rfl, m, rfl⟩
          go_wp2_with fail
          refine (HQ.out m).mono ?_
          rintro e w4 ⟨rfl, hG4⟩
          have HE : Hid (w.grownBy w4 (some r)) := kept_grown ((hK.out.drewN m).grown hG4 hgw.out) G.out
          clear hG4
          go_wp2_with fail
          rw [hRe.out]
          exact ⟨rfl, rfl, HE.out⟩
        | ok Qq =>
          obtain ⟨x, q⟩ := Qq
          obtain ⟨hx1, hx2, hx3⟩ := measE_at hQ1
          have hRm : Hid (txtE a.data.toList s.size (L ++ [x]) q = R) := by show _ = _; rw [← hR.out, txtE_more hlt hQ1]
          clear hQ1
          go_wp2_with fail
          refine HL.out.mono ?_
          rintro e w3 ⟨rfl, m, rfl⟩
          go_wp2_with fail
          refine (HQ.out m).mono ?_
          rintro e w4 ⟨rfl, hD1, hG1⟩
          have hO1 := Lib.hid (row_rdr (hD.out.drewN m) (show (wr.drewN m).ownsRow g 9 1 u5 Ln (strCs L) from hO.out) hG1 (by decide))
          have hK1 := Lib.hid ((hK.out.drewN m).grown hG1 hgw.out)
          have hg1 : Hid (g ≤ w4.heap.size) := Nat.le_trans hgw.out hG1.size
          have HD1 := Lib.hid hD1
          clear hD1 hG1 hO hD hK HQ HL
          go_wp2_with (at_builtin; refine wpList_append_own _ rfl _ _ 44 rfl g 9 i0 (.string ⟨#[]⟩) 1 16 Try.underlying44 HI.out HZ0.out HZ1.out HZ2.out rfl (by decide) _ _ _ rfl (hO1.out.alloc _) ⟨w4.heap.size, 0, none⟩ 1 1 [.string (mk x)] rfl rfl ?c1 ?c2 ?c3 ?c4 ?c5 ?_)
          case c1 =>
            intro j u hj
            match j, hj with
            | 0, hj => simp at hj; subst hj; simp [Addr.add]
          case c2 => first | rfl | (intro u hu; simp at hu; subst hu; rfl)
          case c3 => unfold maxLen; omega
          case c4 => omega
          case c5 => have := hg1.out; simp; omega
          intro v' w5 hown hgrow _
          have E1 : Hid (w5.ownsRow g 9 1 v' (L ++ [x]).length (strCs (L ++ [x]))) := by
            show World.ownsRow _ _ _ _ _ _ _
            rw [strCs_snoc, List.length_append, HLN.out]
            exact hown
          have E2 := Lib.hid (rdr_row HD1.out hO1.out ((Below.refl _ _).alloc (Nat.le_refl _) _) hgrow (by decide))
          have E3 := Lib.hid ((hK1.out.alloc hg1.out _).own hgrow (by have := hg1.out; simp; omega) (fun k hk => (hO1.out.lt k hk).1))
          have HP5 := Lib.hid (placeOf_at E2.out)
          clear hown hgrow hO1 HD1 hK1
          go_wp2_with fail
          go_roundw
          case rel => exact ⟨L ++ [x], q, hx2, by (rw [List.length_append, HLN.out]; show Ln + 1 ≤ q; omega), E1, E2, hRm, E3⟩
          case measure => rw [HP.out, HP5.out]; omega
      · have hpos : ¬ ((0 : Int) < (s.size : Int) - p) := by omega
        have hRe : Hid (R = .ok (L, p)) := by show _ = _; rw [← hR.out]; exact txtE_end (by omega)
        have HE : Hid (w.grownBy wr (some r)) := kept_grown hK.out G.out
        go_wp2_with fail
        refine HL.out.mono ?_
        rintro e w3 ⟨rfl, m, rfl⟩
        go_wp2_with fail
        go_ret
        rw [hRe.out]
        refine ⟨_, rfl, ?_, hD.out, ⟨HE.out.os, HE.out.tape, HE.out.output, HE.out.size, HE.out.block⟩⟩
        rw [HLN.out, G.out]
        exact hO.out

theorem texts_any (a s : ByteArray) (r p kind : Nat) (R : Except Nat (List (List UInt8) × Nat)) (w : World) (h : RdrAt w r a s p 50) (hsa : Hid (s.data.toList = a.data.toList.take s.size)) (hs : s.size ≤ 1000000) (hp : p ≤ s.size) (hR : Hid (textsE a.data.toList s.size kind p = R)) :
    Calls Try.prog 60 #[.pointer (some ⟨r, 0, none⟩), .int .u16 kind] w (NmsEnd w r a s R) := by
  have hR' := hR.out
  unfold textsE at hR'
  by_cases h1 : kind = 1
  · subst h1
    rw [if_pos rfl] at hR'
    exact texts_size4 a s r p R w h hsa hs hp hR'
  · rw [if_neg h1] at hR'
    by_cases h28 : kind = 28
    · subst h28
      rw [if_pos rfl] at hR'
      exact texts_size16 a s r p R w h hsa hs hp hR'
    · rw [if_neg h28] at hR'
      by_cases h16 : kind = 16
      · subst h16
        rw [if_pos rfl] at hR'
        exact texts_txt a s r p R w h hsa hs hp hR'
      · rw [if_neg h16] at hR'
        subst hR'
        exact texts_rest a s r p kind w h hsa hs hp (beq_eq_false_iff_ne.2 (by omega)) (beq_eq_false_iff_ne.2 (by omega)) (beq_eq_false_iff_ne.2 (by omega))
end Go.Proofs.Ytngbifdenbfepaa
