/- Texts of one proof, one behind the other: RefRead. -/
import Derived.Test.YtihkmdojakalbaaProg
import Derived.Test.YtihkmdojakalbaaReadMessagesProofG1
import Derived.Test.YtihkmdojakalbaaReadMessagesProofG2
import Derived.Test.YtihkmdojakalbaaReadMessagesProofG6
import Derived.Test.YtihkmdojakalbaaReadMessagesProofG12
import Derived.Test.YtihkmdojakalbaaReadMessagesProofG11
import Derived.Test.YtihkmdojakalbaaReadMessagesProofG3
import Derived.Test.YtihkmdojakalbaaReadMessagesProofG5
import Derived.Test.YtihkmdojakalbaaReadMessagesProofG10
import Derived.Test.YtihkmdojakalbaaReadMessagesProofG7
import Derived.Test.YtihkmdojakalbaaReadMessagesProofG16
import Derived.Test.YtihkmdojakalbaaReadMessagesProofG17
import Derived.WalkKit
import Derived.Lib.Hide
import Derived.Laws.Rows
import Derived.Laws.AppendOwn
import Derived.Outline
import Derived.IntWalk
import Derived.WalkSpells
import Derived.WalkLawsBesides
import Derived.RegionTactic
import Derived.ChangeAlike
import Derived.Deep.QuietTactic
import Derived.BigQuiet
import Derived.Deep.Draws
import Derived.Deep.RegionLaw
import Derived.Deep.CutRange
import Derived.Deep.CutBlock
import Derived.Deep.AppendLies

/- The contract of the document's Read. For texts of at most 10^6 bytes. -/
namespace Go.Proofs.Ytihkmdojakalbaa
open Go.RowKit NumMath NmMath NameMath Bytes Strs Nums MsgMath RecMath StMath DatMath

/-- The message's cells. -/
abbrev msgC (id fl : Nat) (vq va vn vx : Value) : Array Value := #[.int .u16 id, .int .u16 fl, vq, va, vn, vx]
section
variable {w wr : World} {G gk : Nat} {s : ByteArray} {st : St} {c : Array Value} {x : Nat}
/-- What comes back of an error: the result's block, empty. -/
theorem readRet_err (h : DrSt w wr G s st c) : ReadRet w (.error x) (.returned (.tuple #[.agg #[.int .u16 0, .int .u16 0, .slice none 0 0, .slice none 0 0, .slice none 0 0, .slice none 0 0], .int .i64 x])) ((((((wr.setCell ⟨G, 0, none⟩ (.int .u16 0)).setCell ⟨G, 1, none⟩ (.int .u16 0)).setCell ⟨G, 2, none⟩ (.slice none 0 0)).setCell ⟨G, 3, none⟩ (.slice none 0 0)).setCell ⟨G, 4, none⟩ (.slice none 0 0)).setCell ⟨G, 5, none⟩ (.slice none 0 0)).drew :=
  ⟨rfl, by rw [h.eG]; exact (below_of_grown h.bl (setMsg_grown wr G (.int .u16 0) (.int .u16 0) (.slice none 0 0) (.slice none 0 0) (.slice none 0 0) (.slice none 0 0)) (Nat.le_refl _) h.sz).drew⟩
theorem readRet_ok {id fl : Nat} {qs : List Qn} {an ns ad : List Rec} {vq va vn vx : Value} (h : RecLoop w wr G gk s st c vq qs [(va, an), (vn, ns)] vx ad) : ReadRet w (.ok ⟨id, fl, qs, an, ns, ad⟩) (.returned (.tuple #[.agg #[.int .u16 id, .int .u16 fl, vq, va, vn, vx], .int .i64 0])) ((((((wr.setCell ⟨G, 0, none⟩ (.int .u16 id)).setCell ⟨G, 1, none⟩ (.int .u16 fl)).setCell ⟨G, 2, none⟩ (vq)).setCell ⟨G, 3, none⟩ (va)).setCell ⟨G, 4, none⟩ (vn)).setCell ⟨G, 5, none⟩ (vx)) := by
  have hg := setMsg_grown wr G (.int .u16 id) (.int .u16 fl) vq va vn vx
  have hm : MsgRows wr G ⟨id, fl, qs, an, ns, ad⟩ vq va vn vx := ⟨h.q, (h.o (va, an) (by simp)).1, (h.o (vn, ns) (by simp)).1, h.r.low h.gl⟩
  refine ⟨vq, va, vn, vx, rfl, ?_, ?_⟩
  · rw [h.d.eG]; exact hm.block h.d.b0 hg (by decide) (by decide) (by decide) (by decide)
  · rw [h.d.eG]; exact below_of_grown h.d.bl hg (Nat.le_refl _) h.d.sz
end
set_option maxHeartbeats 8000000 in
set_option maxRecDepth 100000 in
theorem refRead_some (s : ByteArray) (R : Except Nat Msg) (w : World) (hs : s.size ≤ 65535) (hR : Hid (msg (recE s.data.toList) s.data.toList = R)) :
    Calls Try.prog 11 #[.string s] w (ReadRet w R) := by
  have SZ := Lib.hid (Lib.size_eq s)
  have hsl : s.data.toList.length ≤ 1000000 := by rw [← SZ.out]; omega
  have HM := Lib.hid (fun p A q (h : recE s.data.toList p = .ok (A, q)) => (show q ≤ s.data.toList.length by rw [← SZ.out]; exact (recReads s 0 (by omega)).2 p A q h))
  obtain ⟨G, hG⟩ : ∃ G, w.heap.size = G := ⟨_, rfl⟩
  have HS := Lib.hid (drSt_start w s)
  rw [hG] at HS
  obtain ⟨id, st1, h1⟩ : ∃ x st, numS s.data.toList 2 (0, 0) = (x, st) := ⟨_, _, rfl⟩
  have b1 : st1.1 ≤ 1000000 := by have := numS_le (l := s.data.toList) (n := 2) (N := 1000000) (st := (0, 0)) (by decide) hsl; rw [h1] at this; exact this
  have idl : id < 65536 := by have := numS_two (l := s.data.toList) (0, 0); rw [h1] at this; exact this
  have H1 := Lib.hid (fun w (hd : StAt w (G + 1) s (0, 0)) => stNum_any s (G + 1) 2 id (0, 0) st1 w hd (by omega) (by decide) (by decide) (by decide) h1)
  obtain ⟨fl, st2, h2⟩ : ∃ x st, numS s.data.toList 2 st1 = (x, st) := ⟨_, _, rfl⟩
  have b2 : st2.1 ≤ 1000000 := by have := numS_le (l := s.data.toList) (n := 2) (N := 1000000) (st := st1) b1 hsl; rw [h2] at this; exact this
  have fll : fl < 65536 := by have := numS_two (l := s.data.toList) st1; rw [h2] at this; exact this
  have H2 := Lib.hid (fun w (hd : StAt w (G + 1) s st1) => stNum_any s (G + 1) 2 fl st1 st2 w hd (by omega) (by decide) (by decide) b1 h2)
  obtain ⟨a, st3, h3⟩ : ∃ x st, numS s.data.toList 2 st2 = (x, st) := ⟨_, _, rfl⟩
  have b3 : st3.1 ≤ 1000000 := by have := numS_le (l := s.data.toList) (n := 2) (N := 1000000) (st := st2) b2 hsl; rw [h3] at this; exact this
  have al : a < 65536 := by have := numS_two (l := s.data.toList) st2; rw [h3] at this; exact this
  have H3 := Lib.hid (fun w (hd : StAt w (G + 1) s st2) => stNum_any s (G + 1) 2 a st2 st3 w hd (by omega) (by decide) (by decide) b2 h3)
  obtain ⟨b, st4, h4⟩ : ∃ x st, numS s.data.toList 2 st3 = (x, st) := ⟨_, _, rfl⟩
  have b4 : st4.1 ≤ 1000000 := by have := numS_le (l := s.data.toList) (n := 2) (N := 1000000) (st := st3) b3 hsl; rw [h4] at this; exact this
  have bl : b < 65536 := by have := numS_two (l := s.data.toList) st3; rw [h4] at this; exact this
  have H4 := Lib.hid (fun w (hd : StAt w (G + 1) s st3) => stNum_any s (G + 1) 2 b st3 st4 w hd (by omega) (by decide) (by decide) b3 h4)
  obtain ⟨c, st5, h5⟩ : ∃ x st, numS s.data.toList 2 st4 = (x, st) := ⟨_, _, rfl⟩
  have b5 : st5.1 ≤ 1000000 := by have := numS_le (l := s.data.toList) (n := 2) (N := 1000000) (st := st4) b4 hsl; rw [h5] at this; exact this
  have cl : c < 65536 := by have := numS_two (l := s.data.toList) st4; rw [h5] at this; exact this
  have H5 := Lib.hid (fun w (hd : StAt w (G + 1) s st4) => stNum_any s (G + 1) 2 c st4 st5 w hd (by omega) (by decide) (by decide) b4 h5)
  obtain ⟨d, st6, h6⟩ : ∃ x st, numS s.data.toList 2 st5 = (x, st) := ⟨_, _, rfl⟩
  have b6 : st6.1 ≤ 1000000 := by have := numS_le (l := s.data.toList) (n := 2) (N := 1000000) (st := st5) b5 hsl; rw [h6] at this; exact this
  have dl : d < 65536 := by have := numS_two (l := s.data.toList) st5; rw [h6] at this; exact this
  have H6 := Lib.hid (fun w (hd : StAt w (G + 1) s st5) => stNum_any s (G + 1) 2 d st5 st6 w hd (by omega) (by decide) (by decide) b5 h6)
  have HP := Lib.hid (head_pend hR.out h1 h2 h3 h4 h5 h6)
  have HB6 := Lib.hid b6
  clear hR h1 h2 h3 h4 h5 h6 b1 b2 b3 b4 b5 b6
  obtain ⟨p6, e6⟩ := st6
  go_enter Try.func11, Try.ntmps11
  go_wp2_with fail
  clear hG
  generalize ((w.alloc (.cells #[.int .u16 0, .int .u16 0, .slice none 0 0, .slice none 0 0, .slice none 0 0, .slice none 0 0] 27)).alloc (.cells #[.string s, .int .i64 0, .int .i64 0] 60)).alloc (.cells #[.int .u16 0, .int .u16 0, .slice none 0 0, .slice none 0 0, .slice none 0 0, .slice none 0 0] 27) = wa at HS ⊢
  refine (H1.out _ HS.out.rd).mono ?_
  rintro e w1 ⟨rfl, hD, hG⟩
  have hst := HS.out.call hD hG
  have x0 := cell_of_row _ _ 0 _ _ _ hst.b2
  have xf := hst.f2
  have hst2 : DrSt w (w1.setCell ⟨G + 2, 0, none⟩ (.int .u16 id)) G s st1 (msgC id 0 (.slice none 0 0) (.slice none 0 0) (.slice none 0 0) (.slice none 0 0)) := hst.set 0 (.int .u16 id)
  have HS2 := Lib.hid hst2
  clear hD hG hst hst2 H1 HS
  go_wp2_with fail
  clear x0 xf
  generalize w1.setCell ⟨G + 2, 0, none⟩ (.int .u16 id) = wb1 at HS2 ⊢
  have HS := HS2
  clear HS2
  refine (H2.out _ HS.out.rd).mono ?_
  rintro e w2 ⟨rfl, hD, hG⟩
  have hst := HS.out.call hD hG
  have x1 := cell_of_row _ _ 1 _ _ _ hst.b2
  have xf := hst.f2
  have hst2 : DrSt w (w2.setCell ⟨G + 2, 1, none⟩ (.int .u16 fl)) G s st2 (msgC id fl (.slice none 0 0) (.slice none 0 0) (.slice none 0 0) (.slice none 0 0)) := hst.set 1 (.int .u16 fl)
  have HS2 := Lib.hid hst2
  clear hD hG hst hst2 H2 HS
  go_wp2_with fail
  clear x1 xf
  generalize w2.setCell ⟨G + 2, 1, none⟩ (.int .u16 fl) = wb2 at HS2 ⊢
  have HS := HS2
  clear HS2
  refine (H3.out _ HS.out.rd).mono ?_
  rintro e w3 ⟨rfl, hD, hG⟩
  have hst := HS.out.call hD hG
  have HS2 := Lib.hid hst
  clear hD hG hst H3 HS
  have HS := HS2
  clear HS2
  go_wp2_with fail
  refine (H4.out _ HS.out.rd).mono ?_
  rintro e w4 ⟨rfl, hD, hG⟩
  have hst := HS.out.call hD hG
  have HS2 := Lib.hid hst
  clear hD hG hst H4 HS
  have HS := HS2
  clear HS2
  go_wp2_with fail
  refine (H5.out _ HS.out.rd).mono ?_
  rintro e w5 ⟨rfl, hD, hG⟩
  have hst := HS.out.call hD hG
  have HS2 := Lib.hid hst
  clear hD hG hst H5 HS
  have HS := HS2
  clear HS2
  go_wp2_with fail
  refine (H6.out _ HS.out.rd).mono ?_
  rintro e w6 ⟨rfl, hD, hG⟩
  have hst := HS.out.call hD hG
  have HS2 := Lib.hid hst
  clear hD hG hst H6 HS
  have HS := HS2
  clear HS2
  have HF : Hid (∃ bad : Bool, (bad = true ↔ (e6 = 0 ∧ 256 < a + b + c + d))) := ⟨decide (e6 = 0 ∧ 256 < a + b + c + d), by simp⟩
  obtain ⟨bad, hbad⟩ := HF.out
  have HBD := Lib.hid hbad
  clear HF hbad
  go_upto_region 11 with fail
  go_cut [53] from 39 to 53 (fun v wx => v = .bool bad ∧ w6 = wx)
  case first =>
    have y2 := HS.out.rd.c2
    simp only at y2
    by_cases he : e6 = 0
    · subst he
      by_cases hsum : 256 < a + b + c + d
      · have hb : bad = true := HBD.out.2 ⟨rfl, hsum⟩
        have hsi : (256 : Int) < (a : Int) + b + c + d := by omega
        go_wp2_with fail
        go_meet
        rw [hb]
        first | exact ⟨rfl, rfl⟩ | exact ⟨by simp; omega, rfl⟩
      · have hb : bad = false := by cases hbb : bad with | true => exact absurd (HBD.out.1 hbb).2 hsum | false => rfl
        have hsi : ¬ ((256 : Int) < (a : Int) + b + c + d) := by omega
        go_wp2_with fail
        go_meet
        rw [hb]
        first | exact ⟨rfl, rfl⟩ | exact ⟨by simp; omega, rfl⟩
    · have hb : bad = false := by cases hbb : bad with | true => exact absurd (HBD.out.1 hbb).1 he | false => rfl
      have hz : ((e6 : Int) == 0) = false := beq_eq_false_iff_ne.2 (by omega)
      go_wp2_with fail
      go_meet
      rw [hb]
      exact ⟨rfl, rfl⟩
  case rest =>
    obtain ⟨rfl, rfl⟩ := hcut
    go_upto_if 53 with fail
    go_cut [] from 54 to 56 (fun wx => ∃ st : St, Hid (DrSt w wx G s st (msgC id fl (.slice none 0 0) (.slice none 0 0) (.slice none 0 0) (.slice none 0 0))) ∧ Hid (Pend st (re1 s.data.toList id fl b c d [] a) R))
    case first =>
      cases bad with
      | true =>
        obtain ⟨rfl, hsum⟩ := HBD.out.1 rfl
        have hrel : Pend (12, 6) (re1 s.data.toList id fl b c d [] a) R := by
          rcases HP.out with ⟨h, _⟩ | ⟨_, _, _, h⟩ | ⟨_, h, _⟩
          · exact absurd rfl h
          · exact ⟨fun e => (by cases e), fun _ => h⟩
          · omega
        have hp6 : p6 = 12 := by
          rcases HP.out with ⟨h, _⟩ | ⟨h, _⟩ | ⟨h, _⟩
          · exact absurd rfl h
          · exact congrArg Prod.fst h
          · exact congrArg Prod.fst h
        subst hp6
        have xf := HS.out.rd.fz 2
        have x2 := HS.out.rd.c2
        simp only at x2
        have HS2 := Lib.hid (HS.out.setErr 6)
        go_wp2_with fail
        go_meet
        exact ⟨(12, 6), HS2, hrel⟩
      | false =>
        have hrel : Pend (p6, e6) (re1 s.data.toList id fl b c d [] a) R := by
          rcases HP.out with ⟨h, h2⟩ | ⟨h, _, h2, _⟩ | ⟨h, _, h2⟩
          · exact ⟨fun e => absurd e h, fun _ => h2⟩
          · injection h with _ h; exact absurd (HBD.out.2 ⟨h, h2⟩) (by decide)
          · injection h with h1 h; subst h1; subst h; exact ⟨fun _ => ⟨h2, by decide⟩, fun e => absurd rfl e⟩
        go_wp2_with fail
        go_meet
        exact ⟨(p6, e6), HS, hrel⟩
    case rest =>
      obtain ⟨st0, HD0, HP0⟩ := hcut
      clear HS HP HBD HB6
      go_upto_block 0 with fail
      go_cut [] from 57 to 85 (fun wx => ∃ (st : St) (qs : List Qn) (A : Option Addr) (cp : Nat), qs.length ≤ a ∧ Hid (DrSt w wx G s st (msgC id fl (.slice A qs.length cp) (.slice none 0 0) (.slice none 0 0) (.slice none 0 0))) ∧ Hid (wx.ownsRow G 44 3 (.slice A qs.length cp) qs.length (qnCs qs)) ∧ Hid (Pend st (re2 s.data.toList id fl c d qs [] b) R))
      case first =>
        obtain ⟨i0, hi, hz0, hz1, hz2⟩ := info_parts info_qn
        have HI := Lib.hid hi; clear hi
        have HZ0 := Lib.hid hz0; clear hz0
        have HZ1 := Lib.hid hz1; clear hz1
        have HZ2 := Lib.hid hz2; clear hz2
        go_wp2_with fail
        go_loopw [10] (fun i wr => ∃ (j : Nat) (st : St) (qs : List Qn) (A : Option Addr) (cp : Nat), i = .int .i64 j ∧ j ≤ a ∧ Hid (qs.length = j) ∧ Hid (DrSt w wr G s st (msgC id fl (.slice A j cp) (.slice none 0 0) (.slice none 0 0) (.slice none 0 0))) ∧ Hid (wr.ownsRow G 44 3 (.slice A j cp) j (qnCs qs)) ∧ Hid (Pend st (re1 s.data.toList id fl b c d qs (a - j)) R)) (fun i _ => a - (intOf i).toNat)
        case atStart => exact ⟨0, st0, [], none, 0, rfl, Nat.zero_le _, rfl, HD0, World.ownsRow_nil _ _ _ _, HP0⟩
        case round =>
          obtain ⟨j, ⟨p0, e0⟩, qs, A, cp, rfl, hj, hL, hD, hO, hP⟩ := hrel
          have y2 := hD.out.rd.c2
          simp only at y2
          clear HD0 HP0
          by_cases hlt : j < a
          · by_cases he : e0 = 0
            · subst he
              obtain ⟨m, hm⟩ : ∃ m, a - j = m + 1 := ⟨a - j - 1, by omega⟩
              have hp0 : p0 ≤ 1000000 := (hP.out.1 rfl).2
              obtain ⟨x, t1, g1⟩ : ∃ x st, nameS s.data.toList (p0, 0) = (x, st) := ⟨_, _, rfl⟩
              have c1 : t1.1 ≤ 1000000 := by have := nameS_le (l := s.data.toList) (N := 1000000) (st := (p0, 0)) hp0 hsl; rw [g1] at this; exact this
              obtain ⟨k, t2, g2⟩ : ∃ x st, numS s.data.toList 2 t1 = (x, st) := ⟨_, _, rfl⟩
              have c2 : t2.1 ≤ 1000000 := by have := numS_le (l := s.data.toList) (n := 2) (N := 1000000) (st := t1) c1 hsl; rw [g2] at this; exact this
              have kl : k < 65536 := by have := numS_two (l := s.data.toList) t1; rw [g2] at this; exact this
              obtain ⟨u, t3, g3⟩ : ∃ x st, numS s.data.toList 2 t2 = (x, st) := ⟨_, _, rfl⟩
              have ul : u < 65536 := by have := numS_two (l := s.data.toList) t2; rw [g3] at this; exact this
              have hqn : qnS s.data.toList (p0, 0) = (⟨x, k, u⟩, t3) := by unfold qnS; simp only [g1, g2, g3]
              have HPN : Hid (Pend t3 (re1 s.data.toList id fl b c d (qs ++ [⟨x, k, u⟩]) (a - (j + 1))) R) := by
                have := hP.out
                rw [hm] at this
                have := re1_step hsl this hqn
                rwa [show a - (j + 1) = m by omega]
              have HN1 := Lib.hid (stName_any s (G + 1) x (p0, 0) t1 wr hD.out.rd (by omega) hp0 g1)
              have HN2 := Lib.hid (fun w (hd : StAt w (G + 1) s t1) => stNum_any s (G + 1) 2 k t1 t2 w hd (by omega) (by decide) (by decide) c1 g2)
              have HN3 := Lib.hid (fun w (hd : StAt w (G + 1) s t2) => stNum_any s (G + 1) 2 u t2 t3 w hd (by omega) (by decide) (by decide) c2 g3)
              clear hm hqn g1 g2 g3 hP c1 c2
              go_wp2_with fail
              refine HN1.out.mono ?_
              rintro e v1 ⟨rfl, hd, hg⟩
              have hst := hD.out.call hd hg
              have ho := row_st hD.out.rd hO.out hg (by decide)
              obtain ⟨B, hB⟩ : ∃ B, v1.heap.size = B := ⟨_, rfl⟩
              have hBG : G + 2 < B := by have := hst.lt; omega
              have hobj := hst.alloc (.cells #[.string (mk x), .int .u16 0, .int .u16 0] 44)
              have hob : (v1.alloc (.cells #[.string (mk x), .int .u16 0, .int .u16 0] 44)).heap[B]? = some (.cells #[.string (mk x), .int .u16 0, .int .u16 0] 44 (0, 0)) := by rw [← hB]; exact heap_alloc_new v1 _
              have hoo := ho.alloc (.cells #[.string (mk x), .int .u16 0, .int .u16 0] 44)
              have hnb : ∀ b', (Value.slice A j cp).ownBlock = some b' → b' < B := fun b' hb' => by have := (ho.lt b' hb').2; omega
              have HD := Lib.hid hobj
              have HO := Lib.hid hoo
              have HOB := Lib.hid hob
              have HNB := Lib.hid hnb
              clear hd hg hst ho hobj hob hoo hnb hD hO HN1 y2
              go_wp2_with fail
              clear hB
              generalize v1.alloc (.cells #[.string (mk x), .int .u16 0, .int .u16 0] 44) = v2 at HD HO HOB ⊢
              refine (HN2.out _ HD.out.rd).mono ?_
              rintro e v3 ⟨rfl, hd, hg⟩
              have hst := HD.out.call hd hg
              have ho := row_st HD.out.rd HO.out hg (by decide)
              have hBl : B < v2.heap.size := (Array.getElem?_eq_some_iff.1 HOB.out).1
              have hob := (grown_block hg hBl (by omega)).trans HOB.out
              have z1 := cell_of_row _ _ 1 _ _ _ hob
              have zf : ∀ i, v3.frozen? ⟨B, i, none⟩ = false := fun i => by simp [World.frozen?, hob]
              have hg3 := only_setCell (grown_refl v3 (some B)) (p := ⟨B, 1, none⟩) (.inl rfl) (.int .u16 (k : Int))
              have HD3 := Lib.hid (hst.setNew hBG 1 (.int .u16 (k : Int)))
              have HO3 := Lib.hid (ho.kept hg3 (by cases hq : (Value.slice A j cp).ownBlock with | none => exact .inl rfl | some q => exact .inr fun e => (by injection e with e; have := HNB.out q hq; omega)))
              have HOB3 : Hid ((v3.setCell ⟨B, 1, none⟩ (.int .u16 (k : Int))).heap[B]? = some (.cells #[.string (mk x), .int .u16 k, .int .u16 0] 44 (0, 0))) := set_row hob rfl
              clear hd hg hst ho hob hg3 HD HO HOB HN2 hBl
              go_wp2_with fail
              clear z1 zf
              generalize v3.setCell ⟨B, 1, none⟩ (.int .u16 (k : Int)) = v4 at HD3 HO3 HOB3 ⊢
              refine (HN3.out _ HD3.out.rd).mono ?_
              rintro e v5 ⟨rfl, hd, hg⟩
              have hst := HD3.out.call hd hg
              have ho := row_st HD3.out.rd HO3.out hg (by decide)
              have hBl : B < v4.heap.size := (Array.getElem?_eq_some_iff.1 HOB3.out).1
              have hob := (grown_block hg hBl (by omega)).trans HOB3.out
              have z2 := cell_of_row _ _ 2 _ _ _ hob
              have zf : ∀ i, v5.frozen? ⟨B, i, none⟩ = false := fun i => by simp [World.frozen?, hob]
              have hg3 := only_setCell (grown_refl v5 (some B)) (p := ⟨B, 2, none⟩) (.inl rfl) (.int .u16 (u : Int))
              have hd5 := hst.setNew hBG 2 (.int .u16 (u : Int))
              have ho5 := ho.kept hg3 (by cases hq : (Value.slice A j cp).ownBlock with | none => exact .inl rfl | some q => exact .inr fun e => (by injection e with e; have := HNB.out q hq; omega))
              have hob5 : (v5.setCell ⟨B, 2, none⟩ (.int .u16 (u : Int))).heap[B]? = some (.cells #[.string (mk x), .int .u16 k, .int .u16 u] 44 (0, 0)) := set_row hob rfl
              have HD5 := Lib.hid hd5
              have HO5 := Lib.hid ho5
              have HOB5 := Lib.hid hob5
              clear hd hg hst ho hob hg3 HD3 HO3 HOB3 HN3 hBl hd5 ho5 hob5
              go_upto_region 19 with fail
              clear z2 zf
              generalize v5.setCell ⟨B, 2, none⟩ (.int .u16 (u : Int)) = v6 at HD5 HO5 HOB5 ⊢
              have m2 := cell_of_row _ _ 2 _ _ _ HD5.out.b2
              have n0 := cell_of_row _ _ 0 _ _ _ HOB5.out
              have n1 := cell_of_row _ _ 1 _ _ _ HOB5.out
              have n2 := cell_of_row _ _ 2 _ _ _ HOB5.out
              have hG6 : Hid (G ≤ v6.heap.size) := HD5.out.sz
              go_wp2_with (at_builtin; refine wpList_append_lies _ rfl _ _ 24 rfl G 44 i0 (.agg #[.string ⟨#[]⟩, .int .u16 0, .int .u16 0]) 3 24 Try.underlying24 HI.out HZ0.out HZ1.out HZ2.out rfl (by decide) (.slice A j cp) j (qnCs qs) rfl (HO5.out.alloc _) ⟨v6.heap.size, 0, none⟩ 1 1 (qnV ⟨x, k, u⟩) rfl rfl ?c1 ?c2 (by decide) ?c3 ?c4 ?c5 _ rfl ?_)
              case c1 =>
                intro j u hj
                match j, hj with
                | 0, hj => simp [qnV] at hj; subst hj; simp [Addr.add]
                | 1, hj => simp [qnV] at hj; subst hj; simp [Addr.add]
                | 2, hj => simp [qnV] at hj; subst hj; simp [Addr.add]
              case c2 => intro u hu; simp [qnV] at hu; rcases hu with rfl | rfl | rfl <;> rfl
              case c3 => unfold maxLen; omega
              case c4 => omega
              case c5 => have := hG6.out; simp; omega
              intro gg cap v7 hown hgrow hat hlt7
              have hd7 := HD5.out.row HO5.out (Nat.le_refl _) (by decide) (by decide) ((Below.refl _ _).alloc (Nat.le_refl _) _) hgrow
              have q2 := cell_of_row _ _ 2 _ _ _ hd7.b2
              have qf := hd7.f2
              have hg7 := only_setCell (grown_refl v7 (some (G + 2))) (p := ⟨G + 2, 2, none⟩) (.inl rfl) (.slice (some ⟨gg, 0, none⟩) (j + 1) cap)
              have E1 : Hid ((v7.setCell ⟨G + 2, 2, none⟩ (.slice (some ⟨gg, 0, none⟩) (j + 1) cap)).ownsRow G 44 3 (.slice (some ⟨gg, 0, none⟩) (j + 1) cap) (j + 1) (qnCs (qs ++ [⟨x, k, u⟩]))) := by
                show World.ownsRow _ _ _ _ _ _ _
                rw [qnCs_snoc]
                exact hown.kept hg7 (row_ne hd7.b2 hown (by decide))
              have E2 : Hid (DrSt w (v7.setCell ⟨G + 2, 2, none⟩ (.slice (some ⟨gg, 0, none⟩) (j + 1) cap)) G s t3 (msgC id fl (.slice (some ⟨gg, 0, none⟩) (j + 1) cap) (.slice none 0 0) (.slice none 0 0) (.slice none 0 0))) := hd7.set 2 _
              clear hown hgrow hat hlt7 hd7 hg7 HD5 HO5 HOB5 m2 n0 n1 n2
              go_wp2_with fail
              go_roundw
              case rel => exact ⟨j + 1, t3, qs ++ [⟨x, k, u⟩], _, _, by go_num, by omega, by (show _ = _; rw [List.length_append, hL.out]; rfl), E2, E1, HPN⟩
              case measure => simp [intOf]; omega
            · have hz : ((e0 : Int) == 0) = false := beq_eq_false_iff_ne.2 (by omega)
              have HF : Hid (∃ (st : St) (qs : List Qn) (A : Option Addr) (cp : Nat), qs.length ≤ a ∧ Hid (DrSt w wr G s st (msgC id fl (.slice A qs.length cp) (.slice none 0 0) (.slice none 0 0) (.slice none 0 0))) ∧ Hid (wr.ownsRow G 44 3 (.slice A qs.length cp) qs.length (qnCs qs)) ∧ Hid (Pend st (re2 s.data.toList id fl c d qs [] b) R)) := ⟨(p0, e0), qs, A, cp, by rw [hL.out]; exact hj, by rw [hL.out]; exact hD, by rw [hL.out]; exact hO, hP.out.bad _ _ he⟩
              clear hL hD hO hP
              go_wp2_with fail
              go_meet
              exact HF.out
          · have hja : j = a := by omega
            have HF : Hid (∃ (st : St) (qs : List Qn) (A : Option Addr) (cp : Nat), qs.length ≤ a ∧ Hid (DrSt w wr G s st (msgC id fl (.slice A qs.length cp) (.slice none 0 0) (.slice none 0 0) (.slice none 0 0))) ∧ Hid (wr.ownsRow G 44 3 (.slice A qs.length cp) qs.length (qnCs qs)) ∧ Hid (Pend st (re2 s.data.toList id fl c d qs [] b) R)) := by
              refine ⟨(p0, e0), qs, A, cp, by rw [hL.out]; exact hj, by rw [hL.out]; exact hD, by rw [hL.out]; exact hO, ?_⟩
              by_cases he : e0 = 0
              · subst he
                have := hP.out
                rw [hja, Nat.sub_self] at this
                exact re1_end this
              · exact hP.out.bad _ _ he
            clear hL hD hO hP hja y2
            go_wp2_with fail
            go_meet
            exact HF.out
      case rest =>
        obtain ⟨st1, qs, Aq, cq, hql, HD1, HO1, HP1⟩ := hcut
        clear HD0 HP0
        obtain ⟨vq, hvq⟩ : ∃ v, (Value.slice Aq qs.length cq) = v := ⟨_, rfl⟩
        have HVQ := Lib.hid hvq
        rw [hvq] at HD1 HO1
        clear hvq
        have HR1 : Hid (RecLoop w wc G G s st1 (msgC id fl vq (.slice none 0 0) (.slice none 0 0) (.slice none 0 0)) vq qs [] (.slice none 0 0) []) := recLoop_start HD1.out HO1.out
        clear HD1 HO1
        obtain ⟨w1, rfl⟩ : ∃ w1 : World, w1 = wc := ⟨_, rfl⟩
        go_upto_block 2 with fail
        go_cut [] from 86 to 104 (fun wx => ∃ (st : St) (L : List Rec) (A : Option Addr) (cp : Nat), L.length ≤ b ∧ Hid (RecLoop w wx G G s st (msgC id fl vq (.slice A L.length cp) (.slice none 0 0) (.slice none 0 0)) vq qs [] (.slice A L.length cp) L) ∧ Hid (Pend st (re3 s.data.toList id fl d qs L [] c) R))
        case first =>
          obtain ⟨i0, hi, hz0, hz1, hz2⟩ := info_parts info_rec
          have HI := Lib.hid hi; clear hi
          have HZ0 := Lib.hid hz0; clear hz0
          have HZ1 := Lib.hid hz1; clear hz1
          have HZ2 := Lib.hid hz2; clear hz2
          go_wp2_with fail
          go_loopw [12] (fun i wr => ∃ (j : Nat) (st : St) (L : List Rec) (A : Option Addr) (cp : Nat), i = .int .i64 j ∧ j ≤ b ∧ Hid (L.length = j) ∧ Hid (RecLoop w wr G G s st (msgC id fl vq (.slice A j cp) (.slice none 0 0) (.slice none 0 0)) vq qs [] (.slice A j cp) L) ∧ Hid (Pend st (re2 s.data.toList id fl c d qs L (b - j)) R)) (fun i _ => b - (intOf i).toNat)
          case atStart => exact ⟨0, st1, [], none, 0, rfl, Nat.zero_le _, rfl, HR1, HP1⟩
          case round =>
            obtain ⟨j, ⟨p0, e0⟩, L, A, cp, rfl, hj, hL, hD, hP⟩ := hrel
            have y2 := hD.out.d.rd.c2
            simp only at y2
            clear HR1 HP1
            by_cases hlt : j < b
            · by_cases he : e0 = 0
              · subst he
                obtain ⟨m, hm⟩ : ∃ m, b - j = m + 1 := ⟨b - j - 1, by omega⟩
                have hp0 : p0 ≤ 1000000 := (hP.out.1 rfl).2
                obtain ⟨T, t1, g1⟩ : ∃ x st, recS s.data.toList (p0, 0) = (x, st) := ⟨_, _, rfl⟩
                have HPN : Hid (Pend t1 (re2 s.data.toList id fl c d qs (L ++ [T]) (b - (j + 1))) R) := by
                  have := hP.out
                  rw [hm] at this
                  have := re2_step hsl HM.out this g1
                  rwa [show b - (j + 1) = m by omega]
                have HDD := Lib.hid hD.out.drew
                have HN1 := Lib.hid (stRecord_any s (G + 1) p0 T t1 wr.drew HDD.out.d.rd hs hp0 g1)
                have hm63 : j + 1 ≤ maxLen := by unfold maxLen; omega
                have hm47 : (j + 1) * 96 ≤ 140737488355328 := by omega
                have m3 := cell_of_row _ _ 3 _ _ _ hD.out.d.b2
                obtain ⟨xn, hxn⟩ : ∃ x, mk T.name = x := ⟨_, rfl⟩
                obtain ⟨rk, hrk⟩ : ∃ n, T.kind = n := ⟨_, rfl⟩
                obtain ⟨rc, hrc⟩ : ∃ n, T.cls = n := ⟨_, rfl⟩
                obtain ⟨rt, hrt⟩ : ∃ n, T.ttl = n := ⟨_, rfl⟩
                have HXN := Lib.hid hxn
                have HRK := Lib.hid hrk
                have HRC := Lib.hid hrc
                have HRT := Lib.hid hrt
                clear hm g1 hP hxn hrk hrc hrt
                go_upto_block 3 with fail
                go_cut [] from 86 to 104 (fun wx => ∃ (A' : Option Addr) (cp' : Nat), Hid (RecLoop w wx G G s t1 (msgC id fl vq (.slice A' (j + 1) cp') (.slice none 0 0) (.slice none 0 0)) vq qs [] (.slice A' (j + 1) cp') (L ++ [T])))
                case first =>
                  go_upto_region 23 with fail
                  go_region_law (first | (refine step_append_lies _ (by rfl) (.tmp 99) (.tmp 102) 25 (by rfl) G 49 i0 (.agg #[.string ⟨#[]⟩, .int .u16 0, .int .u16 0, .int .u32 0, .slice none 0 0, .slice none 0 0, .slice none 0 0]) 7 96 Try.underlying25 HI.out HZ0.out HZ1.out HZ2.out rfl (by decide) (.slice A j cp) j (recCs Y) (by rfl) (HY2.out.alloc _) ⟨v1.heap.size, 0, none⟩ 1 1 [.string xn, .int .u16 rk, .int .u16 rc, .int .u32 rt, .slice A1 T.names.length c1, .slice A2 T.nums.length c2, .slice A3 T.texts.length c3] (by rfl) (by rfl) (World.news_of_block (cs := #[.string xn, .int .u16 rk, .int .u16 rc, .int .u32 rt, .slice A1 T.names.length c1, .slice A2 T.nums.length c2, .slice A3 T.texts.length c3]) (t := 49) (fr := (0, 0)) (heap_alloc_new v1 _)) (by intro u hu; simp at hu; rcases hu with rfl | rfl | rfl | rfl | rfl | rfl | rfl <;> rfl) (by decide) hm63 hm47 (by have := H1.out.sz; simp; omega) _ rfl ?_; intro gg cap v2 hown hgrow hat hlt2; have hown2 : v2.ownsRow G 49 7 (.slice (some ⟨gg, 0, none⟩) (j + 1) cap) (L.length + 1) (recCs Y ++ recV T (.slice A1 T.names.length c1) (.slice A2 T.nums.length c2) (.slice A3 T.texts.length c3)) := (by unfold recV; rw [hL.out, HXN.out, HRK.out, HRC.out, HRT.out]; exact hown); have h2 := H1.out.snoc HI2.out Y HY1.out (by rw [hL.out]; exact HY2.out) HY3.out hown2 hgrow; have r3 := cell_of_row _ _ 3 _ _ _ h2.d.b2; have rf := h2.d.f2; have H2 := Lib.hid h2; clear hown hown2 hgrow hat hlt2 h2) | (go_simp; go_at_call 27; refine HN1.out.mono ?_; rintro e v1 ⟨x1, x2, x3, rfl, hI, hd, hg⟩; obtain ⟨A1, c1, A2, c2, A3, c3, rfl, rfl, rfl, _⟩ := hI.at_; have h1 := HDD.out.call hd hg; have hi2 : RecIn v1 G T _ _ _ := hI.low HDD.out.sz; obtain ⟨Y, hZ1, hZ2, hZ3⟩ := h1.r; rw [hL.out] at hZ2; have n3 := cell_of_row _ _ 3 _ _ _ h1.d.b2; have H1 := Lib.hid h1; have HY1 := Lib.hid hZ1; have HY2 := Lib.hid hZ2; have HY3 := Lib.hid hZ3; have HI2 := Lib.hid hi2; have n4 := cell_of_row _ _ 3 _ _ _ (h1.d.alloc (.cells #[.string (mk T.name), .int .u16 T.kind, .int .u16 T.cls, .int .u32 T.ttl, .slice A1 T.names.length c1, .slice A2 T.nums.length c2, .slice A3 T.texts.length c3] 49)).b2; rw [HXN.out, HRK.out, HRC.out, HRT.out] at n4; rw [HXN.out, HRK.out, HRC.out, HRT.out]; clear h1 hI hd hg hi2 hZ1 hZ2 hZ3))
                  all_goals
                    have H3 : Hid (RecLoop w (v2.setCell ⟨G + 2, 3, none⟩ (.slice (some ⟨gg, 0, none⟩) (j + 1) cap)) G G s t1 (msgC id fl vq (.slice (some ⟨gg, 0, none⟩) (j + 1) cap) (.slice none 0 0) (.slice none 0 0)) vq qs [] (.slice (some ⟨gg, 0, none⟩) (j + 1) cap) (L ++ [T])) := H2.out.set rfl
                    clear n3 n4 r3 rf H1 H2 HY1 HY2 HY3 HI2 m3 y2 HDD HN1 hD
                    go_wp2_with fail
                    go_meet
                    exact ⟨_, _, H3⟩
                case rest =>
                  obtain ⟨A', cp', hC⟩ := hcut
                  clear m3 y2 HDD HN1 hD HXN HRK HRC HRT
                  go_wp2_with fail
                  go_roundw
                  case rel =>
                    (repeat apply Exists.intro)
                    first | exact ⟨by go_num, by omega, (by show _ = _; rw [List.length_append, hL.out]; rfl), hC, HPN⟩ | exact ⟨⟨by go_num, by omega, (by show _ = _; rw [List.length_append, hL.out]; rfl), hC, HPN⟩, rfl⟩
                  case measure => simp [intOf]; omega
              · have hz : ((e0 : Int) == 0) = false := beq_eq_false_iff_ne.2 (by omega)
                have HF : Hid (∃ (st : St) (L : List Rec) (A : Option Addr) (cp : Nat), L.length ≤ b ∧ Hid (RecLoop w wr G G s st (msgC id fl vq (.slice A L.length cp) (.slice none 0 0) (.slice none 0 0)) vq qs [] (.slice A L.length cp) L) ∧ Hid (Pend st (re3 s.data.toList id fl d qs L [] c) R)) := ⟨(p0, e0), L, A, cp, by rw [hL.out]; exact hj, by rw [hL.out]; exact hD, hP.out.bad _ _ he⟩
                clear hL hD hP
                go_wp2_with fail
                go_meet
                exact HF.out
            · have hja : j = b := by omega
              have HF : Hid (∃ (st : St) (L : List Rec) (A : Option Addr) (cp : Nat), L.length ≤ b ∧ Hid (RecLoop w wr G G s st (msgC id fl vq (.slice A L.length cp) (.slice none 0 0) (.slice none 0 0)) vq qs [] (.slice A L.length cp) L) ∧ Hid (Pend st (re3 s.data.toList id fl d qs L [] c) R)) := by
                refine ⟨(p0, e0), L, A, cp, by rw [hL.out]; exact hj, by rw [hL.out]; exact hD, ?_⟩
                by_cases he : e0 = 0
                · subst he
                  have := hP.out
                  rw [hja, Nat.sub_self] at this
                  exact re2_end this
                · exact hP.out.bad _ _ he
              clear hL hD hP hja y2
              go_wp2_with fail
              go_meet
              exact HF.out
        case rest =>
          clear HR1 HP1
          obtain ⟨st2, an, Aa, ca, hal, HR2a, HP2⟩ := hcut
          obtain ⟨va, hva⟩ : ∃ v, (Value.slice Aa an.length ca) = v := ⟨_, rfl⟩
          have HVA := Lib.hid hva
          rw [hva] at HR2a
          obtain ⟨w2, rfl⟩ : ∃ w2 : World, w2 = wc := ⟨_, rfl⟩
          obtain ⟨g3, hg3⟩ : ∃ g, w2.heap.size = g := ⟨_, rfl⟩
          have HR2 : Hid (RecLoop w w2 G g3 s st2 (msgC id fl vq va (.slice none 0 0) (.slice none 0 0)) vq qs [(va, an)] (.slice none 0 0) []) := by have := HR2a.out.next; rw [hg3] at this; exact this
          clear hva HR2a hg3
          go_upto_block 4 with fail
          go_cut [] from 105 to 123 (fun wx => ∃ (st : St) (L : List Rec) (A : Option Addr) (cp : Nat), L.length ≤ c ∧ Hid (RecLoop w wx G g3 s st (msgC id fl vq va (.slice A L.length cp) (.slice none 0 0)) vq qs [(va, an)] (.slice A L.length cp) L) ∧ Hid (Pend st (re4 s.data.toList id fl qs an L [] d) R))
          case first =>
            obtain ⟨i0, hi, hz0, hz1, hz2⟩ := info_parts info_rec
            have HI := Lib.hid hi; clear hi
            have HZ0 := Lib.hid hz0; clear hz0
            have HZ1 := Lib.hid hz1; clear hz1
            have HZ2 := Lib.hid hz2; clear hz2
            go_wp2_with fail
            go_loopw [13] (fun i wr => ∃ (j : Nat) (st : St) (L : List Rec) (A : Option Addr) (cp : Nat), i = .int .i64 j ∧ j ≤ c ∧ Hid (L.length = j) ∧ Hid (RecLoop w wr G g3 s st (msgC id fl vq va (.slice A j cp) (.slice none 0 0)) vq qs [(va, an)] (.slice A j cp) L) ∧ Hid (Pend st (re3 s.data.toList id fl d qs an L (c - j)) R)) (fun i _ => c - (intOf i).toNat)
            case atStart => exact ⟨0, st2, [], none, 0, rfl, Nat.zero_le _, rfl, HR2, HP2⟩
            case round =>
              obtain ⟨j, ⟨p0, e0⟩, L, A, cp, rfl, hj, hL, hD, hP⟩ := hrel
              have y2 := hD.out.d.rd.c2
              simp only at y2
              clear HR2 HP2
              by_cases hlt : j < c
              · by_cases he : e0 = 0
                · subst he
                  obtain ⟨m, hm⟩ : ∃ m, c - j = m + 1 := ⟨c - j - 1, by omega⟩
                  have hp0 : p0 ≤ 1000000 := (hP.out.1 rfl).2
                  obtain ⟨T, t1, g1⟩ : ∃ x st, recS s.data.toList (p0, 0) = (x, st) := ⟨_, _, rfl⟩
                  have HPN : Hid (Pend t1 (re3 s.data.toList id fl d qs an (L ++ [T]) (c - (j + 1))) R) := by
                    have := hP.out
                    rw [hm] at this
                    have := re3_step hsl HM.out this g1
                    rwa [show c - (j + 1) = m by omega]
                  have HDD := Lib.hid hD.out.drew
                  have HN1 := Lib.hid (stRecord_any s (G + 1) p0 T t1 wr.drew HDD.out.d.rd hs hp0 g1)
                  have hm63 : j + 1 ≤ maxLen := by unfold maxLen; omega
                  have hm47 : (j + 1) * 96 ≤ 140737488355328 := by omega
                  have m3 := cell_of_row _ _ 4 _ _ _ hD.out.d.b2
                  obtain ⟨xn, hxn⟩ : ∃ x, mk T.name = x := ⟨_, rfl⟩
                  obtain ⟨rk, hrk⟩ : ∃ n, T.kind = n := ⟨_, rfl⟩
                  obtain ⟨rc, hrc⟩ : ∃ n, T.cls = n := ⟨_, rfl⟩
                  obtain ⟨rt, hrt⟩ : ∃ n, T.ttl = n := ⟨_, rfl⟩
                  have HXN := Lib.hid hxn
                  have HRK := Lib.hid hrk
                  have HRC := Lib.hid hrc
                  have HRT := Lib.hid hrt
                  clear hm g1 hP hxn hrk hrc hrt
                  go_upto_block 5 with fail
                  go_cut [] from 105 to 123 (fun wx => ∃ (A' : Option Addr) (cp' : Nat), Hid (RecLoop w wx G g3 s t1 (msgC id fl vq va (.slice A' (j + 1) cp') (.slice none 0 0)) vq qs [(va, an)] (.slice A' (j + 1) cp') (L ++ [T])))
                  case first =>
                    go_upto_region 27 with fail
                    go_region_law (first | (refine step_append_lies _ (by rfl) (.tmp 118) (.tmp 121) 25 (by rfl) g3 49 i0 (.agg #[.string ⟨#[]⟩, .int .u16 0, .int .u16 0, .int .u32 0, .slice none 0 0, .slice none 0 0, .slice none 0 0]) 7 96 Try.underlying25 HI.out HZ0.out HZ1.out HZ2.out rfl (by decide) (.slice A j cp) j (recCs Y) (by rfl) (HY2.out.alloc _) ⟨v1.heap.size, 0, none⟩ 1 1 [.string xn, .int .u16 rk, .int .u16 rc, .int .u32 rt, .slice A1 T.names.length c1, .slice A2 T.nums.length c2, .slice A3 T.texts.length c3] (by rfl) (by rfl) (World.news_of_block (cs := #[.string xn, .int .u16 rk, .int .u16 rc, .int .u32 rt, .slice A1 T.names.length c1, .slice A2 T.nums.length c2, .slice A3 T.texts.length c3]) (t := 49) (fr := (0, 0)) (heap_alloc_new v1 _)) (by intro u hu; simp at hu; rcases hu with rfl | rfl | rfl | rfl | rfl | rfl | rfl <;> rfl) (by decide) hm63 hm47 (by have := H1.out.sz; simp; omega) _ rfl ?_; intro gg cap v2 hown hgrow hat hlt2; have hown2 : v2.ownsRow g3 49 7 (.slice (some ⟨gg, 0, none⟩) (j + 1) cap) (L.length + 1) (recCs Y ++ recV T (.slice A1 T.names.length c1) (.slice A2 T.nums.length c2) (.slice A3 T.texts.length c3)) := (by unfold recV; rw [hL.out, HXN.out, HRK.out, HRC.out, HRT.out]; exact hown); have h2 := H1.out.snoc HI2.out Y HY1.out (by rw [hL.out]; exact HY2.out) HY3.out hown2 hgrow; have r3 := cell_of_row _ _ 4 _ _ _ h2.d.b2; have rf := h2.d.f2; have H2 := Lib.hid h2; clear hown hown2 hgrow hat hlt2 h2) | (go_simp; go_at_call 27; refine HN1.out.mono ?_; rintro e v1 ⟨x1, x2, x3, rfl, hI, hd, hg⟩; obtain ⟨A1, c1, A2, c2, A3, c3, rfl, rfl, rfl, _⟩ := hI.at_; have h1 := HDD.out.call hd hg; have hi2 : RecIn v1 g3 T _ _ _ := hI.low HDD.out.sz; obtain ⟨Y, hZ1, hZ2, hZ3⟩ := h1.r; rw [hL.out] at hZ2; have n3 := cell_of_row _ _ 4 _ _ _ h1.d.b2; have H1 := Lib.hid h1; have HY1 := Lib.hid hZ1; have HY2 := Lib.hid hZ2; have HY3 := Lib.hid hZ3; have HI2 := Lib.hid hi2; have n4 := cell_of_row _ _ 4 _ _ _ (h1.d.alloc (.cells #[.string (mk T.name), .int .u16 T.kind, .int .u16 T.cls, .int .u32 T.ttl, .slice A1 T.names.length c1, .slice A2 T.nums.length c2, .slice A3 T.texts.length c3] 49)).b2; rw [HXN.out, HRK.out, HRC.out, HRT.out] at n4; rw [HXN.out, HRK.out, HRC.out, HRT.out]; clear h1 hI hd hg hi2 hZ1 hZ2 hZ3))
                    all_goals
                      have H3 : Hid (RecLoop w (v2.setCell ⟨G + 2, 4, none⟩ (.slice (some ⟨gg, 0, none⟩) (j + 1) cap)) G g3 s t1 (msgC id fl vq va (.slice (some ⟨gg, 0, none⟩) (j + 1) cap) (.slice none 0 0)) vq qs [(va, an)] (.slice (some ⟨gg, 0, none⟩) (j + 1) cap) (L ++ [T])) := H2.out.set rfl
                      clear n3 n4 r3 rf H1 H2 HY1 HY2 HY3 HI2 m3 y2 HDD HN1 hD
                      go_wp2_with fail
                      go_meet
                      exact ⟨_, _, H3⟩
                  case rest =>
                    obtain ⟨A', cp', hC⟩ := hcut
                    clear m3 y2 HDD HN1 hD HXN HRK HRC HRT
                    go_wp2_with fail
                    go_roundw
                    case rel =>
                      (repeat apply Exists.intro)
                      first | exact ⟨by go_num, by omega, (by show _ = _; rw [List.length_append, hL.out]; rfl), hC, HPN⟩ | exact ⟨⟨by go_num, by omega, (by show _ = _; rw [List.length_append, hL.out]; rfl), hC, HPN⟩, rfl⟩
                    case measure => simp [intOf]; omega
                · have hz : ((e0 : Int) == 0) = false := beq_eq_false_iff_ne.2 (by omega)
                  have HF : Hid (∃ (st : St) (L : List Rec) (A : Option Addr) (cp : Nat), L.length ≤ c ∧ Hid (RecLoop w wr G g3 s st (msgC id fl vq va (.slice A L.length cp) (.slice none 0 0)) vq qs [(va, an)] (.slice A L.length cp) L) ∧ Hid (Pend st (re4 s.data.toList id fl qs an L [] d) R)) := ⟨(p0, e0), L, A, cp, by rw [hL.out]; exact hj, by rw [hL.out]; exact hD, hP.out.bad _ _ he⟩
                  clear hL hD hP
                  go_wp2_with fail
                  go_meet
                  exact HF.out
              · have hja : j = c := by omega
                have HF : Hid (∃ (st : St) (L : List Rec) (A : Option Addr) (cp : Nat), L.length ≤ c ∧ Hid (RecLoop w wr G g3 s st (msgC id fl vq va (.slice A L.length cp) (.slice none 0 0)) vq qs [(va, an)] (.slice A L.length cp) L) ∧ Hid (Pend st (re4 s.data.toList id fl qs an L [] d) R)) := by
                  refine ⟨(p0, e0), L, A, cp, by rw [hL.out]; exact hj, by rw [hL.out]; exact hD, ?_⟩
                  by_cases he : e0 = 0
                  · subst he
                    have := hP.out
                    rw [hja, Nat.sub_self] at this
                    exact re3_end this
                  · exact hP.out.bad _ _ he
                clear hL hD hP hja y2
                go_wp2_with fail
                go_meet
                exact HF.out
          case rest =>
            clear HR2 HP2
            obtain ⟨st3, ns, An, cn, hnl, HR3a, HP3⟩ := hcut
            obtain ⟨vn, hvn⟩ : ∃ v, (Value.slice An ns.length cn) = v := ⟨_, rfl⟩
            have HVN := Lib.hid hvn
            rw [hvn] at HR3a
            obtain ⟨w3, rfl⟩ : ∃ w3 : World, w3 = wc := ⟨_, rfl⟩
            obtain ⟨g4, hg4⟩ : ∃ g, w3.heap.size = g := ⟨_, rfl⟩
            have HR3 : Hid (RecLoop w w3 G g4 s st3 (msgC id fl vq va vn (.slice none 0 0)) vq qs [(va, an), (vn, ns)] (.slice none 0 0) []) := by have := HR3a.out.next; rw [hg4] at this; exact this
            clear hvn HR3a hg4
            go_upto_block 6 with fail
            go_cut [] from 124 to 142 (fun wx => ∃ (st : St) (L : List Rec) (A : Option Addr) (cp : Nat), L.length ≤ d ∧ Hid (RecLoop w wx G g4 s st (msgC id fl vq va vn (.slice A L.length cp)) vq qs [(va, an), (vn, ns)] (.slice A L.length cp) L) ∧ Hid (Pend st (re4 s.data.toList id fl qs an ns L (0)) R))
            case first =>
              obtain ⟨i0, hi, hz0, hz1, hz2⟩ := info_parts info_rec
              have HI := Lib.hid hi; clear hi
              have HZ0 := Lib.hid hz0; clear hz0
              have HZ1 := Lib.hid hz1; clear hz1
              have HZ2 := Lib.hid hz2; clear hz2
              go_wp2_with fail
              go_loopw [14] (fun i wr => ∃ (j : Nat) (st : St) (L : List Rec) (A : Option Addr) (cp : Nat), i = .int .i64 j ∧ j ≤ d ∧ Hid (L.length = j) ∧ Hid (RecLoop w wr G g4 s st (msgC id fl vq va vn (.slice A j cp)) vq qs [(va, an), (vn, ns)] (.slice A j cp) L) ∧ Hid (Pend st (re4 s.data.toList id fl qs an ns L (d - j)) R)) (fun i _ => d - (intOf i).toNat)
              case atStart => exact ⟨0, st3, [], none, 0, rfl, Nat.zero_le _, rfl, HR3, HP3⟩
              case round =>
                obtain ⟨j, ⟨p0, e0⟩, L, A, cp, rfl, hj, hL, hD, hP⟩ := hrel
                have y2 := hD.out.d.rd.c2
                simp only at y2
                clear HR3 HP3
                by_cases hlt : j < d
                · by_cases he : e0 = 0
                  · subst he
                    obtain ⟨m, hm⟩ : ∃ m, d - j = m + 1 := ⟨d - j - 1, by omega⟩
                    have hp0 : p0 ≤ 1000000 := (hP.out.1 rfl).2
                    obtain ⟨T, t1, g1⟩ : ∃ x st, recS s.data.toList (p0, 0) = (x, st) := ⟨_, _, rfl⟩
                    have HPN : Hid (Pend t1 (re4 s.data.toList id fl qs an ns (L ++ [T]) (d - (j + 1))) R) := by
                      have := hP.out
                      rw [hm] at this
                      have := re4_step hsl HM.out this g1
                      rwa [show d - (j + 1) = m by omega]
                    have HDD := Lib.hid hD.out.drew
                    have HN1 := Lib.hid (stRecord_any s (G + 1) p0 T t1 wr.drew HDD.out.d.rd hs hp0 g1)
                    have hm63 : j + 1 ≤ maxLen := by unfold maxLen; omega
                    have hm47 : (j + 1) * 96 ≤ 140737488355328 := by omega
                    have m3 := cell_of_row _ _ 5 _ _ _ hD.out.d.b2
                    obtain ⟨xn, hxn⟩ : ∃ x, mk T.name = x := ⟨_, rfl⟩
                    obtain ⟨rk, hrk⟩ : ∃ n, T.kind = n := ⟨_, rfl⟩
                    obtain ⟨rc, hrc⟩ : ∃ n, T.cls = n := ⟨_, rfl⟩
                    obtain ⟨rt, hrt⟩ : ∃ n, T.ttl = n := ⟨_, rfl⟩
                    have HXN := Lib.hid hxn
                    have HRK := Lib.hid hrk
                    have HRC := Lib.hid hrc
                    have HRT := Lib.hid hrt
                    clear hm g1 hP hxn hrk hrc hrt
                    go_upto_block 7 with fail
                    go_cut [] from 124 to 142 (fun wx => ∃ (A' : Option Addr) (cp' : Nat), Hid (RecLoop w wx G g4 s t1 (msgC id fl vq va vn (.slice A' (j + 1) cp')) vq qs [(va, an), (vn, ns)] (.slice A' (j + 1) cp') (L ++ [T])))
                    case first =>
                      go_upto_region 31 with fail
                      go_region_law (first | (refine step_append_lies _ (by rfl) (.tmp 137) (.tmp 140) 25 (by rfl) g4 49 i0 (.agg #[.string ⟨#[]⟩, .int .u16 0, .int .u16 0, .int .u32 0, .slice none 0 0, .slice none 0 0, .slice none 0 0]) 7 96 Try.underlying25 HI.out HZ0.out HZ1.out HZ2.out rfl (by decide) (.slice A j cp) j (recCs Y) (by rfl) (HY2.out.alloc _) ⟨v1.heap.size, 0, none⟩ 1 1 [.string xn, .int .u16 rk, .int .u16 rc, .int .u32 rt, .slice A1 T.names.length c1, .slice A2 T.nums.length c2, .slice A3 T.texts.length c3] (by rfl) (by rfl) (World.news_of_block (cs := #[.string xn, .int .u16 rk, .int .u16 rc, .int .u32 rt, .slice A1 T.names.length c1, .slice A2 T.nums.length c2, .slice A3 T.texts.length c3]) (t := 49) (fr := (0, 0)) (heap_alloc_new v1 _)) (by intro u hu; simp at hu; rcases hu with rfl | rfl | rfl | rfl | rfl | rfl | rfl <;> rfl) (by decide) hm63 hm47 (by have := H1.out.sz; simp; omega) _ rfl ?_; intro gg cap v2 hown hgrow hat hlt2; have hown2 : v2.ownsRow g4 49 7 (.slice (some ⟨gg, 0, none⟩) (j + 1) cap) (L.length + 1) (recCs Y ++ recV T (.slice A1 T.names.length c1) (.slice A2 T.nums.length c2) (.slice A3 T.texts.length c3)) := (by unfold recV; rw [hL.out, HXN.out, HRK.out, HRC.out, HRT.out]; exact hown); have h2 := H1.out.snoc HI2.out Y HY1.out (by rw [hL.out]; exact HY2.out) HY3.out hown2 hgrow; have r3 := cell_of_row _ _ 5 _ _ _ h2.d.b2; have rf := h2.d.f2; have H2 := Lib.hid h2; clear hown hown2 hgrow hat hlt2 h2) | (go_simp; go_at_call 27; refine HN1.out.mono ?_; rintro e v1 ⟨x1, x2, x3, rfl, hI, hd, hg⟩; obtain ⟨A1, c1, A2, c2, A3, c3, rfl, rfl, rfl, _⟩ := hI.at_; have h1 := HDD.out.call hd hg; have hi2 : RecIn v1 g4 T _ _ _ := hI.low HDD.out.sz; obtain ⟨Y, hZ1, hZ2, hZ3⟩ := h1.r; rw [hL.out] at hZ2; have n3 := cell_of_row _ _ 5 _ _ _ h1.d.b2; have H1 := Lib.hid h1; have HY1 := Lib.hid hZ1; have HY2 := Lib.hid hZ2; have HY3 := Lib.hid hZ3; have HI2 := Lib.hid hi2; have n4 := cell_of_row _ _ 5 _ _ _ (h1.d.alloc (.cells #[.string (mk T.name), .int .u16 T.kind, .int .u16 T.cls, .int .u32 T.ttl, .slice A1 T.names.length c1, .slice A2 T.nums.length c2, .slice A3 T.texts.length c3] 49)).b2; rw [HXN.out, HRK.out, HRC.out, HRT.out] at n4; rw [HXN.out, HRK.out, HRC.out, HRT.out]; clear h1 hI hd hg hi2 hZ1 hZ2 hZ3))
                      all_goals
                        have H3 : Hid (RecLoop w (v2.setCell ⟨G + 2, 5, none⟩ (.slice (some ⟨gg, 0, none⟩) (j + 1) cap)) G g4 s t1 (msgC id fl vq va vn (.slice (some ⟨gg, 0, none⟩) (j + 1) cap)) vq qs [(va, an), (vn, ns)] (.slice (some ⟨gg, 0, none⟩) (j + 1) cap) (L ++ [T])) := H2.out.set rfl
                        clear n3 n4 r3 rf H1 H2 HY1 HY2 HY3 HI2 m3 y2 HDD HN1 hD
                        go_wp2_with fail
                        go_meet
                        exact ⟨_, _, H3⟩
                    case rest =>
                      obtain ⟨A', cp', hC⟩ := hcut
                      clear m3 y2 HDD HN1 hD HXN HRK HRC HRT
                      go_wp2_with fail
                      go_roundw
                      case rel =>
                        (repeat apply Exists.intro)
                        first | exact ⟨by go_num, by omega, (by show _ = _; rw [List.length_append, hL.out]; rfl), hC, HPN⟩ | exact ⟨⟨by go_num, by omega, (by show _ = _; rw [List.length_append, hL.out]; rfl), hC, HPN⟩, rfl⟩
                      case measure => simp [intOf]; omega
                  · have hz : ((e0 : Int) == 0) = false := beq_eq_false_iff_ne.2 (by omega)
                    have HF : Hid (∃ (st : St) (L : List Rec) (A : Option Addr) (cp : Nat), L.length ≤ d ∧ Hid (RecLoop w wr G g4 s st (msgC id fl vq va vn (.slice A L.length cp)) vq qs [(va, an), (vn, ns)] (.slice A L.length cp) L) ∧ Hid (Pend st (re4 s.data.toList id fl qs an ns L (0)) R)) := ⟨(p0, e0), L, A, cp, by rw [hL.out]; exact hj, by rw [hL.out]; exact hD, hP.out.bad _ _ he⟩
                    clear hL hD hP
                    go_wp2_with fail
                    go_meet
                    exact HF.out
                · have hja : j = d := by omega
                  have HF : Hid (∃ (st : St) (L : List Rec) (A : Option Addr) (cp : Nat), L.length ≤ d ∧ Hid (RecLoop w wr G g4 s st (msgC id fl vq va vn (.slice A L.length cp)) vq qs [(va, an), (vn, ns)] (.slice A L.length cp) L) ∧ Hid (Pend st (re4 s.data.toList id fl qs an ns L (0)) R)) := by
                    refine ⟨(p0, e0), L, A, cp, by rw [hL.out]; exact hj, by rw [hL.out]; exact hD, ?_⟩
                    by_cases he : e0 = 0
                    · subst he
                      have := hP.out
                      rw [hja, Nat.sub_self] at this
                      exact this
                    · exact hP.out.bad _ _ he
                  clear hL hD hP hja y2
                  go_wp2_with fail
                  go_meet
                  exact HF.out
            case rest =>
              clear HR3 HP3
              obtain ⟨⟨p4, e4⟩, ad, Ax, cx, hxl, HR4, HP4⟩ := hcut
              obtain ⟨w4, rfl⟩ : ∃ w4 : World, w4 = wc := ⟨_, rfl⟩
              rw [← HVQ.out, ← HVA.out, ← HVN.out] at HR4
              have y1 := HR4.out.d.rd.c1
              have y2 := HR4.out.d.rd.c2
              simp only at y1 y2
              have f0 := cell_of_row _ _ 0 _ _ _ HR4.out.d.b0
              have f1 := cell_of_row _ _ 1 _ _ _ HR4.out.d.b0
              have f2 := cell_of_row _ _ 2 _ _ _ HR4.out.d.b0
              have f3 := cell_of_row _ _ 3 _ _ _ HR4.out.d.b0
              have f4 := cell_of_row _ _ 4 _ _ _ HR4.out.d.b0
              have f5 := cell_of_row _ _ 5 _ _ _ HR4.out.d.b0
              have ff := HR4.out.d.f0
              by_cases he : e4 = 0
              · subst he
                have hRe := re4_end HP4.out
                by_cases hp : p4 < s.size
                · rw [if_pos (by rw [← SZ.out]; exact hp)] at hRe
                  subst hRe
                  have hpi : (p4 : Int) < (s.size : Int) := by omega
                  have H7 := Lib.hid (HR4.out.d.setErr 7)
                  have xf := HR4.out.d.rd.fz 2
                  have z2 : World.cell? (w4.setCell ⟨G + 1, 2, none⟩ (.int .i64 7)) ⟨G + 1, 2, none⟩ = some (.int .i64 7) := H7.out.rd.c2
                  clear HR4 HP4
                  go_upto_region 34 with fail
                  clear f0 f1 f2 f3 f4 f5 ff y1 y2 xf
                  generalize w4.setCell ⟨G + 1, 2, none⟩ (.int .i64 7) = w5 at H7 z2 ⊢
                  have f0 := cell_of_row _ _ 0 _ _ _ H7.out.b0
                  have f1 := cell_of_row _ _ 1 _ _ _ H7.out.b0
                  have f2 := cell_of_row _ _ 2 _ _ _ H7.out.b0
                  have f3 := cell_of_row _ _ 3 _ _ _ H7.out.b0
                  have f4 := cell_of_row _ _ 4 _ _ _ H7.out.b0
                  have f5 := cell_of_row _ _ 5 _ _ _ H7.out.b0
                  have ff := H7.out.f0
                  go_wp2_with fail
                  go_region
                  all_goals
                    go_wp2_with fail
                    refine bodyPost_ret (v := .tuple #[.agg #[.int .u16 0, .int .u16 0, .slice none 0 0, .slice none 0 0, .slice none 0 0, .slice none 0 0], .int .i64 7]) (by simp [results, Try.results11, go_sem, f0, f1, f2, f3, f4, f5]) rfl ?_
                    exact readRet_err (x := 7) H7.out
                · rw [if_neg (by rw [← SZ.out]; exact hp)] at hRe
                  subst hRe
                  have hpi : ¬ ((p4 : Int) < (s.size : Int)) := by omega
                  have g0 := cell_of_row _ _ 0 _ _ _ HR4.out.d.b2
                  have g1 := cell_of_row _ _ 1 _ _ _ HR4.out.d.b2
                  have g2 := cell_of_row _ _ 2 _ _ _ HR4.out.d.b2
                  have g3 := cell_of_row _ _ 3 _ _ _ HR4.out.d.b2
                  have g4 := cell_of_row _ _ 4 _ _ _ HR4.out.d.b2
                  have g5 := cell_of_row _ _ 5 _ _ _ HR4.out.d.b2
                  clear HP4
                  go_wp2_with fail
                  refine bodyPost_ret (v := .tuple #[.agg #[.int .u16 id, .int .u16 fl, .slice Aq qs.length cq, .slice Aa an.length ca, .slice An ns.length cn, .slice Ax ad.length cx], .int .i64 0]) (by simp [results, Try.results11, go_sem, f0, f1, f2, f3, f4, f5]) rfl ?_
                  with_reducible exact readRet_ok HR4.out
              · have hRe := HP4.out.2 he
                simp only at hRe
                subst hRe
                have hz : ((e4 : Int) == 0) = false := beq_eq_false_iff_ne.2 (by omega)
                have hz2 : ((e4 : Int) != 0) = true := bne_iff_ne.2 (by omega)
                have H7 := Lib.hid HR4.out.d
                clear HR4 HP4
                go_wp2_with fail
                go_region
                all_goals
                  go_wp2_with fail
                  refine bodyPost_ret (v := .tuple #[.agg #[.int .u16 0, .int .u16 0, .slice none 0 0, .slice none 0 0, .slice none 0 0, .slice none 0 0], .int .i64 e4]) (by simp [results, Try.results11, go_sem, f0, f1, f2, f3, f4, f5]) rfl ?_
                  with_reducible exact readRet_err H7.out
/-- The document's Read. -/
theorem refRead_any (s : ByteArray) (R : Except Nat Msg) (w : World) (hs : s.size ≤ 1000000) (hR : Hid (rd (recE s.data.toList) s.data.toList = R)) :
    Calls Try.prog 11 #[.string s] w (ReadRet w R) := by
  have hR2 := hR.out
  unfold rd at hR2
  by_cases hl : 65535 < s.size
  · rw [if_pos (by rw [← Lib.size_eq]; exact hl)] at hR2
    subst hR2
    exact refRead_long s w hs hl
  · rw [if_neg (by rw [← Lib.size_eq]; exact hl)] at hR2
    exact refRead_some s R w (by omega) hR2
end Go.Proofs.Ytihkmdojakalbaa
