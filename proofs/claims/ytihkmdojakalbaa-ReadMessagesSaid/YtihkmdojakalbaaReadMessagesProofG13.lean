/- Texts of one proof, one behind the other: RefDataN, RefDataS, RefDataT, RefDataA. -/
import Derived.Test.YtihkmdojakalbaaProg
import Derived.Test.YtihkmdojakalbaaReadMessagesProofG1
import Derived.Test.YtihkmdojakalbaaReadMessagesProofG2
import Derived.Test.YtihkmdojakalbaaReadMessagesProofG6
import Derived.Test.YtihkmdojakalbaaReadMessagesProofG12
import Derived.Test.YtihkmdojakalbaaReadMessagesProofG7
import Derived.WalkKit
import Derived.Lib.Hide
import Derived.Laws.Rows
import Derived.Laws.AppendOwn
import Derived.Outline
import Derived.IntWalk
import Derived.WalkSpells
import Derived.WalkLawsBesides
import Derived.RegionTactic
import Derived.ChangeAlike
import Derived.Deep.QuietTactic
import Derived.BigQuiet
import Derived.Deep.Draws
import Derived.Deep.RegionLaw
import Derived.Deep.CutRange
import Derived.Deep.DrawnRows
import Derived.Deep.RegionHeld3
import Derived.Deep.AppendLies

/- The contracts of the document's data of a record, names and numbers. For texts of at most 10^6 bytes. -/
namespace Go.Proofs.Ytihkmdojakalbaa
open Go.RowKit NumMath NmMath Bytes Strs Nums StMath RecMath


set_option maxHeartbeats 4000000 in
set_option maxRecDepth 100000 in
theorem data_names (s x : ByteArray) (r k b l t p E : Nat) (ns : List Nat) (nms : List (List UInt8)) (st1 st2 : St) (w : World) (h : StAt w r s (p, 0)) (hs : s.size ≤ 1000000) (hE : E ≤ s.size) (hp : p ≤ E) (ha : shA k = 1) (hb : shB k = b) (hc : shC k = 0) (hb3 : b ≤ 3) (h6 : k ≠ 6) (h16 : k ≠ 16) (hx1 : Hid (numbersS s.data.toList 2 E b [] (p, 0) = (ns, st1))) (hx2 : Hid (namesS s.data.toList k E 1 [] st1 = (nms, st2))) :
    Calls Try.prog 54 #[.pointer (some ⟨r, 0, none⟩), .agg #[.string x, .int .u16 k, .int .u16 l, .int .u32 t, .slice none 0 0, .slice none 0 0, .slice none 0 0], .int .i64 E] w (DatEnd w r s x k l t ⟨nms, ns, [], dat5 E st2⟩) := by
  obtain ⟨g, hg⟩ : ∃ g, w.heap.size = g := ⟨_, rfl⟩
  have G := Lib.hid hg
  have SZ := Lib.size_eq s
  have hst0 := datSt_start w r s x k l t (p, 0) h
  rw [hg] at hst0
  have HST0 := Lib.hid hst0
  have q1 := cell_of_row _ _ 1 _ _ _ hst0.b0
  have HSH := Lib.hid (fun w => refShape_is k 1 b 0 w ha hb hc)
  have k6 : ((k : Int) != 6) = true := bne_iff_ne.2 (by omega)
  have k6' : ((k : Int) == 6) = false := beq_eq_false_iff_ne.2 (by omega)
  have k16 : ((k : Int) == 16) = false := beq_eq_false_iff_ne.2 (by omega)
  have k16' : ((k : Int) != 16) = true := bne_iff_ne.2 (by omega)
  have hl1 : st1.1 ≤ 1000000 := by
    have := numbersS_le (l := s.data.toList) (size := 2) (E := E) (N := 1000000) (m := b) (out := []) (by rw [← SZ]; exact hs) (st := (p, 0)) (by show p ≤ _; omega)
    rw [hx1.out] at this
    exact this
  have HN := Lib.hid (fun wr (hd : StAt wr r s (p, 0)) => stNumbers_any s r b 2 E ns (p, 0) st1 wr hd hs hE (by show p ≤ _; omega) (by decide) (by decide) (by omega) hx1)
  have HM := Lib.hid (fun wr (hd : StAt wr r s st1) => stNames_any s r k 1 E nms st1 st2 wr hd hs hE hl1 (by decide) hx2)
  clear hst0 h hx1 hx2 SZ h6 h16 ha hb hc
  go_enter Try.func54, Try.ntmps54
  go_wp2_with fail
  generalize (w.alloc (.cells #[.string x, .int .u16 k, .int .u16 l, .int .u32 t, .slice none 0 0, .slice none 0 0, .slice none 0 0] 49)).alloc (.cells #[.string ⟨#[]⟩, .int .u16 0, .int .u16 0, .int .u32 0, .slice none 0 0, .slice none 0 0, .slice none 0 0] 49) = wa at HST0 q1 ⊢
  refine (HSH.out _).mono ?_
  rintro e w' ⟨rfl, rfl⟩
  go_wp2_with fail
  refine (HN.out _ HST0.out.rd).mono ?_
  rintro e w1 ⟨va, rfl, hO2, hD1, hG1⟩
  obtain ⟨A2, m2, c2, rfl⟩ := row_slice hO2
  have hst1 := HST0.out.call hD1 hG1
  have a5 := cell_of_row _ _ 5 _ _ _ hst1.b0
  have af : ∀ i, w1.frozen? ⟨g, i, none⟩ = false := fun i => by simp [World.frozen?, hst1.b0]
  have hst2 : DatSt w (w1.setCell ⟨g, 5, none⟩ (.slice A2 m2 c2)) g r s st1 #[.string x, .int .u16 k, .int .u16 l, .int .u32 t, .slice none 0 0, (.slice A2 m2 c2), .slice none 0 0] := hst1.set 5 _
  have hgs := only_setCell (grown_refl w1 (some g)) (p := ⟨g, 5, none⟩) (.inl rfl) (.slice A2 m2 c2)
  have HO2 := Lib.hid ((row_low hO2 HST0.out.size).kept hgs (row_ne hst1.b0 (row_low hO2 HST0.out.size) (by decide)))
  have HST2 := Lib.hid hst2
  have k2 := cell_of_row _ _ 1 _ _ _ hst2.b0
  clear hO2 hD1 hG1 hst1 hst2 hgs
  go_wp2_with fail
  generalize w1.setCell ⟨g, 5, none⟩ (.slice A2 m2 c2) = w2 at HST2 HO2 k2 ⊢
  refine (HM.out _ HST2.out.rd).mono ?_
  rintro e w3 ⟨vb, rfl, hO1, hD3, hG3⟩
  obtain ⟨A1, m1, c1, rfl⟩ := row_slice hO1
  have hst3 := HST2.out.call hD3 hG3
  have a4 := cell_of_row _ _ 4 _ _ _ hst3.b0
  have af3 : ∀ i, w3.frozen? ⟨g, i, none⟩ = false := fun i => by simp [World.frozen?, hst3.b0]
  have hO2' := row_st HST2.out.rd HO2.out hG3 (by decide)
  have hst4 : DatSt w (w3.setCell ⟨g, 4, none⟩ (.slice A1 m1 c1)) g r s st2 #[.string x, .int .u16 k, .int .u16 l, .int .u32 t, (.slice A1 m1 c1), (.slice A2 m2 c2), .slice none 0 0] := hst3.set 4 _
  have hgs := only_setCell (grown_refl w3 (some g)) (p := ⟨g, 4, none⟩) (.inl rfl) (.slice A1 m1 c1)
  have HO1 := Lib.hid ((row_low hO1 HST2.out.size).kept hgs (row_ne hst3.b0 (row_low hO1 HST2.out.size) (by decide)))
  have HO2b := Lib.hid (hO2'.kept hgs (row_ne hst3.b0 hO2' (by decide)))
  have HST4 := Lib.hid hst4
  have k4 := cell_of_row _ _ 1 _ _ _ hst4.b0
  obtain ⟨p2, e2⟩ := st2
  have s1 := hst4.rd.c1
  have s2 := hst4.rd.c2
  have sf := hst4.rd.fz
  simp only at s1 s2
  clear hO1 hD3 hG3 hst3 hst4 hgs hO2' HO2
  go_wp2_with fail
  generalize w3.setCell ⟨g, 4, none⟩ (.slice A1 m1 c1) = w4 at HST4 HO1 HO2b k4 s1 s2 sf ⊢
  have d0 := cell_of_row _ _ 0 _ _ _ HST4.out.b0
  have d2 := cell_of_row _ _ 2 _ _ _ HST4.out.b0
  have d3 := cell_of_row _ _ 3 _ _ _ HST4.out.b0
  have d4 := cell_of_row _ _ 4 _ _ _ HST4.out.b0
  have d5 := cell_of_row _ _ 5 _ _ _ HST4.out.b0
  have d6 := cell_of_row _ _ 6 _ _ _ HST4.out.b0
  have e0 := cell_of_row _ _ 0 _ _ _ HST4.out.b1
  have e1 := cell_of_row _ _ 1 _ _ _ HST4.out.b1
  have e2' := cell_of_row _ _ 2 _ _ _ HST4.out.b1
  have e3 := cell_of_row _ _ 3 _ _ _ HST4.out.b1
  have e4 := cell_of_row _ _ 4 _ _ _ HST4.out.b1
  have e5 := cell_of_row _ _ 5 _ _ _ HST4.out.b1
  have e6 := cell_of_row _ _ 6 _ _ _ HST4.out.b1
  have ef : ∀ i, w4.frozen? ⟨g + 1, i, none⟩ = false := fun i => by simp [World.frozen?, HST4.out.b1]
  have hne1 : r ≠ g := by have := HST4.out.rg; omega
  have hne2 : r ≠ g + 1 := by have := HST4.out.rg; omega
  clear q1 k2 a5 af a4 af3
  go_loopw [10] (fun _ wr => wr = w4) (fun _ _ => 0)
  case atStart => rfl
  case round =>
    obtain rfl := hrel
    by_cases he : e2 = 0
    · subst he
      have hz : (((0 : Nat) : Int) == 0) = true := rfl
      by_cases hq : p2 = E
      · have hqn : ((p2 : Int) != (E : Int)) = false := bne_eq_false_iff_eq.2 (by omega)
        have hd5 : Hid (dat5 E (p2, 0) = (p2, 0)) := if_neg (fun h => h.2 hq)
        clear hq
        go_wp2_with fail
        refine bodyPost_ret (v := .agg #[.string x, .int .u16 k, .int .u16 l, .int .u32 t, (.slice A1 m1 c1), (.slice A2 m2 c2), .slice none 0 0]) (by simp [results, Try.results54, go_sem, e0, e1, e2', e3, e4, e5, e6]) rfl ?_
        have h7 := HST4.out
        have u1 := HO1.out
        have u2 := HO2b.out
        generalize wr = wz at h7 u1 u2 ⊢
        have hg8 := setRec_grown wz (g + 1) (.string x) (.int .u16 k) (.int .u16 l) (.int .u32 t) (.slice A1 m1 c1) (.slice A2 m2 c2) (.slice none 0 0)
        have hk8 := h7.kept.own hg8 h7.size (fun k e => by injection e with e; omega)
        have y1 := u1.kept hg8 (row_ne h7.b1 u1 (by decide))
        have y2 := u2.kept hg8 (row_ne h7.b1 u2 (by decide))
        have yd := h7.rd.other hg8 hne2
        refine ⟨_, _, _, rfl, ?_, ?_, World.ownsRow_nil _ _ _ _, ?_, kept_grown hk8 G.out⟩
        · rw [G.out]; exact y1
        · rw [G.out]; exact y2
        · rw [hd5.out]; exact yd
      · have hqn : ((p2 : Int) != (E : Int)) = true := bne_iff_ne.2 (by omega)
        have hd5 : Hid (dat5 E (p2, 0) = (p2, 50)) := if_pos ⟨rfl, hq⟩
        clear hq
        go_wp2_with fail
        refine bodyPost_ret (v := .agg #[.string x, .int .u16 k, .int .u16 l, .int .u32 t, (.slice A1 m1 c1), (.slice A2 m2 c2), .slice none 0 0]) (by simp [results, Try.results54, go_sem, e0, e1, e2', e3, e4, e5, e6]) rfl ?_
        have h7 := HST4.out.setErr 50
        have hg7 := only_setCell (grown_refl wr (some r)) (p := ⟨r, 2, none⟩) (.inl rfl) (.int .i64 50)
        have u1 := row_st HST4.out.rd HO1.out hg7 (by decide)
        have u2 := row_st HST4.out.rd HO2b.out hg7 (by decide)
        generalize wr.setCell ⟨r, 2, none⟩ (.int .i64 50) = wz at h7 u1 u2 ⊢
        have hg8 := setRec_grown wz (g + 1) (.string x) (.int .u16 k) (.int .u16 l) (.int .u32 t) (.slice A1 m1 c1) (.slice A2 m2 c2) (.slice none 0 0)
        have hk8 := h7.kept.own hg8 h7.size (fun k e => by injection e with e; omega)
        have y1 := u1.kept hg8 (row_ne h7.b1 u1 (by decide))
        have y2 := u2.kept hg8 (row_ne h7.b1 u2 (by decide))
        have yd := h7.rd.other hg8 hne2
        refine ⟨_, _, _, rfl, ?_, ?_, World.ownsRow_nil _ _ _ _, ?_, kept_grown hk8 G.out⟩
        · rw [G.out]; exact y1
        · rw [G.out]; exact y2
        · rw [hd5.out]; exact yd
    · have hz : ((e2 : Int) == 0) = false := beq_eq_false_iff_ne.2 (by omega)
      have hd5 : Hid (dat5 E (p2, e2) = (p2, e2)) := if_neg (fun h => he h.1)
      clear he
      go_wp2_with fail
      refine bodyPost_ret (v := .agg #[.string x, .int .u16 k, .int .u16 l, .int .u32 t, (.slice A1 m1 c1), (.slice A2 m2 c2), .slice none 0 0]) (by simp [results, Try.results54, go_sem, e0, e1, e2', e3, e4, e5, e6]) rfl ?_
      have h7 := HST4.out
      have u1 := HO1.out
      have u2 := HO2b.out
      generalize wr = wz at h7 u1 u2 ⊢
      have hg8 := setRec_grown wz (g + 1) (.string x) (.int .u16 k) (.int .u16 l) (.int .u32 t) (.slice A1 m1 c1) (.slice A2 m2 c2) (.slice none 0 0)
      have hk8 := h7.kept.own hg8 h7.size (fun k e => by injection e with e; omega)
      have y1 := u1.kept hg8 (row_ne h7.b1 u1 (by decide))
      have y2 := u2.kept hg8 (row_ne h7.b1 u2 (by decide))
      have yd := h7.rd.other hg8 hne2
      refine ⟨_, _, _, rfl, ?_, ?_, World.ownsRow_nil _ _ _ _, ?_, kept_grown hk8 G.out⟩
      · rw [G.out]; exact y1
      · rw [G.out]; exact y2
      · rw [hd5.out]; exact yd
end Go.Proofs.Ytihkmdojakalbaa

/- The contracts of the document's data of a record, of SOA. For texts of at most 10^6 bytes. -/
namespace Go.Proofs.Ytihkmdojakalbaa
open Go.RowKit NumMath NmMath Bytes Strs Nums StMath RecMath


set_option maxHeartbeats 4000000 in
set_option maxRecDepth 100000 in
theorem data_soa (s x : ByteArray) (r l t p E : Nat) (ns : List Nat) (nms : List (List UInt8)) (st1 st2 : St) (w : World) (h : StAt w r s (p, 0)) (hs : s.size ≤ 1000000) (hE : E ≤ s.size) (hp : p ≤ E) (hx1 : Hid (namesS s.data.toList 6 E 2 [] (p, 0) = (nms, st1))) (hx2 : Hid (numbersS s.data.toList 4 E 5 [] st1 = (ns, st2))) :
    Calls Try.prog 54 #[.pointer (some ⟨r, 0, none⟩), .agg #[.string x, .int .u16 6, .int .u16 l, .int .u32 t, .slice none 0 0, .slice none 0 0, .slice none 0 0], .int .i64 E] w (DatEnd w r s x 6 l t ⟨nms, ns, [], dat5 E st2⟩) := by
  obtain ⟨g, hg⟩ : ∃ g, w.heap.size = g := ⟨_, rfl⟩
  have G := Lib.hid hg
  have SZ := Lib.size_eq s
  have hst0 := datSt_start w r s x 6 l t (p, 0) h
  rw [hg] at hst0
  have HST0 := Lib.hid hst0
  have q1 := cell_of_row _ _ 1 _ _ _ hst0.b0
  have HSH := Lib.hid (fun w => refShape_is 6 2 5 0 w rfl rfl rfl)
  have hl1 : st1.1 ≤ 1000000 := by
    have := namesS_le (l := s.data.toList) (kind := 6) (E := E) (N := 1000000) (m := 2) (out := []) (by rw [← SZ]; exact hs) (st := (p, 0)) (by show p ≤ _; omega)
    rw [hx1.out] at this
    exact this
  have HN := Lib.hid (fun wr (hd : StAt wr r s (p, 0)) => stNames_any s r 6 2 E nms (p, 0) st1 wr hd hs hE (by show p ≤ _; omega) (by decide) hx1)
  have HM := Lib.hid (fun wr (hd : StAt wr r s st1) => stNumbers_any s r 5 4 E ns st1 st2 wr hd hs hE hl1 (by decide) (by decide) (by decide) hx2)
  clear hst0 h hx1 hx2 SZ
  go_enter Try.func54, Try.ntmps54
  go_wp2_with fail
  generalize (w.alloc (.cells #[.string x, .int .u16 6, .int .u16 l, .int .u32 t, .slice none 0 0, .slice none 0 0, .slice none 0 0] 49)).alloc (.cells #[.string ⟨#[]⟩, .int .u16 0, .int .u16 0, .int .u32 0, .slice none 0 0, .slice none 0 0, .slice none 0 0] 49) = wa at HST0 q1 ⊢
  refine (HSH.out _).mono ?_
  rintro e w' ⟨rfl, rfl⟩
  go_wp2_with fail
  refine (HN.out _ HST0.out.rd).mono ?_
  rintro e w1 ⟨va, rfl, hO2, hD1, hG1⟩
  obtain ⟨A1, m1, c1, rfl⟩ := row_slice hO2
  have hst1 := HST0.out.call hD1 hG1
  have a5 := cell_of_row _ _ 4 _ _ _ hst1.b0
  have af : ∀ i, w1.frozen? ⟨g, i, none⟩ = false := fun i => by simp [World.frozen?, hst1.b0]
  have hst2 : DatSt w (w1.setCell ⟨g, 4, none⟩ (.slice A1 m1 c1)) g r s st1 #[.string x, .int .u16 6, .int .u16 l, .int .u32 t, (.slice A1 m1 c1), .slice none 0 0, .slice none 0 0] := hst1.set 4 _
  have hgs := only_setCell (grown_refl w1 (some g)) (p := ⟨g, 4, none⟩) (.inl rfl) (.slice A1 m1 c1)
  have HO2 := Lib.hid ((row_low hO2 HST0.out.size).kept hgs (row_ne hst1.b0 (row_low hO2 HST0.out.size) (by decide)))
  have HST2 := Lib.hid hst2
  have k2 := cell_of_row _ _ 1 _ _ _ hst2.b0
  clear hO2 hD1 hG1 hst1 hst2 hgs
  go_wp2_with fail
  generalize w1.setCell ⟨g, 4, none⟩ (.slice A1 m1 c1) = w2 at HST2 HO2 k2 ⊢
  refine (HM.out _ HST2.out.rd).mono ?_
  rintro e w3 ⟨vb, rfl, hO1, hD3, hG3⟩
  obtain ⟨A2, m2, c2, rfl⟩ := row_slice hO1
  have hst3 := HST2.out.call hD3 hG3
  have a4 := cell_of_row _ _ 5 _ _ _ hst3.b0
  have af3 : ∀ i, w3.frozen? ⟨g, i, none⟩ = false := fun i => by simp [World.frozen?, hst3.b0]
  have hO2' := row_st HST2.out.rd HO2.out hG3 (by decide)
  have hst4 : DatSt w (w3.setCell ⟨g, 5, none⟩ (.slice A2 m2 c2)) g r s st2 #[.string x, .int .u16 6, .int .u16 l, .int .u32 t, (.slice A1 m1 c1), (.slice A2 m2 c2), .slice none 0 0] := hst3.set 5 _
  have hgs := only_setCell (grown_refl w3 (some g)) (p := ⟨g, 5, none⟩) (.inl rfl) (.slice A2 m2 c2)
  have HO1 := Lib.hid ((row_low hO1 HST2.out.size).kept hgs (row_ne hst3.b0 (row_low hO1 HST2.out.size) (by decide)))
  have HO2b := Lib.hid (hO2'.kept hgs (row_ne hst3.b0 hO2' (by decide)))
  have HST4 := Lib.hid hst4
  have k4 := cell_of_row _ _ 1 _ _ _ hst4.b0
  obtain ⟨p2, e2⟩ := st2
  have s1 := hst4.rd.c1
  have s2 := hst4.rd.c2
  have sf := hst4.rd.fz
  simp only at s1 s2
  clear hO1 hD3 hG3 hst3 hst4 hgs hO2' HO2
  go_wp2_with fail
  generalize w3.setCell ⟨g, 5, none⟩ (.slice A2 m2 c2) = w4 at HST4 HO1 HO2b k4 s1 s2 sf ⊢
  have d0 := cell_of_row _ _ 0 _ _ _ HST4.out.b0
  have d2 := cell_of_row _ _ 2 _ _ _ HST4.out.b0
  have d3 := cell_of_row _ _ 3 _ _ _ HST4.out.b0
  have d4 := cell_of_row _ _ 4 _ _ _ HST4.out.b0
  have d5 := cell_of_row _ _ 5 _ _ _ HST4.out.b0
  have d6 := cell_of_row _ _ 6 _ _ _ HST4.out.b0
  have e0 := cell_of_row _ _ 0 _ _ _ HST4.out.b1
  have e1 := cell_of_row _ _ 1 _ _ _ HST4.out.b1
  have e2' := cell_of_row _ _ 2 _ _ _ HST4.out.b1
  have e3 := cell_of_row _ _ 3 _ _ _ HST4.out.b1
  have e4 := cell_of_row _ _ 4 _ _ _ HST4.out.b1
  have e5 := cell_of_row _ _ 5 _ _ _ HST4.out.b1
  have e6 := cell_of_row _ _ 6 _ _ _ HST4.out.b1
  have ef : ∀ i, w4.frozen? ⟨g + 1, i, none⟩ = false := fun i => by simp [World.frozen?, HST4.out.b1]
  have hne1 : r ≠ g := by have := HST4.out.rg; omega
  have hne2 : r ≠ g + 1 := by have := HST4.out.rg; omega
  clear q1 k2 a5 af a4 af3
  go_loopw [10] (fun _ wr => wr = w4) (fun _ _ => 0)
  case atStart => rfl
  case round =>
    obtain rfl := hrel
    by_cases he : e2 = 0
    · subst he
      have hz : (((0 : Nat) : Int) == 0) = true := rfl
      by_cases hq : p2 = E
      · have hqn : ((p2 : Int) != (E : Int)) = false := bne_eq_false_iff_eq.2 (by omega)
        have hd5 : Hid (dat5 E (p2, 0) = (p2, 0)) := if_neg (fun h => h.2 hq)
        clear hq
        go_wp2_with fail
        refine bodyPost_ret (v := .agg #[.string x, .int .u16 6, .int .u16 l, .int .u32 t, (.slice A1 m1 c1), (.slice A2 m2 c2), .slice none 0 0]) (by simp [results, Try.results54, go_sem, e0, e1, e2', e3, e4, e5, e6]) rfl ?_
        have h7 := HST4.out
        have u1 := HO2b.out
        have u2 := HO1.out
        generalize wr = wz at h7 u1 u2 ⊢
        have hg8 := setRec_grown wz (g + 1) (.string x) (.int .u16 6) (.int .u16 l) (.int .u32 t) (.slice A1 m1 c1) (.slice A2 m2 c2) (.slice none 0 0)
        have hk8 := h7.kept.own hg8 h7.size (fun k e => by injection e with e; omega)
        have y1 := u1.kept hg8 (row_ne h7.b1 u1 (by decide))
        have y2 := u2.kept hg8 (row_ne h7.b1 u2 (by decide))
        have yd := h7.rd.other hg8 hne2
        refine ⟨_, _, _, rfl, ?_, ?_, World.ownsRow_nil _ _ _ _, ?_, kept_grown hk8 G.out⟩
        · rw [G.out]; exact y1
        · rw [G.out]; exact y2
        · rw [hd5.out]; exact yd
      · have hqn : ((p2 : Int) != (E : Int)) = true := bne_iff_ne.2 (by omega)
        have hd5 : Hid (dat5 E (p2, 0) = (p2, 50)) := if_pos ⟨rfl, hq⟩
        clear hq
        go_wp2_with fail
        refine bodyPost_ret (v := .agg #[.string x, .int .u16 6, .int .u16 l, .int .u32 t, (.slice A1 m1 c1), (.slice A2 m2 c2), .slice none 0 0]) (by simp [results, Try.results54, go_sem, e0, e1, e2', e3, e4, e5, e6]) rfl ?_
        have h7 := HST4.out.setErr 50
        have hg7 := only_setCell (grown_refl wr (some r)) (p := ⟨r, 2, none⟩) (.inl rfl) (.int .i64 50)
        have u1 := row_st HST4.out.rd HO2b.out hg7 (by decide)
        have u2 := row_st HST4.out.rd HO1.out hg7 (by decide)
        generalize wr.setCell ⟨r, 2, none⟩ (.int .i64 50) = wz at h7 u1 u2 ⊢
        have hg8 := setRec_grown wz (g + 1) (.string x) (.int .u16 6) (.int .u16 l) (.int .u32 t) (.slice A1 m1 c1) (.slice A2 m2 c2) (.slice none 0 0)
        have hk8 := h7.kept.own hg8 h7.size (fun k e => by injection e with e; omega)
        have y1 := u1.kept hg8 (row_ne h7.b1 u1 (by decide))
        have y2 := u2.kept hg8 (row_ne h7.b1 u2 (by decide))
        have yd := h7.rd.other hg8 hne2
        refine ⟨_, _, _, rfl, ?_, ?_, World.ownsRow_nil _ _ _ _, ?_, kept_grown hk8 G.out⟩
        · rw [G.out]; exact y1
        · rw [G.out]; exact y2
        · rw [hd5.out]; exact yd
    · have hz : ((e2 : Int) == 0) = false := beq_eq_false_iff_ne.2 (by omega)
      have hd5 : Hid (dat5 E (p2, e2) = (p2, e2)) := if_neg (fun h => he h.1)
      clear he
      go_wp2_with fail
      refine bodyPost_ret (v := .agg #[.string x, .int .u16 6, .int .u16 l, .int .u32 t, (.slice A1 m1 c1), (.slice A2 m2 c2), .slice none 0 0]) (by simp [results, Try.results54, go_sem, e0, e1, e2', e3, e4, e5, e6]) rfl ?_
      have h7 := HST4.out
      have u1 := HO2b.out
      have u2 := HO1.out
      generalize wr = wz at h7 u1 u2 ⊢
      have hg8 := setRec_grown wz (g + 1) (.string x) (.int .u16 6) (.int .u16 l) (.int .u32 t) (.slice A1 m1 c1) (.slice A2 m2 c2) (.slice none 0 0)
      have hk8 := h7.kept.own hg8 h7.size (fun k e => by injection e with e; omega)
      have y1 := u1.kept hg8 (row_ne h7.b1 u1 (by decide))
      have y2 := u2.kept hg8 (row_ne h7.b1 u2 (by decide))
      have yd := h7.rd.other hg8 hne2
      refine ⟨_, _, _, rfl, ?_, ?_, World.ownsRow_nil _ _ _ _, ?_, kept_grown hk8 G.out⟩
      · rw [G.out]; exact y1
      · rw [G.out]; exact y2
      · rw [hd5.out]; exact yd
end Go.Proofs.Ytihkmdojakalbaa

/- The contracts of the document's data of a record, of TXT. For texts of at most 10^6 bytes. -/
namespace Go.Proofs.Ytihkmdojakalbaa
open Go.RowKit NumMath NmMath Bytes Strs Nums StMath RecMath


theorem block_row {W W' : World} {b g n size : Nat} {e e2 : TypeId} {v : Value} {xs : List Value} {cs : Array Value} (h : W.heap[b]? = some (.cells cs e2 (0, 0))) (hv : W.ownsRow g e size v n xs) (he : e ≠ e2) (hg : W.grownBy W' v.ownBlock) : W'.heap[b]? = some (.cells cs e2 (0, 0)) := by
  refine (hg.block b (Array.getElem?_eq_some_iff.1 h).1 ?_).trans h
  rcases row_ne h hv he with e | e
  · rw [e]; intro x; cases x
  · exact fun x => e x.symm
theorem DatSt.row {w wr w' : World} {g r n b : Nat} {s : ByteArray} {st : St} {c : Array Value} {v : Value} {xs : List Value} (h : DatSt w wr g r s st c) (hv : wr.ownsRow b 9 1 v n xs) (hb : g ≤ b) (hg : wr.grownBy w' v.ownBlock) : DatSt w w' g r s st c :=
  ⟨h.rg, Nat.lt_of_lt_of_le h.gs hg.size, block_row h.rd hv (by decide) hg, block_row h.b0 hv (by decide) hg, block_row h.b1 hv (by decide) hg, h.kept.own hg h.size (fun k hk => Nat.le_trans hb (hv.lt k hk).1)⟩
theorem own_apart {W : World} {G n : Nat} {v1 v : Value} {xs : List Value} (h1 : ∀ b, v1.ownBlock = some b → b < G) (hv : W.ownsRow G 9 1 v n xs) : v1.ownBlock = none ∨ v1.ownBlock ≠ v.ownBlock := by
  cases h : v1.ownBlock with
  | none => exact .inl rfl
  | some b =>
    refine .inr fun e => ?_
    have := (hv.lt b e.symm).1
    have := h1 b h
    omega

theorem txt_cut {w w1 : World} {g r q m3 G4 gg cap : Nat} {s x : ByteArray} {l t m1 c1 m2 c2 : Nat} {A1 A2 A3 : Option Addr} {c3 : Nat} {T : List (List UInt8)} {y : ByteArray} (hZ : DatSt w w1 g r s (q, 0) #[.string x, .int .u16 16, .int .u16 l, .int .u32 t, .slice A1 m1 c1, .slice A2 m2 c2, .slice A3 m3 c3])
    (r1 : w1.ownsRow g 9 1 (.slice A1 m1 c1) 0 (strCs [])) (r2 : w1.ownsRow g 46 1 (.slice A2 m2 c2) 0 (numCs [])) (r3 : w1.ownsRow G4 9 1 (.slice (some ⟨gg, 0, none⟩) (m3 + 1) cap) (m3 + 1) (strCs T ++ [.string y])) (hG : G4 ≤ w1.heap.size) :
    Hid (DatSt w (w1.setCell ⟨g, 6, none⟩ (.slice (some ⟨gg, 0, none⟩) (m3 + 1) cap)) g r s (q, 0) #[.string x, .int .u16 16, .int .u16 l, .int .u32 t, .slice A1 m1 c1, .slice A2 m2 c2, (.slice (some ⟨gg, 0, none⟩) (m3 + 1) cap)]) ∧ Hid ((w1.setCell ⟨g, 6, none⟩ (.slice (some ⟨gg, 0, none⟩) (m3 + 1) cap)).ownsRow g 9 1 (.slice A1 m1 c1) 0 (strCs [])) ∧ Hid ((w1.setCell ⟨g, 6, none⟩ (.slice (some ⟨gg, 0, none⟩) (m3 + 1) cap)).ownsRow g 46 1 (.slice A2 m2 c2) 0 (numCs [])) ∧ Hid ((w1.setCell ⟨g, 6, none⟩ (.slice (some ⟨gg, 0, none⟩) (m3 + 1) cap)).ownsRow G4 9 1 (.slice (some ⟨gg, 0, none⟩) (m3 + 1) cap) (m3 + 1) (strCs (T ++ [y.data.toList]))) ∧ Hid (G4 ≤ (w1.setCell ⟨g, 6, none⟩ (.slice (some ⟨gg, 0, none⟩) (m3 + 1) cap)).heap.size) := by
  have hgs := only_setCell (grown_refl w1 (some g)) (p := ⟨g, 6, none⟩) (.inl rfl) (.slice (some ⟨gg, 0, none⟩) (m3 + 1) cap)
  have r3' : w1.ownsRow G4 9 1 (.slice (some ⟨gg, 0, none⟩) (m3 + 1) cap) (m3 + 1) (strCs (T ++ [y.data.toList])) := by rw [strCs_snoc, mk_data]; exact r3
  exact ⟨hZ.set 6 _, r1.kept hgs (row_ne hZ.b0 r1 (by decide)), r2.kept hgs (row_ne hZ.b0 r2 (by decide)), r3'.kept hgs (row_ne hZ.b0 r3' (by decide)), Nat.le_trans hG hgs.size⟩

set_option maxHeartbeats 4000000 in
set_option maxRecDepth 100000 in
theorem data_txt (s x : ByteArray) (r l t p E : Nat) (TR : List (List UInt8)) (stR : St) (w : World) (h : StAt w r s (p, 0)) (hs : s.size ≤ 1000000) (hE : E ≤ s.size) (hp : p ≤ E) (hx : Hid (textsS s.data.toList E [] p = (TR, stR))) :
    Calls Try.prog 54 #[.pointer (some ⟨r, 0, none⟩), .agg #[.string x, .int .u16 16, .int .u16 l, .int .u32 t, .slice none 0 0, .slice none 0 0, .slice none 0 0], .int .i64 E] w (DatEnd w r s x 16 l t ⟨[], [], TR, dat5 E stR⟩) := by
  obtain ⟨g, hg⟩ : ∃ g, w.heap.size = g := ⟨_, rfl⟩
  have G := Lib.hid hg
  have SZ := Lib.hid (Lib.size_eq s)
  have hst0 := datSt_start w r s x 16 l t (p, 0) h
  rw [hg] at hst0
  have HST0 := Lib.hid hst0
  have q1 := cell_of_row _ _ 1 _ _ _ hst0.b0
  have HSH := Lib.hid (fun w => refShape_is 16 0 0 1 w rfl rfl rfl)
  have HN := Lib.hid (fun wr (hd : StAt wr r s (p, 0)) => stNumbers_any s r 0 2 E [] (p, 0) (p, 0) wr hd hs hE (by show p ≤ _; omega) (by decide) (by decide) (by decide) (by (show _ = _; rfl)))
  have HM := Lib.hid (fun wr (hd : StAt wr r s (p, 0)) => stNames_any s r 16 0 E [] (p, 0) (p, 0) wr hd hs hE (by show p ≤ _; omega) (by decide) (by (show _ = _; rfl)))
  obtain ⟨i0, hi, hz0, hz1, hz2⟩ := info_parts info9
  have HI := Lib.hid hi; clear hi
  have HZ0 := Lib.hid hz0; clear hz0
  have HZ1 := Lib.hid hz1; clear hz1
  have HZ2 := Lib.hid hz2; clear hz2
  clear hst0 h
  go_enter Try.func54, Try.ntmps54
  go_wp2_with fail
  generalize (w.alloc (.cells #[.string x, .int .u16 16, .int .u16 l, .int .u32 t, .slice none 0 0, .slice none 0 0, .slice none 0 0] 49)).alloc (.cells #[.string ⟨#[]⟩, .int .u16 0, .int .u16 0, .int .u32 0, .slice none 0 0, .slice none 0 0, .slice none 0 0] 49) = wa at HST0 q1 ⊢
  refine (HSH.out _).mono ?_
  rintro e w' ⟨rfl, rfl⟩
  go_wp2_with fail
  refine (HN.out _ HST0.out.rd).mono ?_
  rintro e w1 ⟨v2, rfl, hO2, hD1, hG1⟩
  obtain ⟨A2, m2, c2, rfl⟩ := row_slice hO2
  have hst1 := HST0.out.call hD1 hG1
  have a5 := cell_of_row _ _ 5 _ _ _ hst1.b0
  have af : ∀ i, w1.frozen? ⟨g, i, none⟩ = false := fun i => by simp [World.frozen?, hst1.b0]
  have hst2 : DatSt w (w1.setCell ⟨g, 5, none⟩ (.slice A2 m2 c2)) g r s (p, 0) #[.string x, .int .u16 16, .int .u16 l, .int .u32 t, .slice none 0 0, (.slice A2 m2 c2), .slice none 0 0] := hst1.set 5 _
  have hgs := only_setCell (grown_refl w1 (some g)) (p := ⟨g, 5, none⟩) (.inl rfl) (.slice A2 m2 c2)
  have HO2 := Lib.hid ((row_low hO2 HST0.out.size).kept hgs (row_ne hst1.b0 (row_low hO2 HST0.out.size) (by decide)))
  have HST2 := Lib.hid hst2
  have k2 := cell_of_row _ _ 1 _ _ _ hst2.b0
  clear hO2 hD1 hG1 hst1 hst2 hgs
  go_wp2_with fail
  generalize w1.setCell ⟨g, 5, none⟩ (.slice A2 m2 c2) = w2 at HST2 HO2 k2 ⊢
  refine (HM.out _ HST2.out.rd).mono ?_
  rintro e w3 ⟨v1, rfl, hO1, hD3, hG3⟩
  obtain ⟨A1, m1, c1, rfl⟩ := row_slice hO1
  have hst3 := HST2.out.call hD3 hG3
  have a4 := cell_of_row _ _ 4 _ _ _ hst3.b0
  have af3 : ∀ i, w3.frozen? ⟨g, i, none⟩ = false := fun i => by simp [World.frozen?, hst3.b0]
  have hO2' := row_st HST2.out.rd HO2.out hG3 (by decide)
  have hst4 : DatSt w (w3.setCell ⟨g, 4, none⟩ (.slice A1 m1 c1)) g r s (p, 0) #[.string x, .int .u16 16, .int .u16 l, .int .u32 t, (.slice A1 m1 c1), (.slice A2 m2 c2), .slice none 0 0] := hst3.set 4 _
  have hgs := only_setCell (grown_refl w3 (some g)) (p := ⟨g, 4, none⟩) (.inl rfl) (.slice A1 m1 c1)
  have HO1 := Lib.hid ((row_low hO1 HST2.out.size).kept hgs (row_ne hst3.b0 (row_low hO1 HST2.out.size) (by decide)))
  have HO2b := Lib.hid (hO2'.kept hgs (row_ne hst3.b0 hO2' (by decide)))
  have HST4 := Lib.hid hst4
  have k4 := cell_of_row _ _ 1 _ _ _ hst4.b0
  clear hO1 hD3 hG3 hst3 hst4 hgs hO2' HO2
  go_wp2_with fail
  generalize w3.setCell ⟨g, 4, none⟩ (.slice A1 m1 c1) = w4 at HST4 HO1 HO2b k4 ⊢
  obtain ⟨G4, hG4⟩ : ∃ n, w4.heap.size = n := ⟨_, rfl⟩
  have HB1 : Hid (∀ b, (Value.slice A1 m1 c1).ownBlock = some b → b < G4) := fun b hb => by have := (HO1.out.lt b hb).2; omega
  have hgG : g ≤ G4 := by have := HST4.out.size; omega
  have HG4 : Hid (G4 ≤ w4.heap.size) := Nat.le_of_eq hG4.symm
  clear q1 k2 k4 a5 af a4 af3 hG4
  go_loopw [10] (fun _ wr => ∃ (p' : Nat) (T : List (List UInt8)) (A3 : Option Addr) (m3 c3 : Nat), p' ≤ E ∧ T.length ≤ p' ∧ m3 ≤ p' ∧ Hid (T.length = m3) ∧ Hid (DatSt w wr g r s (p', 0) #[.string x, .int .u16 16, .int .u16 l, .int .u32 t, (.slice A1 m1 c1), (.slice A2 m2 c2), (.slice A3 m3 c3)]) ∧ Hid (wr.ownsRow g 9 1 (.slice A1 m1 c1) 0 (strCs [])) ∧ Hid (wr.ownsRow g 46 1 (.slice A2 m2 c2) 0 (numCs [])) ∧ Hid (wr.ownsRow G4 9 1 (.slice A3 m3 c3) m3 (strCs T)) ∧ Hid (G4 ≤ wr.heap.size) ∧ Hid (textsS s.data.toList E T p' = (TR, stR))) (fun _ wr => E - (intOf ((wr.cell? ⟨r, 1, none⟩).getD undef)).toNat)
  case atStart => exact ⟨p, [], none, 0, 0, hp, Nat.zero_le _, Nat.zero_le _, rfl, HST4, HO1, HO2b, World.ownsRow_nil _ _ _ _, HG4, hx⟩
  case round =>
    obtain ⟨p', T, A3, m3, c3, hp', hTp, hmp, hT, hST, hO1, hO2, hO3, hGw, hR⟩ := hrel
    have s0 := hST.out.rd.c0
    have s1 := hST.out.rd.c1
    have s2 := hST.out.rd.c2
    simp only at s1 s2
    have d1 := cell_of_row _ _ 1 _ _ _ hST.out.b0
    by_cases hlt : p' < E
    · obtain ⟨n, hn⟩ : ∃ n, bt s.data.toList p' = n := ⟨_, rfl⟩
      have hnl : n < 256 := by rw [← hn]; exact bt_lt _ _
      have hlti : (p' : Int) < E := by omega
      have hnum : numS s.data.toList 1 (p', 0) = (n, (p' + 1, 0)) := by
        rw [numS_ok (by rw [← SZ.out]; omega)]
        unfold MsgMath.nu cut
        rw [be_bt (by rw [← SZ.out]; omega), hn]
      have HNM := Lib.hid (stNum_any s r 1 n (p', 0) (p' + 1, 0) wr hST.out.rd hs (by decide) (by decide) (by show p' ≤ _; omega) hnum)
      have HNN := Lib.hid hn
      clear hnum hn
      by_cases hin : p' + 1 + n ≤ E
      · have hini : (n : Int) ≤ (E : Int) - (p' + 1 : Nat) := by omega
        go_wp2_with fail
        refine HNM.out.mono ?_
        rintro e wq ⟨rfl, hDq, hGq⟩
        have hSq := hST.out.call hDq hGq
        have HQ1 := Lib.hid (row_st hST.out.rd hO1.out hGq (by decide))
        have HQ2 := Lib.hid (row_st hST.out.rd hO2.out hGq (by decide))
        have HQ3 := Lib.hid (row_st hST.out.rd hO3.out hGq (by decide))
        have t0 := hSq.rd.c0
        have t1 := hSq.rd.c1
        have t2 := hSq.rd.c2
        have tf := hSq.rd.fz
        simp only at t1 t2
        have b6 := cell_of_row _ _ 6 _ _ _ hSq.b0
        have HSQ := Lib.hid hSq
        have HS1C := Lib.hid s1
        have HGQ : Hid (G4 ≤ wq.heap.size) := Nat.le_trans hGw.out hGq.size
        clear hDq hGq hSq hO1 hO2 hO3 s0 s1 s2 d1 HNM hST hGw
        obtain ⟨q, hqq⟩ : ∃ q, p' + 1 = q := ⟨_, rfl⟩
        obtain ⟨u, huu⟩ : ∃ u, q + n = u := ⟨_, rfl⟩
        rw [hqq] at HSQ t1 hini
        have hw : IntKind.i64.wrap ((q : Int) + n) = (u : Int) := by rw [IntKind.wrap_i64]; omega
        obtain ⟨y, hy⟩ : ∃ y, s.extract q u = y := ⟨_, rfl⟩
        have hq0 : (0 : Int) ≤ q := by omega
        have hq1 : (q : Int) ≤ u := by omega
        have hq2 : (u : Int) ≤ s.size := by omega
        have HUE : Hid (u ≤ E) := by show _ ≤ _; omega
        have HYC : Hid (y.data.toList = cut s.data.toList (p' + 1) n) := by show _ = _; rw [← hy, ← huu, ← hqq, cut_extract]
        have HRM : Hid (textsS s.data.toList E (T ++ [y.data.toList]) u = (TR, stR)) := by
          show _ = _
          rw [HYC.out, ← huu, ← hqq, ← hR.out, textsS_more hlt (by rw [HNN.out]; exact hin), HNN.out]
        have HUU := Lib.hid huu
        have HQQ := Lib.hid hqq
        have hm63 : m3 + 1 ≤ maxLen := by unfold maxLen; omega
        have hm47 : (m3 + 1) * 16 ≤ 140737488355328 := by omega
        have HA := Lib.hid (HSQ.out.alloc (.cells #[.string y] 9)).drew
        have HR1 := Lib.hid (row_below HQ1.out ((Below.refl _ _).alloc (Nat.le_refl _) (.cells #[.string y] 9))).drew
        have HR2 := Lib.hid (row_below HQ2.out ((Below.refl _ _).alloc (Nat.le_refl _) (.cells #[.string y] 9))).drew
        have HR3 := Lib.hid (HQ3.out.alloc (.cells #[.string y] 9)).drew
        have HNW := Lib.hid (World.news_of_block (w := (wq.alloc (.cells #[.string y] 9)).drew) (cs := #[.string y]) (t := 9) (fr := (0, 0)) (heap_alloc_new wq (.cells #[.string y] 9)))
        have b6a := cell_of_row _ _ 6 _ _ _ (HSQ.out.alloc (.cells #[.string y] 9)).b0
        have HSZ : Hid (G4 ≤ (wq.alloc (.cells #[.string y] 9)).drew.heap.size) := by have := HGQ.out; show _ ≤ _; simp; omega
        have HS1 : Hid ((wq.alloc (.cells #[.string y] 9)).drew.heap.size = wq.heap.size + 1) := by simp [Hid]
        clear huu hqq hin hlt hR
        go_upto_region 12 with fail
        go_cut [] from 73 to 92 (fun wx => ∃ B3 d3, Hid (DatSt w wx g r s (q, 0) #[.string x, .int .u16 16, .int .u16 l, .int .u32 t, .slice A1 m1 c1, .slice A2 m2 c2, .slice B3 (m3 + 1) d3]) ∧ Hid (wx.ownsRow g 9 1 (.slice A1 m1 c1) 0 (strCs [])) ∧ Hid (wx.ownsRow g 46 1 (.slice A2 m2 c2) 0 (numCs [])) ∧ Hid (wx.ownsRow G4 9 1 (.slice B3 (m3 + 1) d3) (m3 + 1) (strCs (T ++ [y.data.toList]))) ∧ Hid (G4 ≤ wx.heap.size))
        case first =>
          go_region_law ((refine step_append_lies _ (by rfl) (.tmp 74) (.tmp 90) 45 (by rfl) G4 9 i0 (.string ⟨#[]⟩) 1 16 Try.underlying45 HI.out HZ0.out HZ1.out HZ2.out rfl (by decide) (.slice A3 m3 c3) m3 (strCs T) (by simp [Act.eval]) HR3.out ⟨wq.heap.size, 0, none⟩ 1 1 [.string y] (by simp [Act.eval]) (by rfl) HNW.out (by intro u hu; simp at hu; subst hu; rfl) (by decide) hm63 hm47 HSZ.out (wq.heap.size + 1) HS1.out ?_; intro gg cap w1 hown1 hgrow hat hlt1; have hZ := HA.out.row HR3.out hgG hgrow; have z6 := cell_of_row _ _ 6 _ _ _ hZ.b0; have zf : ∀ i, w1.frozen? ⟨g, i, none⟩ = false := fun i => (by simp [World.frozen?, hZ.b0])))
          all_goals
            go_wp2_with fail
            go_meet
            exact ⟨some ⟨gg, 0, none⟩, cap, txt_cut hZ (HR1.out.kept hgrow (own_apart HB1.out HR3.out)) (row_row HR2.out HR3.out (by decide) (Below.refl _ _) hgrow) hown1 (Nat.le_trans HSZ.out hgrow.size)⟩
        case rest =>
          obtain ⟨B3, d3, hC1, hC2, hC3, hCd, hCe⟩ := hcut
          clear HA HR1 HR2 HR3 HNW HSZ HS1 HSQ HQ1 HQ2 HQ3 b6a b6 t0 t1 t2 tf hw
          have n1 := hC1.out.rd.c1
          have nf := hC1.out.rd.fz
          simp only at n1
          have hqn : (q : Int) + n = (u : Int) := by have := HUU.out; omega
          have HZN := Lib.hid (hC1.out.setAt u)
          have hg7 := only_setCell (grown_refl wc (some r)) (p := ⟨r, 1, none⟩) (.inl rfl) (.int .i64 u)
          have U1 := Lib.hid (row_st hC1.out.rd hC2.out hg7 (by decide))
          have U2 := Lib.hid (row_st hC1.out.rd hC3.out hg7 (by decide))
          have U3 := Lib.hid (row_st hC1.out.rd hCd.out hg7 (by decide))
          have U4 : Hid (G4 ≤ (wc.setCell ⟨r, 1, none⟩ (.int .i64 u)).heap.size) := Nat.le_trans hCe.out hg7.size
          have HN1 := Lib.hid HZN.out.rd.c1
          clear hg7
          go_wp2_with fail
          go_roundw
          case rel => exact ⟨u, T ++ [y.data.toList], B3, m3 + 1, d3, HUE.out, by (rw [List.length_append, hT.out, List.length_singleton]; have := HUU.out; have := HQQ.out; omega), by (have := HUU.out; have := HQQ.out; omega), by (show _ = _; rw [List.length_append, hT.out]; rfl), HZN, U1, U2, U3, U4, HRM⟩
          case measure => rw [HS1C.out, HN1.out]; simp [intOf]; have := HUU.out; have := HQQ.out; have := HUE.out; omega
      · have hTR : Hid (TR = T ∧ stR = (p' + 1, 50)) := by
          have := hR.out
          rw [textsS_bad hlt (by rw [HNN.out]; omega)] at this
          injection this with e1 e2
          exact ⟨e1.symm, e2.symm⟩
        have hini : (E : Int) - ((p' + 1 : Nat) : Int) < (n : Int) := by omega
        clear hin hlt hR
        go_wp2_with fail
        refine HNM.out.mono ?_
        rintro e wq ⟨rfl, hDq, hGq⟩
        have hSq := hST.out.call hDq hGq
        have q1 := row_st hST.out.rd hO1.out hGq (by decide)
        have q2 := row_st hST.out.rd hO2.out hGq (by decide)
        have q3 := row_st hST.out.rd hO3.out hGq (by decide)
        have hg7 := only_setCell (grown_refl wq (some r)) (p := ⟨r, 2, none⟩) (.inl rfl) (.int .i64 50)
        have u1 := row_st hSq.rd q1 hg7 (by decide)
        have u2 := row_st hSq.rd q2 hg7 (by decide)
        have u3 := row_st hSq.rd q3 hg7 (by decide)
        have h7 : DatSt w (wq.setCell ⟨r, 2, none⟩ (.int .i64 50)) g r s (p' + 1, 50) #[.string x, .int .u16 16, .int .u16 l, .int .u32 t, .slice A1 m1 c1, .slice A2 m2 c2, .slice A3 m3 c3] := hSq.setErr 50
        have t1 := hSq.rd.c1
        have t2 := hSq.rd.c2
        have tf := hSq.rd.fz
        simp only at t1 t2
        have hne1 : r ≠ g := by have := h7.rg; omega
        have HSQ := Lib.hid hSq
        clear hDq hGq hSq q1 q2 q3 hg7 hO1 hO2 hO3 s0 s1 s2 d1 HNM hST hGw
        have d0 := cell_of_row _ _ 0 _ _ _ HSQ.out.b0
        have d1 := cell_of_row _ _ 1 _ _ _ HSQ.out.b0
        have d2 := cell_of_row _ _ 2 _ _ _ HSQ.out.b0
        have d3 := cell_of_row _ _ 3 _ _ _ HSQ.out.b0
        have d4 := cell_of_row _ _ 4 _ _ _ HSQ.out.b0
        have d5 := cell_of_row _ _ 5 _ _ _ HSQ.out.b0
        have d6 := cell_of_row _ _ 6 _ _ _ HSQ.out.b0
        have e0 := cell_of_row _ _ 0 _ _ _ HSQ.out.b1
        have e1 := cell_of_row _ _ 1 _ _ _ HSQ.out.b1
        have e2' := cell_of_row _ _ 2 _ _ _ HSQ.out.b1
        have e3 := cell_of_row _ _ 3 _ _ _ HSQ.out.b1
        have e4 := cell_of_row _ _ 4 _ _ _ HSQ.out.b1
        have e5 := cell_of_row _ _ 5 _ _ _ HSQ.out.b1
        have e6 := cell_of_row _ _ 6 _ _ _ HSQ.out.b1
        have ef : ∀ i, wq.frozen? ⟨g + 1, i, none⟩ = false := fun i => by simp [World.frozen?, HSQ.out.b1]
        have HH := Lib.hid h7
        have hne2 : r ≠ g + 1 := by have := h7.rg; omega
        clear h7
        go_wp2_with fail
        try simp only [Exit.inBlock, Exit.then]
        refine bodyPost_ret (v := .agg #[.string x, .int .u16 16, .int .u16 l, .int .u32 t, .slice A1 m1 c1, .slice A2 m2 c2, .slice A3 m3 c3]) (by simp [results, Try.results54, go_sem, e0, e1, e2', e3, e4, e5, e6]) rfl ?_
        have hh7 := HH.out
        generalize wq.setCell ⟨r, 2, none⟩ (.int .i64 50) = wz at hh7 u1 u2 u3 ⊢
        have hg8 := setRec_grown wz (g + 1) (.string x) (.int .u16 16) (.int .u16 l) (.int .u32 t) (.slice A1 m1 c1) (.slice A2 m2 c2) (.slice A3 m3 c3)
        have hk8 := hh7.kept.own hg8 hh7.size (fun k e => by injection e with e; omega)
        have y1 := u1.kept hg8 (row_ne hh7.b1 u1 (by decide))
        have y2 := u2.kept hg8 (row_ne hh7.b1 u2 (by decide))
        have y3 := u3.kept hg8 (row_ne hh7.b1 u3 (by decide))
        have yd := hh7.rd.other hg8 hne2
        obtain ⟨rfl, rfl⟩ := hTR.out
        refine ⟨_, _, _, rfl, ?_, ?_, ?_, ?_, kept_grown hk8 G.out⟩
        · rw [G.out]; exact y1
        · rw [G.out]; exact y2
        · rw [hT.out, G.out]; exact row_low y3 hgG
        · rw [show dat5 E (p' + 1, 50) = (p' + 1, 50) from if_neg (fun h => by cases h.1)]; exact yd
    · have hpE : p' = E := by omega
      have hTR : Hid (TR = T ∧ stR = (p', 0)) := by
        have := hR.out
        rw [textsS_end (by omega)] at this
        injection this with e1 e2
        exact ⟨e1.symm, e2.symm⟩
      have hqn : ((p' : Int) != (E : Int)) = false := bne_eq_false_iff_eq.2 (by omega)
      have hge : (E : Int) ≤ (p' : Int) := by omega
      have HPE := Lib.hid hpE
      have u1 := hO1.out
      have u2 := hO2.out
      have u3 := hO3.out
      have h7 := hST.out
      have tf := h7.rd.fz
      obtain ⟨wz, hwz⟩ : ∃ wz, wr = wz := ⟨_, rfl⟩
      subst hwz
      clear hlt hR hpE hO1 hO2 hO3 hST hGw
      have d0 := cell_of_row _ _ 0 _ _ _ h7.b0
      have d2 := cell_of_row _ _ 2 _ _ _ h7.b0
      have d3 := cell_of_row _ _ 3 _ _ _ h7.b0
      have d4 := cell_of_row _ _ 4 _ _ _ h7.b0
      have d5 := cell_of_row _ _ 5 _ _ _ h7.b0
      have d6 := cell_of_row _ _ 6 _ _ _ h7.b0
      have e0 := cell_of_row _ _ 0 _ _ _ h7.b1
      have e1 := cell_of_row _ _ 1 _ _ _ h7.b1
      have e2' := cell_of_row _ _ 2 _ _ _ h7.b1
      have e3 := cell_of_row _ _ 3 _ _ _ h7.b1
      have e4 := cell_of_row _ _ 4 _ _ _ h7.b1
      have e5 := cell_of_row _ _ 5 _ _ _ h7.b1
      have e6 := cell_of_row _ _ 6 _ _ _ h7.b1
      have ef : ∀ i, wr.frozen? ⟨g + 1, i, none⟩ = false := fun i => by simp [World.frozen?, h7.b1]
      have HH := Lib.hid h7
      have hne2 : r ≠ g + 1 := by have := h7.rg; omega
      clear h7
      go_wp2_with fail
      refine bodyPost_ret (v := .agg #[.string x, .int .u16 16, .int .u16 l, .int .u32 t, .slice A1 m1 c1, .slice A2 m2 c2, .slice A3 m3 c3]) (by simp [results, Try.results54, go_sem, e0, e1, e2', e3, e4, e5, e6]) rfl ?_
      have hg8 := setRec_grown wr (g + 1) (.string x) (.int .u16 16) (.int .u16 l) (.int .u32 t) (.slice A1 m1 c1) (.slice A2 m2 c2) (.slice A3 m3 c3)
      have hk8 := HH.out.kept.own hg8 HH.out.size (fun k e => by injection e with e; omega)
      have y1 := u1.kept hg8 (row_ne HH.out.b1 u1 (by decide))
      have y2 := u2.kept hg8 (row_ne HH.out.b1 u2 (by decide))
      have y3 := u3.kept hg8 (row_ne HH.out.b1 u3 (by decide))
      have yd := HH.out.rd.other hg8 hne2
      obtain ⟨rfl, rfl⟩ := hTR.out
      refine ⟨_, _, _, rfl, ?_, ?_, ?_, ?_, kept_grown hk8 G.out⟩
      · rw [G.out]; exact y1
      · rw [G.out]; exact y2
      · rw [hT.out, G.out]; exact row_low y3 hgG
      · rw [show dat5 E (p', 0) = (p', 0) from if_neg (fun h => h.2 HPE.out)]; exact yd
end Go.Proofs.Ytihkmdojakalbaa

/- The contract of the document's data of a record of any type. For texts of at most 10^6 bytes. -/
namespace Go.Proofs.Ytihkmdojakalbaa
open Go.RowKit NumMath NmMath Bytes StMath RecMath

theorem sh_parts (k : Nat) (h6 : k ≠ 6) : (shA k = 1 ∧ shB k ≤ 3 ∧ shC k = 0) ∨ (shA k = 0 ∧ shB k = 0 ∧ shC k = 1) := by
  unfold shA shB shC
  by_cases h : k = 2 ∨ k = 5 ∨ k = 12
  · rw [if_pos h, if_pos h, if_pos h]; exact .inl ⟨rfl, by decide, rfl⟩
  · rw [if_neg h, if_neg h, if_neg h, if_neg h6, if_neg h6, if_neg h6]
    by_cases h15 : k = 15
    · rw [if_pos h15, if_pos h15, if_pos h15]; exact .inl ⟨rfl, by decide, rfl⟩
    · rw [if_neg h15, if_neg h15, if_neg h15]
      by_cases h33 : k = 33
      · rw [if_pos h33, if_pos h33, if_pos h33]; exact .inl ⟨rfl, by decide, rfl⟩
      · rw [if_neg h33, if_neg h33, if_neg h33]; exact .inr ⟨rfl, rfl, rfl⟩

theorem data_any (s x : ByteArray) (r k l t p E : Nat) (D : Dat) (w : World) (h : StAt w r s (p, 0)) (hs : s.size ≤ 1000000) (hE : E ≤ s.size) (hp : p ≤ E) (hD : Hid (datS s.data.toList k E (p, 0) = D)) :
    Calls Try.prog 54 #[.pointer (some ⟨r, 0, none⟩), .agg #[.string x, .int .u16 k, .int .u16 l, .int .u32 t, .slice none 0 0, .slice none 0 0, .slice none 0 0], .int .i64 E] w (DatEnd w r s x k l t D) := by
  have hD' := hD.out
  by_cases h16 : k = 16
  · subst h16
    obtain ⟨TR, stR, hT⟩ : ∃ TR stR, textsS s.data.toList E [] p = (TR, stR) := ⟨_, _, rfl⟩
    have : datS s.data.toList 16 E (p, 0) = ⟨[], [], TR, dat5 E stR⟩ := by
      simp [datS, dat1, dat2, dat3, dat4, shA, shB, numbersS, namesS, hT]
    rw [this] at hD'
    subst hD'
    exact data_txt s x r l t p E TR stR w h hs hE hp hT
  · by_cases h6 : k = 6
    · subst h6
      obtain ⟨nms, st1, h1⟩ : ∃ nms st1, namesS s.data.toList 6 E 2 [] (p, 0) = (nms, st1) := ⟨_, _, rfl⟩
      obtain ⟨ns, st2, h2⟩ : ∃ ns st2, numbersS s.data.toList 4 E 5 [] st1 = (ns, st2) := ⟨_, _, rfl⟩
      have : datS s.data.toList 6 E (p, 0) = ⟨nms, ns, [], dat5 E st2⟩ := by
        have a : shA 6 = 2 := rfl
        have b : shB 6 = 5 := rfl
        have c : shC 6 = 0 := rfl
        simp [datS, dat1, dat2, dat3, dat4, a, b, c, h1, h2]
      rw [this] at hD'
      subst hD'
      exact data_soa s x r l t p E ns nms st1 st2 w h hs hE hp h1 h2
    · rcases sh_parts k h6 with ⟨a, b, c⟩ | ⟨a, b, c⟩
      · obtain ⟨ns, st1, h1⟩ : ∃ ns st1, numbersS s.data.toList 2 E (shB k) [] (p, 0) = (ns, st1) := ⟨_, _, rfl⟩
        obtain ⟨nms, st2, h2⟩ : ∃ nms st2, namesS s.data.toList k E 1 [] st1 = (nms, st2) := ⟨_, _, rfl⟩
        have : datS s.data.toList k E (p, 0) = ⟨nms, ns, [], dat5 E st2⟩ := by
          simp [datS, dat1, dat2, dat3, dat4, h6, h16, a, c, h1, h2]
        rw [this] at hD'
        subst hD'
        exact data_names s x r k (shB k) l t p E ns nms st1 st2 w h hs hE hp a rfl c b h6 h16 h1 h2
      · have : datS s.data.toList k E (p, 0) = ⟨[], [], [cut s.data.toList p (E - p)], (E, 0)⟩ := by
          simp [datS, dat1, dat2, dat3, dat4, dat5, h6, h16, a, b, c, numbersS, namesS]
        rw [this] at hD'
        subst hD'
        exact data_text s x r k l t p E w h hs hE hp a b c h6 h16
end Go.Proofs.Ytihkmdojakalbaa
