/- Texts of one proof, one behind the other: RefNames, RdrNames, RdrTexts. -/
import Derived.Test.YtngbifdenbfepaaProg
import Derived.Test.YtngbifdenbfepaaReadRightProofG1
import Derived.Test.YtngbifdenbfepaaReadRightProofG2
import Derived.Test.YtngbifdenbfepaaReadRightProofG6
import Derived.Test.YtngbifdenbfepaaReadRightProofG7
import Derived.Test.YtngbifdenbfepaaReadRightProofG3
import Derived.WalkKit
import Derived.Lib.Hide
import Derived.Laws.Rows
import Derived.Laws.AppendOwn
import Derived.Outline
import Derived.IntWalk
import Derived.WalkSpells
import Derived.WalkLawsBesides
import Derived.Deep.QuietTactic
import Derived.BigQuiet
import Derived.Deep.Draws

/- The contract of the document's names of data. For texts of at most 10^6 bytes. -/
namespace Go.Proofs.Ytngbifdenbfepaa
open Go.RowKit NumMath NmMath Bytes Strs StMath

theorem strCs_snoc (L : List (List UInt8)) (o : List UInt8) : strCs (L ++ [o]) = strCs L ++ [.string (mk o)] := by rw [strCs_cat, strCs_one]

set_option maxHeartbeats 4000000 in
set_option maxRecDepth 100000 in
theorem stNames_any (s : ByteArray) (r kind cnt E : Nat) (L0 : List (List UInt8)) (st0 st1 : St) (w : World) (h : StAt w r s st0) (hs : s.size ≤ 1000000) (hE : E ≤ s.size) (hp : st0.1 ≤ 1000000) (hcnt : cnt ≤ 100) (hx : Hid (namesS s.data.toList kind E cnt [] st0 = (L0, st1))) :
    Calls Try.prog 47 #[.pointer (some ⟨r, 0, none⟩), .int .u16 kind, .int .i64 cnt, .int .i64 E] w fun e w' => ∃ v, e = .returned v ∧ w'.ownsRow w.heap.size 9 1 v L0.length (strCs L0) ∧ StAt w' r s st1 ∧ w.grownBy w' (some r) := by
  have SZ := Lib.hid (Lib.size_eq s)
  have H := Lib.hid h; clear h
  obtain ⟨g, hg⟩ : ∃ g, w.heap.size = g := ⟨_, rfl⟩
  have G := Lib.hid hg
  obtain ⟨i0, hi, hz0, hz1, hz2⟩ := info_parts info9
  have HI := Lib.hid hi; clear hi
  have HZ0 := Lib.hid hz0; clear hz0
  have HZ1 := Lib.hid hz1; clear hz1
  have HZ2 := Lib.hid hz2; clear hz2
  clear hg
  go_enter Try.func47, Try.ntmps47
  go_wp2_with fail
  go_loopw [9, 10] (fun v i wr => ∃ (j : Nat) (L : List (List UInt8)) (p e : Nat), i = .int .i64 j ∧ j ≤ cnt ∧ p ≤ 1000000 ∧ Hid (wr.ownsRow g 9 1 v j (strCs L)) ∧ Hid (L.length = j) ∧ Hid (StAt wr r s (p, e)) ∧ Hid (namesS s.data.toList kind E (cnt - j) L (p, e) = (L0, st1)) ∧ Hid (Kept g r w wr)) (fun _ i _ => cnt - (intOf i).toNat)
  case atStart => exact ⟨0, [], st0.1, st0.2, rfl, Nat.zero_le _, hp, World.ownsRow_nil _ _ _ _, rfl, H, hx, Kept.refl _ _ _⟩
  case round =>
    obtain ⟨j, L, p, e, rfl, hj, hp, hO, hL, hD, hR, hK⟩ := hrel
    have hgw : Hid (g ≤ wr.heap.size) := by have := hK.out.size; rw [G.out] at this; exact this
    have a0 := hD.out.c0
    have a1 := hD.out.c1
    have a2 := hD.out.c2
    have af := hD.out.fz
    simp only at a1 a2
    by_cases hlt : j < cnt
    · obtain ⟨m, hm⟩ : ∃ m, cnt - j = m + 1 := ⟨cnt - j - 1, by omega⟩
      by_cases he : e = 0
      · subst he
        obtain ⟨b, hb⟩ : ∃ b, ends s.data.toList E p = b := ⟨_, rfl⟩
        have HEN := Lib.hid (fun n => quiet_left (ends_any s p E b (wr.drewN n) hs hE hp hb))
        cases b with
        | true =>
          obtain ⟨x, st', hxx⟩ : ∃ x st', oneS s.data.toList kind (p, 0) = (x, st') := ⟨_, _, rfl⟩
          have hle := oneS_le (l := s.data.toList) (kind := kind) (N := 1000000) (st := (p, 0)) hp (by rw [← SZ.out]; exact hs)
          rw [hxx] at hle
          obtain ⟨p', e'⟩ := st'
          simp only at hle
          have hRm : Hid (namesS s.data.toList kind E (cnt - (j + 1)) (L ++ [x]) (p', e') = (L0, st1)) := by
            show _ = _
            rw [← hR.out, hm, namesS_more rfl hb, hxx]
            congr 1
            omega
          by_cases h33 : kind = 33
          · have hk : ((kind : Int) == 33) = true := beq_iff_eq.2 (by omega)
            obtain ⟨B, hB⟩ : ∃ B, bare s.data.toList s.data.toList.length 2 p [] = B := ⟨_, rfl⟩
            have HBR := Lib.hid (fun W => bare_any s p B W hs hp (by (show _ = _; rw [SZ.out]; exact hB)))
            have hBx : (∃ k, B = .error k ∧ x = [] ∧ p' = 0 ∧ e' = k) ∨ (∃ o q, B = .ok (o, q) ∧ x = o ∧ p' = q ∧ e' = 0) := by
              unfold oneS at hxx
              rw [if_pos h33] at hxx
              simp only at hxx
              rw [hB] at hxx
              cases B with
              | error k => injection hxx with e1 e2; injection e2 with e3 e4; exact .inl ⟨k, rfl, e1.symm, e3.symm, e4.symm⟩
              | ok oq => obtain ⟨o, q⟩ := oq; injection hxx with e1 e2; injection e2 with e3 e4; exact .inr ⟨o, q, rfl, e1.symm, e3.symm, e4.symm⟩
            have HCB : Hid (∀ W, Calls Try.prog 62 #[.string s, .int .i64 p] W fun e w' => e = .returned (.tuple #[.string (mk x), .int .i64 p', .int .i64 e']) ∧ W = w') := fun W => by
              rcases hBx with ⟨k, rfl, rfl, rfl, rfl⟩ | ⟨o, q, rfl, rfl, rfl, rfl⟩
              · exact HBR.out W
              · exact HBR.out W
            clear hm hxx hb h33 hB HBR hBx
            go_wp2_with fail
            go_quiet ((go_at_call 61; exact HEN.out _))
            go_wp2_with fail
            have hD1 := hD.out.drewN nq
            have hO1 : (wr.drewN nq).ownsRow g 9 1 u9 j (strCs L) := hO.out
            have hK1 := hK.out.drewN nq
            have hs1 : g ≤ (wr.drewN nq).heap.size := hgw.out
            generalize wr.drewN nq = wd at hD1 hO1 hK1 hs1 ⊢
            have b0 := hD1.c0
            have b1 := hD1.c1
            have b2 := hD1.c2
            have bf := hD1.fz
            simp only at b1 b2
            have HD1 := Lib.hid hD1
            have HO1 := Lib.hid hO1
            have HK1 := Lib.hid hK1
            have HS1 := Lib.hid hs1
            clear hD1 hO1 hK1 hs1 a0 a1 a2 af hD hO hK hgw HEN
            go_quiet ((go_at_call 62; exact quiet_left (HCB.out _)))
            have hgs := only_setCell (only_setCell (grown_drewN (grown_refl wd (some r)) nq) (p := ⟨r, 2, none⟩) (.inl rfl) (.int .i64 e')) (p := ⟨r, 1, none⟩) (.inl rfl) (.int .i64 p')
            have HO2 := Lib.hid (row_st HD1.out HO1.out hgs (by decide))
            have HD2 := Lib.hid (((HD1.out.drewN nq).set2 e').set1 p')
            have HK2 := Lib.hid (HK1.out.grown hgs HS1.out)
            have HS2 := Lib.hid (Nat.le_trans HS1.out hgs.size)
            clear hgs HD1 HO1 HK1
            go_wp2_with (at_builtin; refine wpList_append_own _ rfl _ _ 44 rfl g 9 i0 (.string ⟨#[]⟩) 1 16 Try.underlying44 HI.out HZ0.out HZ1.out HZ2.out rfl (by decide) _ _ _ rfl (HO2.out.alloc _) ⟨wd.heap.size, 0, none⟩ 1 1 [.string (mk x)] rfl rfl ?c1 ?c2 ?c3 ?c4 ?c5 ?_)
            case c2 => first | rfl | (intro u hu; simp at hu; subst hu; rfl)
            case c3 => unfold maxLen; omega
            case c4 => omega
            case c5 => have := HS1.out; simp; omega
            intro v' w2 hown hgrow _
            have E1 : Hid (w2.ownsRow g 9 1 v' (j + 1) (strCs (L ++ [x]))) := by
              show World.ownsRow _ _ _ _ _ _ _
              rw [strCs_snoc]
              exact hown
            have E2 := Lib.hid (st_row HD2.out HO2.out ((Below.refl _ _).alloc (Nat.le_refl _) _) hgrow (by decide))
            have E3 := Lib.hid ((HK2.out.alloc HS2.out _).own hgrow (by have := HS1.out; simp; omega) (fun k hk => (HO2.out.lt k hk).1))
            clear hown hgrow HO2 HD2 HK2
            go_wp2_with fail
            go_roundw
            case rel => exact ⟨j + 1, L ++ [x], p', e', by go_num, by omega, hle, E1, by (show _ = _; rw [List.length_append, hL.out]; rfl), E2, hRm, E3⟩
            case measure => simp [intOf]; omega
          · have hk : ((kind : Int) == 33) = false := beq_eq_false_iff_ne.2 (by omega)
            have hxn : nameS s.data.toList (p, 0) = (x, (p', e')) := by
              unfold oneS at hxx
              rw [if_neg h33] at hxx
              exact hxx
            clear hm hxx hb h33
            go_wp2_with fail
            go_quiet ((go_at_call 61; exact HEN.out _))
            have HN := Lib.hid (stName_any s r x (p, 0) (p', e') (wr.drewN nq) (hD.out.drewN nq) hs hp hxn)
            go_wp2_with fail
            refine HN.out.mono ?_
            rintro e wd ⟨rfl, hD1, hG1⟩
            have HO2 := Lib.hid (row_st (hD.out.drewN nq) (show (wr.drewN nq).ownsRow g 9 1 u9 j (strCs L) from hO.out) hG1 (by decide))
            have HK2 := Lib.hid ((hK.out.drewN nq).grown hG1 hgw.out)
            have HS1 : Hid (g ≤ wd.heap.size) := Nat.le_trans hgw.out hG1.size
            have HS2 := HS1
            have HD2 := Lib.hid hD1
            clear hD1 hG1 hO hD hK HN a0 a1 a2 af HEN hxn
            go_wp2_with (at_builtin; refine wpList_append_own _ rfl _ _ 44 rfl g 9 i0 (.string ⟨#[]⟩) 1 16 Try.underlying44 HI.out HZ0.out HZ1.out HZ2.out rfl (by decide) _ _ _ rfl (HO2.out.alloc _) ⟨wd.heap.size, 0, none⟩ 1 1 [.string (mk x)] rfl rfl ?f1 ?f2 ?f3 ?f4 ?f5 ?_)
            case f1 =>
              intro j u hj
              match j, hj with
              | 0, hj => simp at hj; subst hj; simp [Addr.add]
            case f2 => first | rfl | (intro u hu; simp at hu; subst hu; rfl)
            case f3 => unfold maxLen; omega
            case f4 => omega
            case f5 => have := HS1.out; simp; omega
            intro v' w2 hown hgrow _
            have E1 : Hid (w2.ownsRow g 9 1 v' (j + 1) (strCs (L ++ [x]))) := by
              show World.ownsRow _ _ _ _ _ _ _
              rw [strCs_snoc]
              exact hown
            have E2 := Lib.hid (st_row HD2.out HO2.out ((Below.refl _ _).alloc (Nat.le_refl _) _) hgrow (by decide))
            have E3 := Lib.hid ((HK2.out.alloc HS2.out _).own hgrow (by have := HS1.out; simp; omega) (fun k hk => (HO2.out.lt k hk).1))
            clear hown hgrow HO2 HD2 HK2
            go_wp2_with fail
            go_roundw
            case rel => exact ⟨j + 1, L ++ [x], p', e', by go_num, by omega, hle, E1, by (show _ = _; rw [List.length_append, hL.out]; rfl), E2, hRm, E3⟩
            case measure => simp [intOf]; omega
        | false =>
          have hRe := hR.out
          rw [hm, namesS_bad rfl hb] at hRe
          injection hRe with e1 e2
          subst e1
          subst e2
          clear hm hb
          go_wp2_with fail
          go_quiet ((go_at_call 61; exact HEN.out _))
          go_wp2_with fail
          go_ret
          refine ⟨_, rfl, World.ownsRow_nil _ _ _ _, (hD.out.drewN _).set2 50, ?_⟩
          exact kept_grown ((hK.out.drewN _).setCell (.inl rfl) _) G.out
      · have hez : ((e : Int) == 0) = false := beq_eq_false_iff_ne.2 (by omega)
        have hRe := hR.out
        rw [namesS_stop he] at hRe
        injection hRe with e1 e2
        subst e1
        subst e2
        have HE : Hid (w.grownBy wr (some r)) := by
          have := hK.out
          rw [← G.out] at this
          exact this.to_grown
        clear hm he
        go_wp2_with fail
        go_ret
        refine ⟨_, rfl, ?_, hD.out, HE.out⟩
        rw [hL.out, G.out]
        exact hO.out
    · have hjn : j = cnt := by omega
      have hRe := hR.out
      rw [show cnt - j = 0 by omega, namesS_zero] at hRe
      injection hRe with e1 e2
      subst e1
      subst e2
      have HE : Hid (w.grownBy wr (some r)) := by
        have := hK.out
        rw [← G.out] at this
        exact this.to_grown
      clear hjn
      go_wp2_with fail
      go_ret
      refine ⟨_, rfl, ?_, hD.out, HE.out⟩
      rw [hL.out, G.out]
      exact hO.out
end Go.Proofs.Ytngbifdenbfepaa

/- The contracts of a message's reader: names of a record's data. For texts of at most 10^6 bytes. -/
namespace Go.Proofs.Ytngbifdenbfepaa
open Go.RowKit NumMath NmMath Bytes Strs MsgMath StMath DatMath

set_option maxHeartbeats 1000000 in
theorem plain_any (a s : ByteArray) (r k p0 : Nat) (R : Except Nat (List UInt8 × Nat)) (w : World) (h : RdrAt w r a s p0 k) (hsa : Hid (s.data.toList = a.data.toList.take s.size)) (hs : s.size ≤ 1000000) (hp0 : p0 ≤ 1000000) (hR : Hid (bare a.data.toList s.size k p0 [] = R)) :
    Calls Try.prog 53 #[.pointer (some ⟨r, 0, none⟩)] w (NmEnd w r a s k R) := by
  obtain ⟨R1, hR1⟩ : ∃ R1, run s.data.toList s.size k p0 [] = R1 := ⟨_, rfl⟩
  have hR1' : run a.data.toList s.size k p0 [] = R1 := by rw [← hR1, hsa.out, run_take]
  have HP := Lib.hid (part_any a s r w.heap.size k p0 (.slice none 0 0) [] R1 w h (World.ownsRow_nil _ _ _ _) (Nat.le_refl _) hs (by omega) (Nat.zero_le _) (Lib.hid hR1))
  cases R1 with
  | error x =>
    have hRe : Hid (R = .error x) := by show _ = _; rw [← hR.out]; exact bare_err hR1'
    clear hR1 hR1' hR h
    go_enter Try.func53, Try.ntmps53
    go_wp2_with fail
    refine HP.out.mono ?_
    rintro e w1 ⟨rfl, hK1⟩
    have HK := Lib.hid hK1.to_grown; clear hK1
    go_wp2_with fail
    rw [hRe.out]
    exact ⟨rfl, rfl, HK.out⟩
  | ok oq =>
    obtain ⟨o, q⟩ := oq
    obtain ⟨hq1, hq2, hq3, hq4⟩ := run_ok hR1'
    obtain ⟨c, hc⟩ : ∃ c, bt a.data.toList q = c := ⟨_, rfl⟩
    have hcl : c < 256 := by rw [← hc]; exact bt_lt _ _
    have hbt : bt s.data.toList q = c := by rw [hsa.out, bt_take hq2]; exact hc
    have hRv : R = if c = 0 then .ok (o ++ [0], q + 1) else .error 50 := by rw [← hR.out]; unfold bare; rw [hR1']; simp only [hc]
    rw [hc] at hq3
    by_cases h0 : c = 0
    · have hRe : Hid (R = .ok (o ++ [0], q + 1)) := by show _ = _; rw [hRv, if_pos h0]
      subst h0
      have HBT := Lib.hid hbt
      clear hR1 hR1' hR h hRv hc hbt hq3
      go_enter Try.func53, Try.ntmps53
      go_wp2_with fail
      refine HP.out.mono ?_
      rintro e w1 ⟨v1, rfl, hO1, hD1, hK1⟩
      rw [HBT.out] at hO1 ⊢
      have hcv := convert_own hO1
      have HD := Lib.hid hD1
      have HG := Lib.hid hK1.to_grown
      clear hO1 hD1 hK1
      go_wp2_with fail
      go_ret
      rw [hRe.out]
      exact ⟨rfl, HD.out, HG.out⟩
    · have hRe : Hid (R = .error 50) := by show _ = _; rw [hRv, if_neg h0]
      have hge : (192 : Int) ≤ c := by omega
      have HBT := Lib.hid hbt
      clear hR1 hR1' hR h hRv hc hbt hq3 h0
      go_enter Try.func53, Try.ntmps53
      go_wp2_with fail
      refine HP.out.mono ?_
      rintro e w1 ⟨v1, rfl, hO1, hD1, hK1⟩
      rw [HBT.out]
      have HG := Lib.hid hK1.to_grown
      clear hO1 hD1 hK1
      go_wp2_with fail
      rw [hRe.out]
      exact ⟨rfl, rfl, HG.out⟩

theorem ends_take {l : List UInt8} {E p : Nat} : StMath.ends (l.take E) E p = StMath.ends l E p := by
  fun_induction StMath.ends l E p with
  | case1 p h h1 => rw [ends_ptr h (by rw [bt_take h]; exact h1)]
  | case2 p h h1 h2 => rw [ends_here h (by rw [bt_take h]; omega) (by rw [bt_take h]; exact h2)]
  | case3 p h h1 h2 ih => rw [ends_more h (by rw [bt_take h]; omega) (by rw [bt_take h]; omega), bt_take h, ih]
  | case4 p h => exact ends_not (by omega)

/-- The method that reads a name of this type. -/
def namer (r kind : Nat) : Value := .func (.func (if kind = 33 then 53 else 18)) #[.pointer (some ⟨r, 0, none⟩)] #[]
/-- The two cells that the closure of fill has: the reader, and the method. -/
structure Catch (w : World) (r q kind : Nat) : Prop where
  lt : q + 1 < w.heap.size
  at0 : w.heap[q]? = some (.cells #[.pointer (some ⟨r, 0, none⟩)] 52 (0, 0))
  at1 : w.heap[q + 1]? = some (.cells #[namer r kind] 55 (0, 0))
section
variable {w w' : World} {r q kind g : Nat}
theorem Catch.grown (h : Catch w r q kind) (hg : w.grownBy w' (some r)) (h1 : q ≠ r) (h2 : q + 1 ≠ r) : Catch w' r q kind :=
  ⟨Nat.lt_of_lt_of_le h.lt hg.size, (grown_block hg (by have := h.lt; omega) h1).trans h.at0, (grown_block hg h.lt h2).trans h.at1⟩
theorem Catch.kept (h : Catch w r q kind) (hk : Kept g r w w') (h1 : q ≠ r) (h2 : q + 1 ≠ r) (hg : q + 1 < g) : Catch w' r q kind :=
  ⟨Nat.lt_of_lt_of_le h.lt hk.size, (hk.block q (by omega) h1).trans h.at0, (hk.block (q + 1) hg h2).trans h.at1⟩
theorem Catch.below (h : Catch w r q kind) (hB : Below w.heap.size w w') : Catch w' r q kind :=
  ⟨Nat.lt_of_lt_of_le h.lt hB.size, (hB.block q (by have := h.lt; omega)).trans h.at0, (hB.block (q + 1) h.lt).trans h.at1⟩
end

set_option maxHeartbeats 1000000 in
theorem bounded_any (a s : ByteArray) (r q kind p : Nat) (R : Except Nat (List UInt8 × Nat)) (w : World) (h : RdrAt w r a s p 50) (hc : Catch w r q kind) (hsa : Hid (s.data.toList = a.data.toList.take s.size)) (ha : a.size ≤ 1000000) (hs : s.size ≤ 1000000) (hp : p ≤ 1000000) (hR : Hid (nameE a.data.toList s.size kind p = R)) :
    Calls Try.prog 54 #[.pointer (some ⟨q, 0, none⟩), .pointer (some ⟨q + 1, 0, none⟩)] w (NmEnd w r a s 50 R) := by
  have h0 := cell_of_row w _ 0 _ _ _ hc.at0
  obtain ⟨b, hb⟩ : ∃ b, StMath.ends a.data.toList s.size p = b := ⟨_, rfl⟩
  have HE := Lib.hid (ended_any a s r 50 p b w h hs hp (by (show _ = _; rw [hsa.out, ends_take]; exact hb)))
  have H := Lib.hid h
  have HC := Lib.hid hc
  clear h hc
  cases b with
  | false =>
    have hRe : Hid (R = .error 50) := by show _ = _; rw [← hR.out]; exact nameE_no hb
    clear hb hR
    go_enter Try.func54, Try.ntmps54
    go_wp2_with fail
    refine HE.out.mono ?_
    rintro e w1 ⟨rfl, hB⟩
    have HG := Lib.hid (only_of_below hB (some r))
    clear hB HE
    go_wp2_with fail
    rw [hRe.out]
    exact ⟨rfl, rfl, HG.out⟩
  | true =>
    have HN : Hid (∀ w', RdrAt w' r a s p 50 → Calls Try.prog (if kind = 33 then 53 else 18) #[.pointer (some ⟨r, 0, none⟩)] w' (NmEnd w' r a s 50 R)) := by
      intro w' hd
      by_cases h33 : kind = 33
      · rw [if_pos h33]
        exact plain_any a s r 50 p R w' hd hsa hs hp (by (show _ = _; rw [← hR.out]; exact (nameE_bare hb h33).symm))
      · rw [if_neg h33]
        exact pointed_any a s r 50 p R w' hd hsa ha hs (by omega) (by (show _ = _; rw [← hR.out]; exact (nameE_nm hb h33).symm))
    clear hb hR
    by_cases h33 : kind = 33
    · have HN' := HN.out
      rw [if_pos h33] at HN'
      have HN2 := Lib.hid HN'
      clear HN HN'
      go_enter Try.func54, Try.ntmps54
      go_wp2_with fail
      refine HE.out.mono ?_
      rintro e w1 ⟨rfl, hB⟩
      have hc1 := HC.out.below hB
      have h1 := cell_of_row w1 _ 0 _ _ _ hc1.at1
      unfold namer at h1
      rw [if_pos h33] at h1
      have HD1 := Lib.hid (H.out.held hB)
      have HG := Lib.hid (only_of_below hB (some r))
      clear hB hc1 HE h33
      cases R with
      | error x =>
        go_wp2_with fail
        refine (HN2.out _ HD1.out).mono ?_
        rintro e w2 ⟨rfl, hG2⟩
        have HG2 := Lib.hid (grown_trans HG.out hG2)
        clear hG2
        go_wp2_with fail
        exact ⟨rfl, rfl, HG2.out⟩
      | ok oq =>
        obtain ⟨o, q0⟩ := oq
        go_wp2_with fail
        refine (HN2.out _ HD1.out).mono ?_
        rintro e w2 ⟨rfl, hD2, hG2⟩
        have HG2 := Lib.hid (grown_trans HG.out hG2)
        have HD2 := Lib.hid hD2
        clear hG2 hD2
        go_wp2_with fail
        go_ret
        exact ⟨rfl, HD2.out, HG2.out⟩
    · have HN' := HN.out
      rw [if_neg h33] at HN'
      have HN2 := Lib.hid HN'
      clear HN HN'
      go_enter Try.func54, Try.ntmps54
      go_wp2_with fail
      refine HE.out.mono ?_
      rintro e w1 ⟨rfl, hB⟩
      have hc1 := HC.out.below hB
      have h1 := cell_of_row w1 _ 0 _ _ _ hc1.at1
      unfold namer at h1
      rw [if_neg h33] at h1
      have HD1 := Lib.hid (H.out.held hB)
      have HG := Lib.hid (only_of_below hB (some r))
      clear hB hc1 HE h33
      cases R with
      | error x =>
        go_wp2_with fail
        refine (HN2.out _ HD1.out).mono ?_
        rintro e w2 ⟨rfl, hG2⟩
        have HG2 := Lib.hid (grown_trans HG.out hG2)
        clear hG2
        go_wp2_with fail
        exact ⟨rfl, rfl, HG2.out⟩
      | ok oq =>
        obtain ⟨o, q0⟩ := oq
        go_wp2_with fail
        refine (HN2.out _ HD1.out).mono ?_
        rintro e w2 ⟨rfl, hD2, hG2⟩
        have HG2 := Lib.hid (grown_trans HG.out hG2)
        have HD2 := Lib.hid hD2
        clear hG2 hD2
        go_wp2_with fail
        go_ret
        exact ⟨rfl, HD2.out, HG2.out⟩

theorem nameE_next {l : List UInt8} {E kind p q : Nat} {o : List UInt8} (hE : E ≤ l.length) (h : nameE l E kind p = .ok (o, q)) : q ≤ l.length := by
  unfold nameE at h
  split at h
  · cases h
  · split at h
    · unfold bare at h
      split at h
      · cases h
      · next o1 q1 hr =>
        have := (run_ok hr).2.1
        split at h
        · injection h with h; injection h with _ h2; omega
        · cases h
    · exact nm_next hE (fun x e => by cases e) h
/-- Several names came back, or the reading gave up. -/
def NmsEnd (w : World) (r : Nat) (a s : ByteArray) : Except Nat (List (List UInt8) × Nat) → Ending → World → Prop
  | .error x, e, w' => e = gave x ∧ w.grownBy w' (some r)
  | .ok (L, q), e, w' => ∃ v, e = .returned v ∧ w'.ownsRow w.heap.size 9 1 v L.length (strCs L) ∧ RdrAt w' r a s (q : Int) 50 ∧ w.grownBy w' (some r)

set_option maxHeartbeats 2000000 in
set_option maxRecDepth 100000 in
theorem boundeds_any (a s : ByteArray) (r qq kind n p0 : Nat) (R : Except Nat (List (List UInt8) × Nat)) (w : World) (h : RdrAt w r a s p0 50) (hc : Catch w r qq kind) (hq1 : qq ≠ r) (hq2 : qq + 1 ≠ r) (hsa : Hid (s.data.toList = a.data.toList.take s.size)) (ha : a.size ≤ 1000000) (hsz : s.size ≤ a.size) (hp0 : p0 ≤ 1000000) (hn : n ≤ 100) (hR : Hid (many (nameE a.data.toList s.size kind) n p0 = R)) :
    Calls Try.prog 56 #[.int .i64 n, .func (.func 54) #[] #[.pointer (some ⟨qq, 0, none⟩), .pointer (some ⟨qq + 1, 0, none⟩)]] w (NmsEnd w r a s R) := by
  have AZ := Lib.hid (Lib.size_eq a)
  have hrl := h.lt
  have hcl := hc.lt
  have H := Lib.hid h; clear h
  have HC := Lib.hid hc; clear hc
  obtain ⟨g, hg⟩ : ∃ g, w.heap.size = g := ⟨_, rfl⟩
  have G := Lib.hid hg
  rw [hg] at hrl hcl
  obtain ⟨i0, hi, hz0, hz1, hz2⟩ := info_parts info9
  have HI := Lib.hid hi; clear hi
  have HZ0 := Lib.hid hz0; clear hz0
  have HZ1 := Lib.hid hz1; clear hz1
  have HZ2 := Lib.hid hz2; clear hz2
  have HR0 : Hid (more (nameE a.data.toList s.size kind) [] n p0 = R) := by show _ = _; rw [more_none]; exact hR.out
  clear hg hR
  go_enter Try.func56, Try.ntmps56
  go_wp2_with fail
  go_loopw [5, 7] (fun v i wr => ∃ (j p : Nat) (L : List (List UInt8)), i = .int .i64 j ∧ j ≤ n ∧ p ≤ 1000000 ∧ Hid (wr.ownsRow g 9 1 v j (strCs L)) ∧ Hid (L.length = j) ∧ Hid (RdrAt wr r a s p 50) ∧ Hid (more (nameE a.data.toList s.size kind) L (n - j) p = R) ∧ Hid (Kept g r w wr)) (fun _ i _ => n - (intOf i).toNat)
  case atStart => exact ⟨0, p0, [], rfl, Nat.zero_le _, hp0, World.ownsRow_nil _ _ _ _, rfl, H, HR0, Kept.refl _ _ _⟩
  case round =>
    obtain ⟨j, p, L, rfl, hj, hp, hO, hL, hD, hR, hK⟩ := hrel
    have hgw : Hid (g ≤ wr.heap.size) := by have := hK.out.size; rw [G.out] at this; exact this
    by_cases hlt : j < n
    · obtain ⟨Q1, hQ1⟩ : ∃ Q1, nameE a.data.toList s.size kind p = Q1 := ⟨_, rfl⟩
      have HQ := Lib.hid (bounded_any a s r qq kind p Q1 wr hD.out (HC.out.kept hK.out hq1 hq2 hcl) hsa ha (by omega) hp hQ1)
      obtain ⟨m, hm⟩ : ∃ m, n - j = m + 1 := ⟨n - j - 1, by omega⟩
      cases Q1 with
      | error x =>
        have hRe : Hid (R = .error x) := by show _ = _; rw [← hR.out, hm]; exact more_err hQ1
        clear hm hQ1
        go_wp2_with fail
        refine HQ.out.mono ?_
        rintro e w1 ⟨rfl, hG1⟩
        have HE : Hid (w.grownBy w1 (some r)) := kept_grown (hK.out.grown hG1 hgw.out) G.out
        clear hG1
        go_wp2_with fail
        rw [hRe.out]
        exact ⟨rfl, rfl, HE.out⟩
      | ok Qq =>
        obtain ⟨x, q⟩ := Qq
        have hql : q ≤ 1000000 := by have := nameE_next (by rw [← AZ.out]; exact hsz) hQ1; rw [← AZ.out] at this; omega
        have hRm : Hid (more (nameE a.data.toList s.size kind) (L ++ [x]) (n - (j + 1)) q = R) := by show _ = _; rw [← hR.out, hm, more_one hQ1]; congr 1; omega
        clear hm hQ1
        go_wp2_with fail
        refine HQ.out.mono ?_
        rintro e w1 ⟨rfl, hD1, hG1⟩
        have hO1 := Lib.hid (row_rdr hD.out hO.out hG1 (by decide))
        have hK1 := Lib.hid (hK.out.grown hG1 hgw.out)
        have hg1 : Hid (g ≤ w1.heap.size) := Nat.le_trans hgw.out hG1.size
        have HD1 := Lib.hid hD1
        clear hD1 hG1 hO hD hK HQ
        go_wp2_with (at_builtin; refine wpList_append_own _ rfl _ _ 44 rfl g 9 i0 (.string ⟨#[]⟩) 1 16 Try.underlying44 HI.out HZ0.out HZ1.out HZ2.out rfl (by decide) _ _ _ rfl (hO1.out.alloc _) ⟨w1.heap.size, 0, none⟩ 1 1 [.string (mk x)] rfl rfl ?c1 ?c2 ?c3 ?c4 ?c5 ?_)
        case c1 =>
          intro j u hj
          match j, hj with
          | 0, hj => simp at hj; subst hj; simp [Addr.add]
        case c2 => first | rfl | (intro u hu; simp at hu; subst hu; rfl)
        case c3 => unfold maxLen; omega
        case c4 => omega
        case c5 => have := hg1.out; simp; omega
        intro v' w2 hown hgrow _
        have E1 : Hid (w2.ownsRow g 9 1 v' (j + 1) (strCs (L ++ [x]))) := by
          show World.ownsRow _ _ _ _ _ _ _
          rw [strCs_snoc]
          exact hown
        have E2 := Lib.hid (rdr_row HD1.out hO1.out ((Below.refl _ _).alloc (Nat.le_refl _) _) hgrow (by decide))
        have E3 := Lib.hid ((hK1.out.alloc hg1.out _).own hgrow (by have := hg1.out; simp; omega) (fun k hk => (hO1.out.lt k hk).1))
        clear hown hgrow hO1 HD1 hK1
        go_wp2_with fail
        go_roundw
        case rel => exact ⟨j + 1, q, L ++ [x], by go_num, by omega, by omega, E1, by (show _ = _; rw [List.length_append, hL.out]; rfl), E2, hRm, E3⟩
        case measure => simp [intOf]; omega
    · have hjn : j = n := by omega
      have hRe : Hid (R = .ok (L, p)) := by show _ = _; rw [← hR.out, show n - j = 0 by omega]; exact more_end _ _ _
      have HE : Hid (w.grownBy wr (some r)) := kept_grown hK.out G.out
      clear hjn
      go_wp2_with fail
      go_ret
      rw [hRe.out]
      refine ⟨_, rfl, ?_, hD.out, HE.out⟩
      rw [hL.out, G.out]
      exact hO.out
end Go.Proofs.Ytngbifdenbfepaa

/- The contract of a message's reader: the texts of a record's data. For texts of at most 10^6 bytes. -/
namespace Go.Proofs.Ytngbifdenbfepaa
open Go.RowKit NumMath NmMath Bytes Strs MsgMath StMath DatMath

theorem grown_alloc {w w' : World} {row : Option Nat} (h : w.grownBy w' row) (o : Obj) : w.grownBy (w'.alloc o) row :=
  ⟨h.os, h.tape, h.output, by have := h.size; simp; omega, fun i hi hne => (Below.heap_alloc w' o i (Nat.lt_of_lt_of_le hi h.size)).trans (h.block i hi hne)⟩
theorem own_lit1 (w : World) (base : Nat) (o : List UInt8) (hb : base ≤ w.heap.size) :
    (w.alloc (.cells #[.string (mk o)] 9)).ownsRow base 9 1 (.slice (some ⟨w.heap.size, 0, none⟩) 1 1) 1 (strCs [o]) :=
  ⟨rfl, Or.inr ⟨w.heap.size, 1, #[.string (mk o)], rfl, hb, heap_alloc_new w _, Nat.le_refl _, by unfold maxLen; decide, rfl, rfl⟩⟩
theorem extract_ahead {a s : ByteArray} {p n : Nat} (hsa : s.data.toList = a.data.toList.take s.size) (h : p + n ≤ s.size) : s.extract p (p + n) = mk (cut a.data.toList p n) := by
  refine list_inj ?_
  rw [cut_extract, hsa, cut_take h, mk_list]

theorem texts_size4 (a s : ByteArray) (r p : Nat) (R : Except Nat (List (List UInt8) × Nat)) (w : World) (h : RdrAt w r a s p 50) (hsa : Hid (s.data.toList = a.data.toList.take s.size)) (hs : s.size ≤ 1000000) (hp : p ≤ s.size) (hR : Hid (partE a.data.toList s.size 4 p = R)) :
    Calls Try.prog 60 #[.pointer (some ⟨r, 0, none⟩), .int .u16 1] w (NmsEnd w r a s R) := by
  by_cases hin : p + 4 ≤ s.size
  · obtain ⟨o, ho⟩ : ∃ o, cut a.data.toList p 4 = o := ⟨_, rfl⟩
    have hRe : Hid (R = .ok ([o], p + 4)) := by show _ = _; rw [← hR.out, partE_ok hin, ho]
    have HT := Lib.hid (text_yes a s (mk o) r p 4 50 w h hin hs (by (show _ = _; rw [extract_ahead hsa.out hin, ho])))
    clear h hR ho
    go_enter Try.func60, Try.ntmps60
    go_wp2_with fail
    refine HT.out.mono ?_
    rintro e w1 ⟨rfl, hD, hG⟩
    have HD := Lib.hid (hD.held ((Below.refl _ _).alloc (Nat.le_refl _) (.cells #[.string (mk o)] 9)))
    have HG := Lib.hid (grown_alloc hG (.cells #[.string (mk o)] 9))
    have HL := Lib.hid (own_lit1 w1 w.heap.size o hG.size)
    clear hD hG HT
    go_wp2_with fail
    go_ret
    rw [hRe.out]
    exact ⟨_, rfl, HL.out, HD.out, HG.out⟩
  · have hRe : Hid (R = .error 50) := by show _ = _; rw [← hR.out, partE_no (by omega)]
    have HT := Lib.hid (text_no a s r 50 p 4 w h hs (by omega) (by omega) (by omega) (holds_no (n := s.size) (p := p) (m := 4) (by omega)))
    clear h hR
    go_enter Try.func60, Try.ntmps60
    go_wp2_with fail
    refine HT.out.mono ?_
    rintro e w1 ⟨rfl, m, rfl⟩
    go_wp2_with fail
    rw [hRe.out]
    exact ⟨rfl, rfl, grown_drewN (grown_refl _ _) m⟩

theorem texts_size16 (a s : ByteArray) (r p : Nat) (R : Except Nat (List (List UInt8) × Nat)) (w : World) (h : RdrAt w r a s p 50) (hsa : Hid (s.data.toList = a.data.toList.take s.size)) (hs : s.size ≤ 1000000) (hp : p ≤ s.size) (hR : Hid (partE a.data.toList s.size 16 p = R)) :
    Calls Try.prog 60 #[.pointer (some ⟨r, 0, none⟩), .int .u16 28] w (NmsEnd w r a s R) := by
  by_cases hin : p + 16 ≤ s.size
  · obtain ⟨o, ho⟩ : ∃ o, cut a.data.toList p 16 = o := ⟨_, rfl⟩
    have hRe : Hid (R = .ok ([o], p + 16)) := by show _ = _; rw [← hR.out, partE_ok hin, ho]
    have HT := Lib.hid (text_yes a s (mk o) r p 16 50 w h hin hs (by (show _ = _; rw [extract_ahead hsa.out hin, ho])))
    clear h hR ho
    go_enter Try.func60, Try.ntmps60
    go_wp2_with fail
    refine HT.out.mono ?_
    rintro e w1 ⟨rfl, hD, hG⟩
    have HD := Lib.hid (hD.held ((Below.refl _ _).alloc (Nat.le_refl _) (.cells #[.string (mk o)] 9)))
    have HG := Lib.hid (grown_alloc hG (.cells #[.string (mk o)] 9))
    have HL := Lib.hid (own_lit1 w1 w.heap.size o hG.size)
    clear hD hG HT
    go_wp2_with fail
    go_ret
    rw [hRe.out]
    exact ⟨_, rfl, HL.out, HD.out, HG.out⟩
  · have hRe : Hid (R = .error 50) := by show _ = _; rw [← hR.out, partE_no (by omega)]
    have HT := Lib.hid (text_no a s r 50 p 16 w h hs (by omega) (by omega) (by omega) (holds_no (n := s.size) (p := p) (m := 16) (by omega)))
    clear h hR
    go_enter Try.func60, Try.ntmps60
    go_wp2_with fail
    refine HT.out.mono ?_
    rintro e w1 ⟨rfl, m, rfl⟩
    go_wp2_with fail
    rw [hRe.out]
    exact ⟨rfl, rfl, grown_drewN (grown_refl _ _) m⟩

theorem texts_rest (a s : ByteArray) (r p kind : Nat) (w : World) (h : RdrAt w r a s p 50) (hsa : Hid (s.data.toList = a.data.toList.take s.size)) (hs : s.size ≤ 1000000) (hp : p ≤ s.size) (h1 : ((kind : Int) == 1) = false) (h28 : ((kind : Int) == 28) = false) (h16 : ((kind : Int) == 16) = false) :
    Calls Try.prog 60 #[.pointer (some ⟨r, 0, none⟩), .int .u16 kind] w (NmsEnd w r a s (.ok ([cut a.data.toList p (s.size - p)], s.size))) := by
  obtain ⟨o, ho⟩ : ∃ o, cut a.data.toList p (s.size - p) = o := ⟨_, rfl⟩
  have hz : ((s.size : Int) - p) = ((s.size - p : Nat) : Int) := by omega
  have HL := Lib.hid (left_any a s r p 50 w h hp hs)
  have HT := Lib.hid (fun m => text_yes a s (mk o) r p (s.size - p) 50 (w.drewN m) (h.drewN m) (by omega) hs (by (show _ = _; rw [extract_ahead hsa.out (by omega), ho])))
  rw [hz] at HL
  rw [ho]
  have HE : Hid (p + (s.size - p) = s.size) := by show _ = _; omega
  obtain ⟨z, hzz⟩ : ∃ z, s.size - p = z := ⟨_, rfl⟩
  rw [hzz] at HL HT HE
  clear h ho hz hzz
  go_enter Try.func60, Try.ntmps60
  go_wp2_with fail
  refine HL.out.mono ?_
  rintro e w0 ⟨rfl, m, rfl⟩
  go_wp2_with fail
  refine (HT.out m).mono ?_
  rintro e w1 ⟨rfl, hD, hG⟩
  have hD' : RdrAt w1 r a s (s.size : Int) 50 := by have := hD; rw [← Int.natCast_add, HE.out] at this; exact this
  have HD := Lib.hid (hD'.held ((Below.refl _ _).alloc (Nat.le_refl _) (.cells #[.string (mk o)] 9)))
  have hG' : w.grownBy w1 (some r) := ⟨hG.os, hG.tape, hG.output, hG.size, hG.block⟩
  have HG := Lib.hid (grown_alloc hG' (.cells #[.string (mk o)] 9))
  have HLL := Lib.hid (own_lit1 w1 w.heap.size o hG'.size)
  clear hD hG hD' hG' HT HL
  go_wp2_with fail
  go_ret
  exact ⟨_, rfl, HLL.out, HD.out, HG.out⟩

set_option maxHeartbeats 2000000 in
set_option maxRecDepth 100000 in
theorem texts_txt (a s : ByteArray) (r p : Nat) (R : Except Nat (List (List UInt8) × Nat)) (w : World) (h : RdrAt w r a s p 50) (hsa : Hid (s.data.toList = a.data.toList.take s.size)) (hs : s.size ≤ 1000000) (hp : p ≤ s.size) (hR : Hid ((if p < s.size then txtE a.data.toList s.size [] p else .error 50) = R)) :
    Calls Try.prog 60 #[.pointer (some ⟨r, 0, none⟩), .int .u16 16] w (NmsEnd w r a s R) := by
  obtain ⟨Q0, hQ0⟩ : ∃ Q0, measE a.data.toList s.size p = Q0 := ⟨_, rfl⟩
  have HM := Lib.hid (measured_any a s r p Q0 w h hsa hs (by omega) hQ0)
  obtain ⟨g, hg⟩ : ∃ g, w.heap.size = g := ⟨_, rfl⟩
  have G := Lib.hid hg
  cases Q0 with
  | error x =>
    have hRe : Hid (R = .error x) := by
      show _ = _
      rw [← hR.out]
      split
      · next hlt => exact txtE_err hlt hQ0
      · next hlt =>
        rw [measE_no (by omega)] at hQ0
        injection hQ0 with hQ0
        rw [hQ0]
    clear h hR hQ0 hg
    go_enter Try.func60, Try.ntmps60
    go_wp2_with fail
    refine HM.out.mono ?_
    rintro e w1 ⟨rfl, hG⟩
    have HG := Lib.hid hG
    clear hG HM
    go_wp2_with fail
    rw [hRe.out]
    exact ⟨rfl, rfl, HG.out⟩
  | ok oq =>
    obtain ⟨o, q⟩ := oq
    obtain ⟨hq1, hq2, hq3⟩ := measE_at hQ0
    have HR0 : Hid (txtE a.data.toList s.size [o] q = R) := by
      show _ = _
      rw [← hR.out, if_pos (by omega), txtE_more (by omega) hQ0]
      rfl
    obtain ⟨i0, hi, hz0, hz1, hz2⟩ := info_parts info9
    have HI := Lib.hid hi; clear hi
    have HZ0 := Lib.hid hz0; clear hz0
    have HZ1 := Lib.hid hz1; clear hz1
    have HZ2 := Lib.hid hz2; clear hz2
    clear h hR hQ0 hg
    go_enter Try.func60, Try.ntmps60
    go_wp2_with fail
    refine HM.out.mono ?_
    rintro e w1 ⟨rfl, hD, hG⟩
    have HD : Hid (RdrAt (w1.alloc (.cells #[.string (mk o)] 9)) r a s (q : Int) 50) := hD.held ((Below.refl _ _).alloc (Nat.le_refl _) _)
    have HK : Hid (Kept g r w (w1.alloc (.cells #[.string (mk o)] 9))) := (Kept.of_grown hG (by rw [G.out]; exact Nat.le_refl _)).alloc (by have := hG.size; rw [G.out] at this; exact this) _
    have HO : Hid ((w1.alloc (.cells #[.string (mk o)] 9)).ownsRow g 9 1 (.slice (some ⟨w1.heap.size, 0, none⟩) 1 1) 1 (strCs [o])) := own_lit1 w1 g o (by have := hG.size; rw [G.out] at this; exact this)
    clear hD hG HM
    go_wp2_with fail
    generalize w1.alloc (.cells #[.string (mk o)] 9) = w2 at HD HK HO ⊢
    go_loopw [5] (fun v wr => ∃ (L : List (List UInt8)) (p : Nat), p ≤ s.size ∧ L.length ≤ p ∧ Hid (wr.ownsRow g 9 1 v L.length (strCs L)) ∧ Hid (RdrAt wr r a s p 50) ∧ Hid (txtE a.data.toList s.size L p = R) ∧ Hid (Kept g r w wr)) (fun _ wr => s.size - placeOf wr r)
    case atStart => exact ⟨[o], q, hq2, by show 1 ≤ q; omega, HO, HD, HR0, HK⟩
    case round =>
      obtain ⟨L, p, hp, hLp, hO, hD, hR, hK⟩ := hrel
      have hgw : Hid (g ≤ wr.heap.size) := by have := hK.out.size; rw [G.out] at this; exact this
      have hpl := placeOf_at hD.out
      have HP := Lib.hid hpl
      clear hpl
      have HL := Lib.hid (left_any a s r p 50 wr hD.out hp hs)
      obtain ⟨Ln, hLn⟩ : ∃ n, L.length = n := ⟨_, rfl⟩
      have HLN := Lib.hid hLn
      rw [hLn] at hO
      rw [hLn] at hLp
      clear hLn
      by_cases hlt : p < s.size
      · have hpos : (0 : Int) < (s.size : Int) - p := by omega
        obtain ⟨Q1, hQ1⟩ : ∃ Q1, measE a.data.toList s.size p = Q1 := ⟨_, rfl⟩
        have HQ := Lib.hid (fun m => measured_any a s r p Q1 (wr.drewN m) (hD.out.drewN m) hsa hs (by omega) hQ1)
        cases Q1 with
        | error x =>
          have hRe : Hid (R = .error x) := by show _ = _; rw [← hR.out]; exact txtE_err hlt hQ1
          clear hQ1
          go_wp2_with fail
          refine HL.out.mono ?_
          rintro e w3 ⟨rfl, m, rfl⟩
          go_wp2_with fail
          refine (HQ.out m).mono ?_
          rintro e w4 ⟨rfl, hG4⟩
          have HE : Hid (w.grownBy w4 (some r)) := kept_grown ((hK.out.drewN m).grown hG4 hgw.out) G.out
          clear hG4
          go_wp2_with fail
          rw [hRe.out]
          exact ⟨rfl, rfl, HE.out⟩
        | ok Qq =>
          obtain ⟨x, q⟩ := Qq
          obtain ⟨hx1, hx2, hx3⟩ := measE_at hQ1
          have hRm : Hid (txtE a.data.toList s.size (L ++ [x]) q = R) := by show _ = _; rw [← hR.out, txtE_more hlt hQ1]
          clear hQ1
          go_wp2_with fail
          refine HL.out.mono ?_
          rintro e w3 ⟨rfl, m, rfl⟩
          go_wp2_with fail
          refine (HQ.out m).mono ?_
          rintro e w4 ⟨rfl, hD1, hG1⟩
          have hO1 := Lib.hid (row_rdr (hD.out.drewN m) (show (wr.drewN m).ownsRow g 9 1 u5 Ln (strCs L) from hO.out) hG1 (by decide))
          have hK1 := Lib.hid ((hK.out.drewN m).grown hG1 hgw.out)
          have hg1 : Hid (g ≤ w4.heap.size) := Nat.le_trans hgw.out hG1.size
          have HD1 := Lib.hid hD1
          clear hD1 hG1 hO hD hK HQ HL
          go_wp2_with (at_builtin; refine wpList_append_own _ rfl _ _ 44 rfl g 9 i0 (.string ⟨#[]⟩) 1 16 Try.underlying44 HI.out HZ0.out HZ1.out HZ2.out rfl (by decide) _ _ _ rfl (hO1.out.alloc _) ⟨w4.heap.size, 0, none⟩ 1 1 [.string (mk x)] rfl rfl ?c1 ?c2 ?c3 ?c4 ?c5 ?_)
          case c1 =>
            intro j u hj
            match j, hj with
            | 0, hj => simp at hj; subst hj; simp [Addr.add]
          case c2 => first | rfl | (intro u hu; simp at hu; subst hu; rfl)
          case c3 => unfold maxLen; omega
          case c4 => omega
          case c5 => have := hg1.out; simp; omega
          intro v' w5 hown hgrow _
          have E1 : Hid (w5.ownsRow g 9 1 v' (L ++ [x]).length (strCs (L ++ [x]))) := by
            show World.ownsRow _ _ _ _ _ _ _
            rw [strCs_snoc, List.length_append, HLN.out]
            exact hown
          have E2 := Lib.hid (rdr_row HD1.out hO1.out ((Below.refl _ _).alloc (Nat.le_refl _) _) hgrow (by decide))
          have E3 := Lib.hid ((hK1.out.alloc hg1.out _).own hgrow (by have := hg1.out; simp; omega) (fun k hk => (hO1.out.lt k hk).1))
          have HP5 := Lib.hid (placeOf_at E2.out)
          clear hown hgrow hO1 HD1 hK1
          go_wp2_with fail
          go_roundw
          case rel => exact ⟨L ++ [x], q, hx2, by (rw [List.length_append, HLN.out]; show Ln + 1 ≤ q; omega), E1, E2, hRm, E3⟩
          case measure => rw [HP.out, HP5.out]; omega
      · have hpos : ¬ ((0 : Int) < (s.size : Int) - p) := by omega
        have hRe : Hid (R = .ok (L, p)) := by show _ = _; rw [← hR.out]; exact txtE_end (by omega)
        have HE : Hid (w.grownBy wr (some r)) := kept_grown hK.out G.out
        go_wp2_with fail
        refine HL.out.mono ?_
        rintro e w3 ⟨rfl, m, rfl⟩
        go_wp2_with fail
        go_ret
        rw [hRe.out]
        refine ⟨_, rfl, ?_, hD.out, ⟨HE.out.os, HE.out.tape, HE.out.output, HE.out.size, HE.out.block⟩⟩
        rw [HLN.out, G.out]
        exact hO.out

theorem texts_any (a s : ByteArray) (r p kind : Nat) (R : Except Nat (List (List UInt8) × Nat)) (w : World) (h : RdrAt w r a s p 50) (hsa : Hid (s.data.toList = a.data.toList.take s.size)) (hs : s.size ≤ 1000000) (hp : p ≤ s.size) (hR : Hid (textsE a.data.toList s.size kind p = R)) :
    Calls Try.prog 60 #[.pointer (some ⟨r, 0, none⟩), .int .u16 kind] w (NmsEnd w r a s R) := by
  have hR' := hR.out
  unfold textsE at hR'
  by_cases h1 : kind = 1
  · subst h1
    rw [if_pos rfl] at hR'
    exact texts_size4 a s r p R w h hsa hs hp hR'
  · rw [if_neg h1] at hR'
    by_cases h28 : kind = 28
    · subst h28
      rw [if_pos rfl] at hR'
      exact texts_size16 a s r p R w h hsa hs hp hR'
    · rw [if_neg h28] at hR'
      by_cases h16 : kind = 16
      · subst h16
        rw [if_pos rfl] at hR'
        exact texts_txt a s r p R w h hsa hs hp hR'
      · rw [if_neg h16] at hR'
        subst hR'
        exact texts_rest a s r p kind w h hsa hs hp (beq_eq_false_iff_ne.2 (by omega)) (beq_eq_false_iff_ne.2 (by omega)) (beq_eq_false_iff_ne.2 (by omega))
end Go.Proofs.Ytngbifdenbfepaa
