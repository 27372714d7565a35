/- The contract of the document's names of data. For texts of at most 10^6 bytes. -/
import Derived.Test.YtngbifdenbfepaaProg
import Derived.Test.YtngbifdenbfepaaBytes
import Derived.Test.YtngbifdenbfepaaStrs
import Derived.Test.YtngbifdenbfepaaNmMath
import Derived.Test.YtngbifdenbfepaaStMath
import Derived.Test.YtngbifdenbfepaaOwnRow
import Derived.Test.YtngbifdenbfepaaKept
import Derived.Test.YtngbifdenbfepaaRefSt
import Derived.Test.YtngbifdenbfepaaRefEnds
import Derived.Test.YtngbifdenbfepaaRefNumbers
import Derived.WalkKit
import Derived.Lib.Hide
import Derived.Laws.Rows
import Derived.Laws.AppendOwn
import Derived.Outline
import Derived.IntWalk
import Derived.WalkSpells
import Derived.WalkLawsBesides
import Derived.Deep.QuietTactic
import Derived.BigQuiet
import Derived.Deep.Draws
namespace Go.Proofs.Ytngbifdenbfepaa
open Go.RowKit NumMath NmMath Bytes Strs StMath

theorem strCs_snoc (L : List (List UInt8)) (o : List UInt8) : strCs (L ++ [o]) = strCs L ++ [.string (mk o)] := by rw [strCs_cat, strCs_one]

set_option maxHeartbeats 4000000 in
set_option maxRecDepth 100000 in
theorem stNames_any (s : ByteArray) (r kind cnt E : Nat) (L0 : List (List UInt8)) (st0 st1 : St) (w : World) (h : StAt w r s st0) (hs : s.size ≤ 1000000) (hE : E ≤ s.size) (hp : st0.1 ≤ 1000000) (hcnt : cnt ≤ 100) (hx : Hid (namesS s.data.toList kind E cnt [] st0 = (L0, st1))) :
    Calls Try.prog 47 #[.pointer (some ⟨r, 0, none⟩), .int .u16 kind, .int .i64 cnt, .int .i64 E] w fun e w' => ∃ v, e = .returned v ∧ w'.ownsRow w.heap.size 9 1 v L0.length (strCs L0) ∧ StAt w' r s st1 ∧ w.grownBy w' (some r) := by
  have SZ := Lib.hid (Lib.size_eq s)
  have H := Lib.hid h; clear h
  obtain ⟨g, hg⟩ : ∃ g, w.heap.size = g := ⟨_, rfl⟩
  have G := Lib.hid hg
  obtain ⟨i0, hi, hz0, hz1, hz2⟩ := info_parts info9
  have HI := Lib.hid hi; clear hi
  have HZ0 := Lib.hid hz0; clear hz0
  have HZ1 := Lib.hid hz1; clear hz1
  have HZ2 := Lib.hid hz2; clear hz2
  clear hg
  go_enter Try.func47, Try.ntmps47
  go_wp2_with fail
  go_loopw [9, 10] (fun v i wr => ∃ (j : Nat) (L : List (List UInt8)) (p e : Nat), i = .int .i64 j ∧ j ≤ cnt ∧ p ≤ 1000000 ∧ Hid (wr.ownsRow g 9 1 v j (strCs L)) ∧ Hid (L.length = j) ∧ Hid (StAt wr r s (p, e)) ∧ Hid (namesS s.data.toList kind E (cnt - j) L (p, e) = (L0, st1)) ∧ Hid (Kept g r w wr)) (fun _ i _ => cnt - (intOf i).toNat)
  case atStart => exact ⟨0, [], st0.1, st0.2, rfl, Nat.zero_le _, hp, World.ownsRow_nil _ _ _ _, rfl, H, hx, Kept.refl _ _ _⟩
  case round =>
    obtain ⟨j, L, p, e, rfl, hj, hp, hO, hL, hD, hR, hK⟩ := hrel
    have hgw : Hid (g ≤ wr.heap.size) := by have := hK.out.size; rw [G.out] at this; exact this
    have a0 := hD.out.c0
    have a1 := hD.out.c1
    have a2 := hD.out.c2
    have af := hD.out.fz
    simp only at a1 a2
    by_cases hlt : j < cnt
    · obtain ⟨m, hm⟩ : ∃ m, cnt - j = m + 1 := ⟨cnt - j - 1, by omega⟩
      by_cases he : e = 0
      · subst he
        obtain ⟨b, hb⟩ : ∃ b, ends s.data.toList E p = b := ⟨_, rfl⟩
        have HEN := Lib.hid (fun n => quiet_left (ends_any s p E b (wr.drewN n) hs hE hp hb))
        cases b with
        | true =>
          obtain ⟨x, st', hxx⟩ : ∃ x st', oneS s.data.toList kind (p, 0) = (x, st') := ⟨_, _, rfl⟩
          have hle := oneS_le (l := s.data.toList) (kind := kind) (N := 1000000) (st := (p, 0)) hp (by rw [← SZ.out]; exact hs)
          rw [hxx] at hle
          obtain ⟨p', e'⟩ := st'
          simp only at hle
          have hRm : Hid (namesS s.data.toList kind E (cnt - (j + 1)) (L ++ [x]) (p', e') = (L0, st1)) := by
            show _ = _
            rw [← hR.out, hm, namesS_more rfl hb, hxx]
            congr 1
            omega
          by_cases h33 : kind = 33
          · have hk : ((kind : Int) == 33) = true := beq_iff_eq.2 (by omega)
            obtain ⟨B, hB⟩ : ∃ B, bare s.data.toList s.data.toList.length 2 p [] = B := ⟨_, rfl⟩
            have HBR := Lib.hid (fun W => bare_any s p B W hs hp (by (show _ = _; rw [SZ.out]; exact hB)))
            have hBx : (∃ k, B = .error k ∧ x = [] ∧ p' = 0 ∧ e' = k) ∨ (∃ o q, B = .ok (o, q) ∧ x = o ∧ p' = q ∧ e' = 0) := by
              unfold oneS at hxx
              rw [if_pos h33] at hxx
              simp only at hxx
              rw [hB] at hxx
              cases B with
              | error k => injection hxx with e1 e2; injection e2 with e3 e4; exact .inl ⟨k, rfl, e1.symm, e3.symm, e4.symm⟩
              | ok oq => obtain ⟨o, q⟩ := oq; injection hxx with e1 e2; injection e2 with e3 e4; exact .inr ⟨o, q, rfl, e1.symm, e3.symm, e4.symm⟩
            have HCB : Hid (∀ W, Calls Try.prog 62 #[.string s, .int .i64 p] W fun e w' => e = .returned (.tuple #[.string (mk x), .int .i64 p', .int .i64 e']) ∧ W = w') := fun W => by
              rcases hBx with ⟨k, rfl, rfl, rfl, rfl⟩ | ⟨o, q, rfl, rfl, rfl, rfl⟩
              · exact HBR.out W
              · exact HBR.out W
            clear hm hxx hb h33 hB HBR hBx
            go_wp2_with fail
            go_quiet ((go_at_call 61; exact HEN.out _))
            go_wp2_with fail
            have hD1 := hD.out.drewN nq
            have hO1 : (wr.drewN nq).ownsRow g 9 1 u9 j (strCs L) := hO.out
            have hK1 := hK.out.drewN nq
            have hs1 : g ≤ (wr.drewN nq).heap.size := hgw.out
            generalize wr.drewN nq = wd at hD1 hO1 hK1 hs1 ⊢
            have b0 := hD1.c0
            have b1 := hD1.c1
            have b2 := hD1.c2
            have bf := hD1.fz
            simp only at b1 b2
            have HD1 := Lib.hid hD1
            have HO1 := Lib.hid hO1
            have HK1 := Lib.hid hK1
            have HS1 := Lib.hid hs1
            clear hD1 hO1 hK1 hs1 a0 a1 a2 af hD hO hK hgw HEN
            go_quiet ((go_at_call 62; exact quiet_left (HCB.out _)))
            have hgs := only_setCell (only_setCell (grown_drewN (grown_refl wd (some r)) nq) (p := ⟨r, 2, none⟩) (.inl rfl) (.int .i64 e')) (p := ⟨r, 1, none⟩) (.inl rfl) (.int .i64 p')
            have HO2 := Lib.hid (row_st HD1.out HO1.out hgs (by decide))
            have HD2 := Lib.hid (((HD1.out.drewN nq).set2 e').set1 p')
            have HK2 := Lib.hid (HK1.out.grown hgs HS1.out)
            have HS2 := Lib.hid (Nat.le_trans HS1.out hgs.size)
            clear hgs HD1 HO1 HK1
            go_wp2_with (at_builtin; refine wpList_append_own _ rfl _ _ 44 rfl g 9 i0 (.string ⟨#[]⟩) 1 16 Try.underlying44 HI.out HZ0.out HZ1.out HZ2.out rfl (by decide) _ _ _ rfl (HO2.out.alloc _) ⟨wd.heap.size, 0, none⟩ 1 1 [.string (mk x)] rfl rfl ?c1 ?c2 ?c3 ?c4 ?c5 ?_)
            case c2 => first | rfl | (intro u hu; simp at hu; subst hu; rfl)
            case c3 => unfold maxLen; omega
            case c4 => omega
            case c5 => have := HS1.out; simp; omega
            intro v' w2 hown hgrow _
            have E1 : Hid (w2.ownsRow g 9 1 v' (j + 1) (strCs (L ++ [x]))) := by
              show World.ownsRow _ _ _ _ _ _ _
              rw [strCs_snoc]
              exact hown
            have E2 := Lib.hid (st_row HD2.out HO2.out ((Below.refl _ _).alloc (Nat.le_refl _) _) hgrow (by decide))
            have E3 := Lib.hid ((HK2.out.alloc HS2.out _).own hgrow (by have := HS1.out; simp; omega) (fun k hk => (HO2.out.lt k hk).1))
            clear hown hgrow HO2 HD2 HK2
            go_wp2_with fail
            go_roundw
            case rel => exact ⟨j + 1, L ++ [x], p', e', by go_num, by omega, hle, E1, by (show _ = _; rw [List.length_append, hL.out]; rfl), E2, hRm, E3⟩
            case measure => simp [intOf]; omega
          · have hk : ((kind : Int) == 33) = false := beq_eq_false_iff_ne.2 (by omega)
            have hxn : nameS s.data.toList (p, 0) = (x, (p', e')) := by
              unfold oneS at hxx
              rw [if_neg h33] at hxx
              exact hxx
            clear hm hxx hb h33
            go_wp2_with fail
            go_quiet ((go_at_call 61; exact HEN.out _))
            have HN := Lib.hid (stName_any s r x (p, 0) (p', e') (wr.drewN nq) (hD.out.drewN nq) hs hp hxn)
            go_wp2_with fail
            refine HN.out.mono ?_
            rintro e wd ⟨rfl, hD1, hG1⟩
            have HO2 := Lib.hid (row_st (hD.out.drewN nq) (show (wr.drewN nq).ownsRow g 9 1 u9 j (strCs L) from hO.out) hG1 (by decide))
            have HK2 := Lib.hid ((hK.out.drewN nq).grown hG1 hgw.out)
            have HS1 : Hid (g ≤ wd.heap.size) := Nat.le_trans hgw.out hG1.size
            have HS2 := HS1
            have HD2 := Lib.hid hD1
            clear hD1 hG1 hO hD hK HN a0 a1 a2 af HEN hxn
            go_wp2_with (at_builtin; refine wpList_append_own _ rfl _ _ 44 rfl g 9 i0 (.string ⟨#[]⟩) 1 16 Try.underlying44 HI.out HZ0.out HZ1.out HZ2.out rfl (by decide) _ _ _ rfl (HO2.out.alloc _) ⟨wd.heap.size, 0, none⟩ 1 1 [.string (mk x)] rfl rfl ?f1 ?f2 ?f3 ?f4 ?f5 ?_)
            case f1 =>
              intro j u hj
              match j, hj with
              | 0, hj => simp at hj; subst hj; simp [Addr.add]
            case f2 => first | rfl | (intro u hu; simp at hu; subst hu; rfl)
            case f3 => unfold maxLen; omega
            case f4 => omega
            case f5 => have := HS1.out; simp; omega
            intro v' w2 hown hgrow _
            have E1 : Hid (w2.ownsRow g 9 1 v' (j + 1) (strCs (L ++ [x]))) := by
              show World.ownsRow _ _ _ _ _ _ _
              rw [strCs_snoc]
              exact hown
            have E2 := Lib.hid (st_row HD2.out HO2.out ((Below.refl _ _).alloc (Nat.le_refl _) _) hgrow (by decide))
            have E3 := Lib.hid ((HK2.out.alloc HS2.out _).own hgrow (by have := HS1.out; simp; omega) (fun k hk => (HO2.out.lt k hk).1))
            clear hown hgrow HO2 HD2 HK2
            go_wp2_with fail
            go_roundw
            case rel => exact ⟨j + 1, L ++ [x], p', e', by go_num, by omega, hle, E1, by (show _ = _; rw [List.length_append, hL.out]; rfl), E2, hRm, E3⟩
            case measure => simp [intOf]; omega
        | false =>
          have hRe := hR.out
          rw [hm, namesS_bad rfl hb] at hRe
          injection hRe with e1 e2
          subst e1
          subst e2
          clear hm hb
          go_wp2_with fail
          go_quiet ((go_at_call 61; exact HEN.out _))
          go_wp2_with fail
          go_ret
          refine ⟨_, rfl, World.ownsRow_nil _ _ _ _, (hD.out.drewN _).set2 50, ?_⟩
          exact kept_grown ((hK.out.drewN _).setCell (.inl rfl) _) G.out
      · have hez : ((e : Int) == 0) = false := beq_eq_false_iff_ne.2 (by omega)
        have hRe := hR.out
        rw [namesS_stop he] at hRe
        injection hRe with e1 e2
        subst e1
        subst e2
        have HE : Hid (w.grownBy wr (some r)) := by
          have := hK.out
          rw [← G.out] at this
          exact this.to_grown
        clear hm he
        go_wp2_with fail
        go_ret
        refine ⟨_, rfl, ?_, hD.out, HE.out⟩
        rw [hL.out, G.out]
        exact hO.out
    · have hjn : j = cnt := by omega
      have hRe := hR.out
      rw [show cnt - j = 0 by omega, namesS_zero] at hRe
      injection hRe with e1 e2
      subst e1
      subst e2
      have HE : Hid (w.grownBy wr (some r)) := by
        have := hK.out
        rw [← G.out] at this
        exact this.to_grown
      clear hjn
      go_wp2_with fail
      go_ret
      refine ⟨_, rfl, ?_, hD.out, HE.out⟩
      rw [hL.out, G.out]
      exact hO.out
end Go.Proofs.Ytngbifdenbfepaa
