/- The contract of the document's numbers of data. For texts of at most 10^6 bytes. -/
import Derived.Test.YtngbifdenbfepaaProg
import Derived.Test.YtngbifdenbfepaaBytes
import Derived.Test.YtngbifdenbfepaaNums
import Derived.Test.YtngbifdenbfepaaNmMath
import Derived.Test.YtngbifdenbfepaaStMath
import Derived.Test.YtngbifdenbfepaaOwnRow
import Derived.Test.YtngbifdenbfepaaKept
import Derived.Test.YtngbifdenbfepaaRefSt
import Derived.WalkKit
import Derived.Lib.Hide
import Derived.Laws.Rows
import Derived.Laws.AppendOwn
import Derived.Outline
import Derived.IntWalk
import Derived.WalkSpells
import Derived.WalkLawsBesides
namespace Go.Proofs.Ytngbifdenbfepaa
open Go.RowKit NumMath NmMath Bytes Nums StMath

section
variable {W W' : World} {r g n size : Nat} {s : ByteArray} {st : St} {v : Value} {xs : List Value} {e : TypeId}
theorem row_st (h : StAt W r s st) (hv : W.ownsRow g e size v n xs) (hg : W.grownBy W' (some r)) (he : e ≠ 64) : W'.ownsRow g e size v n xs := hv.kept hg (row_ne (show W.heap[r]? = some _ from h) hv he)
theorem st_row {W0 : World} (h : StAt W r s st) (hv : W.ownsRow g e size v n xs) (hA : Below W.heap.size W W0) (hg : W0.grownBy W' v.ownBlock) (he : e ≠ 64) : StAt W' r s st := by
  have h0 := h.held hA
  refine (hg.block r h0.lt ?_).trans h0
  rcases row_ne (show W.heap[r]? = some _ from h) hv he with e | e
  · rw [e]; intro x; cases x
  · exact fun x => e x.symm
end
theorem numCs_snoc (L : List Nat) (x : Nat) : numCs (L ++ [x]) = numCs L ++ [.int .u32 (x : Int)] := by unfold numCs; rw [List.map_append]; rfl

set_option maxHeartbeats 2000000 in
set_option maxRecDepth 100000 in
theorem stNumbers_any (s : ByteArray) (r cnt size E : Nat) (L0 : List Nat) (st0 st1 : St) (w : World) (h : StAt w r s st0) (hs : s.size ≤ 1000000) (hE : E ≤ s.size) (hp : st0.1 ≤ 1000000) (hsz1 : 1 ≤ size) (hsz : size ≤ 4) (hcnt : cnt ≤ 100) (hx : Hid (numbersS s.data.toList size E cnt [] st0 = (L0, st1))) :
    Calls Try.prog 46 #[.pointer (some ⟨r, 0, none⟩), .int .i64 cnt, .int .i64 size, .int .i64 E] w fun e w' => ∃ v, e = .returned v ∧ w'.ownsRow w.heap.size 43 1 v L0.length (numCs L0) ∧ StAt w' r s st1 ∧ w.grownBy w' (some r) := by
  have SZ := Lib.hid (Lib.size_eq s)
  have H := Lib.hid h; clear h
  obtain ⟨g, hg⟩ : ∃ g, w.heap.size = g := ⟨_, rfl⟩
  have G := Lib.hid hg
  obtain ⟨i0, hi, hz0, hz1, hz2⟩ := info_parts info23
  have HI := Lib.hid hi; clear hi
  have HZ0 := Lib.hid hz0; clear hz0
  have HZ1 := Lib.hid hz1; clear hz1
  have HZ2 := Lib.hid hz2; clear hz2
  clear hg
  go_enter Try.func46, Try.ntmps46
  go_wp2_with fail
  go_loopw [9, 10] (fun v i wr => ∃ (j : Nat) (L : List Nat) (p e : Nat), i = .int .i64 j ∧ j ≤ cnt ∧ p ≤ 1000000 ∧ Hid (wr.ownsRow g 43 1 v j (numCs L)) ∧ Hid (L.length = j) ∧ Hid (StAt wr r s (p, e)) ∧ Hid (numbersS s.data.toList size E (cnt - j) L (p, e) = (L0, st1)) ∧ Hid (Kept g r w wr)) (fun _ i _ => cnt - (intOf i).toNat)
  case atStart => exact ⟨0, [], st0.1, st0.2, rfl, Nat.zero_le _, hp, World.ownsRow_nil _ _ _ _, rfl, H, hx, Kept.refl _ _ _⟩
  case round =>
    obtain ⟨j, L, p, e, rfl, hj, hp, hO, hL, hD, hR, hK⟩ := hrel
    have hgw : Hid (g ≤ wr.heap.size) := by have := hK.out.size; rw [G.out] at this; exact this
    have a1 := hD.out.c1
    have a2 := hD.out.c2
    have af := hD.out.fz
    simp only at a1 a2
    by_cases hlt : j < cnt
    · obtain ⟨m, hm⟩ : ∃ m, cnt - j = m + 1 := ⟨cnt - j - 1, by omega⟩
      by_cases he : e = 0
      · subst he
        by_cases hin : p + size ≤ E
        · have hini : (size : Int) ≤ (E : Int) - p := by omega
          obtain ⟨x, st', hxx⟩ : ∃ x st', numS s.data.toList size (p, 0) = (x, st') := ⟨_, _, rfl⟩
          have hxl := numS_lt (l := s.data.toList) hsz (p, 0)
          have hle := numS_le (l := s.data.toList) (n := size) (N := 1000000) (st := (p, 0)) hp (by rw [← SZ.out]; exact hs)
          rw [hxx] at hxl hle
          obtain ⟨p', e'⟩ := st'
          simp only at hxl hle
          have hRm : Hid (numbersS s.data.toList size E (cnt - (j + 1)) (L ++ [x]) (p', e') = (L0, st1)) := by
            show _ = _
            rw [← hR.out, hm, numbersS_more rfl hin, hxx]
            congr 1
            omega
          have HN := Lib.hid (stNum_any s r size x (p, 0) (p', e') wr hD.out hs hsz1 hsz hp hxx)
          clear hm hxx
          go_wp2_with fail
          refine HN.out.mono ?_
          rintro e w1 ⟨rfl, hD1, hG1⟩
          have hO1 := Lib.hid (row_st hD.out hO.out hG1 (by decide))
          have hK1 := Lib.hid (hK.out.grown hG1 hgw.out)
          have hg1 : Hid (g ≤ w1.heap.size) := Nat.le_trans hgw.out hG1.size
          have HD1 := Lib.hid hD1
          clear hD1 hG1 hO hD hK HN a1 a2 af
          go_wp2_with (at_builtin; refine wpList_append_own _ rfl _ _ 45 rfl g 43 i0 (.int .u32 0) 1 4 Try.underlying45 HI.out HZ0.out HZ1.out HZ2.out rfl (by decide) _ _ _ rfl (hO1.out.alloc _) ⟨w1.heap.size, 0, none⟩ 1 1 [.int .u32 (x : Int)] rfl rfl ?c1 ?c2 ?c3 ?c4 ?c5 ?_)
          case c1 =>
            intro j u hj
            match j, hj with
            | 0, hj => simp at hj; subst hj; simp [Addr.add]
          case c2 => intro u hu; simp at hu; subst hu; rfl
          case c3 => unfold maxLen; omega
          case c4 => omega
          case c5 => have := hg1.out; simp; omega
          intro v' w2 hown hgrow _
          have E1 : Hid (w2.ownsRow g 43 1 v' (j + 1) (numCs (L ++ [x]))) := by
            show World.ownsRow _ _ _ _ _ _ _
            rw [numCs_snoc]
            exact hown
          have E2 := Lib.hid (st_row HD1.out hO1.out ((Below.refl _ _).alloc (Nat.le_refl _) _) hgrow (by decide))
          have E3 := Lib.hid ((hK1.out.alloc hg1.out _).own hgrow (by have := hg1.out; simp; omega) (fun k hk => (hO1.out.lt k hk).1))
          clear hown hgrow hO1 HD1 hK1
          go_wp2_with fail
          go_roundw
          case rel => exact ⟨j + 1, L ++ [x], p', e', by go_num, by omega, hle, E1, by (show _ = _; rw [List.length_append, hL.out]; rfl), E2, hRm, E3⟩
          case measure => simp [intOf]; omega
        · have hini : (E : Int) - p < (size : Int) := by omega
          have hRe := hR.out
          rw [hm, numbersS_bad rfl (by show E < p + size; omega)] at hRe
          injection hRe with e1 e2
          subst e1
          subst e2
          have HE : Hid (StAt (wr.setCell ⟨r, 2, none⟩ (.int .i64 50)) r s (p, 50) ∧ w.grownBy (wr.setCell ⟨r, 2, none⟩ (.int .i64 50)) (some r)) := by
            refine ⟨hD.out.set2 50, ?_⟩
            have := hK.out.setCell (p := ⟨r, 2, none⟩) (.inl rfl) (.int .i64 50)
            rw [← G.out] at this
            exact this.to_grown
          clear hm hin
          go_wp2_with fail
          go_ret
          exact ⟨_, rfl, World.ownsRow_nil _ _ _ _, HE.out.1, HE.out.2⟩
      · have hez : ((e : Int) == 0) = false := beq_eq_false_iff_ne.2 (by omega)
        have hRe := hR.out
        rw [numbersS_stop he] at hRe
        injection hRe with e1 e2
        subst e1
        subst e2
        have HE : Hid (w.grownBy wr (some r)) := by
          have := hK.out
          rw [← G.out] at this
          exact this.to_grown
        clear hm he
        go_wp2_with fail
        go_ret
        refine ⟨_, rfl, ?_, hD.out, HE.out⟩
        rw [hL.out, G.out]
        exact hO.out
    · have hjn : j = cnt := by omega
      have hRe := hR.out
      rw [show cnt - j = 0 by omega, numbersS_zero] at hRe
      injection hRe with e1 e2
      subst e1
      subst e2
      have HE : Hid (w.grownBy wr (some r)) := by
        have := hK.out
        rw [← G.out] at this
        exact this.to_grown
      clear hjn
      go_wp2_with fail
      go_ret
      refine ⟨_, rfl, ?_, hD.out, HE.out⟩
      rw [hL.out, G.out]
      exact hO.out
end Go.Proofs.Ytngbifdenbfepaa
