/- The contracts of a message's reader: names of a record's data. For texts of at most 10^6 bytes. -/
import Derived.Test.YtngbifdenbfepaaProg
import Derived.Test.YtngbifdenbfepaaBytes
import Derived.Test.YtngbifdenbfepaaStrs
import Derived.Test.YtngbifdenbfepaaNmMath
import Derived.Test.YtngbifdenbfepaaNmAt
import Derived.Test.YtngbifdenbfepaaMsgMath
import Derived.Test.YtngbifdenbfepaaStMath
import Derived.Test.YtngbifdenbfepaaDatMath
import Derived.Test.YtngbifdenbfepaaKept
import Derived.Test.YtngbifdenbfepaaOwnRow
import Derived.Test.YtngbifdenbfepaaRdr
import Derived.Test.YtngbifdenbfepaaRdrText
import Derived.Test.YtngbifdenbfepaaRdrPart
import Derived.Test.YtngbifdenbfepaaRdrName
import Derived.Test.YtngbifdenbfepaaRdrSkip
import Derived.Test.YtngbifdenbfepaaRefNames
import Derived.WalkKit
import Derived.Lib.Hide
import Derived.Laws.Rows
import Derived.Laws.AppendOwn
import Derived.Outline
import Derived.IntWalk
import Derived.WalkSpells
import Derived.WalkLawsBesides
namespace Go.Proofs.Ytngbifdenbfepaa
open Go.RowKit NumMath NmMath Bytes Strs MsgMath StMath DatMath

set_option maxHeartbeats 1000000 in
theorem plain_any (a s : ByteArray) (r k p0 : Nat) (R : Except Nat (List UInt8 × Nat)) (w : World) (h : RdrAt w r a s p0 k) (hsa : Hid (s.data.toList = a.data.toList.take s.size)) (hs : s.size ≤ 1000000) (hp0 : p0 ≤ 1000000) (hR : Hid (bare a.data.toList s.size k p0 [] = R)) :
    Calls Try.prog 53 #[.pointer (some ⟨r, 0, none⟩)] w (NmEnd w r a s k R) := by
  obtain ⟨R1, hR1⟩ : ∃ R1, run s.data.toList s.size k p0 [] = R1 := ⟨_, rfl⟩
  have hR1' : run a.data.toList s.size k p0 [] = R1 := by rw [← hR1, hsa.out, run_take]
  have HP := Lib.hid (part_any a s r w.heap.size k p0 (.slice none 0 0) [] R1 w h (World.ownsRow_nil _ _ _ _) (Nat.le_refl _) hs (by omega) (Nat.zero_le _) (Lib.hid hR1))
  cases R1 with
  | error x =>
    have hRe : Hid (R = .error x) := by show _ = _; rw [← hR.out]; exact bare_err hR1'
    clear hR1 hR1' hR h
    go_enter Try.func53, Try.ntmps53
    go_wp2_with fail
    refine HP.out.mono ?_
    rintro e w1 ⟨rfl, hK1⟩
    have HK := Lib.hid hK1.to_grown; clear hK1
    go_wp2_with fail
    rw [hRe.out]
    exact ⟨rfl, rfl, HK.out⟩
  | ok oq =>
    obtain ⟨o, q⟩ := oq
    obtain ⟨hq1, hq2, hq3, hq4⟩ := run_ok hR1'
    obtain ⟨c, hc⟩ : ∃ c, bt a.data.toList q = c := ⟨_, rfl⟩
    have hcl : c < 256 := by rw [← hc]; exact bt_lt _ _
    have hbt : bt s.data.toList q = c := by rw [hsa.out, bt_take hq2]; exact hc
    have hRv : R = if c = 0 then .ok (o ++ [0], q + 1) else .error 50 := by rw [← hR.out]; unfold bare; rw [hR1']; simp only [hc]
    rw [hc] at hq3
    by_cases h0 : c = 0
    · have hRe : Hid (R = .ok (o ++ [0], q + 1)) := by show _ = _; rw [hRv, if_pos h0]
      subst h0
      have HBT := Lib.hid hbt
      clear hR1 hR1' hR h hRv hc hbt hq3
      go_enter Try.func53, Try.ntmps53
      go_wp2_with fail
      refine HP.out.mono ?_
      rintro e w1 ⟨v1, rfl, hO1, hD1, hK1⟩
      rw [HBT.out] at hO1 ⊢
      have hcv := convert_own hO1
      have HD := Lib.hid hD1
      have HG := Lib.hid hK1.to_grown
      clear hO1 hD1 hK1
      go_wp2_with fail
      go_ret
      rw [hRe.out]
      exact ⟨rfl, HD.out, HG.out⟩
    · have hRe : Hid (R = .error 50) := by show _ = _; rw [hRv, if_neg h0]
      have hge : (192 : Int) ≤ c := by omega
      have HBT := Lib.hid hbt
      clear hR1 hR1' hR h hRv hc hbt hq3 h0
      go_enter Try.func53, Try.ntmps53
      go_wp2_with fail
      refine HP.out.mono ?_
      rintro e w1 ⟨v1, rfl, hO1, hD1, hK1⟩
      rw [HBT.out]
      have HG := Lib.hid hK1.to_grown
      clear hO1 hD1 hK1
      go_wp2_with fail
      rw [hRe.out]
      exact ⟨rfl, rfl, HG.out⟩

theorem ends_take {l : List UInt8} {E p : Nat} : StMath.ends (l.take E) E p = StMath.ends l E p := by
  fun_induction StMath.ends l E p with
  | case1 p h h1 => rw [ends_ptr h (by rw [bt_take h]; exact h1)]
  | case2 p h h1 h2 => rw [ends_here h (by rw [bt_take h]; omega) (by rw [bt_take h]; exact h2)]
  | case3 p h h1 h2 ih => rw [ends_more h (by rw [bt_take h]; omega) (by rw [bt_take h]; omega), bt_take h, ih]
  | case4 p h => exact ends_not (by omega)

/-- The method that reads a name of this type. -/
def namer (r kind : Nat) : Value := .func (.func (if kind = 33 then 53 else 18)) #[.pointer (some ⟨r, 0, none⟩)] #[]
/-- The two cells that the closure of fill has: the reader, and the method. -/
structure Catch (w : World) (r q kind : Nat) : Prop where
  lt : q + 1 < w.heap.size
  at0 : w.heap[q]? = some (.cells #[.pointer (some ⟨r, 0, none⟩)] 52 (0, 0))
  at1 : w.heap[q + 1]? = some (.cells #[namer r kind] 55 (0, 0))
section
variable {w w' : World} {r q kind g : Nat}
theorem Catch.grown (h : Catch w r q kind) (hg : w.grownBy w' (some r)) (h1 : q ≠ r) (h2 : q + 1 ≠ r) : Catch w' r q kind :=
  ⟨Nat.lt_of_lt_of_le h.lt hg.size, (grown_block hg (by have := h.lt; omega) h1).trans h.at0, (grown_block hg h.lt h2).trans h.at1⟩
theorem Catch.kept (h : Catch w r q kind) (hk : Kept g r w w') (h1 : q ≠ r) (h2 : q + 1 ≠ r) (hg : q + 1 < g) : Catch w' r q kind :=
  ⟨Nat.lt_of_lt_of_le h.lt hk.size, (hk.block q (by omega) h1).trans h.at0, (hk.block (q + 1) hg h2).trans h.at1⟩
theorem Catch.below (h : Catch w r q kind) (hB : Below w.heap.size w w') : Catch w' r q kind :=
  ⟨Nat.lt_of_lt_of_le h.lt hB.size, (hB.block q (by have := h.lt; omega)).trans h.at0, (hB.block (q + 1) h.lt).trans h.at1⟩
end

set_option maxHeartbeats 1000000 in
theorem bounded_any (a s : ByteArray) (r q kind p : Nat) (R : Except Nat (List UInt8 × Nat)) (w : World) (h : RdrAt w r a s p 50) (hc : Catch w r q kind) (hsa : Hid (s.data.toList = a.data.toList.take s.size)) (ha : a.size ≤ 1000000) (hs : s.size ≤ 1000000) (hp : p ≤ 1000000) (hR : Hid (nameE a.data.toList s.size kind p = R)) :
    Calls Try.prog 54 #[.pointer (some ⟨q, 0, none⟩), .pointer (some ⟨q + 1, 0, none⟩)] w (NmEnd w r a s 50 R) := by
  have h0 := cell_of_row w _ 0 _ _ _ hc.at0
  obtain ⟨b, hb⟩ : ∃ b, StMath.ends a.data.toList s.size p = b := ⟨_, rfl⟩
  have HE := Lib.hid (ended_any a s r 50 p b w h hs hp (by (show _ = _; rw [hsa.out, ends_take]; exact hb)))
  have H := Lib.hid h
  have HC := Lib.hid hc
  clear h hc
  cases b with
  | false =>
    have hRe : Hid (R = .error 50) := by show _ = _; rw [← hR.out]; exact nameE_no hb
    clear hb hR
    go_enter Try.func54, Try.ntmps54
    go_wp2_with fail
    refine HE.out.mono ?_
    rintro e w1 ⟨rfl, hB⟩
    have HG := Lib.hid (only_of_below hB (some r))
    clear hB HE
    go_wp2_with fail
    rw [hRe.out]
    exact ⟨rfl, rfl, HG.out⟩
  | true =>
    have HN : Hid (∀ w', RdrAt w' r a s p 50 → Calls Try.prog (if kind = 33 then 53 else 18) #[.pointer (some ⟨r, 0, none⟩)] w' (NmEnd w' r a s 50 R)) := by
      intro w' hd
      by_cases h33 : kind = 33
      · rw [if_pos h33]
        exact plain_any a s r 50 p R w' hd hsa hs hp (by (show _ = _; rw [← hR.out]; exact (nameE_bare hb h33).symm))
      · rw [if_neg h33]
        exact pointed_any a s r 50 p R w' hd hsa ha hs (by omega) (by (show _ = _; rw [← hR.out]; exact (nameE_nm hb h33).symm))
    clear hb hR
    by_cases h33 : kind = 33
    · have HN' := HN.out
      rw [if_pos h33] at HN'
      have HN2 := Lib.hid HN'
      clear HN HN'
      go_enter Try.func54, Try.ntmps54
      go_wp2_with fail
      refine HE.out.mono ?_
      rintro e w1 ⟨rfl, hB⟩
      have hc1 := HC.out.below hB
      have h1 := cell_of_row w1 _ 0 _ _ _ hc1.at1
      unfold namer at h1
      rw [if_pos h33] at h1
      have HD1 := Lib.hid (H.out.held hB)
      have HG := Lib.hid (only_of_below hB (some r))
      clear hB hc1 HE h33
      cases R with
      | error x =>
        go_wp2_with fail
        refine (HN2.out _ HD1.out).mono ?_
        rintro e w2 ⟨rfl, hG2⟩
        have HG2 := Lib.hid (grown_trans HG.out hG2)
        clear hG2
        go_wp2_with fail
        exact ⟨rfl, rfl, HG2.out⟩
      | ok oq =>
        obtain ⟨o, q0⟩ := oq
        go_wp2_with fail
        refine (HN2.out _ HD1.out).mono ?_
        rintro e w2 ⟨rfl, hD2, hG2⟩
        have HG2 := Lib.hid (grown_trans HG.out hG2)
        have HD2 := Lib.hid hD2
        clear hG2 hD2
        go_wp2_with fail
        go_ret
        exact ⟨rfl, HD2.out, HG2.out⟩
    · have HN' := HN.out
      rw [if_neg h33] at HN'
      have HN2 := Lib.hid HN'
      clear HN HN'
      go_enter Try.func54, Try.ntmps54
      go_wp2_with fail
      refine HE.out.mono ?_
      rintro e w1 ⟨rfl, hB⟩
      have hc1 := HC.out.below hB
      have h1 := cell_of_row w1 _ 0 _ _ _ hc1.at1
      unfold namer at h1
      rw [if_neg h33] at h1
      have HD1 := Lib.hid (H.out.held hB)
      have HG := Lib.hid (only_of_below hB (some r))
      clear hB hc1 HE h33
      cases R with
      | error x =>
        go_wp2_with fail
        refine (HN2.out _ HD1.out).mono ?_
        rintro e w2 ⟨rfl, hG2⟩
        have HG2 := Lib.hid (grown_trans HG.out hG2)
        clear hG2
        go_wp2_with fail
        exact ⟨rfl, rfl, HG2.out⟩
      | ok oq =>
        obtain ⟨o, q0⟩ := oq
        go_wp2_with fail
        refine (HN2.out _ HD1.out).mono ?_
        rintro e w2 ⟨rfl, hD2, hG2⟩
        have HG2 := Lib.hid (grown_trans HG.out hG2)
        have HD2 := Lib.hid hD2
        clear hG2 hD2
        go_wp2_with fail
        go_ret
        exact ⟨rfl, HD2.out, HG2.out⟩

theorem nameE_next {l : List UInt8} {E kind p q : Nat} {o : List UInt8} (hE : E ≤ l.length) (h : nameE l E kind p = .ok (o, q)) : q ≤ l.length := by
  unfold nameE at h
  split at h
  · cases h
  · split at h
    · unfold bare at h
      split at h
      · cases h
      · next o1 q1 hr =>
        have := (run_ok hr).2.1
        split at h
        · injection h with h; injection h with _ h2; omega
        · cases h
    · exact nm_next hE (fun x e => by cases e) h
/-- Several names came back, or the reading gave up. -/
def NmsEnd (w : World) (r : Nat) (a s : ByteArray) : Except Nat (List (List UInt8) × Nat) → Ending → World → Prop
  | .error x, e, w' => e = gave x ∧ w.grownBy w' (some r)
  | .ok (L, q), e, w' => ∃ v, e = .returned v ∧ w'.ownsRow w.heap.size 9 1 v L.length (strCs L) ∧ RdrAt w' r a s (q : Int) 50 ∧ w.grownBy w' (some r)

set_option maxHeartbeats 2000000 in
set_option maxRecDepth 100000 in
theorem boundeds_any (a s : ByteArray) (r qq kind n p0 : Nat) (R : Except Nat (List (List UInt8) × Nat)) (w : World) (h : RdrAt w r a s p0 50) (hc : Catch w r qq kind) (hq1 : qq ≠ r) (hq2 : qq + 1 ≠ r) (hsa : Hid (s.data.toList = a.data.toList.take s.size)) (ha : a.size ≤ 1000000) (hsz : s.size ≤ a.size) (hp0 : p0 ≤ 1000000) (hn : n ≤ 100) (hR : Hid (many (nameE a.data.toList s.size kind) n p0 = R)) :
    Calls Try.prog 56 #[.int .i64 n, .func (.func 54) #[] #[.pointer (some ⟨qq, 0, none⟩), .pointer (some ⟨qq + 1, 0, none⟩)]] w (NmsEnd w r a s R) := by
  have AZ := Lib.hid (Lib.size_eq a)
  have hrl := h.lt
  have hcl := hc.lt
  have H := Lib.hid h; clear h
  have HC := Lib.hid hc; clear hc
  obtain ⟨g, hg⟩ : ∃ g, w.heap.size = g := ⟨_, rfl⟩
  have G := Lib.hid hg
  rw [hg] at hrl hcl
  obtain ⟨i0, hi, hz0, hz1, hz2⟩ := info_parts info9
  have HI := Lib.hid hi; clear hi
  have HZ0 := Lib.hid hz0; clear hz0
  have HZ1 := Lib.hid hz1; clear hz1
  have HZ2 := Lib.hid hz2; clear hz2
  have HR0 : Hid (more (nameE a.data.toList s.size kind) [] n p0 = R) := by show _ = _; rw [more_none]; exact hR.out
  clear hg hR
  go_enter Try.func56, Try.ntmps56
  go_wp2_with fail
  go_loopw [5, 7] (fun v i wr => ∃ (j p : Nat) (L : List (List UInt8)), i = .int .i64 j ∧ j ≤ n ∧ p ≤ 1000000 ∧ Hid (wr.ownsRow g 9 1 v j (strCs L)) ∧ Hid (L.length = j) ∧ Hid (RdrAt wr r a s p 50) ∧ Hid (more (nameE a.data.toList s.size kind) L (n - j) p = R) ∧ Hid (Kept g r w wr)) (fun _ i _ => n - (intOf i).toNat)
  case atStart => exact ⟨0, p0, [], rfl, Nat.zero_le _, hp0, World.ownsRow_nil _ _ _ _, rfl, H, HR0, Kept.refl _ _ _⟩
  case round =>
    obtain ⟨j, p, L, rfl, hj, hp, hO, hL, hD, hR, hK⟩ := hrel
    have hgw : Hid (g ≤ wr.heap.size) := by have := hK.out.size; rw [G.out] at this; exact this
    by_cases hlt : j < n
    · obtain ⟨Q1, hQ1⟩ : ∃ Q1, nameE a.data.toList s.size kind p = Q1 := ⟨_, rfl⟩
      have HQ := Lib.hid (bounded_any a s r qq kind p Q1 wr hD.out (HC.out.kept hK.out hq1 hq2 hcl) hsa ha (by omega) hp hQ1)
      obtain ⟨m, hm⟩ : ∃ m, n - j = m + 1 := ⟨n - j - 1, by omega⟩
      cases Q1 with
      | error x =>
        have hRe : Hid (R = .error x) := by show _ = _; rw [← hR.out, hm]; exact more_err hQ1
        clear hm hQ1
        go_wp2_with fail
        refine HQ.out.mono ?_
        rintro e w1 ⟨rfl, hG1⟩
        have HE : Hid (w.grownBy w1 (some r)) := kept_grown (hK.out.grown hG1 hgw.out) G.out
        clear hG1
        go_wp2_with fail
        rw [hRe.out]
        exact ⟨rfl, rfl, HE.out⟩
      | ok Qq =>
        obtain ⟨x, q⟩ := Qq
        have hql : q ≤ 1000000 := by have := nameE_next (by rw [← AZ.out]; exact hsz) hQ1; rw [← AZ.out] at this; omega
        have hRm : Hid (more (nameE a.data.toList s.size kind) (L ++ [x]) (n - (j + 1)) q = R) := by show _ = _; rw [← hR.out, hm, more_one hQ1]; congr 1; omega
        clear hm hQ1
        go_wp2_with fail
        refine HQ.out.mono ?_
        rintro e w1 ⟨rfl, hD1, hG1⟩
        have hO1 := Lib.hid (row_rdr hD.out hO.out hG1 (by decide))
        have hK1 := Lib.hid (hK.out.grown hG1 hgw.out)
        have hg1 : Hid (g ≤ w1.heap.size) := Nat.le_trans hgw.out hG1.size
        have HD1 := Lib.hid hD1
        clear hD1 hG1 hO hD hK HQ
        go_wp2_with (at_builtin; refine wpList_append_own _ rfl _ _ 44 rfl g 9 i0 (.string ⟨#[]⟩) 1 16 Try.underlying44 HI.out HZ0.out HZ1.out HZ2.out rfl (by decide) _ _ _ rfl (hO1.out.alloc _) ⟨w1.heap.size, 0, none⟩ 1 1 [.string (mk x)] rfl rfl ?c1 ?c2 ?c3 ?c4 ?c5 ?_)
        case c1 =>
          intro j u hj
          match j, hj with
          | 0, hj => simp at hj; subst hj; simp [Addr.add]
        case c2 => first | rfl | (intro u hu; simp at hu; subst hu; rfl)
        case c3 => unfold maxLen; omega
        case c4 => omega
        case c5 => have := hg1.out; simp; omega
        intro v' w2 hown hgrow _
        have E1 : Hid (w2.ownsRow g 9 1 v' (j + 1) (strCs (L ++ [x]))) := by
          show World.ownsRow _ _ _ _ _ _ _
          rw [strCs_snoc]
          exact hown
        have E2 := Lib.hid (rdr_row HD1.out hO1.out ((Below.refl _ _).alloc (Nat.le_refl _) _) hgrow (by decide))
        have E3 := Lib.hid ((hK1.out.alloc hg1.out _).own hgrow (by have := hg1.out; simp; omega) (fun k hk => (hO1.out.lt k hk).1))
        clear hown hgrow hO1 HD1 hK1
        go_wp2_with fail
        go_roundw
        case rel => exact ⟨j + 1, q, L ++ [x], by go_num, by omega, by omega, E1, by (show _ = _; rw [List.length_append, hL.out]; rfl), E2, hRm, E3⟩
        case measure => simp [intOf]; omega
    · have hjn : j = n := by omega
      have hRe : Hid (R = .ok (L, p)) := by show _ = _; rw [← hR.out, show n - j = 0 by omega]; exact more_end _ _ _
      have HE : Hid (w.grownBy wr (some r)) := kept_grown hK.out G.out
      clear hjn
      go_wp2_with fail
      go_ret
      rw [hRe.out]
      refine ⟨_, rfl, ?_, hD.out, HE.out⟩
      rw [hL.out, G.out]
      exact hO.out
end Go.Proofs.Ytngbifdenbfepaa
