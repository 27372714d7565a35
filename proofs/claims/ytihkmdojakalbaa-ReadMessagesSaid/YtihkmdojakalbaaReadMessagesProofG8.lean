/- Texts of one proof, one behind the other: RdrNames, RdrTexts, RdrFill. -/
import Derived.Test.YtihkmdojakalbaaProg
import Derived.Test.YtihkmdojakalbaaReadMessagesProofG1
import Derived.Test.YtihkmdojakalbaaReadMessagesProofG2
import Derived.Test.YtihkmdojakalbaaReadMessagesProofG6
import Derived.Test.YtihkmdojakalbaaReadMessagesProofG3
import Derived.Test.YtihkmdojakalbaaReadMessagesProofG7
import Derived.WalkKit
import Derived.Lib.Hide
import Derived.Laws.Rows
import Derived.Laws.AppendOwn
import Derived.Outline
import Derived.IntWalk
import Derived.WalkSpells
import Derived.WalkLawsBesides
import Derived.Deep.RegionHeld3
import Derived.Deep.Draws
import Derived.Laws.EntriesVeiled

/- The contracts of a message's reader: names of a record's data. For texts of at most 10^6 bytes. -/
namespace Go.Proofs.Ytihkmdojakalbaa
open Go.RowKit NumMath NmMath Bytes Strs MsgMath StMath DatMath

set_option maxHeartbeats 1000000 in
theorem plain_any (a s : ByteArray) (r k p0 : Nat) (R : Except Nat (List UInt8 × Nat)) (w : World) (h : RdrAt w r a s p0 k) (hsa : Hid (s.data.toList = a.data.toList.take s.size)) (hs : s.size ≤ 1000000) (hp0 : p0 ≤ 1000000) (hR : Hid (bare a.data.toList s.size k p0 [] = R)) :
    Calls Try.prog 89 #[.pointer (some ⟨r, 0, none⟩)] w (NmEnd w r a s k R) := by
  obtain ⟨R1, hR1⟩ : ∃ R1, run s.data.toList s.size k p0 [] = R1 := ⟨_, rfl⟩
  have hR1' : run a.data.toList s.size k p0 [] = R1 := by rw [← hR1, hsa.out, run_take]
  have HP := Lib.hid (part_any a s r w.heap.size k p0 (.slice none 0 0) [] R1 w h (World.ownsRow_nil _ _ _ _) (Nat.le_refl _) hs (by omega) (Nat.zero_le _) (Lib.hid hR1))
  cases R1 with
  | error x =>
    have hRe : Hid (R = .error x) := by show _ = _; rw [← hR.out]; exact bare_err hR1'
    clear hR1 hR1' hR h
    go_enter Try.func89, Try.ntmps89
    go_wp2_with fail
    refine HP.out.mono ?_
    rintro e w1 ⟨rfl, hK1⟩
    have HK := Lib.hid hK1.to_grown; clear hK1
    go_wp2_with fail
    rw [hRe.out]
    exact ⟨rfl, rfl, HK.out⟩
  | ok oq =>
    obtain ⟨o, q⟩ := oq
    obtain ⟨hq1, hq2, hq3, hq4⟩ := run_ok hR1'
    obtain ⟨c, hc⟩ : ∃ c, bt a.data.toList q = c := ⟨_, rfl⟩
    have hcl : c < 256 := by rw [← hc]; exact bt_lt _ _
    have hbt : bt s.data.toList q = c := by rw [hsa.out, bt_take hq2]; exact hc
    have hRv : R = if c = 0 then .ok (o ++ [0], q + 1) else .error 50 := by rw [← hR.out]; unfold bare; rw [hR1']; simp only [hc]
    rw [hc] at hq3
    by_cases h0 : c = 0
    · have hRe : Hid (R = .ok (o ++ [0], q + 1)) := by show _ = _; rw [hRv, if_pos h0]
      subst h0
      have HBT := Lib.hid hbt
      clear hR1 hR1' hR h hRv hc hbt hq3
      go_enter Try.func89, Try.ntmps89
      go_wp2_with fail
      refine HP.out.mono ?_
      rintro e w1 ⟨v1, rfl, hO1, hD1, hK1⟩
      rw [HBT.out] at hO1 ⊢
      have hcv := convert_own hO1
      have HD := Lib.hid hD1
      have HG := Lib.hid hK1.to_grown
      clear hO1 hD1 hK1
      go_wp2_with fail
      go_ret
      rw [hRe.out]
      exact ⟨rfl, HD.out, HG.out⟩
    · have hRe : Hid (R = .error 50) := by show _ = _; rw [hRv, if_neg h0]
      have hge : (192 : Int) ≤ c := by omega
      have HBT := Lib.hid hbt
      clear hR1 hR1' hR h hRv hc hbt hq3 h0
      go_enter Try.func89, Try.ntmps89
      go_wp2_with fail
      refine HP.out.mono ?_
      rintro e w1 ⟨v1, rfl, hO1, hD1, hK1⟩
      rw [HBT.out]
      have HG := Lib.hid hK1.to_grown
      clear hO1 hD1 hK1
      go_wp2_with fail
      rw [hRe.out]
      exact ⟨rfl, rfl, HG.out⟩

theorem ends_take {l : List UInt8} {E p : Nat} : StMath.ends (l.take E) E p = StMath.ends l E p := by
  fun_induction StMath.ends l E p with
  | case1 p h h1 => rw [ends_ptr h (by rw [bt_take h]; exact h1)]
  | case2 p h h1 h2 => rw [ends_here h (by rw [bt_take h]; omega) (by rw [bt_take h]; exact h2)]
  | case3 p h h1 h2 ih => rw [ends_more h (by rw [bt_take h]; omega) (by rw [bt_take h]; omega), bt_take h, ih]
  | case4 p h => exact ends_not (by omega)

/-- The method that reads a name of this type. -/
def namer (r kind : Nat) : Value := .func (.func (if kind = 33 then 89 else 44)) #[.pointer (some ⟨r, 0, none⟩)] #[]
/-- The two cells that the closure of fill has: the reader, and the method. -/
structure Catch (w : World) (r q kind : Nat) : Prop where
  lt : q + 1 < w.heap.size
  at0 : w.heap[q]? = some (.cells #[.pointer (some ⟨r, 0, none⟩)] 54 (0, 0))
  at1 : w.heap[q + 1]? = some (.cells #[namer r kind] 62 (0, 0))
section
variable {w w' : World} {r q kind g : Nat}
theorem Catch.grown (h : Catch w r q kind) (hg : w.grownBy w' (some r)) (h1 : q ≠ r) (h2 : q + 1 ≠ r) : Catch w' r q kind :=
  ⟨Nat.lt_of_lt_of_le h.lt hg.size, (grown_block hg (by have := h.lt; omega) h1).trans h.at0, (grown_block hg h.lt h2).trans h.at1⟩
theorem Catch.kept (h : Catch w r q kind) (hk : Kept g r w w') (h1 : q ≠ r) (h2 : q + 1 ≠ r) (hg : q + 1 < g) : Catch w' r q kind :=
  ⟨Nat.lt_of_lt_of_le h.lt hk.size, (hk.block q (by omega) h1).trans h.at0, (hk.block (q + 1) hg h2).trans h.at1⟩
theorem Catch.below (h : Catch w r q kind) (hB : Below w.heap.size w w') : Catch w' r q kind :=
  ⟨Nat.lt_of_lt_of_le h.lt hB.size, (hB.block q (by have := h.lt; omega)).trans h.at0, (hB.block (q + 1) h.lt).trans h.at1⟩
end

set_option maxHeartbeats 1000000 in
theorem bounded_any (a s : ByteArray) (r q kind p : Nat) (R : Except Nat (List UInt8 × Nat)) (w : World) (h : RdrAt w r a s p 50) (hc : Catch w r q kind) (hsa : Hid (s.data.toList = a.data.toList.take s.size)) (ha : a.size ≤ 1000000) (hs : s.size ≤ 1000000) (hp : p ≤ 1000000) (hR : Hid (nameE a.data.toList s.size kind p = R)) :
    Calls Try.prog 90 #[.pointer (some ⟨q, 0, none⟩), .pointer (some ⟨q + 1, 0, none⟩)] w (NmEnd w r a s 50 R) := by
  have h0 := cell_of_row w _ 0 _ _ _ hc.at0
  obtain ⟨b, hb⟩ : ∃ b, StMath.ends a.data.toList s.size p = b := ⟨_, rfl⟩
  have HE := Lib.hid (ended_any a s r 50 p b w h hs hp (by (show _ = _; rw [hsa.out, ends_take]; exact hb)))
  have H := Lib.hid h
  have HC := Lib.hid hc
  clear h hc
  cases b with
  | false =>
    have hRe : Hid (R = .error 50) := by show _ = _; rw [← hR.out]; exact nameE_no hb
    clear hb hR
    go_enter Try.func90, Try.ntmps90
    go_wp2_with fail
    refine HE.out.mono ?_
    rintro e w1 ⟨rfl, hB⟩
    have HG := Lib.hid (only_of_below hB (some r))
    clear hB HE
    go_wp2_with fail
    rw [hRe.out]
    exact ⟨rfl, rfl, HG.out⟩
  | true =>
    have HN : Hid (∀ w', RdrAt w' r a s p 50 → Calls Try.prog (if kind = 33 then 89 else 44) #[.pointer (some ⟨r, 0, none⟩)] w' (NmEnd w' r a s 50 R)) := by
      intro w' hd
      by_cases h33 : kind = 33
      · rw [if_pos h33]
        exact plain_any a s r 50 p R w' hd hsa hs hp (by (show _ = _; rw [← hR.out]; exact (nameE_bare hb h33).symm))
      · rw [if_neg h33]
        exact pointed_any a s r 50 p R w' hd hsa ha hs (by omega) (by (show _ = _; rw [← hR.out]; exact (nameE_nm hb h33).symm))
    clear hb hR
    by_cases h33 : kind = 33
    · have HN' := HN.out
      rw [if_pos h33] at HN'
      have HN2 := Lib.hid HN'
      clear HN HN'
      go_enter Try.func90, Try.ntmps90
      go_wp2_with fail
      refine HE.out.mono ?_
      rintro e w1 ⟨rfl, hB⟩
      have hc1 := HC.out.below hB
      have h1 := cell_of_row w1 _ 0 _ _ _ hc1.at1
      unfold namer at h1
      rw [if_pos h33] at h1
      have HD1 := Lib.hid (H.out.held hB)
      have HG := Lib.hid (only_of_below hB (some r))
      clear hB hc1 HE h33
      cases R with
      | error x =>
        go_wp2_with fail
        refine (HN2.out _ HD1.out).mono ?_
        rintro e w2 ⟨rfl, hG2⟩
        have HG2 := Lib.hid (grown_trans HG.out hG2)
        clear hG2
        go_wp2_with fail
        exact ⟨rfl, rfl, HG2.out⟩
      | ok oq =>
        obtain ⟨o, q0⟩ := oq
        go_wp2_with fail
        refine (HN2.out _ HD1.out).mono ?_
        rintro e w2 ⟨rfl, hD2, hG2⟩
        have HG2 := Lib.hid (grown_trans HG.out hG2)
        have HD2 := Lib.hid hD2
        clear hG2 hD2
        go_wp2_with fail
        go_ret
        exact ⟨rfl, HD2.out, HG2.out⟩
    · have HN' := HN.out
      rw [if_neg h33] at HN'
      have HN2 := Lib.hid HN'
      clear HN HN'
      go_enter Try.func90, Try.ntmps90
      go_wp2_with fail
      refine HE.out.mono ?_
      rintro e w1 ⟨rfl, hB⟩
      have hc1 := HC.out.below hB
      have h1 := cell_of_row w1 _ 0 _ _ _ hc1.at1
      unfold namer at h1
      rw [if_neg h33] at h1
      have HD1 := Lib.hid (H.out.held hB)
      have HG := Lib.hid (only_of_below hB (some r))
      clear hB hc1 HE h33
      cases R with
      | error x =>
        go_wp2_with fail
        refine (HN2.out _ HD1.out).mono ?_
        rintro e w2 ⟨rfl, hG2⟩
        have HG2 := Lib.hid (grown_trans HG.out hG2)
        clear hG2
        go_wp2_with fail
        exact ⟨rfl, rfl, HG2.out⟩
      | ok oq =>
        obtain ⟨o, q0⟩ := oq
        go_wp2_with fail
        refine (HN2.out _ HD1.out).mono ?_
        rintro e w2 ⟨rfl, hD2, hG2⟩
        have HG2 := Lib.hid (grown_trans HG.out hG2)
        have HD2 := Lib.hid hD2
        clear hG2 hD2
        go_wp2_with fail
        go_ret
        exact ⟨rfl, HD2.out, HG2.out⟩

theorem nameE_next {l : List UInt8} {E kind p q : Nat} {o : List UInt8} (hE : E ≤ l.length) (h : nameE l E kind p = .ok (o, q)) : q ≤ l.length := by
  unfold nameE at h
  split at h
  · cases h
  · split at h
    · unfold bare at h
      split at h
      · cases h
      · next o1 q1 hr =>
        have := (run_ok hr).2.1
        split at h
        · injection h with h; injection h with _ h2; omega
        · cases h
    · exact nm_next hE (fun x e => by cases e) h
/-- Several names came back, or the reading gave up. -/
def NmsEnd (w : World) (r : Nat) (a s : ByteArray) : Except Nat (List (List UInt8) × Nat) → Ending → World → Prop
  | .error x, e, w' => e = gave x ∧ w.grownBy w' (some r)
  | .ok (L, q), e, w' => ∃ v, e = .returned v ∧ w'.ownsRow w.heap.size 9 1 v L.length (strCs L) ∧ RdrAt w' r a s (q : Int) 50 ∧ w.grownBy w' (some r)

set_option maxHeartbeats 2000000 in
set_option maxRecDepth 100000 in
theorem boundeds_any (a s : ByteArray) (r qq kind n p0 : Nat) (R : Except Nat (List (List UInt8) × Nat)) (w : World) (h : RdrAt w r a s p0 50) (hc : Catch w r qq kind) (hq1 : qq ≠ r) (hq2 : qq + 1 ≠ r) (hsa : Hid (s.data.toList = a.data.toList.take s.size)) (ha : a.size ≤ 1000000) (hsz : s.size ≤ a.size) (hp0 : p0 ≤ 1000000) (hn : n ≤ 100) (hR : Hid (many (nameE a.data.toList s.size kind) n p0 = R)) :
    Calls Try.prog 92 #[.int .i64 n, .func (.func 90) #[] #[.pointer (some ⟨qq, 0, none⟩), .pointer (some ⟨qq + 1, 0, none⟩)]] w (NmsEnd w r a s R) := by
  have AZ := Lib.hid (Lib.size_eq a)
  have hrl := h.lt
  have hcl := hc.lt
  have H := Lib.hid h; clear h
  have HC := Lib.hid hc; clear hc
  obtain ⟨g, hg⟩ : ∃ g, w.heap.size = g := ⟨_, rfl⟩
  have G := Lib.hid hg
  rw [hg] at hrl hcl
  obtain ⟨i0, hi, hz0, hz1, hz2⟩ := info_parts info9
  have HI := Lib.hid hi; clear hi
  have HZ0 := Lib.hid hz0; clear hz0
  have HZ1 := Lib.hid hz1; clear hz1
  have HZ2 := Lib.hid hz2; clear hz2
  have HR0 : Hid (more (nameE a.data.toList s.size kind) [] n p0 = R) := by show _ = _; rw [more_none]; exact hR.out
  clear hg hR
  go_enter Try.func92, Try.ntmps92
  go_wp2_with fail
  go_loopw [5, 7] (fun v i wr => ∃ (j p : Nat) (L : List (List UInt8)), i = .int .i64 j ∧ j ≤ n ∧ p ≤ 1000000 ∧ Hid (wr.ownsRow g 9 1 v j (strCs L)) ∧ Hid (L.length = j) ∧ Hid (RdrAt wr r a s p 50) ∧ Hid (more (nameE a.data.toList s.size kind) L (n - j) p = R) ∧ Hid (Kept g r w wr)) (fun _ i _ => n - (intOf i).toNat)
  case atStart => exact ⟨0, p0, [], rfl, Nat.zero_le _, hp0, World.ownsRow_nil _ _ _ _, rfl, H, HR0, Kept.refl _ _ _⟩
  case round =>
    obtain ⟨j, p, L, rfl, hj, hp, hO, hL, hD, hR, hK⟩ := hrel
    have hgw : Hid (g ≤ wr.heap.size) := by have := hK.out.size; rw [G.out] at this; exact this
    by_cases hlt : j < n
    · obtain ⟨Q1, hQ1⟩ : ∃ Q1, nameE a.data.toList s.size kind p = Q1 := ⟨_, rfl⟩
      have HQ := Lib.hid (bounded_any a s r qq kind p Q1 wr hD.out (HC.out.kept hK.out hq1 hq2 hcl) hsa ha (by omega) hp hQ1)
      obtain ⟨m, hm⟩ : ∃ m, n - j = m + 1 := ⟨n - j - 1, by omega⟩
      cases Q1 with
      | error x =>
        have hRe : Hid (R = .error x) := by show _ = _; rw [← hR.out, hm]; exact more_err hQ1
        clear hm hQ1
        go_wp2_with fail
        refine HQ.out.mono ?_
        rintro e w1 ⟨rfl, hG1⟩
        have HE : Hid (w.grownBy w1 (some r)) := kept_grown (hK.out.grown hG1 hgw.out) G.out
        clear hG1
        go_wp2_with fail
        rw [hRe.out]
        exact ⟨rfl, rfl, HE.out⟩
      | ok Qq =>
        obtain ⟨x, q⟩ := Qq
        have hql : q ≤ 1000000 := by have := nameE_next (by rw [← AZ.out]; exact hsz) hQ1; rw [← AZ.out] at this; omega
        have hRm : Hid (more (nameE a.data.toList s.size kind) (L ++ [x]) (n - (j + 1)) q = R) := by show _ = _; rw [← hR.out, hm, more_one hQ1]; congr 1; omega
        clear hm hQ1
        go_wp2_with fail
        refine HQ.out.mono ?_
        rintro e w1 ⟨rfl, hD1, hG1⟩
        have hO1 := Lib.hid (row_rdr hD.out hO.out hG1 (by decide))
        have hK1 := Lib.hid (hK.out.grown hG1 hgw.out)
        have hg1 : Hid (g ≤ w1.heap.size) := Nat.le_trans hgw.out hG1.size
        have HD1 := Lib.hid hD1
        clear hD1 hG1 hO hD hK HQ
        go_wp2_with (at_builtin; refine wpList_append_own _ rfl _ _ 45 rfl g 9 i0 (.string ⟨#[]⟩) 1 16 Try.underlying45 HI.out HZ0.out HZ1.out HZ2.out rfl (by decide) _ _ _ rfl (hO1.out.alloc _) ⟨w1.heap.size, 0, none⟩ 1 1 [.string (mk x)] rfl rfl ?c1 ?c2 ?c3 ?c4 ?c5 ?_)
        case c1 =>
          intro j u hj
          match j, hj with
          | 0, hj => simp at hj; subst hj; simp [Addr.add]
        case c2 => first | rfl | (intro u hu; simp at hu; subst hu; rfl)
        case c3 => unfold maxLen; omega
        case c4 => omega
        case c5 => have := hg1.out; simp; omega
        intro v' w2 hown hgrow _
        have E1 : Hid (w2.ownsRow g 9 1 v' (j + 1) (strCs (L ++ [x]))) := by
          show World.ownsRow _ _ _ _ _ _ _
          rw [strCs_snoc]
          exact hown
        have E2 := Lib.hid (rdr_row HD1.out hO1.out ((Below.refl _ _).alloc (Nat.le_refl _) _) hgrow (by decide))
        have E3 := Lib.hid ((hK1.out.alloc hg1.out _).own hgrow (by have := hg1.out; simp; omega) (fun k hk => (hO1.out.lt k hk).1))
        clear hown hgrow hO1 HD1 hK1
        go_wp2_with fail
        go_roundw
        case rel => exact ⟨j + 1, q, L ++ [x], by go_num, by omega, by omega, E1, by (show _ = _; rw [List.length_append, hL.out]; rfl), E2, hRm, E3⟩
        case measure => simp [intOf]; omega
    · have hjn : j = n := by omega
      have hRe : Hid (R = .ok (L, p)) := by show _ = _; rw [← hR.out, show n - j = 0 by omega]; exact more_end _ _ _
      have HE : Hid (w.grownBy wr (some r)) := kept_grown hK.out G.out
      clear hjn
      go_wp2_with fail
      go_ret
      rw [hRe.out]
      refine ⟨_, rfl, ?_, hD.out, HE.out⟩
      rw [hL.out, G.out]
      exact hO.out
end Go.Proofs.Ytihkmdojakalbaa

/- The contract of a message's reader: the texts of a record's data. For texts of at most 10^6 bytes. -/
namespace Go.Proofs.Ytihkmdojakalbaa
open Go.RowKit NumMath NmMath Bytes Strs MsgMath StMath DatMath

theorem grown_alloc {w w' : World} {row : Option Nat} (h : w.grownBy w' row) (o : Obj) : w.grownBy (w'.alloc o) row :=
  ⟨h.os, h.tape, h.output, by have := h.size; simp; omega, fun i hi hne => (Below.heap_alloc w' o i (Nat.lt_of_lt_of_le hi h.size)).trans (h.block i hi hne)⟩
theorem own_lit1 (w : World) (base : Nat) (o : List UInt8) (hb : base ≤ w.heap.size) :
    (w.alloc (.cells #[.string (mk o)] 9)).ownsRow base 9 1 (.slice (some ⟨w.heap.size, 0, none⟩) 1 1) 1 (strCs [o]) :=
  ⟨rfl, Or.inr ⟨w.heap.size, 1, #[.string (mk o)], rfl, hb, heap_alloc_new w _, Nat.le_refl _, by unfold maxLen; decide, rfl, rfl⟩⟩
theorem extract_ahead {a s : ByteArray} {p n : Nat} (hsa : s.data.toList = a.data.toList.take s.size) (h : p + n ≤ s.size) : s.extract p (p + n) = mk (cut a.data.toList p n) := by
  refine list_inj ?_
  rw [cut_extract, hsa, cut_take h, mk_list]

theorem texts_size4 (a s : ByteArray) (r p : Nat) (R : Except Nat (List (List UInt8) × Nat)) (w : World) (h : RdrAt w r a s p 50) (hsa : Hid (s.data.toList = a.data.toList.take s.size)) (hs : s.size ≤ 1000000) (hp : p ≤ s.size) (hR : Hid (partE a.data.toList s.size 4 p = R)) :
    Calls Try.prog 96 #[.pointer (some ⟨r, 0, none⟩), .int .u16 1] w (NmsEnd w r a s R) := by
  by_cases hin : p + 4 ≤ s.size
  · obtain ⟨o, ho⟩ : ∃ o, cut a.data.toList p 4 = o := ⟨_, rfl⟩
    have hRe : Hid (R = .ok ([o], p + 4)) := by show _ = _; rw [← hR.out, partE_ok hin, ho]
    have HT := Lib.hid (text_yes a s (mk o) r p 4 50 w h hin hs (by (show _ = _; rw [extract_ahead hsa.out hin, ho])))
    clear h hR ho
    go_enter Try.func96, Try.ntmps96
    go_wp2_with fail
    refine HT.out.mono ?_
    rintro e w1 ⟨rfl, hD, hG⟩
    have HD := Lib.hid (hD.held ((Below.refl _ _).alloc (Nat.le_refl _) (.cells #[.string (mk o)] 9)))
    have HG := Lib.hid (grown_alloc hG (.cells #[.string (mk o)] 9))
    have HL := Lib.hid (own_lit1 w1 w.heap.size o hG.size)
    clear hD hG HT
    go_wp2_with fail
    go_ret
    rw [hRe.out]
    exact ⟨_, rfl, HL.out, HD.out, HG.out⟩
  · have hRe : Hid (R = .error 50) := by show _ = _; rw [← hR.out, partE_no (by omega)]
    have HT := Lib.hid (text_no a s r 50 p 4 w h hs (by omega) (by omega) (by omega) (holds_no (n := s.size) (p := p) (m := 4) (by omega)))
    clear h hR
    go_enter Try.func96, Try.ntmps96
    go_wp2_with fail
    refine HT.out.mono ?_
    rintro e w1 ⟨rfl, m, rfl⟩
    go_wp2_with fail
    rw [hRe.out]
    exact ⟨rfl, rfl, grown_drewN (grown_refl _ _) m⟩

theorem texts_size16 (a s : ByteArray) (r p : Nat) (R : Except Nat (List (List UInt8) × Nat)) (w : World) (h : RdrAt w r a s p 50) (hsa : Hid (s.data.toList = a.data.toList.take s.size)) (hs : s.size ≤ 1000000) (hp : p ≤ s.size) (hR : Hid (partE a.data.toList s.size 16 p = R)) :
    Calls Try.prog 96 #[.pointer (some ⟨r, 0, none⟩), .int .u16 28] w (NmsEnd w r a s R) := by
  by_cases hin : p + 16 ≤ s.size
  · obtain ⟨o, ho⟩ : ∃ o, cut a.data.toList p 16 = o := ⟨_, rfl⟩
    have hRe : Hid (R = .ok ([o], p + 16)) := by show _ = _; rw [← hR.out, partE_ok hin, ho]
    have HT := Lib.hid (text_yes a s (mk o) r p 16 50 w h hin hs (by (show _ = _; rw [extract_ahead hsa.out hin, ho])))
    clear h hR ho
    go_enter Try.func96, Try.ntmps96
    go_wp2_with fail
    refine HT.out.mono ?_
    rintro e w1 ⟨rfl, hD, hG⟩
    have HD := Lib.hid (hD.held ((Below.refl _ _).alloc (Nat.le_refl _) (.cells #[.string (mk o)] 9)))
    have HG := Lib.hid (grown_alloc hG (.cells #[.string (mk o)] 9))
    have HL := Lib.hid (own_lit1 w1 w.heap.size o hG.size)
    clear hD hG HT
    go_wp2_with fail
    go_ret
    rw [hRe.out]
    exact ⟨_, rfl, HL.out, HD.out, HG.out⟩
  · have hRe : Hid (R = .error 50) := by show _ = _; rw [← hR.out, partE_no (by omega)]
    have HT := Lib.hid (text_no a s r 50 p 16 w h hs (by omega) (by omega) (by omega) (holds_no (n := s.size) (p := p) (m := 16) (by omega)))
    clear h hR
    go_enter Try.func96, Try.ntmps96
    go_wp2_with fail
    refine HT.out.mono ?_
    rintro e w1 ⟨rfl, m, rfl⟩
    go_wp2_with fail
    rw [hRe.out]
    exact ⟨rfl, rfl, grown_drewN (grown_refl _ _) m⟩

theorem texts_rest (a s : ByteArray) (r p kind : Nat) (w : World) (h : RdrAt w r a s p 50) (hsa : Hid (s.data.toList = a.data.toList.take s.size)) (hs : s.size ≤ 1000000) (hp : p ≤ s.size) (h1 : ((kind : Int) == 1) = false) (h28 : ((kind : Int) == 28) = false) (h16 : ((kind : Int) == 16) = false) :
    Calls Try.prog 96 #[.pointer (some ⟨r, 0, none⟩), .int .u16 kind] w (NmsEnd w r a s (.ok ([cut a.data.toList p (s.size - p)], s.size))) := by
  obtain ⟨o, ho⟩ : ∃ o, cut a.data.toList p (s.size - p) = o := ⟨_, rfl⟩
  have hz : ((s.size : Int) - p) = ((s.size - p : Nat) : Int) := by omega
  have HL := Lib.hid (left_any a s r p 50 w h hp hs)
  have HT := Lib.hid (fun m => text_yes a s (mk o) r p (s.size - p) 50 (w.drewN m) (h.drewN m) (by omega) hs (by (show _ = _; rw [extract_ahead hsa.out (by omega), ho])))
  rw [hz] at HL
  rw [ho]
  have HE : Hid (p + (s.size - p) = s.size) := by show _ = _; omega
  obtain ⟨z, hzz⟩ : ∃ z, s.size - p = z := ⟨_, rfl⟩
  rw [hzz] at HL HT HE
  clear h ho hz hzz
  go_enter Try.func96, Try.ntmps96
  go_wp2_with fail
  refine HL.out.mono ?_
  rintro e w0 ⟨rfl, m, rfl⟩
  go_wp2_with fail
  refine (HT.out m).mono ?_
  rintro e w1 ⟨rfl, hD, hG⟩
  have hD' : RdrAt w1 r a s (s.size : Int) 50 := by have := hD; rw [← Int.natCast_add, HE.out] at this; exact this
  have HD := Lib.hid (hD'.held ((Below.refl _ _).alloc (Nat.le_refl _) (.cells #[.string (mk o)] 9)))
  have hG' : w.grownBy w1 (some r) := ⟨hG.os, hG.tape, hG.output, hG.size, hG.block⟩
  have HG := Lib.hid (grown_alloc hG' (.cells #[.string (mk o)] 9))
  have HLL := Lib.hid (own_lit1 w1 w.heap.size o hG'.size)
  clear hD hG hD' hG' HT HL
  go_wp2_with fail
  go_ret
  exact ⟨_, rfl, HLL.out, HD.out, HG.out⟩

set_option maxHeartbeats 2000000 in
set_option maxRecDepth 100000 in
theorem texts_txt (a s : ByteArray) (r p : Nat) (R : Except Nat (List (List UInt8) × Nat)) (w : World) (h : RdrAt w r a s p 50) (hsa : Hid (s.data.toList = a.data.toList.take s.size)) (hs : s.size ≤ 1000000) (hp : p ≤ s.size) (hR : Hid ((if p < s.size then txtE a.data.toList s.size [] p else .error 50) = R)) :
    Calls Try.prog 96 #[.pointer (some ⟨r, 0, none⟩), .int .u16 16] w (NmsEnd w r a s R) := by
  obtain ⟨Q0, hQ0⟩ : ∃ Q0, measE a.data.toList s.size p = Q0 := ⟨_, rfl⟩
  have HM := Lib.hid (measured_any a s r p Q0 w h hsa hs (by omega) hQ0)
  obtain ⟨g, hg⟩ : ∃ g, w.heap.size = g := ⟨_, rfl⟩
  have G := Lib.hid hg
  cases Q0 with
  | error x =>
    have hRe : Hid (R = .error x) := by
      show _ = _
      rw [← hR.out]
      split
      · next hlt => exact txtE_err hlt hQ0
      · next hlt =>
        rw [measE_no (by omega)] at hQ0
        injection hQ0 with hQ0
        rw [hQ0]
    clear h hR hQ0 hg
    go_enter Try.func96, Try.ntmps96
    go_wp2_with fail
    refine HM.out.mono ?_
    rintro e w1 ⟨rfl, hG⟩
    have HG := Lib.hid hG
    clear hG HM
    go_wp2_with fail
    rw [hRe.out]
    exact ⟨rfl, rfl, HG.out⟩
  | ok oq =>
    obtain ⟨o, q⟩ := oq
    obtain ⟨hq1, hq2, hq3⟩ := measE_at hQ0
    have HR0 : Hid (txtE a.data.toList s.size [o] q = R) := by
      show _ = _
      rw [← hR.out, if_pos (by omega), txtE_more (by omega) hQ0]
      rfl
    obtain ⟨i0, hi, hz0, hz1, hz2⟩ := info_parts info9
    have HI := Lib.hid hi; clear hi
    have HZ0 := Lib.hid hz0; clear hz0
    have HZ1 := Lib.hid hz1; clear hz1
    have HZ2 := Lib.hid hz2; clear hz2
    clear h hR hQ0 hg
    go_enter Try.func96, Try.ntmps96
    go_wp2_with fail
    refine HM.out.mono ?_
    rintro e w1 ⟨rfl, hD, hG⟩
    have HD : Hid (RdrAt (w1.alloc (.cells #[.string (mk o)] 9)) r a s (q : Int) 50) := hD.held ((Below.refl _ _).alloc (Nat.le_refl _) _)
    have HK : Hid (Kept g r w (w1.alloc (.cells #[.string (mk o)] 9))) := (Kept.of_grown hG (by rw [G.out]; exact Nat.le_refl _)).alloc (by have := hG.size; rw [G.out] at this; exact this) _
    have HO : Hid ((w1.alloc (.cells #[.string (mk o)] 9)).ownsRow g 9 1 (.slice (some ⟨w1.heap.size, 0, none⟩) 1 1) 1 (strCs [o])) := own_lit1 w1 g o (by have := hG.size; rw [G.out] at this; exact this)
    clear hD hG HM
    go_wp2_with fail
    generalize w1.alloc (.cells #[.string (mk o)] 9) = w2 at HD HK HO ⊢
    go_loopw [5] (fun v wr => ∃ (L : List (List UInt8)) (p : Nat), p ≤ s.size ∧ L.length ≤ p ∧ Hid (wr.ownsRow g 9 1 v L.length (strCs L)) ∧ Hid (RdrAt wr r a s p 50) ∧ Hid (txtE a.data.toList s.size L p = R) ∧ Hid (Kept g r w wr)) (fun _ wr => s.size - placeOf wr r)
    case atStart => exact ⟨[o], q, hq2, by show 1 ≤ q; omega, HO, HD, HR0, HK⟩
    case round =>
      obtain ⟨L, p, hp, hLp, hO, hD, hR, hK⟩ := hrel
      have hgw : Hid (g ≤ wr.heap.size) := by have := hK.out.size; rw [G.out] at this; exact this
      have hpl := placeOf_at hD.out
      have HP := Lib.hid hpl
      clear hpl
      have HL := Lib.hid (left_any a s r p 50 wr hD.out hp hs)
      obtain ⟨Ln, hLn⟩ : ∃ n, L.length = n := ⟨_, rfl⟩
      have HLN := Lib.hid hLn
      rw [hLn] at hO
      rw [hLn] at hLp
      clear hLn
      by_cases hlt : p < s.size
      · have hpos : (0 : Int) < (s.size : Int) - p := by omega
        obtain ⟨Q1, hQ1⟩ : ∃ Q1, measE a.data.toList s.size p = Q1 := ⟨_, rfl⟩
        have HQ := Lib.hid (fun m => measured_any a s r p Q1 (wr.drewN m) (hD.out.drewN m) hsa hs (by omega) hQ1)
        cases Q1 with
        | error x =>
          have hRe : Hid (R = .error x) := by show _ = _; rw [← hR.out]; exact txtE_err hlt hQ1
          clear hQ1
          go_wp2_with fail
          refine HL.out.mono ?_
          rintro e w3 ⟨rfl, m, rfl⟩
          go_wp2_with fail
          refine (HQ.out m).mono ?_
          rintro e w4 ⟨rfl, hG4⟩
          have HE : Hid (w.grownBy w4 (some r)) := kept_grown ((hK.out.drewN m).grown hG4 hgw.out) G.out
          clear hG4
          go_wp2_with fail
          rw [hRe.out]
          exact ⟨rfl, rfl, HE.out⟩
        | ok Qq =>
          obtain ⟨x, q⟩ := Qq
          obtain ⟨hx1, hx2, hx3⟩ := measE_at hQ1
          have hRm : Hid (txtE a.data.toList s.size (L ++ [x]) q = R) := by show _ = _; rw [← hR.out, txtE_more hlt hQ1]
          clear hQ1
          go_wp2_with fail
          refine HL.out.mono ?_
          rintro e w3 ⟨rfl, m, rfl⟩
          go_wp2_with fail
          refine (HQ.out m).mono ?_
          rintro e w4 ⟨rfl, hD1, hG1⟩
          have hO1 := Lib.hid (row_rdr (hD.out.drewN m) (show (wr.drewN m).ownsRow g 9 1 u5 Ln (strCs L) from hO.out) hG1 (by decide))
          have hK1 := Lib.hid ((hK.out.drewN m).grown hG1 hgw.out)
          have hg1 : Hid (g ≤ w4.heap.size) := Nat.le_trans hgw.out hG1.size
          have HD1 := Lib.hid hD1
          clear hD1 hG1 hO hD hK HQ HL
          go_wp2_with (at_builtin; refine wpList_append_own _ rfl _ _ 45 rfl g 9 i0 (.string ⟨#[]⟩) 1 16 Try.underlying45 HI.out HZ0.out HZ1.out HZ2.out rfl (by decide) _ _ _ rfl (hO1.out.alloc _) ⟨w4.heap.size, 0, none⟩ 1 1 [.string (mk x)] rfl rfl ?c1 ?c2 ?c3 ?c4 ?c5 ?_)
          case c1 =>
            intro j u hj
            match j, hj with
            | 0, hj => simp at hj; subst hj; simp [Addr.add]
          case c2 => first | rfl | (intro u hu; simp at hu; subst hu; rfl)
          case c3 => unfold maxLen; omega
          case c4 => omega
          case c5 => have := hg1.out; simp; omega
          intro v' w5 hown hgrow _
          have E1 : Hid (w5.ownsRow g 9 1 v' (L ++ [x]).length (strCs (L ++ [x]))) := by
            show World.ownsRow _ _ _ _ _ _ _
            rw [strCs_snoc, List.length_append, HLN.out]
            exact hown
          have E2 := Lib.hid (rdr_row HD1.out hO1.out ((Below.refl _ _).alloc (Nat.le_refl _) _) hgrow (by decide))
          have E3 := Lib.hid ((hK1.out.alloc hg1.out _).own hgrow (by have := hg1.out; simp; omega) (fun k hk => (hO1.out.lt k hk).1))
          have HP5 := Lib.hid (placeOf_at E2.out)
          clear hown hgrow hO1 HD1 hK1
          go_wp2_with fail
          go_roundw
          case rel => exact ⟨L ++ [x], q, hx2, by (rw [List.length_append, HLN.out]; show Ln + 1 ≤ q; omega), E1, E2, hRm, E3⟩
          case measure => rw [HP.out, HP5.out]; omega
      · have hpos : ¬ ((0 : Int) < (s.size : Int) - p) := by omega
        have hRe : Hid (R = .ok (L, p)) := by show _ = _; rw [← hR.out]; exact txtE_end (by omega)
        have HE : Hid (w.grownBy wr (some r)) := kept_grown hK.out G.out
        go_wp2_with fail
        refine HL.out.mono ?_
        rintro e w3 ⟨rfl, m, rfl⟩
        go_wp2_with fail
        go_ret
        rw [hRe.out]
        refine ⟨_, rfl, ?_, hD.out, ⟨HE.out.os, HE.out.tape, HE.out.output, HE.out.size, HE.out.block⟩⟩
        rw [HLN.out, G.out]
        exact hO.out

theorem texts_any (a s : ByteArray) (r p kind : Nat) (R : Except Nat (List (List UInt8) × Nat)) (w : World) (h : RdrAt w r a s p 50) (hsa : Hid (s.data.toList = a.data.toList.take s.size)) (hs : s.size ≤ 1000000) (hp : p ≤ s.size) (hR : Hid (textsE a.data.toList s.size kind p = R)) :
    Calls Try.prog 96 #[.pointer (some ⟨r, 0, none⟩), .int .u16 kind] w (NmsEnd w r a s R) := by
  have hR' := hR.out
  unfold textsE at hR'
  by_cases h1 : kind = 1
  · subst h1
    rw [if_pos rfl] at hR'
    exact texts_size4 a s r p R w h hsa hs hp hR'
  · rw [if_neg h1] at hR'
    by_cases h28 : kind = 28
    · subst h28
      rw [if_pos rfl] at hR'
      exact texts_size16 a s r p R w h hsa hs hp hR'
    · rw [if_neg h28] at hR'
      by_cases h16 : kind = 16
      · subst h16
        rw [if_pos rfl] at hR'
        exact texts_txt a s r p R w h hsa hs hp hR'
      · rw [if_neg h16] at hR'
        subst hR'
        exact texts_rest a s r p kind w h hsa hs hp (beq_eq_false_iff_ne.2 (by omega)) (beq_eq_false_iff_ne.2 (by omega)) (beq_eq_false_iff_ne.2 (by omega))
end Go.Proofs.Ytihkmdojakalbaa

/- The contract of a message's reader: a record's data is put into it. For texts of at most 10^6 bytes. -/
namespace Go.Proofs.Ytihkmdojakalbaa
open Go.RowKit NumMath NmMath Bytes Strs Nums MsgMath RecMath DatMath

/-- The cells of a record, its lists apart. -/
abbrev recC (x : ByteArray) (k l t : Nat) (v1 v2 v3 : Value) : Array Value := #[.string x, .int .u16 k, .int .u16 l, .int .u32 t, v1, v2, v3]
/-- The data was put into the record, or the reading gave up. -/
def FillEnd (w : World) (g b : Nat) (x : ByteArray) (k l t : Nat) : Except Nat Body → Ending → World → Prop
  | .error z, e, w' => e = gave z ∧ Below g w w'
  | .ok D, e, w' => ∃ v1 v2 v3, e = .returned (.tuple #[]) ∧ w'.heap[b]? = some (.cells (recC x k l t v1 v2 v3) 49 (0, 0)) ∧ w'.ownsRow g 9 1 v1 D.names.length (strCs D.names) ∧ w'.ownsRow g 46 1 v2 D.nums.length (numCs D.nums) ∧ w'.ownsRow g 9 1 v3 D.texts.length (strCs D.texts) ∧ Below g w w'
/-- The state within: the reader in its block, the record in its own, the two cells of the closure behind them. -/
structure FillSt (w wr : World) (g r b q kind : Nat) (a s : ByteArray) (p : Nat) (c : Array Value) : Prop where
  gr : g ≤ r
  gb : g ≤ b
  rb : r ≠ b
  rq : r < q
  bq : b < q
  rd : RdrAt wr r a s (p : Int) 50
  b0 : wr.heap[b]? = some (.cells c 49 (0, 0))
  ct : Catch wr r q kind
  bl : Below g w wr
section
variable {w wr w' : World} {g r b q kind p p' : Nat} {a s : ByteArray} {c : Array Value}
theorem FillSt.sz (h : FillSt w wr g r b q kind a s p c) : g ≤ wr.heap.size := by have := h.rd.lt; have := h.gr; omega
theorem FillSt.call (h : FillSt w wr g r b q kind a s p c) (hd : RdrAt w' r a s (p' : Int) 50) (hg : wr.grownBy w' (some r)) : FillSt w w' g r b q kind a s p' c :=
  ⟨h.gr, h.gb, h.rb, h.rq, h.bq, hd, (grown_block hg (by have := h.ct.lt; have := h.bq; omega) (fun e => h.rb e.symm)).trans h.b0, h.ct.grown hg (by have := h.rq; omega) (by have := h.rq; omega), below_of_grown h.bl hg h.gr h.sz⟩
theorem FillSt.gaveUp (h : FillSt w wr g r b q kind a s p c) (hg : wr.grownBy w' (some r)) : Below g w w' := below_of_grown h.bl hg h.gr h.sz
theorem FillSt.set (h : FillSt w wr g r b q kind a s p c) (i : Nat) (v : Value) : FillSt w (wr.setCell ⟨b, i, none⟩ v) g r b q kind a s p (c.setIfInBounds i v) := by
  have h1 := h.rb; have h2 := h.bq; have h3 := h.ct.lt
  refine ⟨h.gr, h.gb, h1, h.rq, h2, h.rd.far (by simpa using h1) _, ?_, ⟨by simpa [World.setCell] using h3, ?_, ?_⟩, ?_⟩
  · simp [World.setCell, Array.getElem?_modify, h.b0]
  · rw [Below.heap_setCell _ _ _ _ (by simp only; omega)]; exact h.ct.at0
  · rw [Below.heap_setCell _ _ _ _ (by simp only; omega)]; exact h.ct.at1
  · exact below_of_grown h.bl (only_setCell (g := b) (grown_refl _ _) (p := ⟨b, i, none⟩) (.inl rfl) v) h.gb h.sz
theorem FillSt.drewN (h : FillSt w wr g r b q kind a s p c) (n : Nat) : FillSt w (wr.drewN n) g r b q kind a s p c := ⟨h.gr, h.gb, h.rb, h.rq, h.bq, h.rd, h.b0, ⟨h.ct.lt, h.ct.at0, h.ct.at1⟩, below_drewN h.bl n⟩
theorem FillSt.drew (h : FillSt w wr g r b q kind a s p c) : FillSt w wr.drew g r b q kind a s p c := ⟨h.gr, h.gb, h.rb, h.rq, h.bq, h.rd, h.b0, ⟨h.ct.lt, h.ct.at0, h.ct.at1⟩, ⟨h.bl.os, h.bl.tape, h.bl.output, h.bl.size, h.bl.block⟩⟩
theorem FillSt.rowCall {e : TypeId} {sz n : Nat} {v : Value} {xs : List Value} (h : FillSt w wr g r b q kind a s p c) (hv : wr.ownsRow g e sz v n xs) (hg : wr.grownBy w' (some r)) (he : e ≠ 56) : w'.ownsRow g e sz v n xs := row_rdr h.rd hv hg he
theorem FillSt.rowSet {e : TypeId} {sz n : Nat} {v : Value} {xs : List Value} (h : FillSt w wr g r b q kind a s p c) (hv : wr.ownsRow g e sz v n xs) (i : Nat) (u : Value) (he : e ≠ 49) : (wr.setCell ⟨b, i, none⟩ u).ownsRow g e sz v n xs :=
  hv.kept (only_setCell (g := b) (grown_refl wr (some b)) (p := ⟨b, i, none⟩) (.inl rfl) u) (row_ne h.b0 hv he)
end
theorem fillSt_start (w : World) (g r b kind : Nat) (a s : ByteArray) (p : Nat) (c : Array Value) (f : Value) (hf : namer r kind = f) (h : RdrAt w r a s (p : Int) 50) (hb : w.heap[b]? = some (.cells c 49 (0, 0))) (hgr : g ≤ r) (hgb : g ≤ b) (hrb : r ≠ b) (hbl : b < w.heap.size) :
    FillSt w ((w.alloc (.cells #[.pointer (some ⟨r, 0, none⟩)] 54)).alloc (.cells #[f] 62)) g r b w.heap.size kind a s p c := by
  subst hf
  have hr := h.lt
  refine ⟨hgr, hgb, hrb, hr, hbl, (h.held ((Below.refl _ _).alloc (Nat.le_refl _) _)).held ((Below.refl _ _).alloc (Nat.le_refl _) _), old_at (old_at hb), ⟨by simp, old_at (new_at _ _ _ rfl), new_at _ _ _ (by simp)⟩, ?_⟩
  exact ((Below.refl g w).alloc (by omega) _).alloc (by simp; omega) _
/-- The texts gave up: said as what a statement that reads beside can bear (its other way never comes). -/
theorem texts_bad {w wr : World} {g r b q kind p z : Nat} {a s : ByteArray} {c : Array Value} (h : FillSt w wr g r b q kind a s p c) (hsa : Hid (s.data.toList = a.data.toList.take s.size)) (hs : s.size ≤ 1000000) (hp : p ≤ s.size) (hR : Hid (textsE a.data.toList s.size kind p = .error z)) :
    Calls Try.prog 96 #[.pointer (some ⟨r, 0, none⟩), .int .u16 kind] wr fun e w' => (e = gave z ∧ Hid (Below g w w')) ∨ (e = .returned (.slice none 0 0) ∧ Hid False ∧ w'.cell? ⟨q, 0, none⟩ = some (.pointer (some ⟨r, 0, none⟩)) ∧ w'.cell? ⟨b, 1, none⟩ = some (.int .u16 kind) ∧ w'.frozen? ⟨b, 6, none⟩ = false ∧ w'.cell? ⟨b, 6, none⟩ = some (.slice none 0 0)) :=
  (texts_any a s r p kind _ wr h.rd hsa hs hp hR).mono fun _ _ hE => .inl ⟨hE.1, h.gaveUp hE.2⟩
/-- What the texts leave. -/
structure TextsDone (w wr w' : World) (g r b q kind p : Nat) (a s : ByteArray) (c : Array Value) (v : Value) (L : List (List UInt8)) : Prop where
  st : FillSt w w' g r b q kind a s p c
  row : w'.ownsRow g 9 1 v L.length (strCs L)
  gr : wr.grownBy w' (some r)
/-- The texts, among the cells that the statement reads beside. -/
theorem texts_good {w wr : World} {g r b q kind p p' : Nat} {a s x : ByteArray} {l t : Nat} {v1 v2 : Value} {L : List (List UInt8)} (h : FillSt w wr g r b q kind a s p (recC x kind l t v1 v2 (.slice none 0 0))) (hsa : Hid (s.data.toList = a.data.toList.take s.size)) (hs : s.size ≤ 1000000) (hp : p ≤ s.size) (hR : Hid (textsE a.data.toList s.size kind p = .ok (L, p'))) :
    Calls Try.prog 96 #[.pointer (some ⟨r, 0, none⟩), .int .u16 kind] wr fun e w' => ∃ A m k, e = .returned (.slice A m k) ∧ w'.cell? ⟨q, 0, none⟩ = some (.pointer (some ⟨r, 0, none⟩)) ∧ w'.cell? ⟨b, 1, none⟩ = some (.int .u16 kind) ∧ w'.frozen? ⟨b, 6, none⟩ = false ∧ w'.cell? ⟨b, 6, none⟩ = some (.slice none 0 0) ∧ Hid (TextsDone w wr w' g r b q kind p' a s (recC x kind l t v1 v2 (.slice none 0 0)) (.slice A m k) L) := by
  refine (texts_any a s r p kind _ wr h.rd hsa hs hp hR).mono fun e w' hE => ?_
  obtain ⟨v, rfl, hO, hD, hG⟩ := hE
  obtain ⟨A, m, k, rfl⟩ := row_slice hO
  have hst := h.call hD hG
  exact ⟨A, m, k, rfl, cell_of_row _ _ 0 _ _ _ hst.ct.at0, cell_of_row _ _ 1 _ _ _ hst.b0, by simp [World.frozen?, hst.b0], cell_of_row _ _ 6 _ _ _ hst.b0, hst, row_low hO h.sz, hG⟩
set_option maxHeartbeats 4000000 in
set_option maxRecDepth 100000 in
theorem fill_other (a s x : ByteArray) (r b g kind l t p : Nat) (D : Except Nat Body) (w : World) (h : RdrAt w r a s (p : Int) 50) (hb : w.heap[b]? = some (.cells (recC x kind l t (.slice none 0 0) (.slice none 0 0) (.slice none 0 0)) 49 (0, 0))) (hgr : g ≤ r) (hgb : g ≤ b) (hrb : r ≠ b)
    (hsa : Hid (s.data.toList = a.data.toList.take s.size)) (ha : a.size ≤ 1000000) (hsz : s.size ≤ a.size) (hp : p ≤ s.size) (h6 : kind ≠ 6) (h33 : kind ≠ 33) (hD : Hid (bodyE a.data.toList s.size kind p = D)) :
    Calls Try.prog 72 #[.pointer (some ⟨r, 0, none⟩), .pointer (some ⟨b, 0, none⟩)] w (FillEnd w g b x kind l t D) := by
  have hbl : b < w.heap.size := by
    rcases Nat.lt_or_ge b w.heap.size with hlt | hge
    · exact hlt
    · rw [Array.getElem?_eq_none hge] at hb; cases hb
  have hs : s.size ≤ 1000000 := by omega
  have HSH := Lib.hid (fun w => shape_is kind (shA kind) (shB kind) (shC kind) w rfl rfl rfl)
  have hst0 := fillSt_start w g r b kind a s p _ (.func (.func 44) #[.pointer (some ⟨r, 0, none⟩)] #[]) (by unfold namer; first | rw [if_neg h33] | rw [if_pos h33]) h hb hgr hgb hrb hbl
  have hb1 : (w.alloc (.cells #[.pointer (some ⟨r, 0, none⟩)] 54)).heap[b]? = some (.cells (recC x kind l t (.slice none 0 0) (.slice none 0 0) (.slice none 0 0)) 49 (0, 0)) := old_at hb
  have hb2 : ((w.alloc (.cells #[.pointer (some ⟨r, 0, none⟩)] 54)).alloc (.cells #[.func (.func 44) #[.pointer (some ⟨r, 0, none⟩)] #[]] 62)).heap[b]? = some (.cells (recC x kind l t (.slice none 0 0) (.slice none 0 0) (.slice none 0 0)) 49 (0, 0)) := old_at hb1
  have k1 := cell_of_row _ _ 1 _ _ _ hb1
  have k2 := cell_of_row _ _ 1 _ _ _ hb2
  have m1 := cell_of_row _ _ 1 _ _ _ hst0.b0
  have HST0 := Lib.hid hst0
  obtain ⟨na, hna⟩ : ∃ n, shA kind = n := ⟨_, rfl⟩
  obtain ⟨nb, hnb⟩ : ∃ n, shB kind = n := ⟨_, rfl⟩
  obtain ⟨nc, hnc⟩ : ∃ n, shC kind = n := ⟨_, rfl⟩
  have hna1 := shA_le kind
  have hnb1 := shB_le kind
  rw [hna] at hna1
  rw [hnb] at hnb1
  rw [hna, hnb, hnc] at HSH
  have NA := Lib.hid hna
  have NB := Lib.hid hnb
  have NC := Lib.hid hnc
  have b6 : ((kind : Int) == 6) = false := beq_eq_false_iff_ne.2 (by omega)
  have b33 : ((kind : Int) == 33) = false := beq_eq_false_iff_ne.2 (by omega)
  have H6 := Lib.hid h6
  clear hst0 hb1 hb2 hb h hna hnb hnc h6 h33
  obtain ⟨Q1, hQ1⟩ : ∃ Q, many (numE a.data.toList s.size 2) nb p = Q := ⟨_, rfl⟩
  cases Q1 with
  | error z =>
    have hRe : Hid (D = .error z) := by (show _ = _; rw [← hD.out]; exact body_err1 H6.out (by rw [NB.out]; exact hQ1))
    go_enter Try.func72, Try.ntmps72
    go_wp2_with fail
    refine (HSH.out _).mono ?_
    rintro e w' ⟨rfl, rfl⟩
    go_wp2_with fail
    generalize (w.alloc (.cells #[.pointer (some ⟨r, 0, none⟩)] 54)).alloc (.cells #[.func (.func 44) #[.pointer (some ⟨r, 0, none⟩)] #[]] 62) = w0 at HST0 m1 ⊢
    obtain ⟨q, hq⟩ : ∃ q, w.heap.size = q := ⟨_, rfl⟩
    rw [hq] at HST0 ⊢
    clear hq k1 k2 m1 HSH
    have HC := Lib.hid (narrows_any a s r nb p (.error z) w0 HST0.out.rd hsa hs (by omega) (by omega) hQ1)
    refine HC.out.mono ?_
    rintro e wx ⟨rfl, hG⟩
    have HE := Lib.hid (HST0.out.gaveUp hG)
    clear hG HC
    go_wp2_with fail
    rw [hRe.out]
    exact ⟨rfl, rfl, HE.out⟩
  | ok lq1 =>
    obtain ⟨ns, p1⟩ := lq1
    have hp1 : p1 ≤ s.size := many_le (fun _ _ _ _ h => numE_end h) hp hQ1
    obtain ⟨Q2, hQ2⟩ : ∃ Q, many (nameE a.data.toList s.size kind) na p1 = Q := ⟨_, rfl⟩
    cases Q2 with
    | error z =>
      have hRe : Hid (D = .error z) := by (show _ = _; rw [← hD.out]; exact body_err2 H6.out (by rw [NB.out]; exact hQ1) (by rw [NA.out]; exact hQ2))
      go_enter Try.func72, Try.ntmps72
      go_wp2_with fail
      refine (HSH.out _).mono ?_
      rintro e w' ⟨rfl, rfl⟩
      go_wp2_with fail
      generalize (w.alloc (.cells #[.pointer (some ⟨r, 0, none⟩)] 54)).alloc (.cells #[.func (.func 44) #[.pointer (some ⟨r, 0, none⟩)] #[]] 62) = w0 at HST0 m1 ⊢
      obtain ⟨q, hq⟩ : ∃ q, w.heap.size = q := ⟨_, rfl⟩
      rw [hq] at HST0 ⊢
      clear hq k1 k2 m1 HSH
      have HC := Lib.hid (narrows_any a s r nb p (.ok (ns, p1)) w0 HST0.out.rd hsa hs (by omega) (by omega) hQ1)
      refine HC.out.mono ?_
      rintro e wx ⟨v, rfl, hO, hD, hG⟩
      obtain ⟨A2, m2, c2, rfl⟩ := row_slice hO
      have hst := HST0.out.call hD hG
      have hO1 := row_low hO HST0.out.sz
      have x5 := cell_of_row _ _ 5 _ _ _ hst.b0
      have xf : ∀ i, wx.frozen? ⟨b, i, none⟩ = false := fun i => by simp [World.frozen?, hst.b0]
      have hst2 : FillSt w (wx.setCell ⟨b, 5, none⟩ (.slice A2 m2 c2)) g r b q kind a s p1 (recC x kind l t (.slice none 0 0) (.slice A2 m2 c2) (.slice none 0 0)) := hst.set 5 (.slice A2 m2 c2)
      have HST1 := Lib.hid hst2
      have R2 := Lib.hid (hst.rowSet hO1 5 (.slice A2 m2 c2) (by decide))
      have x1 := cell_of_row _ _ 1 _ _ _ hst2.b0
      have xq := cell_of_row _ _ 0 _ _ _ hst2.ct.at0
      clear hO hD hG hst hO1 hst2 HC 
      go_wp2_with fail
      generalize wx.setCell ⟨b, 5, none⟩ (.slice A2 m2 c2) = w1 at HST1 R2  x1 xq ⊢
      clear x5 xf
      have HC := Lib.hid (boundeds_any a s r q kind na p1 (.error z) w1 HST1.out.rd HST1.out.ct (by have := HST1.out.rq; omega) (by have := HST1.out.rq; omega) hsa ha hsz (by omega) (by omega) hQ2)
      refine HC.out.mono ?_
      rintro e wx ⟨rfl, hG⟩
      have HE := Lib.hid (HST1.out.gaveUp hG)
      clear hG HC
      go_wp2_with fail
      rw [hRe.out]
      exact ⟨rfl, rfl, HE.out⟩
    | ok lq2 =>
      obtain ⟨nms, p2⟩ := lq2
      have hp2 : p2 ≤ s.size := many_le (fun _ _ _ _ h => nameE_end h) hp1 hQ2
      have hB : Hid (endE a.data.toList s.size kind nms ns p2 = D) := by (show _ = _; rw [← hD.out]; exact (body_ok H6.out (by rw [NB.out]; exact hQ1) (by rw [NA.out]; exact hQ2)).symm)
      by_cases hc : 0 < nc
      · have hci : (0 : Int) < (nc : Int) := by omega
        have hcs : 0 < shC kind := by rw [NC.out]; exact hc
        obtain ⟨Q3, hQ3⟩ : ∃ Q, textsE a.data.toList s.size kind p2 = Q := ⟨_, rfl⟩
        have HQ3 := Lib.hid hQ3
        cases Q3 with
        | error z =>
          have hRe : Hid (D = .error z) := by (show _ = _; rw [← hB.out]; exact endE_err hcs hQ3)
          clear hQ3
          go_enter Try.func72, Try.ntmps72
          go_wp2_with fail
          refine (HSH.out _).mono ?_
          rintro e w' ⟨rfl, rfl⟩
          go_wp2_with fail
          generalize (w.alloc (.cells #[.pointer (some ⟨r, 0, none⟩)] 54)).alloc (.cells #[.func (.func 44) #[.pointer (some ⟨r, 0, none⟩)] #[]] 62) = w0 at HST0 m1 ⊢
          obtain ⟨q, hq⟩ : ∃ q, w.heap.size = q := ⟨_, rfl⟩
          rw [hq] at HST0 ⊢
          clear hq k1 k2 m1 HSH
          have HC := Lib.hid (narrows_any a s r nb p (.ok (ns, p1)) w0 HST0.out.rd hsa hs (by omega) (by omega) hQ1)
          refine HC.out.mono ?_
          rintro e wx ⟨v, rfl, hO, hD, hG⟩
          obtain ⟨A2, m2, c2, rfl⟩ := row_slice hO
          have hst := HST0.out.call hD hG
          have hO1 := row_low hO HST0.out.sz
          have x5 := cell_of_row _ _ 5 _ _ _ hst.b0
          have xf : ∀ i, wx.frozen? ⟨b, i, none⟩ = false := fun i => by simp [World.frozen?, hst.b0]
          have hst2 : FillSt w (wx.setCell ⟨b, 5, none⟩ (.slice A2 m2 c2)) g r b q kind a s p1 (recC x kind l t (.slice none 0 0) (.slice A2 m2 c2) (.slice none 0 0)) := hst.set 5 (.slice A2 m2 c2)
          have HST1 := Lib.hid hst2
          have R2 := Lib.hid (hst.rowSet hO1 5 (.slice A2 m2 c2) (by decide))
          have x1 := cell_of_row _ _ 1 _ _ _ hst2.b0
          have xq := cell_of_row _ _ 0 _ _ _ hst2.ct.at0
          clear hO hD hG hst hO1 hst2 HC 
          go_wp2_with fail
          generalize wx.setCell ⟨b, 5, none⟩ (.slice A2 m2 c2) = w1 at HST1 R2  x1 xq ⊢
          clear x5 xf
          have HC := Lib.hid (boundeds_any a s r q kind na p1 (.ok (nms, p2)) w1 HST1.out.rd HST1.out.ct (by have := HST1.out.rq; omega) (by have := HST1.out.rq; omega) hsa ha hsz (by omega) (by omega) hQ2)
          refine HC.out.mono ?_
          rintro e wx ⟨v, rfl, hO, hD, hG⟩
          obtain ⟨A1, m1, c1, rfl⟩ := row_slice hO
          have hst := HST1.out.call hD hG
          have hO1 := row_low hO HST1.out.sz
          have R2a := HST1.out.rowCall R2.out hG (by decide)
          have x4 := cell_of_row _ _ 4 _ _ _ hst.b0
          have xf : ∀ i, wx.frozen? ⟨b, i, none⟩ = false := fun i => by simp [World.frozen?, hst.b0]
          have hst2 : FillSt w (wx.setCell ⟨b, 4, none⟩ (.slice A1 m1 c1)) g r b q kind a s p2 (recC x kind l t (.slice A1 m1 c1) (.slice A2 m2 c2) (.slice none 0 0)) := hst.set 4 (.slice A1 m1 c1)
          have HST2 := Lib.hid hst2
          have R1 := Lib.hid (hst.rowSet hO1 4 (.slice A1 m1 c1) (by decide))
          have R2b := Lib.hid (hst.rowSet R2a 4 (.slice A1 m1 c1) (by decide))
          have x1 := cell_of_row _ _ 1 _ _ _ hst2.b0
          have xq := cell_of_row _ _ 0 _ _ _ hst2.ct.at0
          clear hO hD hG hst hO1 hst2 HC R2a R2
          go_wp2_with fail
          generalize wx.setCell ⟨b, 4, none⟩ (.slice A1 m1 c1) = w2 at HST2 R1 R2b x1 xq ⊢
          clear x4 xf
          have R2 := R2b
          clear R2b
          have HST2d := Lib.hid HST2.out.drew
          go_region_with (go_at_call 96; refine (texts_bad HST2d.out hsa hs hp2 HQ3).mono ?_; rintro e wx (⟨rfl, hE⟩ | ⟨rfl, hF, hk0, hk1, hkf, hk6⟩); · (first | (rw [hRe.out]; exact ⟨rfl, rfl, hE.out⟩) | (go_simp; rw [hRe.out]; exact ⟨rfl, rfl, hE.out⟩)))
          all_goals exact hF.out.elim
        | ok lq3 =>
          obtain ⟨L, p3⟩ := lq3
          have hp3 : p3 ≤ s.size := textsE_end hQ3
          have hDv := hB
          clear hB
          go_enter Try.func72, Try.ntmps72
          go_wp2_with fail
          refine (HSH.out _).mono ?_
          rintro e w' ⟨rfl, rfl⟩
          go_wp2_with fail
          generalize (w.alloc (.cells #[.pointer (some ⟨r, 0, none⟩)] 54)).alloc (.cells #[.func (.func 44) #[.pointer (some ⟨r, 0, none⟩)] #[]] 62) = w0 at HST0 m1 ⊢
          obtain ⟨q, hq⟩ : ∃ q, w.heap.size = q := ⟨_, rfl⟩
          rw [hq] at HST0 ⊢
          clear hq k1 k2 m1 HSH
          have HC := Lib.hid (narrows_any a s r nb p (.ok (ns, p1)) w0 HST0.out.rd hsa hs (by omega) (by omega) hQ1)
          refine HC.out.mono ?_
          rintro e wx ⟨v, rfl, hO, hD, hG⟩
          obtain ⟨A2, m2, c2, rfl⟩ := row_slice hO
          have hst := HST0.out.call hD hG
          have hO1 := row_low hO HST0.out.sz
          have x5 := cell_of_row _ _ 5 _ _ _ hst.b0
          have xf : ∀ i, wx.frozen? ⟨b, i, none⟩ = false := fun i => by simp [World.frozen?, hst.b0]
          have hst2 : FillSt w (wx.setCell ⟨b, 5, none⟩ (.slice A2 m2 c2)) g r b q kind a s p1 (recC x kind l t (.slice none 0 0) (.slice A2 m2 c2) (.slice none 0 0)) := hst.set 5 (.slice A2 m2 c2)
          have HST1 := Lib.hid hst2
          have R2 := Lib.hid (hst.rowSet hO1 5 (.slice A2 m2 c2) (by decide))
          have x1 := cell_of_row _ _ 1 _ _ _ hst2.b0
          have xq := cell_of_row _ _ 0 _ _ _ hst2.ct.at0
          clear hO hD hG hst hO1 hst2 HC 
          go_wp2_with fail
          generalize wx.setCell ⟨b, 5, none⟩ (.slice A2 m2 c2) = w1 at HST1 R2  x1 xq ⊢
          clear x5 xf
          have HC := Lib.hid (boundeds_any a s r q kind na p1 (.ok (nms, p2)) w1 HST1.out.rd HST1.out.ct (by have := HST1.out.rq; omega) (by have := HST1.out.rq; omega) hsa ha hsz (by omega) (by omega) hQ2)
          refine HC.out.mono ?_
          rintro e wx ⟨v, rfl, hO, hD, hG⟩
          obtain ⟨A1, m1, c1, rfl⟩ := row_slice hO
          have hst := HST1.out.call hD hG
          have hO1 := row_low hO HST1.out.sz
          have R2a := HST1.out.rowCall R2.out hG (by decide)
          have x4 := cell_of_row _ _ 4 _ _ _ hst.b0
          have xf : ∀ i, wx.frozen? ⟨b, i, none⟩ = false := fun i => by simp [World.frozen?, hst.b0]
          have hst2 : FillSt w (wx.setCell ⟨b, 4, none⟩ (.slice A1 m1 c1)) g r b q kind a s p2 (recC x kind l t (.slice A1 m1 c1) (.slice A2 m2 c2) (.slice none 0 0)) := hst.set 4 (.slice A1 m1 c1)
          have HST2 := Lib.hid hst2
          have R1 := Lib.hid (hst.rowSet hO1 4 (.slice A1 m1 c1) (by decide))
          have R2b := Lib.hid (hst.rowSet R2a 4 (.slice A1 m1 c1) (by decide))
          have x1 := cell_of_row _ _ 1 _ _ _ hst2.b0
          have xq := cell_of_row _ _ 0 _ _ _ hst2.ct.at0
          clear hO hD hG hst hO1 hst2 HC R2a R2
          go_wp2_with fail
          generalize wx.setCell ⟨b, 4, none⟩ (.slice A1 m1 c1) = w2 at HST2 R1 R2b x1 xq ⊢
          clear x4 xf
          have R2 := R2b
          clear R2b
          have HST2d := Lib.hid HST2.out.drew
          have R1d : Hid (w2.drew.ownsRow g 9 1 (.slice A1 m1 c1) nms.length (strCs nms)) := R1.out
          have R2d : Hid (w2.drew.ownsRow g 46 1 (.slice A2 m2 c2) ns.length (numCs ns)) := R2.out
          go_region_held3 (fun w' => w'.cell? ⟨q, 0, none⟩ = some (.pointer (some ⟨r, 0, none⟩)) ∧ w'.cell? ⟨b, 1, none⟩ = some (.int .u16 kind)) (first | go_keep | exact ⟨cell_of_row _ _ 0 _ _ _ (hT.out.st.set 6 (.slice A3 m3 c3)).ct.at0, cell_of_row _ _ 1 _ _ _ (hT.out.st.set 6 (.slice A3 m3 c3)).b0⟩) (first | (go_at_call 96; refine (texts_good HST2d.out hsa hs hp2 HQ3).mono ?_; rintro e wx ⟨A3, m3, c3, rfl, hk0, hk1, hkf, hk6, hT⟩))
          have R1e := HST2d.out.rowCall R1d.out hT.out.gr (by decide)
          have R2e := HST2d.out.rowCall R2d.out hT.out.gr (by decide)
          have HST3 := Lib.hid (hT.out.st.set 6 (.slice A3 m3 c3))
          have R1 := Lib.hid (hT.out.st.rowSet R1e 6 (.slice A3 m3 c3) (by decide))
          have R2 := Lib.hid (hT.out.st.rowSet R2e 6 (.slice A3 m3 c3) (by decide))
          have R3 := Lib.hid (hT.out.st.rowSet hT.out.row 6 (.slice A3 m3 c3) (by decide))
          have xq := cell_of_row _ _ 0 _ _ _ HST3.out.ct.at0
          have HL := Lib.hid (left_any a s r p3 50 _ HST3.out.rd hp3 hs)
          clear R1e R2e hk0 hk1 hkf hk6 hT
          go_wp2_with fail
          generalize wx.setCell ⟨b, 6, none⟩ (.slice A3 m3 c3) = w3 at HST3 R1 R2 R3 HL xq ⊢
          by_cases hlt : p3 < s.size
          · have hRe : Hid (D = .error 50) := by (show _ = _; rw [← hDv.out]; exact endE_left hcs HQ3.out hlt)
            have hpos : (0 : Int) < (s.size : Int) - p3 := by omega
            refine HL.out.mono ?_
            rintro e wl ⟨rfl, m, rfl⟩
            have HE := Lib.hid (HST3.out.drewN m)
            clear HL hDv
            go_wp2_with fail
            rw [hRe.out]
            exact ⟨rfl, rfl, HE.out.bl⟩
          · have hRe : Hid (D = .ok ⟨nms, ns, L⟩) := by (show _ = _; rw [← hDv.out]; exact endE_ok hcs HQ3.out hlt)
            have hpos : ¬ ((0 : Int) < (s.size : Int) - p3) := by omega
            refine HL.out.mono ?_
            rintro e wl ⟨rfl, m, rfl⟩
            have HE := Lib.hid (HST3.out.drewN m)
            clear HL hDv
            go_wp2_with fail
            go_end0
            rw [hRe.out]
            exact ⟨_, _, _, rfl, HE.out.b0, R1.out, R2.out, R3.out, HE.out.bl⟩
      · have hci : ¬ ((0 : Int) < (nc : Int)) := by omega
        have hcs : shC kind = 0 := by rw [NC.out]; omega
        go_enter Try.func72, Try.ntmps72
        go_wp2_with fail
        refine (HSH.out _).mono ?_
        rintro e w' ⟨rfl, rfl⟩
        go_wp2_with fail
        generalize (w.alloc (.cells #[.pointer (some ⟨r, 0, none⟩)] 54)).alloc (.cells #[.func (.func 44) #[.pointer (some ⟨r, 0, none⟩)] #[]] 62) = w0 at HST0 m1 ⊢
        obtain ⟨q, hq⟩ : ∃ q, w.heap.size = q := ⟨_, rfl⟩
        rw [hq] at HST0 ⊢
        clear hq k1 k2 m1 HSH
        have HC := Lib.hid (narrows_any a s r nb p (.ok (ns, p1)) w0 HST0.out.rd hsa hs (by omega) (by omega) hQ1)
        refine HC.out.mono ?_
        rintro e wx ⟨v, rfl, hO, hD, hG⟩
        obtain ⟨A2, m2, c2, rfl⟩ := row_slice hO
        have hst := HST0.out.call hD hG
        have hO1 := row_low hO HST0.out.sz
        have x5 := cell_of_row _ _ 5 _ _ _ hst.b0
        have xf : ∀ i, wx.frozen? ⟨b, i, none⟩ = false := fun i => by simp [World.frozen?, hst.b0]
        have hst2 : FillSt w (wx.setCell ⟨b, 5, none⟩ (.slice A2 m2 c2)) g r b q kind a s p1 (recC x kind l t (.slice none 0 0) (.slice A2 m2 c2) (.slice none 0 0)) := hst.set 5 (.slice A2 m2 c2)
        have HST1 := Lib.hid hst2
        have R2 := Lib.hid (hst.rowSet hO1 5 (.slice A2 m2 c2) (by decide))
        have x1 := cell_of_row _ _ 1 _ _ _ hst2.b0
        have xq := cell_of_row _ _ 0 _ _ _ hst2.ct.at0
        clear hO hD hG hst hO1 hst2 HC 
        go_wp2_with fail
        generalize wx.setCell ⟨b, 5, none⟩ (.slice A2 m2 c2) = w1 at HST1 R2  x1 xq ⊢
        clear x5 xf
        have HC := Lib.hid (boundeds_any a s r q kind na p1 (.ok (nms, p2)) w1 HST1.out.rd HST1.out.ct (by have := HST1.out.rq; omega) (by have := HST1.out.rq; omega) hsa ha hsz (by omega) (by omega) hQ2)
        refine HC.out.mono ?_
        rintro e wx ⟨v, rfl, hO, hD, hG⟩
        obtain ⟨A1, m1, c1, rfl⟩ := row_slice hO
        have hst := HST1.out.call hD hG
        have hO1 := row_low hO HST1.out.sz
        have R2a := HST1.out.rowCall R2.out hG (by decide)
        have x4 := cell_of_row _ _ 4 _ _ _ hst.b0
        have xf : ∀ i, wx.frozen? ⟨b, i, none⟩ = false := fun i => by simp [World.frozen?, hst.b0]
        have hst2 : FillSt w (wx.setCell ⟨b, 4, none⟩ (.slice A1 m1 c1)) g r b q kind a s p2 (recC x kind l t (.slice A1 m1 c1) (.slice A2 m2 c2) (.slice none 0 0)) := hst.set 4 (.slice A1 m1 c1)
        have HST2 := Lib.hid hst2
        have R1 := Lib.hid (hst.rowSet hO1 4 (.slice A1 m1 c1) (by decide))
        have R2b := Lib.hid (hst.rowSet R2a 4 (.slice A1 m1 c1) (by decide))
        have x1 := cell_of_row _ _ 1 _ _ _ hst2.b0
        have xq := cell_of_row _ _ 0 _ _ _ hst2.ct.at0
        clear hO hD hG hst hO1 hst2 HC R2a R2
        go_wp2_with fail
        generalize wx.setCell ⟨b, 4, none⟩ (.slice A1 m1 c1) = w2 at HST2 R1 R2b x1 xq ⊢
        clear x4 xf
        have R2 := R2b
        clear R2b
        have HL := Lib.hid (left_any a s r p2 50 w2 HST2.out.rd hp2 hs)
        by_cases hlt : p2 < s.size
        · have hRe : Hid (D = .error 50) := by (show _ = _; exact (by rw [← hB.out]; exact endE_none_left hcs hlt))
          have hpos : (0 : Int) < (s.size : Int) - p2 := by omega
          refine HL.out.mono ?_
          rintro e wl ⟨rfl, m, rfl⟩
          have HE := Lib.hid (HST2.out.drewN m)
          clear HL
          go_wp2_with fail
          rw [hRe.out]
          exact ⟨rfl, rfl, HE.out.bl⟩
        · have hRe : Hid (D = .ok ⟨nms, ns, []⟩) := by (show _ = _; exact (by rw [← hB.out]; exact endE_none hcs hlt))
          have hpos : ¬ ((0 : Int) < (s.size : Int) - p2) := by omega
          refine HL.out.mono ?_
          rintro e wl ⟨rfl, m, rfl⟩
          have HE := Lib.hid (HST2.out.drewN m)
          clear HL
          go_wp2_with fail
          go_end0
          rw [hRe.out]
          exact ⟨_, _, _, rfl, HE.out.b0, R1.out, R2.out, World.ownsRow_nil _ _ _ _, HE.out.bl⟩
end Go.Proofs.Ytihkmdojakalbaa
