/- The contracts of a message's reader: numbers and texts of a record's data. For texts of at most 10^6 bytes. -/
import Derived.Test.YtngbifdenbfepaaProg
import Derived.Test.YtngbifdenbfepaaBytes
import Derived.Test.YtngbifdenbfepaaStrs
import Derived.Test.YtngbifdenbfepaaNums
import Derived.Test.YtngbifdenbfepaaNmMath
import Derived.Test.YtngbifdenbfepaaNmAt
import Derived.Test.YtngbifdenbfepaaMsgMath
import Derived.Test.YtngbifdenbfepaaDatMath
import Derived.Test.YtngbifdenbfepaaKept
import Derived.Test.YtngbifdenbfepaaOwnRow
import Derived.Test.YtngbifdenbfepaaRdr
import Derived.Test.YtngbifdenbfepaaRdrText
import Derived.Test.YtngbifdenbfepaaRdrName
import Derived.Test.YtngbifdenbfepaaRefNumbers
import Derived.WalkKit
import Derived.Lib.Hide
import Derived.Laws.Rows
import Derived.Laws.AppendOwn
import Derived.Outline
import Derived.IntWalk
import Derived.WalkSpells
import Derived.WalkLawsBesides
namespace Go.Proofs.Ytngbifdenbfepaa
open Go.RowKit NumMath NmMath Bytes Strs Nums MsgMath DatMath

/-- A number came back, or the reading gave up. -/
def NumEnd (w : World) (r : Nat) (a s : ByteArray) : Except Nat (Nat × Nat) → Ending → World → Prop
  | .error x, e, w' => e = gave x ∧ w.grownBy w' (some r)
  | .ok (n, q), e, w' => e = .returned (.int .u32 n) ∧ RdrAt w' r a s (q : Int) 50 ∧ w.grownBy w' (some r)
theorem nu_ahead {a s : ByteArray} {p n : Nat} (hsa : s.data.toList = a.data.toList.take s.size) (h : p + n ≤ s.size) : be ((s.data.toList.drop p).take n) = nu a.data.toList p n := by
  unfold nu
  rw [hsa]
  exact congrArg be (cut_take h)

theorem narrow_any (a s : ByteArray) (r p : Nat) (R : Except Nat (Nat × Nat)) (w : World) (h : RdrAt w r a s p 50) (hsa : Hid (s.data.toList = a.data.toList.take s.size)) (hs : s.size ≤ 1000000) (hp : p ≤ 1000000) (hR : Hid (numE a.data.toList s.size 2 p = R)) :
    Calls Try.prog 59 #[.pointer (some ⟨r, 0, none⟩)] w (NumEnd w r a s R) := by
  by_cases hin : p + 2 ≤ s.size
  · obtain ⟨x, hx⟩ : ∃ x, nu a.data.toList p 2 = x := ⟨_, rfl⟩
    have hRe : Hid (R = .ok (x, p + 2)) := by show _ = _; rw [← hR.out, numE_ok hin, hx]
    have HN := Lib.hid (number_yes a s r p 2 50 x w h (by decide) (by decide) hin hs (by (show _ = _; rw [nu_ahead hsa.out hin]; exact hx)))
    clear h hR hx
    go_enter Try.func59, Try.ntmps59
    go_wp2_with fail
    refine HN.out.mono ?_
    rintro e w1 ⟨rfl, hD, hG⟩
    have HD := Lib.hid hD
    have HG := Lib.hid hG
    clear hD hG HN
    go_wp2_with fail
    go_ret
    rw [hRe.out]
    exact ⟨rfl, HD.out, HG.out⟩
  · have hRe : Hid (R = .error 50) := by show _ = _; rw [← hR.out, numE_no (by omega)]
    have HN := Lib.hid (number_no a s r 50 p 2 w h hs (by decide) (by omega) (by omega) (holds_no (n := s.size) (p := p) (m := 2) (by omega)))
    clear h hR
    go_enter Try.func59, Try.ntmps59
    go_wp2_with fail
    refine HN.out.mono ?_
    rintro e w1 ⟨rfl, m, rfl⟩
    go_wp2_with fail
    rw [hRe.out]
    exact ⟨rfl, rfl, grown_drewN (grown_refl _ _) m⟩

theorem wide_any (a s : ByteArray) (r p : Nat) (R : Except Nat (Nat × Nat)) (w : World) (h : RdrAt w r a s p 50) (hsa : Hid (s.data.toList = a.data.toList.take s.size)) (hs : s.size ≤ 1000000) (hp : p ≤ 1000000) (hR : Hid (numE a.data.toList s.size 4 p = R)) :
    Calls Try.prog 58 #[.pointer (some ⟨r, 0, none⟩)] w (NumEnd w r a s R) := by
  by_cases hin : p + 4 ≤ s.size
  · obtain ⟨x, hx⟩ : ∃ x, nu a.data.toList p 4 = x := ⟨_, rfl⟩
    have hRe : Hid (R = .ok (x, p + 4)) := by show _ = _; rw [← hR.out, numE_ok hin, hx]
    have HN := Lib.hid (number_yes a s r p 4 50 x w h (by decide) (by decide) hin hs (by (show _ = _; rw [nu_ahead hsa.out hin]; exact hx)))
    clear h hR hx
    go_enter Try.func58, Try.ntmps58
    go_wp2_with fail
    refine HN.out.mono ?_
    rintro e w1 ⟨rfl, hD, hG⟩
    have HD := Lib.hid hD
    have HG := Lib.hid hG
    clear hD hG HN
    go_wp2_with fail
    go_ret
    rw [hRe.out]
    exact ⟨rfl, HD.out, HG.out⟩
  · have hRe : Hid (R = .error 50) := by show _ = _; rw [← hR.out, numE_no (by omega)]
    have HN := Lib.hid (number_no a s r 50 p 4 w h hs (by decide) (by omega) (by omega) (holds_no (n := s.size) (p := p) (m := 4) (by omega)))
    clear h hR
    go_enter Try.func58, Try.ntmps58
    go_wp2_with fail
    refine HN.out.mono ?_
    rintro e w1 ⟨rfl, m, rfl⟩
    go_wp2_with fail
    rw [hRe.out]
    exact ⟨rfl, rfl, grown_drewN (grown_refl _ _) m⟩

theorem measured_any (a s : ByteArray) (r p : Nat) (R : Except Nat (List UInt8 × Nat)) (w : World) (h : RdrAt w r a s p 50) (hsa : Hid (s.data.toList = a.data.toList.take s.size)) (hs : s.size ≤ 1000000) (hp : p ≤ 1000000) (hR : Hid (measE a.data.toList s.size p = R)) :
    Calls Try.prog 64 #[.pointer (some ⟨r, 0, none⟩)] w (NmEnd w r a s 50 R) := by
  by_cases hlt : p < s.size
  · obtain ⟨x, hx⟩ : ∃ x, bt a.data.toList p = x := ⟨_, rfl⟩
    have hxl : x < 256 := by rw [← hx]; exact bt_lt _ _
    have hbt : bt s.data.toList p = x := by rw [hsa.out, bt_take hlt]; exact hx
    have hbe : Hid (be ((s.data.toList.drop p).take 1) = x) := by (show _ = _; rw [be_bt (by rw [← Lib.size_eq]; exact hlt)]; exact hbt)
    have HN := Lib.hid (number_yes a s r p 1 50 x w h (by decide) (by decide) (by omega) hs hbe)
    clear hbe hbt
    by_cases hin : p + 1 + x ≤ s.size
    · obtain ⟨t, ht⟩ : ∃ t, cut a.data.toList (p + 1) x = t := ⟨_, rfl⟩
      have hRe : Hid (R = .ok (t, p + 1 + x)) := by show _ = _; rw [← hR.out, measE_ok hlt (by rw [hx]; exact hin), hx, ht]
      have hex : Hid (s.extract (p + 1) (p + 1 + x) = mk t) := by
        show _ = _
        refine list_inj ?_
        rw [cut_extract, hsa.out, cut_take hin, ht, mk_list]
      have HT := Lib.hid (fun w' (hd : RdrAt w' r a s ((p + 1 : Nat) : Int) 50) => text_yes a s (mk t) r (p + 1) x 50 w' hd hin hs hex)
      clear h hR hx ht hex
      go_enter Try.func64, Try.ntmps64
      go_wp2_with fail
      refine HN.out.mono ?_
      rintro e w1 ⟨rfl, hD, hG⟩
      have HD := Lib.hid hD
      have HG := Lib.hid hG
      clear hD hG HN
      go_wp2_with fail
      refine (HT.out _ HD.out).mono ?_
      rintro e w2 ⟨rfl, hD2, hG2⟩
      have HD2 := Lib.hid hD2
      have HG2 := Lib.hid (grown_trans HG.out hG2)
      clear hD2 hG2 HT
      go_wp2_with fail
      go_ret
      rw [hRe.out]
      exact ⟨rfl, HD2.out, HG2.out⟩
    · have hRe : Hid (R = .error 50) := by show _ = _; rw [← hR.out, measE_no (by rw [hx]; omega)]
      have HT := Lib.hid (fun w' (hd : RdrAt w' r a s ((p + 1 : Nat) : Int) 50) => text_no a s r 50 ((p + 1 : Nat) : Int) x w' hd hs (by omega) (by omega) (by omega) (holds_no (n := s.size) (p := p + 1) (m := x) (by omega)))
      clear h hR hx
      go_enter Try.func64, Try.ntmps64
      go_wp2_with fail
      refine HN.out.mono ?_
      rintro e w1 ⟨rfl, hD, hG⟩
      have HD := Lib.hid hD
      have HG := Lib.hid hG
      clear hD hG HN
      go_wp2_with fail
      refine (HT.out _ HD.out).mono ?_
      rintro e w2 ⟨rfl, m, rfl⟩
      clear HT
      go_wp2_with fail
      rw [hRe.out]
      exact ⟨rfl, rfl, grown_drewN HG.out m⟩
  · have hRe : Hid (R = .error 50) := by show _ = _; rw [← hR.out, measE_no (by omega)]
    have HN := Lib.hid (number_no a s r 50 p 1 w h hs (by decide) (by omega) (by omega) (holds_no (n := s.size) (p := p) (m := 1) (by omega)))
    clear h hR
    go_enter Try.func64, Try.ntmps64
    go_wp2_with fail
    refine HN.out.mono ?_
    rintro e w1 ⟨rfl, m, rfl⟩
    go_wp2_with fail
    rw [hRe.out]
    exact ⟨rfl, rfl, grown_drewN (grown_refl _ _) m⟩

theorem numE_next {l : List UInt8} {E size p q x : Nat} (h : numE l E size p = .ok (x, q)) : q ≤ E := by
  unfold numE at h
  split at h
  · injection h with h; injection h with _ h; omega
  · cases h
/-- Several numbers came back, or the reading gave up. -/
def NumsEnd (w : World) (r : Nat) (a s : ByteArray) : Except Nat (List Nat × Nat) → Ending → World → Prop
  | .error x, e, w' => e = gave x ∧ w.grownBy w' (some r)
  | .ok (L, q), e, w' => ∃ v, e = .returned v ∧ w'.ownsRow w.heap.size 43 1 v L.length (numCs L) ∧ RdrAt w' r a s (q : Int) 50 ∧ w.grownBy w' (some r)

set_option maxHeartbeats 2000000 in
set_option maxRecDepth 100000 in
theorem narrows_any (a s : ByteArray) (r n p0 : Nat) (R : Except Nat (List Nat × Nat)) (w : World) (h : RdrAt w r a s p0 50) (hsa : Hid (s.data.toList = a.data.toList.take s.size)) (hs : s.size ≤ 1000000) (hp0 : p0 ≤ 1000000) (hn : n ≤ 100) (hR : Hid (many (numE a.data.toList s.size 2) n p0 = R)) :
    Calls Try.prog 57 #[.int .i64 n, .func (.func 59) #[.pointer (some ⟨r, 0, none⟩)] #[]] w (NumsEnd w r a s R) := by
  have hrl := h.lt
  have H := Lib.hid h; clear h
  obtain ⟨g, hg⟩ : ∃ g, w.heap.size = g := ⟨_, rfl⟩
  have G := Lib.hid hg
  rw [hg] at hrl
  obtain ⟨i0, hi, hz0, hz1, hz2⟩ := info_parts info23
  have HI := Lib.hid hi; clear hi
  have HZ0 := Lib.hid hz0; clear hz0
  have HZ1 := Lib.hid hz1; clear hz1
  have HZ2 := Lib.hid hz2; clear hz2
  have HR0 : Hid (more (numE a.data.toList s.size 2) [] n p0 = R) := by show _ = _; rw [more_none]; exact hR.out
  clear hg hR
  go_enter Try.func57, Try.ntmps57
  go_wp2_with fail
  go_loopw [5, 7] (fun v i wr => ∃ (j p : Nat) (L : List Nat), i = .int .i64 j ∧ j ≤ n ∧ p ≤ 1000000 ∧ Hid (wr.ownsRow g 43 1 v j (numCs L)) ∧ Hid (L.length = j) ∧ Hid (RdrAt wr r a s p 50) ∧ Hid (more (numE a.data.toList s.size 2) L (n - j) p = R) ∧ Hid (Kept g r w wr)) (fun _ i _ => n - (intOf i).toNat)
  case atStart => exact ⟨0, p0, [], rfl, Nat.zero_le _, hp0, World.ownsRow_nil _ _ _ _, rfl, H, HR0, Kept.refl _ _ _⟩
  case round =>
    obtain ⟨j, p, L, rfl, hj, hp, hO, hL, hD, hR, hK⟩ := hrel
    have hgw : Hid (g ≤ wr.heap.size) := by have := hK.out.size; rw [G.out] at this; exact this
    by_cases hlt : j < n
    · obtain ⟨Q1, hQ1⟩ : ∃ Q1, numE a.data.toList s.size 2 p = Q1 := ⟨_, rfl⟩
      have HQ := Lib.hid (narrow_any a s r p Q1 wr hD.out hsa hs hp hQ1)
      obtain ⟨m, hm⟩ : ∃ m, n - j = m + 1 := ⟨n - j - 1, by omega⟩
      cases Q1 with
      | error x =>
        have hRe : Hid (R = .error x) := by show _ = _; rw [← hR.out, hm]; exact more_err hQ1
        clear hm hQ1
        go_wp2_with fail
        refine HQ.out.mono ?_
        rintro e w1 ⟨rfl, hG1⟩
        have HE : Hid (w.grownBy w1 (some r)) := kept_grown (hK.out.grown hG1 hgw.out) G.out
        clear hG1
        go_wp2_with fail
        rw [hRe.out]
        exact ⟨rfl, rfl, HE.out⟩
      | ok Qq =>
        obtain ⟨x, q⟩ := Qq
        have hql : q ≤ 1000000 := by have := numE_next hQ1; omega
        have hRm : Hid (more (numE a.data.toList s.size 2) (L ++ [x]) (n - (j + 1)) q = R) := by show _ = _; rw [← hR.out, hm, more_one hQ1]; congr 1; omega
        clear hm hQ1
        go_wp2_with fail
        refine HQ.out.mono ?_
        rintro e w1 ⟨rfl, hD1, hG1⟩
        have hO1 := Lib.hid (row_rdr hD.out hO.out hG1 (by decide))
        have hK1 := Lib.hid (hK.out.grown hG1 hgw.out)
        have hg1 : Hid (g ≤ w1.heap.size) := Nat.le_trans hgw.out hG1.size
        have HD1 := Lib.hid hD1
        clear hD1 hG1 hO hD hK HQ
        go_wp2_with (at_builtin; refine wpList_append_own _ rfl _ _ 45 rfl g 43 i0 (.int .u32 0) 1 4 Try.underlying45 HI.out HZ0.out HZ1.out HZ2.out rfl (by decide) _ _ _ rfl (hO1.out.alloc _) ⟨w1.heap.size, 0, none⟩ 1 1 [.int .u32 x] rfl rfl ?c1 ?c2 ?c3 ?c4 ?c5 ?_)
        case c1 =>
          intro j u hj
          match j, hj with
          | 0, hj => simp at hj; subst hj; simp [Addr.add]
        case c2 => first | rfl | (intro u hu; simp at hu; subst hu; rfl)
        case c3 => unfold maxLen; omega
        case c4 => omega
        case c5 => have := hg1.out; simp; omega
        intro v' w2 hown hgrow _
        have E1 : Hid (w2.ownsRow g 43 1 v' (j + 1) (numCs (L ++ [x]))) := by
          show World.ownsRow _ _ _ _ _ _ _
          rw [numCs_snoc]
          exact hown
        have E2 := Lib.hid (rdr_row HD1.out hO1.out ((Below.refl _ _).alloc (Nat.le_refl _) _) hgrow (by decide))
        have E3 := Lib.hid ((hK1.out.alloc hg1.out _).own hgrow (by have := hg1.out; simp; omega) (fun k hk => (hO1.out.lt k hk).1))
        clear hown hgrow hO1 HD1 hK1
        go_wp2_with fail
        go_roundw
        case rel => exact ⟨j + 1, q, L ++ [x], by go_num, by omega, by omega, E1, by (show _ = _; rw [List.length_append, hL.out]; rfl), E2, hRm, E3⟩
        case measure => simp [intOf]; omega
    · have hjn : j = n := by omega
      have hRe : Hid (R = .ok (L, p)) := by show _ = _; rw [← hR.out, show n - j = 0 by omega]; exact more_end _ _ _
      have HE : Hid (w.grownBy wr (some r)) := kept_grown hK.out G.out
      clear hjn
      go_wp2_with fail
      go_ret
      rw [hRe.out]
      refine ⟨_, rfl, ?_, hD.out, HE.out⟩
      rw [hL.out, G.out]
      exact hO.out

set_option maxHeartbeats 2000000 in
set_option maxRecDepth 100000 in
theorem wides_any (a s : ByteArray) (r n p0 : Nat) (R : Except Nat (List Nat × Nat)) (w : World) (h : RdrAt w r a s p0 50) (hsa : Hid (s.data.toList = a.data.toList.take s.size)) (hs : s.size ≤ 1000000) (hp0 : p0 ≤ 1000000) (hn : n ≤ 100) (hR : Hid (many (numE a.data.toList s.size 4) n p0 = R)) :
    Calls Try.prog 57 #[.int .i64 n, .func (.func 58) #[.pointer (some ⟨r, 0, none⟩)] #[]] w (NumsEnd w r a s R) := by
  have hrl := h.lt
  have H := Lib.hid h; clear h
  obtain ⟨g, hg⟩ : ∃ g, w.heap.size = g := ⟨_, rfl⟩
  have G := Lib.hid hg
  rw [hg] at hrl
  obtain ⟨i0, hi, hz0, hz1, hz2⟩ := info_parts info23
  have HI := Lib.hid hi; clear hi
  have HZ0 := Lib.hid hz0; clear hz0
  have HZ1 := Lib.hid hz1; clear hz1
  have HZ2 := Lib.hid hz2; clear hz2
  have HR0 : Hid (more (numE a.data.toList s.size 4) [] n p0 = R) := by show _ = _; rw [more_none]; exact hR.out
  clear hg hR
  go_enter Try.func57, Try.ntmps57
  go_wp2_with fail
  go_loopw [5, 7] (fun v i wr => ∃ (j p : Nat) (L : List Nat), i = .int .i64 j ∧ j ≤ n ∧ p ≤ 1000000 ∧ Hid (wr.ownsRow g 43 1 v j (numCs L)) ∧ Hid (L.length = j) ∧ Hid (RdrAt wr r a s p 50) ∧ Hid (more (numE a.data.toList s.size 4) L (n - j) p = R) ∧ Hid (Kept g r w wr)) (fun _ i _ => n - (intOf i).toNat)
  case atStart => exact ⟨0, p0, [], rfl, Nat.zero_le _, hp0, World.ownsRow_nil _ _ _ _, rfl, H, HR0, Kept.refl _ _ _⟩
  case round =>
    obtain ⟨j, p, L, rfl, hj, hp, hO, hL, hD, hR, hK⟩ := hrel
    have hgw : Hid (g ≤ wr.heap.size) := by have := hK.out.size; rw [G.out] at this; exact this
    by_cases hlt : j < n
    · obtain ⟨Q1, hQ1⟩ : ∃ Q1, numE a.data.toList s.size 4 p = Q1 := ⟨_, rfl⟩
      have HQ := Lib.hid (wide_any a s r p Q1 wr hD.out hsa hs hp hQ1)
      obtain ⟨m, hm⟩ : ∃ m, n - j = m + 1 := ⟨n - j - 1, by omega⟩
      cases Q1 with
      | error x =>
        have hRe : Hid (R = .error x) := by show _ = _; rw [← hR.out, hm]; exact more_err hQ1
        clear hm hQ1
        go_wp2_with fail
        refine HQ.out.mono ?_
        rintro e w1 ⟨rfl, hG1⟩
        have HE : Hid (w.grownBy w1 (some r)) := kept_grown (hK.out.grown hG1 hgw.out) G.out
        clear hG1
        go_wp2_with fail
        rw [hRe.out]
        exact ⟨rfl, rfl, HE.out⟩
      | ok Qq =>
        obtain ⟨x, q⟩ := Qq
        have hql : q ≤ 1000000 := by have := numE_next hQ1; omega
        have hRm : Hid (more (numE a.data.toList s.size 4) (L ++ [x]) (n - (j + 1)) q = R) := by show _ = _; rw [← hR.out, hm, more_one hQ1]; congr 1; omega
        clear hm hQ1
        go_wp2_with fail
        refine HQ.out.mono ?_
        rintro e w1 ⟨rfl, hD1, hG1⟩
        have hO1 := Lib.hid (row_rdr hD.out hO.out hG1 (by decide))
        have hK1 := Lib.hid (hK.out.grown hG1 hgw.out)
        have hg1 : Hid (g ≤ w1.heap.size) := Nat.le_trans hgw.out hG1.size
        have HD1 := Lib.hid hD1
        clear hD1 hG1 hO hD hK HQ
        go_wp2_with (at_builtin; refine wpList_append_own _ rfl _ _ 45 rfl g 43 i0 (.int .u32 0) 1 4 Try.underlying45 HI.out HZ0.out HZ1.out HZ2.out rfl (by decide) _ _ _ rfl (hO1.out.alloc _) ⟨w1.heap.size, 0, none⟩ 1 1 [.int .u32 x] rfl rfl ?c1 ?c2 ?c3 ?c4 ?c5 ?_)
        case c1 =>
          intro j u hj
          match j, hj with
          | 0, hj => simp at hj; subst hj; simp [Addr.add]
        case c2 => first | rfl | (intro u hu; simp at hu; subst hu; rfl)
        case c3 => unfold maxLen; omega
        case c4 => omega
        case c5 => have := hg1.out; simp; omega
        intro v' w2 hown hgrow _
        have E1 : Hid (w2.ownsRow g 43 1 v' (j + 1) (numCs (L ++ [x]))) := by
          show World.ownsRow _ _ _ _ _ _ _
          rw [numCs_snoc]
          exact hown
        have E2 := Lib.hid (rdr_row HD1.out hO1.out ((Below.refl _ _).alloc (Nat.le_refl _) _) hgrow (by decide))
        have E3 := Lib.hid ((hK1.out.alloc hg1.out _).own hgrow (by have := hg1.out; simp; omega) (fun k hk => (hO1.out.lt k hk).1))
        clear hown hgrow hO1 HD1 hK1
        go_wp2_with fail
        go_roundw
        case rel => exact ⟨j + 1, q, L ++ [x], by go_num, by omega, by omega, E1, by (show _ = _; rw [List.length_append, hL.out]; rfl), E2, hRm, E3⟩
        case measure => simp [intOf]; omega
    · have hjn : j = n := by omega
      have hRe : Hid (R = .ok (L, p)) := by show _ = _; rw [← hR.out, show n - j = 0 by omega]; exact more_end _ _ _
      have HE : Hid (w.grownBy wr (some r)) := kept_grown hK.out G.out
      clear hjn
      go_wp2_with fail
      go_ret
      rw [hRe.out]
      refine ⟨_, rfl, ?_, hD.out, HE.out⟩
      rw [hL.out, G.out]
      exact hO.out
end Go.Proofs.Ytngbifdenbfepaa
