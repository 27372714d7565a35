/- The contract of a message's reader: some labels of a name. For texts of at most 10^6 bytes. -/
import Derived.Test.YtpmmjmnleoicjaaProg
import Derived.Test.YtpmmjmnleoicjaaBytes
import Derived.Test.YtpmmjmnleoicjaaNmMath
import Derived.Test.YtpmmjmnleoicjaaNmAt
import Derived.Test.YtpmmjmnleoicjaaKept
import Derived.Test.YtpmmjmnleoicjaaRdr
import Derived.Test.YtpmmjmnleoicjaaRdrText
import Derived.WalkKit
import Derived.Lib.Hide
import Derived.Lib.AppendStr
import Derived.Laws.Rows
import Derived.Outline
import Derived.IntWalk
import Derived.WalkSpells
import Derived.WalkLawsBesides
namespace Go.Proofs.Ytpmmjmnleoicjaa
open Go.RowKit NumMath NmMath Bytes

theorem strCells_bytes (s : ByteArray) : Lib.strCells s = byteCells s.data.toList := by
  unfold byteCells
  simp [Lib.strCells]
/-- The labels, with the byte 0 behind them, if that is where they end. -/
def ended (o : List UInt8) (c : Nat) : List UInt8 := if c = 0 then o ++ [0] else o
/-- Some labels came back, or the reading gave up. -/
def PartEnd (w : World) (g r : Nat) (a s : ByteArray) (k : Nat) : Except Nat (List UInt8 × Nat) → Ending → World → Prop
  | .error x, e, w' => e = gave x ∧ Kept g r w w'
  | .ok (o, q), e, w' => ∃ v, e = .returned (.tuple #[v, .int .u32 (bt s.data.toList q)]) ∧ w'.ownsRow g 5 1 v (ended o (bt s.data.toList q)).length (byteCells (ended o (bt s.data.toList q))) ∧ RdrAt w' r a s ((q + 1 : Nat) : Int) k ∧ Kept g r w w'
def lenOf : Value → Nat
  | .slice _ n _ => n
  | _ => 0
theorem own_form {w : World} {g n : Nat} {e : TypeId} {v : Value} {xs : List Value} (h : w.ownsRow g e 1 v n xs) : ∃ A c, v = .slice A n c ∧ (n ≠ 0 → ∃ a, A = some a) := by
  rcases h.2 with ⟨rfl, h0⟩ | ⟨b, c, cur, rfl, _⟩
  · subst h0
    exact ⟨none, 0, rfl, fun h => absurd rfl h⟩
  · exact ⟨_, c, rfl, fun _ => ⟨_, rfl⟩⟩
theorem own_lenOf {w : World} {g n : Nat} {e : TypeId} {v : Value} {xs : List Value} (h : w.ownsRow g e 1 v n xs) : lenOf v = n := by
  rcases h.2 with ⟨rfl, h0⟩ | ⟨b, c, cur, rfl, _⟩
  · exact h0.symm
  · rfl

set_option maxHeartbeats 4000000 in
set_option maxRecDepth 100000 in
theorem part_any (a s : ByteArray) (r g k p0 : Nat) (v0 : Value) (o0 : List UInt8) (R : Except Nat (List UInt8 × Nat)) (w : World) (h : RdrAt w r a s p0 k) (hv : w.ownsRow g 5 1 v0 o0.length (byteCells o0)) (hg : g ≤ w.heap.size)
    (hs : s.size ≤ 1000000) (hp0 : p0 ≤ 9223372036854775807) (ho : o0.length ≤ 254) (hR : Hid (run s.data.toList s.size k p0 o0 = R)) :
    Calls Try.prog 134 #[.pointer (some ⟨r, 0, none⟩), v0] w (PartEnd w g r a s k R) := by
  have SZ := Lib.hid (Lib.size_eq s)
  have H := Lib.hid h; clear h
  have HV := Lib.hid hv; clear hv
  have HG := Lib.hid hg; clear hg
  obtain ⟨i0, hi, hz0, hz1, hz2⟩ := info_parts info5
  have HI := Lib.hid hi; clear hi
  have HZ0 := Lib.hid hz0; clear hz0
  have HZ1 := Lib.hid hz1; clear hz1
  have HZ2 := Lib.hid hz2; clear hz2
  go_enter Try.func134, Try.ntmps134
  go_wp2_with fail
  go_loopw [1] (fun v wr => ∃ (p : Nat) (o : List UInt8), p ≤ 9223372036854775807 ∧ o.length ≤ 254 ∧ Hid (wr.ownsRow g 5 1 v o.length (byteCells o)) ∧ Hid (RdrAt wr r a s p k) ∧ Hid (run s.data.toList s.size k p o = R) ∧ Hid (Kept g r w wr)) (fun v _ => 255 - lenOf v)
  case atStart => exact ⟨p0, o0, hp0, ho, HV, H, hR, Kept.refl _ _ _⟩
  case round =>
    obtain ⟨p, o, hp, hol, hO, hD, hR, hK⟩ := hrel
    obtain ⟨au, cu, rfl, _⟩ := own_form hO.out
    have hgw : Hid (g ≤ wr.heap.size) := Nat.le_trans HG.out hK.out.size
    by_cases hlt : p < s.size
    · have hpl : p < s.data.toList.length := by rw [← SZ.out]; exact hlt
      obtain ⟨x, hx⟩ : ∃ x, bt s.data.toList p = x := ⟨_, rfl⟩
      have HX := Lib.hid hx
      have hxl : x < 256 := by rw [← hx]; exact bt_lt _ _
      have hbe : Hid (be ((s.data.toList.drop p).take 1) = x) := by rw [be_bt hpl]; exact hx
      have HN := Lib.hid (fun w' (hd : RdrAt w' r a s p k) => number_yes a s r p 1 k x w' hd (by decide) (by decide) (by omega) hs hbe)
      clear hbe
      by_cases h0 : x = 0
      · have hRe : R = .ok (o, p) := by rw [← hR.out]; exact run_end hlt (.inl (by rw [hx]; exact h0))
        subst h0
        have hz : (((0 : Nat) : Int) == 0) = true := rfl
        clear hx hpl
        go_wp2_with fail
        refine (HN.out _ hD.out).mono ?_
        rintro e w1 ⟨rfl, hD1, hG1⟩
        have hO1 := Lib.hid (own_rdr hD.out hO.out hG1)
        have hK1 := Lib.hid (hK.out.grown hG1 hgw.out)
        have hg1 : Hid (g ≤ w1.heap.size) := Nat.le_trans hgw.out hG1.size
        have HD1 := Lib.hid hD1
        clear hD1 hG1 hO hD hK HN
        go_wp2_with (at_builtin; refine wpList_append_own _ rfl _ _ 74 rfl g 5 i0 (.int .u8 0) 1 1 Try.underlying74 HI.out HZ0.out HZ1.out HZ2.out rfl (by decide) _ _ _ rfl (hO1.out.alloc _) ⟨w1.heap.size, 0, none⟩ 1 1 [.int .u8 0] rfl rfl ?c1 ?c2 ?c3 ?c4 ?c5 ?_)
        case c1 =>
          intro j u hj
          match j, hj with
          | 0, hj => simp at hj; subst hj; simp [Addr.add]
        case c2 => intro u hu; simp at hu; subst hu; rfl
        case c3 => unfold maxLen; omega
        case c4 => omega
        case c5 => have := hg1.out; simp; omega
        intro v' w2 hown hgrow _
        have E1 : Hid (w2.ownsRow g 5 1 v' (ended o 0).length (byteCells (ended o 0)) ∧ RdrAt w2 r a s ((p + 1 : Nat) : Int) k ∧ Kept g r w w2) := by
          refine ⟨?_, rdr_own HD1.out hO1.out ((Below.refl _ _).alloc (Nat.le_refl _) _) hgrow, (hK1.out.alloc hg1.out _).own hgrow (by have := hg1.out; simp; omega) (fun k hk => (hO1.out.lt k hk).1)⟩
          unfold ended
          rw [if_pos rfl, byteCells_cat, byteCells_one, List.length_append]
          exact hown
        clear hown hgrow hO1 HD1 hK1
        go_wp2_with fail
        go_ret2
        rw [hRe]
        refine ⟨v', ?_, ?_, E1.out.2.1, E1.out.2.2⟩
        · rw [HX.out]; rfl
        · rw [HX.out]; exact E1.out.1
      · have hz : ((x : Int) == 0) = false := beq_eq_false_iff_ne.2 (by omega)
        by_cases h192 : 192 ≤ x
        · have hRe : R = .ok (o, p) := by rw [← hR.out]; exact run_end hlt (.inr (by rw [hx]; exact h192))
          have hle : (192 : Int) ≤ x := by omega
          clear hx hpl h0 h192
          go_wp2_with fail
          refine (HN.out _ hD.out).mono ?_
          rintro e w1 ⟨rfl, hD1, hG1⟩
          have hO1 := Lib.hid (own_rdr hD.out hO.out hG1)
          have hK1 := Lib.hid (hK.out.grown hG1 hgw.out)
          have HD1 := Lib.hid hD1
          clear hD1 hG1 hO hD hK HN
          go_wp2_with fail
          go_ret2
          rw [hRe]
          refine ⟨.slice au o.length cu, ?_, ?_, HD1.out, hK1.out⟩
          · rw [HX.out]; rfl
          · rw [HX.out]; unfold ended; rw [if_neg (by omega)]; exact hO1.out
        · have hlt192 : (x : Int) < 192 := by omega
          by_cases h64 : 64 ≤ x
          · have hRe : R = .error 41 := by rw [← hR.out]; exact run_label hlt (by rw [hx]; exact h64) (by rw [hx]; omega)
            have hgt : (63 : Int) < x := by omega
            clear hx hpl h0 h192 h64
            go_wp2_with fail
            refine (HN.out _ hD.out).mono ?_
            rintro e w1 ⟨rfl, hD1, hG1⟩
            have hK1 := Lib.hid (hK.out.grown hG1 hgw.out)
            clear hD1 hG1 hO hD hK HN
            go_wp2_with fail
            rw [hRe]
            exact ⟨rfl, rfl, hK1.out⟩
          · have hle63 : (x : Int) ≤ 63 := by omega
            have hwr8 : IntKind.u8.wrap (x : Int) = (x : Int) := by rw [IntKind.wrap_u8]; omega
            obtain ⟨c, hcc⟩ : ∃ c, s.data.toList.getD p 0 = c := ⟨_, rfl⟩
            have hcat : Hid (cut s.data.toList p (x + 1) = c :: (s.extract (p + 1) (p + 1 + x)).data.toList) := by show _ = _; rw [cut_head hpl, cut_extract, hcc]
            have hgd : Hid (c.toNat = x) := by show _ = _; rw [← hcc]; exact hx
            have hRs : Hid (s.size < p + 1 + x → R = .error k) := fun hh => by rw [← hR.out]; exact run_short hlt (by rw [hx]; omega) (by rw [hx]; exact hh)
            have hRl : Hid (p + 1 + x ≤ s.size → 253 < o.length + x → R = .error 40) := fun h1 h2 => by rw [← hR.out]; exact run_long (by rw [hx]; exact h0) (by rw [hx]; omega) (by rw [hx]; exact h1) (by rw [hx]; exact h2)
            have hRm : Hid (p + 1 + x ≤ s.size → o.length + x ≤ 253 → run s.data.toList s.size k (p + 1 + x) (o ++ cut s.data.toList p (x + 1)) = R) := fun h1 h2 => by rw [← hR.out]; have := run_more (l := s.data.toList) (E := s.size) (K := k) (p := p) (o := o) (by rw [hx]; exact h0) (by rw [hx]; omega) (by rw [hx]; exact h1) (by rw [hx]; exact h2); rw [hx] at this; exact this.symm
            clear hx hpl h192 h64 hR hcc
            go_wp2_with fail
            refine (HN.out _ hD.out).mono ?_
            rintro e w1 ⟨rfl, hD1, hG1⟩
            have hO1 := Lib.hid (own_rdr hD.out hO.out hG1)
            have hK1 := Lib.hid (hK.out.grown hG1 hgw.out)
            have hg1 : Hid (g ≤ w1.heap.size) := Nat.le_trans hgw.out hG1.size
            have HD1 := Lib.hid hD1
            clear hD1 hG1 hO hD hK HN
            go_wp2_with (at_builtin; refine wpList_append_own _ rfl _ _ 74 rfl g 5 i0 (.int .u8 0) 1 1 Try.underlying74 HI.out HZ0.out HZ1.out HZ2.out rfl (by decide) _ _ _ rfl (hO1.out.alloc _) ⟨w1.heap.size, 0, none⟩ 1 1 [.int .u8 (x : Int)] rfl rfl ?c1 ?c2 ?c3 ?c4 ?c5 ?_)
            case c1 =>
              intro j u hj
              match j, hj with
              | 0, hj => simp at hj; subst hj; simp [Addr.add]
            case c2 => intro u hu; simp at hu; subst hu; rfl
            case c3 => unfold maxLen; omega
            case c4 => omega
            case c5 => have := hg1.out; simp; omega
            intro v' w2 hown hgrow _
            have hO2 : Hid (w2.ownsRow g 5 1 v' (o.length + 1) (byteCells (o ++ [c]))) := by
              show World.ownsRow _ _ _ _ _ _ _
              rw [byteCells_cat, byteCells_one, hgd.out]
              exact hown
            have hD2 := Lib.hid (rdr_own HD1.out hO1.out ((Below.refl _ _).alloc (Nat.le_refl _) _) hgrow)
            have hK2 := Lib.hid ((hK1.out.alloc hg1.out _).own hgrow (by have := hg1.out; simp; omega) (fun k hk => (hO1.out.lt k hk).1))
            have hg2 : Hid (g ≤ w2.heap.size) := Nat.le_trans HG.out hK2.out.size
            clear hown hgrow hO1 HD1 hK1
            by_cases hin : p + 1 + x ≤ s.size
            · obtain ⟨y, hy⟩ : ∃ y, s.extract (p + 1) (p + 1 + x) = y := ⟨_, rfl⟩
              have hyl : y.size = x := by rw [← hy, ByteArray.size_extract]; omega
              have hcat2 := hcat.out
              rw [hy] at hcat2
              have HC := Lib.hid hcat2
              have HT := Lib.hid (text_yes a s y r (p + 1) x k w2 (by have := hD2.out; rwa [← Int.natCast_add] at this) hin hs (Lib.hid hy))
              clear hcat2 hy hcat
              go_wp2_with fail
              refine HT.out.mono ?_
              rintro e w3 ⟨rfl, hD3, hG3⟩
              have hO3 := Lib.hid (own_rdr hD2.out hO2.out hG3)
              have hK3 := Lib.hid (hK2.out.grown hG3 hg2.out)
              have hg3 : Hid (g ≤ w3.heap.size) := Nat.le_trans hg2.out hG3.size
              have HD3 := Lib.hid hD3
              clear HT hD3 hG3 hO2 hD2 hK2
              go_wp2_with (at_builtin; refine Lib.wpList_append_own_string _ rfl _ _ 74 9 rfl g 5 i0 Try.underlying74 Try.underlying9 HI.out HZ0.out HZ1.out HZ2.out _ _ _ rfl hO3.out y rfl ?d3 ?d4 ?d5 ?_)
              case d3 => unfold maxLen; omega
              case d4 => omega
              case d5 => exact hg3.out
              intro v3 w4 hown4 hgrow4 _
              have hol4 : (o ++ cut s.data.toList p (x + 1)).length = o.length + 1 + x := by rw [HC.out, List.length_append, List.length_cons, ← Lib.size_eq, hyl]; omega
              have hO4 : Hid (w4.ownsRow g 5 1 v3 (o.length + 1 + x) (byteCells (o ++ cut s.data.toList p (x + 1)))) := by
                show World.ownsRow _ _ _ _ _ _ _
                have := hown4
                rw [strCells_bytes, ← byteCells_cat, List.append_assoc] at this
                rw [HC.out]
                exact this
              have hD4 : Hid (RdrAt w4 r a s ((p + 1 + x : Nat) : Int) k) := by
                have := rdr_own HD3.out hO3.out (Below.refl _ _) hgrow4
                rwa [← Int.natCast_add] at this
              have hK4 := Lib.hid (hK3.out.own hgrow4 hg3.out (fun k hk => (hO3.out.lt k hk).1))
              have hol4' := Lib.hid hol4
              obtain ⟨av, cv, rfl, _⟩ := own_form hO4.out
              clear hown4 hgrow4 hO3 HD3 hK3 hol4
              by_cases hlong : 253 < o.length + x
              · have hRe := hRl.out hin hlong
                have hbig : (254 : Int) < ((o.length + 1 + x : Nat) : Int) := by omega
                go_wp2_with fail
                rw [hRe]
                exact ⟨rfl, rfl, hK4.out⟩
              · have hRe := hRm.out hin (by omega)
                have HRe := Lib.hid hRe
                have hsmall : ((o.length + 1 + x : Nat) : Int) ≤ 254 := by omega
                clear hRe hRl hRm hRs
                go_wp2_with fail
                go_roundw
                case rel => exact ⟨p + 1 + x, o ++ cut s.data.toList p (x + 1), by omega, by rw [hol4'.out]; omega, by rw [hol4'.out]; exact hO4, hD4, HRe, hK4⟩
                case measure => simp only [lenOf]; omega
            · have hRe := hRs.out (by omega)
              have hno : Hid (holdsB s.size ((p + 1 : Nat) : Int) (x : Int) = false) := holds_no (by omega)
              have HT := Lib.hid (text_no a s r k ((p + 1 : Nat) : Int) x w2 (by have := hD2.out; rwa [← Int.natCast_add] at this) hs (by omega) (by omega) (by omega) hno)
              go_wp2_with fail
              refine HT.out.mono ?_
              rintro e w3 ⟨rfl, m, rfl⟩
              go_wp2_with fail
              rw [hRe]
              exact ⟨rfl, rfl, hK2.out.drewN m⟩
    · have hRe : R = .error k := by rw [← hR.out]; exact run_lack (by omega)
      have hno : Hid (holdsB s.size (p : Int) ((1 : Nat) : Int) = false) := holds_no (by omega)
      go_wp2_with fail
      refine (number_no a s r k p 1 _ hD.out hs (by decide) (by omega) (by omega) hno).mono ?_
      rintro e w1 ⟨rfl, m, rfl⟩
      go_wp2_with fail
      rw [hRe]
      exact ⟨rfl, rfl, hK.out.drewN m⟩
end Go.Proofs.Ytpmmjmnleoicjaa
