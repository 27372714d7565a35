/- Texts of one proof, one behind the other: RdrPart, RdrName, RdrAsk, RdrRecs, RdrCatch. -/
import Derived.Test.YtihkmdojakalbaaProg
import Derived.Test.YtihkmdojakalbaaReadMessagesProofG1
import Derived.Test.YtihkmdojakalbaaReadMessagesProofG2
import Derived.WalkKit
import Derived.Lib.Hide
import Derived.Lib.AppendStr
import Derived.Laws.Rows
import Derived.Outline
import Derived.IntWalk
import Derived.WalkSpells
import Derived.WalkLawsBesides
import Derived.Laws.AppendOwn
import Derived.Defers
import Derived.Recover

/- The contract of a message's reader: some labels of a name. For texts of at most 10^6 bytes. -/
namespace Go.Proofs.Ytihkmdojakalbaa
open Go.RowKit NumMath NmMath Bytes

theorem strCells_bytes (s : ByteArray) : Lib.strCells s = byteCells s.data.toList := by
  unfold byteCells
  simp [Lib.strCells]
/-- The labels, with the byte 0 behind them, if that is where they end. -/
def ended (o : List UInt8) (c : Nat) : List UInt8 := if c = 0 then o ++ [0] else o
/-- Some labels came back, or the reading gave up. -/
def PartEnd (w : World) (g r : Nat) (a s : ByteArray) (k : Nat) : Except Nat (List UInt8 × Nat) → Ending → World → Prop
  | .error x, e, w' => e = gave x ∧ Kept g r w w'
  | .ok (o, q), e, w' => ∃ v, e = .returned (.tuple #[v, .int .u32 (bt s.data.toList q)]) ∧ w'.ownsRow g 5 1 v (ended o (bt s.data.toList q)).length (byteCells (ended o (bt s.data.toList q))) ∧ RdrAt w' r a s ((q + 1 : Nat) : Int) k ∧ Kept g r w w'
def lenOf : Value → Nat
  | .slice _ n _ => n
  | _ => 0
theorem own_form {w : World} {g n : Nat} {e : TypeId} {v : Value} {xs : List Value} (h : w.ownsRow g e 1 v n xs) : ∃ A c, v = .slice A n c ∧ (n ≠ 0 → ∃ a, A = some a) := by
  rcases h.2 with ⟨rfl, h0⟩ | ⟨b, c, cur, rfl, _⟩
  · subst h0
    exact ⟨none, 0, rfl, fun h => absurd rfl h⟩
  · exact ⟨_, c, rfl, fun _ => ⟨_, rfl⟩⟩
theorem own_lenOf {w : World} {g n : Nat} {e : TypeId} {v : Value} {xs : List Value} (h : w.ownsRow g e 1 v n xs) : lenOf v = n := by
  rcases h.2 with ⟨rfl, h0⟩ | ⟨b, c, cur, rfl, _⟩
  · exact h0.symm
  · rfl

set_option maxHeartbeats 4000000 in
set_option maxRecDepth 100000 in
theorem part_any (a s : ByteArray) (r g k p0 : Nat) (v0 : Value) (o0 : List UInt8) (R : Except Nat (List UInt8 × Nat)) (w : World) (h : RdrAt w r a s p0 k) (hv : w.ownsRow g 5 1 v0 o0.length (byteCells o0)) (hg : g ≤ w.heap.size)
    (hs : s.size ≤ 1000000) (hp0 : p0 ≤ 9223372036854775807) (ho : o0.length ≤ 254) (hR : Hid (run s.data.toList s.size k p0 o0 = R)) :
    Calls Try.prog 69 #[.pointer (some ⟨r, 0, none⟩), v0] w (PartEnd w g r a s k R) := by
  have SZ := Lib.hid (Lib.size_eq s)
  have H := Lib.hid h; clear h
  have HV := Lib.hid hv; clear hv
  have HG := Lib.hid hg; clear hg
  obtain ⟨i0, hi, hz0, hz1, hz2⟩ := info_parts info5
  have HI := Lib.hid hi; clear hi
  have HZ0 := Lib.hid hz0; clear hz0
  have HZ1 := Lib.hid hz1; clear hz1
  have HZ2 := Lib.hid hz2; clear hz2
  go_enter Try.func69, Try.ntmps69
  go_wp2_with fail
  go_loopw [1] (fun v wr => ∃ (p : Nat) (o : List UInt8), p ≤ 9223372036854775807 ∧ o.length ≤ 254 ∧ Hid (wr.ownsRow g 5 1 v o.length (byteCells o)) ∧ Hid (RdrAt wr r a s p k) ∧ Hid (run s.data.toList s.size k p o = R) ∧ Hid (Kept g r w wr)) (fun v _ => 255 - lenOf v)
  case atStart => exact ⟨p0, o0, hp0, ho, HV, H, hR, Kept.refl _ _ _⟩
  case round =>
    obtain ⟨p, o, hp, hol, hO, hD, hR, hK⟩ := hrel
    obtain ⟨au, cu, rfl, _⟩ := own_form hO.out
    have hgw : Hid (g ≤ wr.heap.size) := Nat.le_trans HG.out hK.out.size
    by_cases hlt : p < s.size
    · have hpl : p < s.data.toList.length := by rw [← SZ.out]; exact hlt
      obtain ⟨x, hx⟩ : ∃ x, bt s.data.toList p = x := ⟨_, rfl⟩
      have HX := Lib.hid hx
      have hxl : x < 256 := by rw [← hx]; exact bt_lt _ _
      have hbe : Hid (be ((s.data.toList.drop p).take 1) = x) := by rw [be_bt hpl]; exact hx
      have HN := Lib.hid (fun w' (hd : RdrAt w' r a s p k) => number_yes a s r p 1 k x w' hd (by decide) (by decide) (by omega) hs hbe)
      clear hbe
      by_cases h0 : x = 0
      · have hRe : R = .ok (o, p) := by rw [← hR.out]; exact run_end hlt (.inl (by rw [hx]; exact h0))
        subst h0
        have hz : (((0 : Nat) : Int) == 0) = true := rfl
        clear hx hpl
        go_wp2_with fail
        refine (HN.out _ hD.out).mono ?_
        rintro e w1 ⟨rfl, hD1, hG1⟩
        have hO1 := Lib.hid (own_rdr hD.out hO.out hG1)
        have hK1 := Lib.hid (hK.out.grown hG1 hgw.out)
        have hg1 : Hid (g ≤ w1.heap.size) := Nat.le_trans hgw.out hG1.size
        have HD1 := Lib.hid hD1
        clear hD1 hG1 hO hD hK HN
        go_wp2_with (at_builtin; refine wpList_append_own _ rfl _ _ 71 rfl g 5 i0 (.int .u8 0) 1 1 Try.underlying71 HI.out HZ0.out HZ1.out HZ2.out rfl (by decide) _ _ _ rfl (hO1.out.alloc _) ⟨w1.heap.size, 0, none⟩ 1 1 [.int .u8 0] rfl rfl ?c1 ?c2 ?c3 ?c4 ?c5 ?_)
        case c1 =>
          intro j u hj
          match j, hj with
          | 0, hj => simp at hj; subst hj; simp [Addr.add]
        case c2 => intro u hu; simp at hu; subst hu; rfl
        case c3 => unfold maxLen; omega
        case c4 => omega
        case c5 => have := hg1.out; simp; omega
        intro v' w2 hown hgrow _
        have E1 : Hid (w2.ownsRow g 5 1 v' (ended o 0).length (byteCells (ended o 0)) ∧ RdrAt w2 r a s ((p + 1 : Nat) : Int) k ∧ Kept g r w w2) := by
          refine ⟨?_, rdr_own HD1.out hO1.out ((Below.refl _ _).alloc (Nat.le_refl _) _) hgrow, (hK1.out.alloc hg1.out _).own hgrow (by have := hg1.out; simp; omega) (fun k hk => (hO1.out.lt k hk).1)⟩
          unfold ended
          rw [if_pos rfl, byteCells_cat, byteCells_one, List.length_append]
          exact hown
        clear hown hgrow hO1 HD1 hK1
        go_wp2_with fail
        go_ret2
        rw [hRe]
        refine ⟨v', ?_, ?_, E1.out.2.1, E1.out.2.2⟩
        · rw [HX.out]; rfl
        · rw [HX.out]; exact E1.out.1
      · have hz : ((x : Int) == 0) = false := beq_eq_false_iff_ne.2 (by omega)
        by_cases h192 : 192 ≤ x
        · have hRe : R = .ok (o, p) := by rw [← hR.out]; exact run_end hlt (.inr (by rw [hx]; exact h192))
          have hle : (192 : Int) ≤ x := by omega
          clear hx hpl h0 h192
          go_wp2_with fail
          refine (HN.out _ hD.out).mono ?_
          rintro e w1 ⟨rfl, hD1, hG1⟩
          have hO1 := Lib.hid (own_rdr hD.out hO.out hG1)
          have hK1 := Lib.hid (hK.out.grown hG1 hgw.out)
          have HD1 := Lib.hid hD1
          clear hD1 hG1 hO hD hK HN
          go_wp2_with fail
          go_ret2
          rw [hRe]
          refine ⟨.slice au o.length cu, ?_, ?_, HD1.out, hK1.out⟩
          · rw [HX.out]; rfl
          · rw [HX.out]; unfold ended; rw [if_neg (by omega)]; exact hO1.out
        · have hlt192 : (x : Int) < 192 := by omega
          by_cases h64 : 64 ≤ x
          · have hRe : R = .error 41 := by rw [← hR.out]; exact run_label hlt (by rw [hx]; exact h64) (by rw [hx]; omega)
            have hgt : (63 : Int) < x := by omega
            clear hx hpl h0 h192 h64
            go_wp2_with fail
            refine (HN.out _ hD.out).mono ?_
            rintro e w1 ⟨rfl, hD1, hG1⟩
            have hK1 := Lib.hid (hK.out.grown hG1 hgw.out)
            clear hD1 hG1 hO hD hK HN
            go_wp2_with fail
            rw [hRe]
            exact ⟨rfl, rfl, hK1.out⟩
          · have hle63 : (x : Int) ≤ 63 := by omega
            have hwr8 : IntKind.u8.wrap (x : Int) = (x : Int) := by rw [IntKind.wrap_u8]; omega
            obtain ⟨c, hcc⟩ : ∃ c, s.data.toList.getD p 0 = c := ⟨_, rfl⟩
            have hcat : Hid (cut s.data.toList p (x + 1) = c :: (s.extract (p + 1) (p + 1 + x)).data.toList) := by show _ = _; rw [cut_head hpl, cut_extract, hcc]
            have hgd : Hid (c.toNat = x) := by show _ = _; rw [← hcc]; exact hx
            have hRs : Hid (s.size < p + 1 + x → R = .error k) := fun hh => by rw [← hR.out]; exact run_short hlt (by rw [hx]; omega) (by rw [hx]; exact hh)
            have hRl : Hid (p + 1 + x ≤ s.size → 253 < o.length + x → R = .error 40) := fun h1 h2 => by rw [← hR.out]; exact run_long (by rw [hx]; exact h0) (by rw [hx]; omega) (by rw [hx]; exact h1) (by rw [hx]; exact h2)
            have hRm : Hid (p + 1 + x ≤ s.size → o.length + x ≤ 253 → run s.data.toList s.size k (p + 1 + x) (o ++ cut s.data.toList p (x + 1)) = R) := fun h1 h2 => by rw [← hR.out]; have := run_more (l := s.data.toList) (E := s.size) (K := k) (p := p) (o := o) (by rw [hx]; exact h0) (by rw [hx]; omega) (by rw [hx]; exact h1) (by rw [hx]; exact h2); rw [hx] at this; exact this.symm
            clear hx hpl h192 h64 hR hcc
            go_wp2_with fail
            refine (HN.out _ hD.out).mono ?_
            rintro e w1 ⟨rfl, hD1, hG1⟩
            have hO1 := Lib.hid (own_rdr hD.out hO.out hG1)
            have hK1 := Lib.hid (hK.out.grown hG1 hgw.out)
            have hg1 : Hid (g ≤ w1.heap.size) := Nat.le_trans hgw.out hG1.size
            have HD1 := Lib.hid hD1
            clear hD1 hG1 hO hD hK HN
            go_wp2_with (at_builtin; refine wpList_append_own _ rfl _ _ 71 rfl g 5 i0 (.int .u8 0) 1 1 Try.underlying71 HI.out HZ0.out HZ1.out HZ2.out rfl (by decide) _ _ _ rfl (hO1.out.alloc _) ⟨w1.heap.size, 0, none⟩ 1 1 [.int .u8 (x : Int)] rfl rfl ?c1 ?c2 ?c3 ?c4 ?c5 ?_)
            case c1 =>
              intro j u hj
              match j, hj with
              | 0, hj => simp at hj; subst hj; simp [Addr.add]
            case c2 => intro u hu; simp at hu; subst hu; rfl
            case c3 => unfold maxLen; omega
            case c4 => omega
            case c5 => have := hg1.out; simp; omega
            intro v' w2 hown hgrow _
            have hO2 : Hid (w2.ownsRow g 5 1 v' (o.length + 1) (byteCells (o ++ [c]))) := by
              show World.ownsRow _ _ _ _ _ _ _
              rw [byteCells_cat, byteCells_one, hgd.out]
              exact hown
            have hD2 := Lib.hid (rdr_own HD1.out hO1.out ((Below.refl _ _).alloc (Nat.le_refl _) _) hgrow)
            have hK2 := Lib.hid ((hK1.out.alloc hg1.out _).own hgrow (by have := hg1.out; simp; omega) (fun k hk => (hO1.out.lt k hk).1))
            have hg2 : Hid (g ≤ w2.heap.size) := Nat.le_trans HG.out hK2.out.size
            clear hown hgrow hO1 HD1 hK1
            by_cases hin : p + 1 + x ≤ s.size
            · obtain ⟨y, hy⟩ : ∃ y, s.extract (p + 1) (p + 1 + x) = y := ⟨_, rfl⟩
              have hyl : y.size = x := by rw [← hy, ByteArray.size_extract]; omega
              have hcat2 := hcat.out
              rw [hy] at hcat2
              have HC := Lib.hid hcat2
              have HT := Lib.hid (text_yes a s y r (p + 1) x k w2 (by have := hD2.out; rwa [← Int.natCast_add] at this) hin hs (Lib.hid hy))
              clear hcat2 hy hcat
              go_wp2_with fail
              refine HT.out.mono ?_
              rintro e w3 ⟨rfl, hD3, hG3⟩
              have hO3 := Lib.hid (own_rdr hD2.out hO2.out hG3)
              have hK3 := Lib.hid (hK2.out.grown hG3 hg2.out)
              have hg3 : Hid (g ≤ w3.heap.size) := Nat.le_trans hg2.out hG3.size
              have HD3 := Lib.hid hD3
              clear HT hD3 hG3 hO2 hD2 hK2
              go_wp2_with (at_builtin; refine Lib.wpList_append_own_string _ rfl _ _ 71 9 rfl g 5 i0 Try.underlying71 Try.underlying9 HI.out HZ0.out HZ1.out HZ2.out _ _ _ rfl hO3.out y rfl ?d3 ?d4 ?d5 ?_)
              case d3 => unfold maxLen; omega
              case d4 => omega
              case d5 => exact hg3.out
              intro v3 w4 hown4 hgrow4 _
              have hol4 : (o ++ cut s.data.toList p (x + 1)).length = o.length + 1 + x := by rw [HC.out, List.length_append, List.length_cons, ← Lib.size_eq, hyl]; omega
              have hO4 : Hid (w4.ownsRow g 5 1 v3 (o.length + 1 + x) (byteCells (o ++ cut s.data.toList p (x + 1)))) := by
                show World.ownsRow _ _ _ _ _ _ _
                have := hown4
                rw [strCells_bytes, ← byteCells_cat, List.append_assoc] at this
                rw [HC.out]
                exact this
              have hD4 : Hid (RdrAt w4 r a s ((p + 1 + x : Nat) : Int) k) := by
                have := rdr_own HD3.out hO3.out (Below.refl _ _) hgrow4
                rwa [← Int.natCast_add] at this
              have hK4 := Lib.hid (hK3.out.own hgrow4 hg3.out (fun k hk => (hO3.out.lt k hk).1))
              have hol4' := Lib.hid hol4
              obtain ⟨av, cv, rfl, _⟩ := own_form hO4.out
              clear hown4 hgrow4 hO3 HD3 hK3 hol4
              by_cases hlong : 253 < o.length + x
              · have hRe := hRl.out hin hlong
                have hbig : (254 : Int) < ((o.length + 1 + x : Nat) : Int) := by omega
                go_wp2_with fail
                rw [hRe]
                exact ⟨rfl, rfl, hK4.out⟩
              · have hRe := hRm.out hin (by omega)
                have HRe := Lib.hid hRe
                have hsmall : ((o.length + 1 + x : Nat) : Int) ≤ 254 := by omega
                clear hRe hRl hRm hRs
                go_wp2_with fail
                go_roundw
                case rel => exact ⟨p + 1 + x, o ++ cut s.data.toList p (x + 1), by omega, by rw [hol4'.out]; omega, by rw [hol4'.out]; exact hO4, hD4, HRe, hK4⟩
                case measure => simp only [lenOf]; omega
            · have hRe := hRs.out (by omega)
              have hno : Hid (holdsB s.size ((p + 1 : Nat) : Int) (x : Int) = false) := holds_no (by omega)
              have HT := Lib.hid (text_no a s r k ((p + 1 : Nat) : Int) x w2 (by have := hD2.out; rwa [← Int.natCast_add] at this) hs (by omega) (by omega) (by omega) hno)
              go_wp2_with fail
              refine HT.out.mono ?_
              rintro e w3 ⟨rfl, m, rfl⟩
              go_wp2_with fail
              rw [hRe]
              exact ⟨rfl, rfl, hK2.out.drewN m⟩
    · have hRe : R = .error k := by rw [← hR.out]; exact run_lack (by omega)
      have hno : Hid (holdsB s.size (p : Int) ((1 : Nat) : Int) = false) := holds_no (by omega)
      go_wp2_with fail
      refine (number_no a s r k p 1 _ hD.out hs (by decide) (by omega) (by omega) hno).mono ?_
      rintro e w1 ⟨rfl, m, rfl⟩
      go_wp2_with fail
      rw [hRe]
      exact ⟨rfl, rfl, hK.out.drewN m⟩
end Go.Proofs.Ytihkmdojakalbaa

/- The contract of a message's reader: a name that pointers may lead on. For texts of at most 10^6 bytes. -/
namespace Go.Proofs.Ytihkmdojakalbaa
open Go.RowKit NumMath NmMath Bytes

theorem bt_take {l : List UInt8} {E p : Nat} (h : p < E) : bt (l.take E) p = bt l p := by
  unfold bt
  rw [List.getD_eq_getElem?_getD, List.getElem?_take_of_lt h, ← List.getD_eq_getElem?_getD]
theorem cut_take {l : List UInt8} {E p n : Nat} (h : p + n ≤ E) : cut (l.take E) p n = cut l p n := by
  unfold cut
  rw [List.drop_take, List.take_take, Nat.min_eq_left (by omega)]
theorem run_take {l : List UInt8} {E K p : Nat} {o : List UInt8} : run (l.take E) E K p o = run l E K p o := by
  fun_induction run l E K p o with
  | case1 p o h h0 => exact run_end h (by rw [bt_take h]; exact h0)
  | case2 p o h h0 h1 => exact run_label h (by rw [bt_take h]; exact h1) (by rw [bt_take h]; omega)
  | case3 p o h h0 h1 h2 h3 => exact run_long (by rw [bt_take h]; omega) (by rw [bt_take h]; omega) (by rw [bt_take h]; omega) (by rw [bt_take h]; omega)
  | case4 p o h h0 h1 h2 h3 ih => rw [run_more (by rw [bt_take h]; omega) (by rw [bt_take h]; omega) (by rw [bt_take h]; omega) (by rw [bt_take h]; omega), bt_take h, cut_take (by omega), ih]
  | case5 p o h h0 h1 h2 => exact run_short h (by rw [bt_take h]; omega) (by rw [bt_take h]; omega)
  | case6 p o h => exact run_lack (by omega)
theorem or_place (m y : Nat) (hm : m < 64) (hy : y < 256) : bits .or .u32 ((m * 256 : Nat) : Int) (y : Int) = ((m * 256 + y : Nat) : Int) := by
  have e1 : (BitVec.ofInt 32 ((m * 256 : Nat) : Int)).toNat = m * 256 := by rw [BitVec.ofInt_natCast, BitVec.toNat_ofNat]; omega
  have e2 : (BitVec.ofInt 32 (y : Int)).toNat = y := by rw [BitVec.ofInt_natCast, BitVec.toNat_ofNat]; omega
  show IntKind.u32.wrap ((BitVec.ofInt 32 ((m * 256 : Nat) : Int) ||| BitVec.ofInt 32 (y : Int)).toNat : Int) = _
  have h := Nat.shiftLeft_add_eq_or_of_lt (i := 8) (b := y) (by omega) m
  rw [Nat.shiftLeft_eq] at h
  have e3 : m * 256 ||| y = m * 256 + y := h.symm
  rw [BitVec.toNat_or, e1, e2, e3, IntKind.wrap_u32]
  omega

/-- A name came back, or the reading gave up. -/
def NmEnd (w : World) (r : Nat) (a s : ByteArray) (k : Nat) : Except Nat (List UInt8 × Nat) → Ending → World → Prop
  | .error x, e, w' => e = gave x ∧ w.grownBy w' (some r)
  | .ok (o, n), e, w' => e = .returned (.string (mk o)) ∧ RdrAt w' r a s (n : Int) k ∧ w.grownBy w' (some r)
/-- Of the two readers the one reads, the other stands. -/
def Sides (W : World) (r B pb : Nat) (a s ax sx : ByteArray) (k K : Nat) (next : Option Nat) : Prop :=
  (pb = r ∧ next = none ∧ ax = a ∧ sx = s ∧ K = k ∧ RdrAt W B ⟨#[]⟩ a 0 2) ∨ (pb = B ∧ ax = ⟨#[]⟩ ∧ sx = a ∧ K = 2 ∧ ∃ nx : Nat, next = some nx ∧ RdrAt W r a s (nx : Int) k)
theorem sides_on {W W' : World} {r B pb : Nat} {a s ax sx : ByteArray} {k K z : Nat} {next : Option Nat} (h : Sides W r B pb a s ax sx k K next) (hne : r ≠ B) (hg : W.grownBy W' (some pb)) (hd : RdrAt W' pb ax sx (z : Int) K) :
    RdrAt W' r a s ((next.getD z : Nat) : Int) k ∧ ∃ z : Int, RdrAt W' B ⟨#[]⟩ a z 2 := by
  rcases h with ⟨rfl, rfl, rfl, rfl, rfl, h6⟩ | ⟨rfl, rfl, rfl, rfl, nx, rfl, h6⟩
  · exact ⟨hd, _, h6.other hg (fun e => hne e.symm)⟩
  · exact ⟨h6.other hg hne, _, hd⟩
theorem sides_now {W : World} {r B pb : Nat} {a s ax sx : ByteArray} {k K z : Nat} {next : Option Nat} (h : Sides W r B pb a s ax sx k K next) (hd : RdrAt W pb ax sx (z : Int) K) : RdrAt W r a s ((next.getD z : Nat) : Int) k := by
  rcases h with ⟨rfl, rfl, rfl, rfl, rfl, h6⟩ | ⟨rfl, rfl, rfl, rfl, nx, rfl, h6⟩
  · exact hd
  · exact h6

theorem kept_side {w W W' : World} {r B pb g : Nat} {a s ax sx : ByteArray} {k K : Nat} {next : Option Nat} (h : Sides W r B pb a s ax sx k K next) (hk : Kept g r w W) (hg : W.grownBy W' (some pb)) (h1 : g ≤ W.heap.size) (h2 : g ≤ B) : Kept g r w W' := by
  rcases h with ⟨rfl, rfl, rfl, rfl, rfl, h6⟩ | ⟨rfl, rfl, rfl, rfl, nx, rfl, h6⟩
  · exact hk.grown hg h1
  · exact hk.own hg h1 (fun k e => by injection e with e; omega)

set_option maxHeartbeats 4000000 in
set_option maxRecDepth 100000 in
theorem pointed_any (a s : ByteArray) (r k p0 : Nat) (R : Except Nat (List UInt8 × Nat)) (w : World) (h : RdrAt w r a s p0 k) (hsa : Hid (s.data.toList = a.data.toList.take s.size)) (ha : a.size ≤ 1000000) (hs : s.size ≤ 1000000)
    (hp0 : p0 ≤ 9223372036854775807) (hR : Hid (nm a.data.toList s.size k p0 p0 none [] = R)) :
    Calls Try.prog 44 #[.pointer (some ⟨r, 0, none⟩)] w (NmEnd w r a s k R) := by
  have AZ := Lib.hid (Lib.size_eq a)
  have hrlt := h.lt
  have hc0 := h.c0
  have hc2 := h.c2
  have H := Lib.hid h; clear h
  obtain ⟨g, hg⟩ : ∃ g, w.heap.size = g := ⟨_, rfl⟩
  have G := Lib.hid hg
  rw [hg] at hrlt
  obtain ⟨R1, hR1⟩ : ∃ R1, run s.data.toList s.size k p0 [] = R1 := ⟨_, rfl⟩
  have hR1' : run a.data.toList s.size k p0 [] = R1 := by rw [← hR1, hsa.out, run_take]
  have HP := Lib.hid (fun w' (hd : RdrAt w' r a s p0 k) (hgw : g ≤ w'.heap.size) => part_any a s r g k p0 (.slice none 0 0) [] R1 w' hd (World.ownsRow_nil _ _ _ _) hgw hs hp0 (Nat.zero_le _) (Lib.hid hR1))
  cases R1 with
  | error x =>
    have hRe : R = .error x := by rw [← hR.out]; exact nm_err hR1'
    clear hR1 hR1' hR hg
    go_enter Try.func44, Try.ntmps44
    go_wp2_with fail
    refine (HP.out _ H.out (Nat.le_of_eq G.out.symm)).mono ?_
    rintro e w1 ⟨rfl, hK1⟩
    have HK := Lib.hid hK1; clear hK1
    go_wp2_with fail
    refine ⟨rfl, rfl, ?_⟩
    have := HK.out
    rw [← G.out] at this
    exact this.to_grown
  | ok oq =>
    obtain ⟨o1, q1⟩ := oq
    obtain ⟨hq1, hq2, hq3, hq4⟩ := run_ok hR1'
    have hq4 := hq4 (Nat.zero_le _)
    have HRQ : Hid (nm a.data.toList s.size k q1 p0 none o1 = R) := by show _ = _; rw [← nm_run hR1']; exact hR.out
    have hbt : Hid (bt s.data.toList q1 = bt a.data.toList q1) := by show _ = _; rw [hsa.out, bt_take hq2]
    have hp0' : p0 ≤ 1000000 := by omega
    have HQ := Lib.hid hq3
    clear hR1 hR1' hR hg hq3
    go_enter Try.func44, Try.ntmps44
    go_wp2_with fail
    refine (HP.out _ H.out (Nat.le_of_eq G.out.symm)).mono ?_
    rintro e w1 ⟨v1, rfl, hO1, hD1, hK1⟩
    rw [hbt.out] at hO1 ⊢
    have hB1 : g ≤ w1.heap.size := by have := hK1.size; have := G.out; omega
    obtain ⟨B, hB⟩ : ∃ B, w1.heap.size = B := ⟨_, rfl⟩
    have hc0 := hD1.c0
    have HA : Hid (RdrAt (w1.alloc (.cells #[.string ⟨#[]⟩, .string a, .int .i64 0, .int .i64 2] 56)) B ⟨#[]⟩ a 0 2) := by
      rw [← hB]; exact heap_alloc_new w1 _
    have HD1 : Hid (RdrAt (w1.alloc (.cells #[.string ⟨#[]⟩, .string a, .int .i64 0, .int .i64 2] 56)) r a s ((q1 + 1 : Nat) : Int) k) := hD1.held ((Below.refl _ _).alloc (Nat.le_refl _) _)
    have HO1 : Hid ((w1.alloc (.cells #[.string ⟨#[]⟩, .string a, .int .i64 0, .int .i64 2] 56)).ownsRow g 5 1 v1 (ended o1 (bt a.data.toList q1)).length (byteCells (ended o1 (bt a.data.toList q1)))) := hO1.alloc _
    have HK1 : Hid (Kept g r w (w1.alloc (.cells #[.string ⟨#[]⟩, .string a, .int .i64 0, .int .i64 2] 56))) := hK1.alloc hB1 _
    obtain ⟨c1, hc1⟩ : ∃ c, bt a.data.toList q1 = c := ⟨_, rfl⟩
    have HC1 := Lib.hid hc1
    have hc1l : c1 < 256 := by rw [← hc1]; exact bt_lt _ _
    rw [hc1] at HO1 HQ ⊢
    clear hO1 hD1 hK1 hc1
    have hne : r ≠ B := by omega
    have hgB : g ≤ B := by omega
    have HS1 : Hid (Sides (w1.alloc (.cells #[.string ⟨#[]⟩, .string a, .int .i64 0, .int .i64 2] 56)) r B r a s a s k k none) := .inl ⟨rfl, rfl, rfl, rfl, rfl, HA.out⟩
    clear HA
    go_wp2_with fail
    generalize w1.alloc (.cells #[.string ⟨#[]⟩, .string a, .int .i64 0, .int .i64 2] 56) = w2 at *
    clear hB hB1 hc0 HP H
    go_loopw [3, 4, 5, 7] (fun bg v la pp wr => ∃ (o : List UInt8) (q b c pb K : Nat) (ax sx : ByteArray) (next : Option Nat), bg = .int .i64 b ∧ la = .int .u32 c ∧ pp = .pointer (some ⟨pb, 0, none⟩) ∧ b ≤ 1000000 ∧ q < sx.size ∧ sx.size ≤ 1000000 ∧ c < 256 ∧ o.length ≤ 254 ∧ Hid (c = 0 ∨ 192 ≤ c) ∧ Hid (bt a.data.toList q = c) ∧
      Hid (wr.ownsRow g 5 1 v (ended o c).length (byteCells (ended o c))) ∧ Hid (RdrAt wr pb ax sx ((q + 1 : Nat) : Int) K) ∧ Hid (sx.data.toList = a.data.toList.take sx.size) ∧ Hid (nm a.data.toList sx.size K q b next o = R) ∧ Hid (Sides wr r B pb a s ax sx k K next) ∧ Hid (Kept g r w wr)) (fun bg _ _ _ _ => (intOf bg).toNat)
    case atStart => exact ⟨o1, q1, p0, c1, r, k, a, s, none, rfl, rfl, rfl, hp0', hq2, hs, hc1l, hq4, HQ, HC1, HO1, HD1, hsa, HRQ, HS1, HK1⟩
    case round =>
      obtain ⟨o, q, b, c, pb, K, ax, sx, next, rfl, rfl, rfl, hb, hq, hsx, hc, hol, hc2, hC, hO, hD, hX, hR, hS, hK⟩ := hrel
      by_cases h0 : c = 0
      · subst h0
        have hRe : Hid (R = .ok (o ++ [0], next.getD (q + 1))) := by show _ = _; rw [← hR.out]; exact nm_zero hq hC.out
        have hcv := convert_own hO.out
        have HE : Hid (RdrAt wr r a s ((next.getD (q + 1) : Nat) : Int) k ∧ w.grownBy wr (some r)) := by
          refine ⟨sides_now hS.out hD.out, ?_⟩
          have := hK.out
          rw [← G.out] at this
          exact this.to_grown
        go_wp2_with fail
        go_ret
        rw [hRe.out]
        exact ⟨rfl, HE.out.1, HE.out.2⟩
      · have hge : 192 ≤ c := hc2.out.resolve_left h0
        have hgei : (192 : Int) ≤ c := by omega
        by_cases hin : q + 2 ≤ sx.size
        · obtain ⟨y, hy⟩ : ∃ y, bt a.data.toList (q + 1) = y := ⟨_, rfl⟩
          have hyl : y < 256 := by rw [← hy]; exact bt_lt _ _
          have hbe : Hid (be ((sx.data.toList.drop (q + 1)).take 1) = y) := by
            show _ = _
            rw [be_bt (by rw [← Lib.size_eq]; omega), hX.out, bt_take (by omega)]
            exact hy
          obtain ⟨t, ht⟩ : ∃ t, place a.data.toList q = t := ⟨_, rfl⟩
          have htc : t = (c - 192) * 256 + y := by rw [← ht, ← hC.out, ← hy]; rfl
          have htl : t < 16384 := by omega
          have hor := or_place (c - 192) y (by omega) hyl
          rw [← htc, show (((c - 192) * 256 : Nat) : Int) = ((c : Int) - 192) * 256 by omega] at hor
          have HN := Lib.hid (number_yes ax sx pb (q + 1) 1 K y wr hD.out (by decide) (by decide) (by omega) hsx hbe)
          have HT := Lib.hid ht
          clear hbe hy htc ht
          by_cases hback : t < b
          · have hRb : nm a.data.toList a.size 2 t t (some (next.getD (q + 2))) o = R := by
              have := nm_back (b := b) (next := next) (o := o) (K := K) (by rw [hC.out]; exact hge) hin (by rw [HT.out]; exact hback)
              rw [HT.out, ← AZ.out, hR.out] at this
              exact this.symm
            have hbt : (t : Int) < (b : Int) := by omega
            obtain ⟨R2, hR2⟩ : ∃ R2, run a.data.toList a.size 2 t o = R2 := ⟨_, rfl⟩
            have HP2 := Lib.hid (fun w' (v : Value) (hv : w'.ownsRow g 5 1 v o.length (byteCells o)) (hd : RdrAt w' B ⟨#[]⟩ a t 2) (hgw : g ≤ w'.heap.size) => part_any ⟨#[]⟩ a B g 2 t v o R2 w' hd hv hgw ha (by omega) hol (Lib.hid hR2))
            have hO' : Hid (wr.ownsRow g 5 1 u4 o.length (byteCells o)) := by
              have := hO.out
              unfold ended at this
              rw [if_neg h0] at this
              exact this
            cases R2 with
            | error x =>
              have hRe : Hid (R = .error x) := by show _ = _; rw [← hRb]; exact nm_err hR2
              clear h0 hback hR2 hRb
              go_wp2_with fail
              refine HN.out.mono ?_
              rintro e w3 ⟨rfl, hD3, hG3⟩
              obtain ⟨hr3, z3, hz3⟩ := sides_on (z := q + 2) hS.out hne hG3 hD3
              have hcB := hz3.c2
              have hfB := hz3.f2 2
              have HK3 := Lib.hid (kept_side hS.out hK.out hG3 (by have := hK.out.size; have := G.out; omega) hgB)
              have HB4 : Hid (RdrAt (w3.setCell ⟨B, 2, none⟩ (.int .i64 t)) B ⟨#[]⟩ a t 2) := hz3.set t
              have HO4 : Hid ((w3.setCell ⟨B, 2, none⟩ (.int .i64 t)).ownsRow g 5 1 u4 o.length (byteCells o)) := own_rdr hz3 (own_rdr hD.out hO'.out hG3) (only_setCell (grown_refl _ _) (.inl rfl) _)
              have HK4 : Hid (Kept g r w (w3.setCell ⟨B, 2, none⟩ (.int .i64 t))) := HK3.out.setCell (.inr hgB) _
              clear hD3 hG3 hr3 hz3 HK3
              go_wp2_with fail
              refine (HP2.out _ u4 HO4.out HB4.out (by have := HK4.out.size; have := G.out; omega)).mono ?_
              rintro e w5 ⟨rfl, hK5⟩
              have HK5 : Hid (w.grownBy w5 (some r)) := by
                have := HK4.out.new hK5 hgB
                rw [← G.out] at this
                exact this.to_grown
              clear hK5
              go_wp2_with fail
              rw [hRe.out]
              exact ⟨rfl, rfl, HK5.out⟩
            | ok oq2 =>
              obtain ⟨o2, q2⟩ := oq2
              obtain ⟨hk1, hk2, hk3, hk4⟩ := run_ok hR2
              have hk4 := hk4 hol
              have HR2 : Hid (nm a.data.toList a.size 2 q2 t (some (next.getD (q + 2))) o2 = R) := by show _ = _; rw [← nm_run hR2]; exact hRb
              have HQ2 := Lib.hid hk3
              clear h0 hback hR2 hRb hk3
              go_wp2_with fail
              refine HN.out.mono ?_
              rintro e w3 ⟨rfl, hD3, hG3⟩
              obtain ⟨hr3, z3, hz3⟩ := sides_on (z := q + 2) hS.out hne hG3 hD3
              have hcB := hz3.c2
              have hfB := hz3.f2 2
              have HK3 := Lib.hid (kept_side hS.out hK.out hG3 (by have := hK.out.size; have := G.out; omega) hgB)
              have HB4 : Hid (RdrAt (w3.setCell ⟨B, 2, none⟩ (.int .i64 t)) B ⟨#[]⟩ a t 2) := hz3.set t
              have HO4 : Hid ((w3.setCell ⟨B, 2, none⟩ (.int .i64 t)).ownsRow g 5 1 u4 o.length (byteCells o)) := own_rdr hz3 (own_rdr hD.out hO'.out hG3) (only_setCell (grown_refl _ _) (.inl rfl) _)
              have HK4 : Hid (Kept g r w (w3.setCell ⟨B, 2, none⟩ (.int .i64 t))) := HK3.out.setCell (.inr hgB) _
              have HR4 : Hid (RdrAt (w3.setCell ⟨B, 2, none⟩ (.int .i64 t)) r a s ((next.getD (q + 2) : Nat) : Int) k) := hr3.far hne _
              clear hD3 hG3 hr3 hz3 HK3
              go_wp2_with fail
              refine (HP2.out _ u4 HO4.out HB4.out (by have := HK4.out.size; have := G.out; omega)).mono ?_
              rintro e w5 ⟨v5, rfl, hO5, hD5, hK5⟩
              have HK5 := Lib.hid (HK4.out.new hK5 hgB)
              have HR5 : Hid (RdrAt w5 r a s ((next.getD (q + 2) : Nat) : Int) k) := HR4.out.kept hK5 hrlt hne
              obtain ⟨c5, hc5⟩ : ∃ c, bt a.data.toList q2 = c := ⟨_, rfl⟩
              have hc5l : c5 < 256 := by rw [← hc5]; exact bt_lt _ _
              rw [hc5] at hO5 HQ2 ⊢
              have HO5 := Lib.hid hO5
              have HD5 := Lib.hid hD5
              have HC5 := Lib.hid hc5
              have HSX : Hid (a.data.toList = a.data.toList.take a.size) := by show _ = _; rw [AZ.out, List.take_length]
              clear hO5 hD5 hK5 hc5
              go_wp2_with fail
              go_roundw
              case rel => exact ⟨o2, q2, t, c5, B, 2, ⟨#[]⟩, a, some (next.getD (q + 2)), rfl, rfl, rfl, by omega, hk2, ha, hc5l, hk4, HQ2, HC5, HO5, HD5, HSX, HR2, .inr ⟨rfl, rfl, rfl, rfl, _, rfl, HR5.out⟩, HK5⟩
              case measure => simp [intOf]; omega
          · have hRe : Hid (R = .error 42) := by show _ = _; rw [← hR.out]; exact nm_ahead (by rw [hC.out]; exact hge) hin (by rw [HT.out]; omega)
            have hbt : (b : Int) ≤ (t : Int) := by omega
            clear h0 hback
            go_wp2_with fail
            refine HN.out.mono ?_
            rintro e w3 ⟨rfl, hD3, hG3⟩
            have HK3 : Hid (w.grownBy w3 (some r)) := by
              have := kept_side hS.out hK.out hG3 (by have := hK.out.size; have := G.out; omega) hgB
              rw [← G.out] at this
              exact this.to_grown
            clear hD3 hG3
            go_wp2_with fail
            rw [hRe.out]
            exact ⟨rfl, rfl, HK3.out⟩
        · have hRe : Hid (R = .error K) := by show _ = _; rw [← hR.out]; exact nm_cut hq (by rw [hC.out]; exact hge) (by omega)
          have hno : Hid (holdsB sx.size ((q + 1 : Nat) : Int) ((1 : Nat) : Int) = false) := holds_no (by omega)
          have HN := Lib.hid (number_no ax sx pb K ((q + 1 : Nat) : Int) 1 wr hD.out hsx (by decide) (by omega) (by omega) hno)
          have HK3 : Hid (w.grownBy wr (some r)) := by
            have := hK.out
            rw [← G.out] at this
            exact this.to_grown
          clear h0
          go_wp2_with fail
          refine HN.out.mono ?_
          rintro e w3 ⟨rfl, m, rfl⟩
          go_wp2_with fail
          rw [hRe.out]
          exact ⟨rfl, rfl, grown_drewN HK3.out m⟩
end Go.Proofs.Ytihkmdojakalbaa

/- The contracts of a message's reader: a question, several of them. For texts of at most 10^6 bytes. -/
namespace Go.Proofs.Ytihkmdojakalbaa
open Go.RowKit NumMath NmMath Bytes MsgMath

theorem info_qn : (Try.prog.info? 44).map (fun i => (i.zero, i.size, i.bytes)) = some (some (.agg #[.string ⟨#[]⟩, .int .u16 0, .int .u16 0]), 3, 24) := by kernel_rfl
/-- A question's cells. -/
def qnV (q : Qn) : List Value := [.string (mk q.name), .int .u16 q.kind, .int .u16 q.cls]
def qnCs (L : List Qn) : List Value := L.flatMap qnV
theorem qnCs_snoc (L : List Qn) (q : Qn) : qnCs (L ++ [q]) = qnCs L ++ qnV q := by unfold qnCs; rw [List.flatMap_append]; simp
/-- A question came back, or the reading gave up. -/
def QnEnd (w : World) (r : Nat) (s : ByteArray) : Except Nat (Qn × Nat) → Ending → World → Prop
  | .error x, e, w' => e = gave x ∧ w.grownBy w' (some r)
  | .ok (Q, q), e, w' => e = .returned (.agg #[.string (mk Q.name), .int .u16 Q.kind, .int .u16 Q.cls]) ∧ RdrAt w' r s s (q : Int) 2 ∧ w.grownBy w' (some r)
theorem held_grown {w w0 w' : World} {r : Nat} (hB : Below w.heap.size w w0) (hg : w0.grownBy w' (some r)) : w.grownBy w' (some r) := (Kept.to_grown ((Kept.refl _ _ _).below hB |>.grown hg hB.size))

set_option maxHeartbeats 2000000 in
set_option maxRecDepth 100000 in
theorem question_any (s : ByteArray) (r p : Nat) (R : Except Nat (Qn × Nat)) (w : World) (h : RdrAt w r s s p 2) (hs : s.size ≤ 1000000) (hp : p ≤ 9223372036854775807) (hR : Hid (qn s.data.toList p = R)) :
    Calls Try.prog 48 #[.pointer (some ⟨r, 0, none⟩)] w (QnEnd w r s R) := by
  have SZ := Lib.hid (Lib.size_eq s)
  have hrl := h.lt
  obtain ⟨N, hN⟩ : ∃ N, nm s.data.toList s.data.toList.length 2 p p none [] = N := ⟨_, rfl⟩
  obtain ⟨B, hB⟩ : ∃ B, w.heap.size = B := ⟨_, rfl⟩
  have hBl : Below B w (w.alloc (.cells #[.string ⟨#[]⟩, .int .u16 0, .int .u16 0] 44)) := (Below.refl _ _).alloc (by omega) _
  have hblk : (w.alloc (.cells #[.string ⟨#[]⟩, .int .u16 0, .int .u16 0] 44)).heap[B]? = some (.cells #[.string ⟨#[]⟩, .int .u16 0, .int .u16 0] 44 (0, 0)) := by rw [← hB]; exact heap_alloc_new w _
  have hsz : (w.alloc (.cells #[.string ⟨#[]⟩, .int .u16 0, .int .u16 0] 44)).heap.size = B + 1 := by simp [hB]
  have HN := Lib.hid (pointed_any s s r 2 p N _ (h.below hBl (by omega)) (nmAt_list rfl) hs hs hp (by (show _ = _; rw [SZ.out]; exact hN)))
  have HBK := Lib.hid hblk
  have HBL := Lib.hid hBl
  have hne : B ≠ r := by omega
  have HB := Lib.hid hB
  clear h hBl hblk
  cases N with
  | error x =>
    have hRe : Hid (R = .error x) := by show _ = _; rw [← hR.out]; exact qn_err hN
    clear hN hR
    go_enter Try.func48, Try.ntmps48
    go_wp2_with fail
    refine HN.out.mono ?_
    rintro e w1 ⟨rfl, hG⟩
    have HG := Lib.hid hG; clear hG
    go_wp2_with fail
    rw [hRe.out]
    refine ⟨rfl, rfl, held_grown ?_ HG.out⟩
    rw [HB.out]; exact HBL.out
  | ok oq =>
    obtain ⟨o, q⟩ := oq
    by_cases h4 : q + 4 ≤ s.size
    · have hRe : Hid (R = .ok (⟨o, nu s.data.toList q 2, nu s.data.toList (q + 2) 2⟩, q + 4)) := by show _ = _; rw [← hR.out]; exact qn_ok hN (by rw [← SZ.out]; exact h4)
      obtain ⟨x, hx⟩ : ∃ x, nu s.data.toList q 2 = x := ⟨_, rfl⟩
      obtain ⟨y, hy⟩ : ∃ y, nu s.data.toList (q + 2) 2 = y := ⟨_, rfl⟩
      have hxl : x < 65536 := by rw [← hx]; exact nu2_lt _ _
      have hyl : y < 65536 := by rw [← hy]; exact nu2_lt _ _
      have H1 := Lib.hid (fun w' (hd : RdrAt w' r s s (q : Int) 2) => number_yes s s r q 2 2 x w' hd (by decide) (by decide) (by omega) hs hx)
      have H2 := Lib.hid (fun w' (hd : RdrAt w' r s s ((q + 2 : Nat) : Int) 2) => number_yes s s r (q + 2) 2 2 y w' hd (by decide) (by decide) (by omega) hs hy)
      rw [hx, hy] at hRe
      clear hx hy hN hR
      go_enter Try.func48, Try.ntmps48
      go_wp2_with fail
      refine HN.out.mono ?_
      rintro e w1 ⟨rfl, hD1, hG1⟩
      have HD1 := Lib.hid hD1
      have HG1 := Lib.hid hG1
      clear hD1 hG1 HN
      go_wp2_with fail
      refine (H1.out _ HD1.out).mono ?_
      rintro e w2 ⟨rfl, hD2, hG2⟩
      have HD2 := Lib.hid hD2
      have HG2 := Lib.hid (grown_trans HG1.out hG2)
      clear hD2 hG2 H1
      go_wp2_with fail
      refine (H2.out _ HD2.out).mono ?_
      rintro e w3 ⟨rfl, hD3, hG3⟩
      have hG3' := grown_trans HG2.out hG3
      have hb3 : w3.heap[B]? = some (.cells #[.string ⟨#[]⟩, .int .u16 0, .int .u16 0] 44 (0, 0)) := (grown_block hG3' (by omega) hne).trans HBK.out
      have c0 := cell_of_row w3 B 0 _ _ _ hb3
      have c1 := cell_of_row w3 B 1 _ _ _ hb3
      have c2 := cell_of_row w3 B 2 _ _ _ hb3
      have z0 : ∀ i, w3.frozen? ⟨B, i, none⟩ = false := fun i => by simp [World.frozen?, hb3]
      have HE : Hid (RdrAt (((w3.setCell ⟨B, 0, none⟩ (.string (mk o))).setCell ⟨B, 1, none⟩ (.int .u16 x)).setCell ⟨B, 2, none⟩ (.int .u16 y)) r s s ((q + 4 : Nat) : Int) 2 ∧ w.grownBy (((w3.setCell ⟨B, 0, none⟩ (.string (mk o))).setCell ⟨B, 1, none⟩ (.int .u16 x)).setCell ⟨B, 2, none⟩ (.int .u16 y)) (some r)) := by
        refine ⟨((hD3.far (q := ⟨B, 0, none⟩) (fun e => hne e.symm) _).far (q := ⟨B, 1, none⟩) (fun e => hne e.symm) _).far (q := ⟨B, 2, none⟩) (fun e => hne e.symm) _, ?_⟩
        have := held_grown (by rw [HB.out]; exact HBL.out) hG3'
        exact only_setCell (only_setCell (only_setCell this (.inr (by rw [HB.out]; exact Nat.le_refl _)) _) (.inr (by rw [HB.out]; exact Nat.le_refl _)) _) (.inr (by rw [HB.out]; exact Nat.le_refl _)) _
      clear hD3 hG3 hG3' hb3
      go_wp2_with fail
      rw [hRe.out]
      refine bodyPost_ret (v := .agg #[.string (mk o), .int .u16 x, .int .u16 y]) (by simp [results, Try.results48, go_sem, c0, c1, c2]) rfl ⟨rfl, HE.out.1, HE.out.2⟩
    · have hRe : Hid (R = .error 2) := by show _ = _; rw [← hR.out]; exact qn_short hN (by rw [← SZ.out]; omega)
      by_cases h2 : q + 2 ≤ s.size
      · obtain ⟨x, hx⟩ : ∃ x, nu s.data.toList q 2 = x := ⟨_, rfl⟩
        have hxl : x < 65536 := by rw [← hx]; exact nu2_lt _ _
        have H1 := Lib.hid (fun w' (hd : RdrAt w' r s s (q : Int) 2) => number_yes s s r q 2 2 x w' hd (by decide) (by decide) (by omega) hs hx)
        have H2 := Lib.hid (fun w' (hd : RdrAt w' r s s ((q + 2 : Nat) : Int) 2) => number_no s s r 2 ((q + 2 : Nat) : Int) 2 w' hd hs (by decide) (by omega) (by omega) (holds_no (n := s.size) (p := q + 2) (m := 2) (by omega)))
        clear hx hN hR
        go_enter Try.func48, Try.ntmps48
        go_wp2_with fail
        refine HN.out.mono ?_
        rintro e w1 ⟨rfl, hD1, hG1⟩
        have HD1 := Lib.hid hD1
        have HG1 := Lib.hid hG1
        clear hD1 hG1 HN
        go_wp2_with fail
        refine (H1.out _ HD1.out).mono ?_
        rintro e w2 ⟨rfl, hD2, hG2⟩
        have HD2 := Lib.hid hD2
        have HG2 := Lib.hid (grown_trans HG1.out hG2)
        clear hD2 hG2 H1
        go_wp2_with fail
        refine (H2.out _ HD2.out).mono ?_
        rintro e w3 ⟨rfl, m, rfl⟩
        go_wp2_with fail
        rw [hRe.out]
        refine ⟨rfl, rfl, held_grown (by rw [HB.out]; exact HBL.out) (grown_drewN HG2.out m)⟩
      · have H1 := Lib.hid (fun w' (hd : RdrAt w' r s s (q : Int) 2) => number_no s s r 2 (q : Int) 2 w' hd hs (by decide) (by omega) (by have := nm_next (Nat.le_refl _) (fun x e => by cases e) hN; rw [← SZ.out] at this; omega) (holds_no (n := s.size) (p := q) (m := 2) (by omega)))
        clear hN hR
        go_enter Try.func48, Try.ntmps48
        go_wp2_with fail
        refine HN.out.mono ?_
        rintro e w1 ⟨rfl, hD1, hG1⟩
        have HD1 := Lib.hid hD1
        have HG1 := Lib.hid hG1
        clear hD1 hG1 HN
        go_wp2_with fail
        refine (H1.out _ HD1.out).mono ?_
        rintro e w3 ⟨rfl, m, rfl⟩
        go_wp2_with fail
        rw [hRe.out]
        refine ⟨rfl, rfl, held_grown (by rw [HB.out]; exact HBL.out) (grown_drewN HG1.out m)⟩
end Go.Proofs.Ytihkmdojakalbaa

/- The contract of several records, given that of one. For texts of at most 10^6 bytes. -/
namespace Go.Proofs.Ytihkmdojakalbaa
open Go.RowKit NumMath NmMath Bytes MsgMath RecMath

/-- A record came back, or the reading gave up. -/
def RecEnd (w : World) (r : Nat) (s : ByteArray) : Except Nat (Rec × Nat) → Ending → World → Prop
  | .error x, e, w' => e = gave x ∧ w.grownBy w' (some r)
  | .ok (R, q), e, w' => ∃ v1 v2 v3, e = .returned (.agg #[.string (mk R.name), .int .u16 R.kind, .int .u16 R.cls, .int .u32 R.ttl, v1, v2, v3]) ∧ RecIn w' w.heap.size R v1 v2 v3 ∧ RdrAt w' r s s (q : Int) 2 ∧ w.grownBy w' (some r)
/-- Several records came back, or the reading gave up. -/
def RecsEnd (w : World) (r : Nat) (s : ByteArray) : Except Nat (List Rec × Nat) → Ending → World → Prop
  | .error x, e, w' => e = gave x ∧ w.grownBy w' (some r)
  | .ok (L, q), e, w' => ∃ v, e = .returned v ∧ RowRecs w' w.heap.size v L ∧ RdrAt w' r s s (q : Int) 2 ∧ w.grownBy w' (some r)
/-- Each record is read so. -/
def RecReads (r : Nat) (s : ByteArray) (rec : Nat → Except Nat (Rec × Nat)) : Prop :=
  (∀ (w : World) (p : Nat), RdrAt w r s s p 2 → p ≤ 9223372036854775807 → Calls Try.prog 50 #[.pointer (some ⟨r, 0, none⟩)] w (RecEnd w r s (rec p))) ∧ ∀ p R q, rec p = .ok (R, q) → q ≤ s.size

set_option maxHeartbeats 2000000 in
set_option maxRecDepth 100000 in
theorem records_any (s : ByteArray) (r n p0 : Nat) (rec : Nat → Except Nat (Rec × Nat)) (R : Except Nat (List Rec × Nat)) (w : World) (h : RdrAt w r s s p0 2) (hp0 : p0 ≤ 9223372036854775807) (hs : s.size ≤ 1000000) (hn : n ≤ 1000000) (hrec : Hid (0 < n → RecReads r s rec)) (hR : Hid (many rec n p0 = R)) :
    Calls Try.prog 49 #[.int .i64 n, .func (.func 50) #[.pointer (some ⟨r, 0, none⟩)] #[]] w (RecsEnd w r s R) := by
  have hrl := h.lt
  have H := Lib.hid h; clear h
  obtain ⟨g, hg⟩ : ∃ g, w.heap.size = g := ⟨_, rfl⟩
  have G := Lib.hid hg
  rw [hg] at hrl
  obtain ⟨i0, hi, hz0, hz1, hz2⟩ := info_parts info_rec
  have HI := Lib.hid hi; clear hi
  have HZ0 := Lib.hid hz0; clear hz0
  have HZ1 := Lib.hid hz1; clear hz1
  have HZ2 := Lib.hid hz2; clear hz2
  have HR0 : Hid (more rec [] n p0 = R) := by show _ = _; rw [more_none]; exact hR.out
  clear hg hR
  go_enter Try.func49, Try.ntmps49
  go_wp2_with fail
  go_loopw [5, 7] (fun v i wr => ∃ (j p : Nat) (L : List Rec), i = .int .i64 j ∧ j ≤ n ∧ p ≤ 9223372036854775807 ∧ Hid (RowRecs wr g v L) ∧ Hid (L.length = j) ∧ Hid (RdrAt wr r s s p 2) ∧ Hid (more rec L (n - j) p = R) ∧ Hid (Kept g r w wr)) (fun _ i _ => n - (intOf i).toNat)
  case atStart => exact ⟨0, p0, [], rfl, Nat.zero_le _, hp0, RowRecs.nil _ _, rfl, H, HR0, Kept.refl _ _ _⟩
  case round =>
    obtain ⟨j, p, L, rfl, hj, hp, hO, hL, hD, hR, hK⟩ := hrel
    have hgw : Hid (g ≤ wr.heap.size) := by have := hK.out.size; rw [G.out] at this; exact this
    by_cases hlt : j < n
    · obtain ⟨hrec1, hrec2⟩ := hrec.out (by omega)
      obtain ⟨Q1, hQ1⟩ : ∃ Q1, rec p = Q1 := ⟨_, rfl⟩
      have HQ := Lib.hid (hrec1 wr p hD.out hp)
      rw [hQ1] at HQ
      obtain ⟨m, hm⟩ : ∃ m, n - j = m + 1 := ⟨n - j - 1, by omega⟩
      cases Q1 with
      | error x =>
        have hRe : Hid (R = .error x) := by show _ = _; rw [← hR.out, hm]; exact more_err hQ1
        clear hm hQ1 hrec1 hrec2
        go_wp2_with fail
        refine HQ.out.mono ?_
        rintro e w1 ⟨rfl, hG1⟩
        have HE : Hid (w.grownBy w1 (some r)) := by
          have := hK.out.grown hG1 hgw.out
          rw [← G.out] at this
          exact this.to_grown
        clear hG1
        go_wp2_with fail
        rw [hRe.out]
        exact ⟨rfl, rfl, HE.out⟩
      | ok Qq =>
        obtain ⟨Q, q⟩ := Qq
        have hql : q ≤ 1000000 := by have := hrec2 p Q q hQ1; omega
        have hRm : Hid (more rec (L ++ [Q]) (n - (j + 1)) q = R) := by show _ = _; rw [← hR.out, hm, more_one hQ1]; congr 1; omega
        clear hm hQ1 hrec1 hrec2
        go_wp2_with fail
        refine HQ.out.mono ?_
        rintro e w1 ⟨v1, v2, v3, rfl, hI1, hD1, hG1⟩
        obtain ⟨Z, hZ1, hZ2, hZ3⟩ := hO.out.rdr hD.out hG1
        rw [hL.out] at hZ2
        have hO1 := Lib.hid hZ2
        have hOW := Lib.hid (hO.out.rdr hD.out hG1)
        have hIL := Lib.hid (hI1.low hgw.out)
        have hK1 := Lib.hid (hK.out.grown hG1 hgw.out)
        have hg1 : Hid (g ≤ w1.heap.size) := Nat.le_trans hgw.out hG1.size
        have HD1 := Lib.hid hD1
        have HZA := Lib.hid hZ1
        have HZB := Lib.hid hZ3
        clear hD1 hG1 hO hD hK HQ hI1 hZ1 hZ2 hZ3
        go_wp2_with (at_builtin; refine wpList_append_own _ rfl _ _ 25 rfl g 49 i0 (.agg #[.string ⟨#[]⟩, .int .u16 0, .int .u16 0, .int .u32 0, .slice none 0 0, .slice none 0 0, .slice none 0 0]) 7 96 Try.underlying25 HI.out HZ0.out HZ1.out HZ2.out rfl (by decide) _ _ _ rfl (hO1.out.alloc _) ⟨w1.heap.size, 0, none⟩ 1 1 (recV Q v1 v2 v3) rfl rfl ?c1 ?c2 ?c3 ?c4 ?c5 ?_)
        case c1 =>
          intro j u hj
          match j, hj with
          | 0, hj => simp [recV] at hj; subst hj; simp [Addr.add]
          | 1, hj => simp [recV] at hj; subst hj; simp [Addr.add]
          | 2, hj => simp [recV] at hj; subst hj; simp [Addr.add]
          | 3, hj => simp [recV] at hj; subst hj; simp [Addr.add]
          | 4, hj => simp [recV] at hj; subst hj; simp [Addr.add]
          | 5, hj => simp [recV] at hj; subst hj; simp [Addr.add]
          | 6, hj => simp [recV] at hj; subst hj; simp [Addr.add]
        case c2 =>
          intro u hu
          have e1 := own_one hIL.out.o1
          have e2 := own_one hIL.out.o2
          have e3 := own_one hIL.out.o3
          simp [recV] at hu
          rcases hu with rfl | rfl | rfl | rfl | rfl | rfl | rfl <;> first | rfl | assumption
        case c3 => unfold maxLen; omega
        case c4 => omega
        case c5 => have := hg1.out; simp; omega
        intro v' w2 hown hgrow _
        have E1 : Hid (RowRecs w2 g v' (L ++ [Q])) := by
          refine hOW.out.snoc hIL.out Z HZA.out (by rw [hL.out]; exact hO1.out) HZB.out ?_ hgrow
          rw [hL.out]
          exact hown
        have E2 := Lib.hid (rdr_row HD1.out hO1.out ((Below.refl _ _).alloc (Nat.le_refl _) _) hgrow (by decide))
        have E3 := Lib.hid ((hK1.out.alloc hg1.out _).own hgrow (by have := hg1.out; simp; omega) (fun k hk => (hO1.out.lt k hk).1))
        clear hown hgrow hO1 HD1 hK1
        go_wp2_with fail
        go_roundw
        case rel => exact ⟨j + 1, q, L ++ [Q], by go_num, by omega, by omega, E1, by (show _ = _; rw [List.length_append, hL.out]; rfl), E2, hRm, E3⟩
        case measure => simp [intOf]; omega
    · have hjn : j = n := by omega
      have hRe : Hid (R = .ok (L, p)) := by show _ = _; rw [← hR.out, show n - j = 0 by omega]; exact more_end _ _ _
      have HE : Hid (w.grownBy wr (some r)) := by
        have := hK.out
        rw [← G.out] at this
        exact this.to_grown
      clear hjn
      go_wp2_with fail
      go_ret
      rw [hRe.out]
      refine ⟨_, rfl, ?_, hD.out, HE.out⟩
      rw [G.out]
      exact hO.out
end Go.Proofs.Ytihkmdojakalbaa

/- The contract of dnsread's caught: the error that a reading gave up with, or none. No condition. -/
namespace Go.Proofs.Ytihkmdojakalbaa
open Go.RowKit

theorem assert_hit (v : Value) (w : World) : (Instr.typeAssert (.iface 28 v) 20 28 false).run Try.prog w = .ok v w := by kernel_rfl

theorem catch_panicking (q : Addr) (k : Nat) (x : Value) (w : World) (hc : w.cell? q = some x) (hz : w.frozen? q = false) :
    CallsD Try.prog 45 #[.pointer (some q)] (.panicking [{ v := .iface 28 (.int .i64 k), recovered := false }]) w fun e u' w' =>
      e = .returned (.tuple #[]) ∧ u' = .panicking [{ v := .iface 28 (.int .i64 k), recovered := true }] ∧ w' = w.setCell q (.int .i64 k) := by
  refine callsD_of_wpS Try.func45 rfl fun c₀ cs hu => ?_
  apply wpS_seq
  apply wpS_region
  simp [wpOpsS, go_sem, recoverD, hu, Try.ntmps45, Exit.thenS]
  apply wpS_seq
  apply wpS_region
  simp [wpOpsS, go_sem, Exit.thenS]
  refine wpS_cond (t := true) rfl ?_
  simp only [if_true]
  apply wpS_region
  simp [wpOpsS, go_sem, assert_hit, hc, hz, bodyPostS, results, Try.results45]

theorem catch_idle (q : Addr) (w : World) :
    CallsD Try.prog 45 #[.pointer (some q)] .returning w fun e u' w' => e = .returned (.tuple #[]) ∧ u' = .returning ∧ w' = w := by
  refine callsD_of_wpS Try.func45 rfl fun c₀ cs hu => ?_
  apply wpS_seq
  apply wpS_region
  simp [wpOpsS, go_sem, recoverD, hu, Try.ntmps45, Exit.thenS]
  apply wpS_seq
  apply wpS_region
  simp [wpOpsS, go_sem, Exit.thenS]
  refine wpS_cond (t := false) rfl ?_
  apply wpS_of_wp
  go_wp2_with fail
  simp [bodyPostS, results, Try.results45]
  cases c₀
  simp at hu
  subst hu
  rfl

theorem caught_noName (k : Nat) (cap : Array Value) (Q : World → Prop) (w : World)
    (hc : Calls Try.prog 43 cap (w.alloc (.cells #[.int .i64 0] 28)) fun e w' => e = gave k ∧ w'.heap[w.heap.size]? = some (.cells #[.int .i64 0] 28 (0, 0)) ∧ Q w') :
    Calls Try.prog 22 #[.func (.func 43) #[] cap] w fun e w' => e = .returned (.int .i64 k) ∧ ∃ w1, Q w1 ∧ w' = w1.setCell ⟨w.heap.size, 0, none⟩ (.int .i64 k) := by
  have hmf : ∀ (fn : Fn) (first cap : Array Value) (w : World), (Instr.makeFunc fn first cap).run Try.prog w = .ok (.func fn first cap) w := fun _ _ _ _ => rfl
  have HC := Lib.hid hc; clear hc
  go_enter_defers Try.func22, Try.ntmps22
  go_wp2_with fail
  refine HC.out.mono ?_
  rintro e w1 ⟨rfl, hblk, hQ⟩
  have hcb := cell_of_row w1 _ 0 _ _ _ hblk
  have hzb : w1.frozen? ⟨w.heap.size, 0, none⟩ = false := by simp [World.frozen?, hblk]
  have HQ := Lib.hid hQ; clear hQ hblk
  go_wp2_with fail
  refine leaves_cons (f := 45) (args := #[.pointer (some ⟨w.heap.size, 0, none⟩)]) (by simp) (by simp [go_sem]) ?_
  refine (catch_panicking ⟨w.heap.size, 0, none⟩ k _ _ hcb hzb).mono ?_
  rintro e u' w'' ⟨rfl, rfl, rfl⟩
  simp [Leaves, settle, results, Try.results22, go_sem, hcb]
  exact ⟨w1, HQ.out, rfl⟩

theorem caught_yesName (cap : Array Value) (Q : World → Prop) (w : World)
    (hc : Calls Try.prog 43 cap (w.alloc (.cells #[.int .i64 0] 28)) fun e w' => e = .returned (.tuple #[]) ∧ w'.heap[w.heap.size]? = some (.cells #[.int .i64 0] 28 (0, 0)) ∧ Q w') :
    Calls Try.prog 22 #[.func (.func 43) #[] cap] w fun e w' => e = .returned (.int .i64 0) ∧ ∃ w1, Q w1 ∧ w' = w1.setCell ⟨w.heap.size, 0, none⟩ (.int .i64 0) := by
  have hmf : ∀ (fn : Fn) (first cap : Array Value) (w : World), (Instr.makeFunc fn first cap).run Try.prog w = .ok (.func fn first cap) w := fun _ _ _ _ => rfl
  have HC := Lib.hid hc; clear hc
  go_enter_defers Try.func22, Try.ntmps22
  go_wp2_with fail
  refine HC.out.mono ?_
  rintro e w1 ⟨rfl, hblk, hQ⟩
  have hcb := cell_of_row w1 _ 0 _ _ _ hblk
  have hzb : w1.frozen? ⟨w.heap.size, 0, none⟩ = false := by simp [World.frozen?, hblk]
  have HQ := Lib.hid hQ; clear hQ hblk
  go_wp2_with fail
  refine leaves_cons (f := 45) (args := #[.pointer (some ⟨w.heap.size, 0, none⟩)]) (by simp) (by simp [go_sem]) ?_
  refine (catch_idle ⟨w.heap.size, 0, none⟩ _).mono ?_
  rintro e u' w'' ⟨rfl, rfl, rfl⟩
  simp [Leaves, settle, results, Try.results22, go_sem, hcb]
  exact ⟨w1, HQ.out, rfl⟩
theorem caught_noRead (k : Nat) (cap : Array Value) (Q : World → Prop) (w : World)
    (hc : Calls Try.prog 23 cap (w.alloc (.cells #[.int .i64 0] 28)) fun e w' => e = gave k ∧ w'.heap[w.heap.size]? = some (.cells #[.int .i64 0] 28 (0, 0)) ∧ Q w') :
    Calls Try.prog 22 #[.func (.func 23) #[] cap] w fun e w' => e = .returned (.int .i64 k) ∧ ∃ w1, Q w1 ∧ w' = w1.setCell ⟨w.heap.size, 0, none⟩ (.int .i64 k) := by
  have hmf : ∀ (fn : Fn) (first cap : Array Value) (w : World), (Instr.makeFunc fn first cap).run Try.prog w = .ok (.func fn first cap) w := fun _ _ _ _ => rfl
  have HC := Lib.hid hc; clear hc
  go_enter_defers Try.func22, Try.ntmps22
  go_wp2_with fail
  refine HC.out.mono ?_
  rintro e w1 ⟨rfl, hblk, hQ⟩
  have hcb := cell_of_row w1 _ 0 _ _ _ hblk
  have hzb : w1.frozen? ⟨w.heap.size, 0, none⟩ = false := by simp [World.frozen?, hblk]
  have HQ := Lib.hid hQ; clear hQ hblk
  go_wp2_with fail
  refine leaves_cons (f := 45) (args := #[.pointer (some ⟨w.heap.size, 0, none⟩)]) (by simp) (by simp [go_sem]) ?_
  refine (catch_panicking ⟨w.heap.size, 0, none⟩ k _ _ hcb hzb).mono ?_
  rintro e u' w'' ⟨rfl, rfl, rfl⟩
  simp [Leaves, settle, results, Try.results22, go_sem, hcb]
  exact ⟨w1, HQ.out, rfl⟩

theorem caught_yesRead (cap : Array Value) (Q : World → Prop) (w : World)
    (hc : Calls Try.prog 23 cap (w.alloc (.cells #[.int .i64 0] 28)) fun e w' => e = .returned (.tuple #[]) ∧ w'.heap[w.heap.size]? = some (.cells #[.int .i64 0] 28 (0, 0)) ∧ Q w') :
    Calls Try.prog 22 #[.func (.func 23) #[] cap] w fun e w' => e = .returned (.int .i64 0) ∧ ∃ w1, Q w1 ∧ w' = w1.setCell ⟨w.heap.size, 0, none⟩ (.int .i64 0) := by
  have hmf : ∀ (fn : Fn) (first cap : Array Value) (w : World), (Instr.makeFunc fn first cap).run Try.prog w = .ok (.func fn first cap) w := fun _ _ _ _ => rfl
  have HC := Lib.hid hc; clear hc
  go_enter_defers Try.func22, Try.ntmps22
  go_wp2_with fail
  refine HC.out.mono ?_
  rintro e w1 ⟨rfl, hblk, hQ⟩
  have hcb := cell_of_row w1 _ 0 _ _ _ hblk
  have hzb : w1.frozen? ⟨w.heap.size, 0, none⟩ = false := by simp [World.frozen?, hblk]
  have HQ := Lib.hid hQ; clear hQ hblk
  go_wp2_with fail
  refine leaves_cons (f := 45) (args := #[.pointer (some ⟨w.heap.size, 0, none⟩)]) (by simp) (by simp [go_sem]) ?_
  refine (catch_idle ⟨w.heap.size, 0, none⟩ _).mono ?_
  rintro e u' w'' ⟨rfl, rfl, rfl⟩
  simp [Leaves, settle, results, Try.results22, go_sem, hcb]
  exact ⟨w1, HQ.out, rfl⟩
end Go.Proofs.Ytihkmdojakalbaa
