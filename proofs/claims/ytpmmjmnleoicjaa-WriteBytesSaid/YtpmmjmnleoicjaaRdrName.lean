/- The contract of a message's reader: a name that pointers may lead on. For texts of at most 10^6 bytes. -/
import Derived.Test.YtpmmjmnleoicjaaProg
import Derived.Test.YtpmmjmnleoicjaaBytes
import Derived.Test.YtpmmjmnleoicjaaNmMath
import Derived.Test.YtpmmjmnleoicjaaKept
import Derived.Test.YtpmmjmnleoicjaaRdr
import Derived.Test.YtpmmjmnleoicjaaRdrText
import Derived.Test.YtpmmjmnleoicjaaRdrPart
import Derived.WalkKit
import Derived.Lib.Hide
import Derived.Laws.Rows
import Derived.Outline
import Derived.IntWalk
import Derived.WalkSpells
import Derived.WalkLawsBesides
namespace Go.Proofs.Ytpmmjmnleoicjaa
open Go.RowKit NumMath NmMath Bytes

theorem bt_take {l : List UInt8} {E p : Nat} (h : p < E) : bt (l.take E) p = bt l p := by
  unfold bt
  rw [List.getD_eq_getElem?_getD, List.getElem?_take_of_lt h, ← List.getD_eq_getElem?_getD]
theorem cut_take {l : List UInt8} {E p n : Nat} (h : p + n ≤ E) : cut (l.take E) p n = cut l p n := by
  unfold cut
  rw [List.drop_take, List.take_take, Nat.min_eq_left (by omega)]
theorem run_take {l : List UInt8} {E K p : Nat} {o : List UInt8} : run (l.take E) E K p o = run l E K p o := by
  fun_induction run l E K p o with
  | case1 p o h h0 => exact run_end h (by rw [bt_take h]; exact h0)
  | case2 p o h h0 h1 => exact run_label h (by rw [bt_take h]; exact h1) (by rw [bt_take h]; omega)
  | case3 p o h h0 h1 h2 h3 => exact run_long (by rw [bt_take h]; omega) (by rw [bt_take h]; omega) (by rw [bt_take h]; omega) (by rw [bt_take h]; omega)
  | case4 p o h h0 h1 h2 h3 ih => rw [run_more (by rw [bt_take h]; omega) (by rw [bt_take h]; omega) (by rw [bt_take h]; omega) (by rw [bt_take h]; omega), bt_take h, cut_take (by omega), ih]
  | case5 p o h h0 h1 h2 => exact run_short h (by rw [bt_take h]; omega) (by rw [bt_take h]; omega)
  | case6 p o h => exact run_lack (by omega)
theorem or_place (m y : Nat) (hm : m < 64) (hy : y < 256) : bits .or .u32 ((m * 256 : Nat) : Int) (y : Int) = ((m * 256 + y : Nat) : Int) := by
  have e1 : (BitVec.ofInt 32 ((m * 256 : Nat) : Int)).toNat = m * 256 := by rw [BitVec.ofInt_natCast, BitVec.toNat_ofNat]; omega
  have e2 : (BitVec.ofInt 32 (y : Int)).toNat = y := by rw [BitVec.ofInt_natCast, BitVec.toNat_ofNat]; omega
  show IntKind.u32.wrap ((BitVec.ofInt 32 ((m * 256 : Nat) : Int) ||| BitVec.ofInt 32 (y : Int)).toNat : Int) = _
  have h := Nat.shiftLeft_add_eq_or_of_lt (i := 8) (b := y) (by omega) m
  rw [Nat.shiftLeft_eq] at h
  have e3 : m * 256 ||| y = m * 256 + y := h.symm
  rw [BitVec.toNat_or, e1, e2, e3, IntKind.wrap_u32]
  omega

/-- A name came back, or the reading gave up. -/
def NmEnd (w : World) (r : Nat) (a s : ByteArray) (k : Nat) : Except Nat (List UInt8 × Nat) → Ending → World → Prop
  | .error x, e, w' => e = gave x ∧ w.grownBy w' (some r)
  | .ok (o, n), e, w' => e = .returned (.string (mk o)) ∧ RdrAt w' r a s (n : Int) k ∧ w.grownBy w' (some r)
/-- Of the two readers the one reads, the other stands. -/
def Sides (W : World) (r B pb : Nat) (a s ax sx : ByteArray) (k K : Nat) (next : Option Nat) : Prop :=
  (pb = r ∧ next = none ∧ ax = a ∧ sx = s ∧ K = k ∧ RdrAt W B ⟨#[]⟩ a 0 2) ∨ (pb = B ∧ ax = ⟨#[]⟩ ∧ sx = a ∧ K = 2 ∧ ∃ nx : Nat, next = some nx ∧ RdrAt W r a s (nx : Int) k)
theorem sides_on {W W' : World} {r B pb : Nat} {a s ax sx : ByteArray} {k K z : Nat} {next : Option Nat} (h : Sides W r B pb a s ax sx k K next) (hne : r ≠ B) (hg : W.grownBy W' (some pb)) (hd : RdrAt W' pb ax sx (z : Int) K) :
    RdrAt W' r a s ((next.getD z : Nat) : Int) k ∧ ∃ z : Int, RdrAt W' B ⟨#[]⟩ a z 2 := by
  rcases h with ⟨rfl, rfl, rfl, rfl, rfl, h6⟩ | ⟨rfl, rfl, rfl, rfl, nx, rfl, h6⟩
  · exact ⟨hd, _, h6.other hg (fun e => hne e.symm)⟩
  · exact ⟨h6.other hg hne, _, hd⟩
theorem sides_now {W : World} {r B pb : Nat} {a s ax sx : ByteArray} {k K z : Nat} {next : Option Nat} (h : Sides W r B pb a s ax sx k K next) (hd : RdrAt W pb ax sx (z : Int) K) : RdrAt W r a s ((next.getD z : Nat) : Int) k := by
  rcases h with ⟨rfl, rfl, rfl, rfl, rfl, h6⟩ | ⟨rfl, rfl, rfl, rfl, nx, rfl, h6⟩
  · exact hd
  · exact h6

theorem kept_side {w W W' : World} {r B pb g : Nat} {a s ax sx : ByteArray} {k K : Nat} {next : Option Nat} (h : Sides W r B pb a s ax sx k K next) (hk : Kept g r w W) (hg : W.grownBy W' (some pb)) (h1 : g ≤ W.heap.size) (h2 : g ≤ B) : Kept g r w W' := by
  rcases h with ⟨rfl, rfl, rfl, rfl, rfl, h6⟩ | ⟨rfl, rfl, rfl, rfl, nx, rfl, h6⟩
  · exact hk.grown hg h1
  · exact hk.own hg h1 (fun k e => by injection e with e; omega)

set_option maxHeartbeats 4000000 in
set_option maxRecDepth 100000 in
theorem pointed_any (a s : ByteArray) (r k p0 : Nat) (R : Except Nat (List UInt8 × Nat)) (w : World) (h : RdrAt w r a s p0 k) (hsa : Hid (s.data.toList = a.data.toList.take s.size)) (ha : a.size ≤ 1000000) (hs : s.size ≤ 1000000)
    (hp0 : p0 ≤ 9223372036854775807) (hR : Hid (nm a.data.toList s.size k p0 p0 none [] = R)) :
    Calls Try.prog 121 #[.pointer (some ⟨r, 0, none⟩)] w (NmEnd w r a s k R) := by
  have AZ := Lib.hid (Lib.size_eq a)
  have hrlt := h.lt
  have hc0 := h.c0
  have hc2 := h.c2
  have H := Lib.hid h; clear h
  obtain ⟨g, hg⟩ : ∃ g, w.heap.size = g := ⟨_, rfl⟩
  have G := Lib.hid hg
  rw [hg] at hrlt
  obtain ⟨R1, hR1⟩ : ∃ R1, run s.data.toList s.size k p0 [] = R1 := ⟨_, rfl⟩
  have hR1' : run a.data.toList s.size k p0 [] = R1 := by rw [← hR1, hsa.out, run_take]
  have HP := Lib.hid (fun w' (hd : RdrAt w' r a s p0 k) (hgw : g ≤ w'.heap.size) => part_any a s r g k p0 (.slice none 0 0) [] R1 w' hd (World.ownsRow_nil _ _ _ _) hgw hs hp0 (Nat.zero_le _) (Lib.hid hR1))
  cases R1 with
  | error x =>
    have hRe : R = .error x := by rw [← hR.out]; exact nm_err hR1'
    clear hR1 hR1' hR hg
    go_enter Try.func121, Try.ntmps121
    go_wp2_with fail
    refine (HP.out _ H.out (Nat.le_of_eq G.out.symm)).mono ?_
    rintro e w1 ⟨rfl, hK1⟩
    have HK := Lib.hid hK1; clear hK1
    go_wp2_with fail
    refine ⟨rfl, rfl, ?_⟩
    have := HK.out
    rw [← G.out] at this
    exact this.to_grown
  | ok oq =>
    obtain ⟨o1, q1⟩ := oq
    obtain ⟨hq1, hq2, hq3, hq4⟩ := run_ok hR1'
    have hq4 := hq4 (Nat.zero_le _)
    have HRQ : Hid (nm a.data.toList s.size k q1 p0 none o1 = R) := by show _ = _; rw [← nm_run hR1']; exact hR.out
    have hbt : Hid (bt s.data.toList q1 = bt a.data.toList q1) := by show _ = _; rw [hsa.out, bt_take hq2]
    have hp0' : p0 ≤ 1000000 := by omega
    have HQ := Lib.hid hq3
    clear hR1 hR1' hR hg hq3
    go_enter Try.func121, Try.ntmps121
    go_wp2_with fail
    refine (HP.out _ H.out (Nat.le_of_eq G.out.symm)).mono ?_
    rintro e w1 ⟨v1, rfl, hO1, hD1, hK1⟩
    rw [hbt.out] at hO1 ⊢
    have hB1 : g ≤ w1.heap.size := by have := hK1.size; have := G.out; omega
    obtain ⟨B, hB⟩ : ∃ B, w1.heap.size = B := ⟨_, rfl⟩
    have hc0 := hD1.c0
    have HA : Hid (RdrAt (w1.alloc (.cells #[.string ⟨#[]⟩, .string a, .int .i64 0, .int .i64 2] 91)) B ⟨#[]⟩ a 0 2) := by
      rw [← hB]; exact heap_alloc_new w1 _
    have HD1 : Hid (RdrAt (w1.alloc (.cells #[.string ⟨#[]⟩, .string a, .int .i64 0, .int .i64 2] 91)) r a s ((q1 + 1 : Nat) : Int) k) := hD1.held ((Below.refl _ _).alloc (Nat.le_refl _) _)
    have HO1 : Hid ((w1.alloc (.cells #[.string ⟨#[]⟩, .string a, .int .i64 0, .int .i64 2] 91)).ownsRow g 5 1 v1 (ended o1 (bt a.data.toList q1)).length (byteCells (ended o1 (bt a.data.toList q1)))) := hO1.alloc _
    have HK1 : Hid (Kept g r w (w1.alloc (.cells #[.string ⟨#[]⟩, .string a, .int .i64 0, .int .i64 2] 91))) := hK1.alloc hB1 _
    obtain ⟨c1, hc1⟩ : ∃ c, bt a.data.toList q1 = c := ⟨_, rfl⟩
    have HC1 := Lib.hid hc1
    have hc1l : c1 < 256 := by rw [← hc1]; exact bt_lt _ _
    rw [hc1] at HO1 HQ ⊢
    clear hO1 hD1 hK1 hc1
    have hne : r ≠ B := by omega
    have hgB : g ≤ B := by omega
    have HS1 : Hid (Sides (w1.alloc (.cells #[.string ⟨#[]⟩, .string a, .int .i64 0, .int .i64 2] 91)) r B r a s a s k k none) := .inl ⟨rfl, rfl, rfl, rfl, rfl, HA.out⟩
    clear HA
    go_wp2_with fail
    generalize w1.alloc (.cells #[.string ⟨#[]⟩, .string a, .int .i64 0, .int .i64 2] 91) = w2 at *
    clear hB hB1 hc0 HP H
    go_loopw [3, 4, 5, 7] (fun bg v la pp wr => ∃ (o : List UInt8) (q b c pb K : Nat) (ax sx : ByteArray) (next : Option Nat), bg = .int .i64 b ∧ la = .int .u32 c ∧ pp = .pointer (some ⟨pb, 0, none⟩) ∧ b ≤ 1000000 ∧ q < sx.size ∧ sx.size ≤ 1000000 ∧ c < 256 ∧ o.length ≤ 254 ∧ Hid (c = 0 ∨ 192 ≤ c) ∧ Hid (bt a.data.toList q = c) ∧
      Hid (wr.ownsRow g 5 1 v (ended o c).length (byteCells (ended o c))) ∧ Hid (RdrAt wr pb ax sx ((q + 1 : Nat) : Int) K) ∧ Hid (sx.data.toList = a.data.toList.take sx.size) ∧ Hid (nm a.data.toList sx.size K q b next o = R) ∧ Hid (Sides wr r B pb a s ax sx k K next) ∧ Hid (Kept g r w wr)) (fun bg _ _ _ _ => (intOf bg).toNat)
    case atStart => exact ⟨o1, q1, p0, c1, r, k, a, s, none, rfl, rfl, rfl, hp0', hq2, hs, hc1l, hq4, HQ, HC1, HO1, HD1, hsa, HRQ, HS1, HK1⟩
    case round =>
      obtain ⟨o, q, b, c, pb, K, ax, sx, next, rfl, rfl, rfl, hb, hq, hsx, hc, hol, hc2, hC, hO, hD, hX, hR, hS, hK⟩ := hrel
      by_cases h0 : c = 0
      · subst h0
        have hRe : Hid (R = .ok (o ++ [0], next.getD (q + 1))) := by show _ = _; rw [← hR.out]; exact nm_zero hq hC.out
        have hcv := convert_own hO.out
        have HE : Hid (RdrAt wr r a s ((next.getD (q + 1) : Nat) : Int) k ∧ w.grownBy wr (some r)) := by
          refine ⟨sides_now hS.out hD.out, ?_⟩
          have := hK.out
          rw [← G.out] at this
          exact this.to_grown
        go_wp2_with fail
        go_ret
        rw [hRe.out]
        exact ⟨rfl, HE.out.1, HE.out.2⟩
      · have hge : 192 ≤ c := hc2.out.resolve_left h0
        have hgei : (192 : Int) ≤ c := by omega
        by_cases hin : q + 2 ≤ sx.size
        · obtain ⟨y, hy⟩ : ∃ y, bt a.data.toList (q + 1) = y := ⟨_, rfl⟩
          have hyl : y < 256 := by rw [← hy]; exact bt_lt _ _
          have hbe : Hid (be ((sx.data.toList.drop (q + 1)).take 1) = y) := by
            show _ = _
            rw [be_bt (by rw [← Lib.size_eq]; omega), hX.out, bt_take (by omega)]
            exact hy
          obtain ⟨t, ht⟩ : ∃ t, place a.data.toList q = t := ⟨_, rfl⟩
          have htc : t = (c - 192) * 256 + y := by rw [← ht, ← hC.out, ← hy]; rfl
          have htl : t < 16384 := by omega
          have hor := or_place (c - 192) y (by omega) hyl
          rw [← htc, show (((c - 192) * 256 : Nat) : Int) = ((c : Int) - 192) * 256 by omega] at hor
          have HN := Lib.hid (number_yes ax sx pb (q + 1) 1 K y wr hD.out (by decide) (by decide) (by omega) hsx hbe)
          have HT := Lib.hid ht
          clear hbe hy htc ht
          by_cases hback : t < b
          · have hRb : nm a.data.toList a.size 2 t t (some (next.getD (q + 2))) o = R := by
              have := nm_back (b := b) (next := next) (o := o) (K := K) (by rw [hC.out]; exact hge) hin (by rw [HT.out]; exact hback)
              rw [HT.out, ← AZ.out, hR.out] at this
              exact this.symm
            have hbt : (t : Int) < (b : Int) := by omega
            obtain ⟨R2, hR2⟩ : ∃ R2, run a.data.toList a.size 2 t o = R2 := ⟨_, rfl⟩
            have HP2 := Lib.hid (fun w' (v : Value) (hv : w'.ownsRow g 5 1 v o.length (byteCells o)) (hd : RdrAt w' B ⟨#[]⟩ a t 2) (hgw : g ≤ w'.heap.size) => part_any ⟨#[]⟩ a B g 2 t v o R2 w' hd hv hgw ha (by omega) hol (Lib.hid hR2))
            have hO' : Hid (wr.ownsRow g 5 1 u4 o.length (byteCells o)) := by
              have := hO.out
              unfold ended at this
              rw [if_neg h0] at this
              exact this
            cases R2 with
            | error x =>
              have hRe : Hid (R = .error x) := by show _ = _; rw [← hRb]; exact nm_err hR2
              clear h0 hback hR2 hRb
              go_wp2_with fail
              refine HN.out.mono ?_
              rintro e w3 ⟨rfl, hD3, hG3⟩
              obtain ⟨hr3, z3, hz3⟩ := sides_on (z := q + 2) hS.out hne hG3 hD3
              have hcB := hz3.c2
              have hfB := hz3.f2 2
              have HK3 := Lib.hid (kept_side hS.out hK.out hG3 (by have := hK.out.size; have := G.out; omega) hgB)
              have HB4 : Hid (RdrAt (w3.setCell ⟨B, 2, none⟩ (.int .i64 t)) B ⟨#[]⟩ a t 2) := hz3.set t
              have HO4 : Hid ((w3.setCell ⟨B, 2, none⟩ (.int .i64 t)).ownsRow g 5 1 u4 o.length (byteCells o)) := own_rdr hz3 (own_rdr hD.out hO'.out hG3) (only_setCell (grown_refl _ _) (.inl rfl) _)
              have HK4 : Hid (Kept g r w (w3.setCell ⟨B, 2, none⟩ (.int .i64 t))) := HK3.out.setCell (.inr hgB) _
              clear hD3 hG3 hr3 hz3 HK3
              go_wp2_with fail
              refine (HP2.out _ u4 HO4.out HB4.out (by have := HK4.out.size; have := G.out; omega)).mono ?_
              rintro e w5 ⟨rfl, hK5⟩
              have HK5 : Hid (w.grownBy w5 (some r)) := by
                have := HK4.out.new hK5 hgB
                rw [← G.out] at this
                exact this.to_grown
              clear hK5
              go_wp2_with fail
              rw [hRe.out]
              exact ⟨rfl, rfl, HK5.out⟩
            | ok oq2 =>
              obtain ⟨o2, q2⟩ := oq2
              obtain ⟨hk1, hk2, hk3, hk4⟩ := run_ok hR2
              have hk4 := hk4 hol
              have HR2 : Hid (nm a.data.toList a.size 2 q2 t (some (next.getD (q + 2))) o2 = R) := by show _ = _; rw [← nm_run hR2]; exact hRb
              have HQ2 := Lib.hid hk3
              clear h0 hback hR2 hRb hk3
              go_wp2_with fail
              refine HN.out.mono ?_
              rintro e w3 ⟨rfl, hD3, hG3⟩
              obtain ⟨hr3, z3, hz3⟩ := sides_on (z := q + 2) hS.out hne hG3 hD3
              have hcB := hz3.c2
              have hfB := hz3.f2 2
              have HK3 := Lib.hid (kept_side hS.out hK.out hG3 (by have := hK.out.size; have := G.out; omega) hgB)
              have HB4 : Hid (RdrAt (w3.setCell ⟨B, 2, none⟩ (.int .i64 t)) B ⟨#[]⟩ a t 2) := hz3.set t
              have HO4 : Hid ((w3.setCell ⟨B, 2, none⟩ (.int .i64 t)).ownsRow g 5 1 u4 o.length (byteCells o)) := own_rdr hz3 (own_rdr hD.out hO'.out hG3) (only_setCell (grown_refl _ _) (.inl rfl) _)
              have HK4 : Hid (Kept g r w (w3.setCell ⟨B, 2, none⟩ (.int .i64 t))) := HK3.out.setCell (.inr hgB) _
              have HR4 : Hid (RdrAt (w3.setCell ⟨B, 2, none⟩ (.int .i64 t)) r a s ((next.getD (q + 2) : Nat) : Int) k) := hr3.far hne _
              clear hD3 hG3 hr3 hz3 HK3
              go_wp2_with fail
              refine (HP2.out _ u4 HO4.out HB4.out (by have := HK4.out.size; have := G.out; omega)).mono ?_
              rintro e w5 ⟨v5, rfl, hO5, hD5, hK5⟩
              have HK5 := Lib.hid (HK4.out.new hK5 hgB)
              have HR5 : Hid (RdrAt w5 r a s ((next.getD (q + 2) : Nat) : Int) k) := HR4.out.kept hK5 hrlt hne
              obtain ⟨c5, hc5⟩ : ∃ c, bt a.data.toList q2 = c := ⟨_, rfl⟩
              have hc5l : c5 < 256 := by rw [← hc5]; exact bt_lt _ _
              rw [hc5] at hO5 HQ2 ⊢
              have HO5 := Lib.hid hO5
              have HD5 := Lib.hid hD5
              have HC5 := Lib.hid hc5
              have HSX : Hid (a.data.toList = a.data.toList.take a.size) := by show _ = _; rw [AZ.out, List.take_length]
              clear hO5 hD5 hK5 hc5
              go_wp2_with fail
              go_roundw
              case rel => exact ⟨o2, q2, t, c5, B, 2, ⟨#[]⟩, a, some (next.getD (q + 2)), rfl, rfl, rfl, by omega, hk2, ha, hc5l, hk4, HQ2, HC5, HO5, HD5, HSX, HR2, .inr ⟨rfl, rfl, rfl, rfl, _, rfl, HR5.out⟩, HK5⟩
              case measure => simp [intOf]; omega
          · have hRe : Hid (R = .error 42) := by show _ = _; rw [← hR.out]; exact nm_ahead (by rw [hC.out]; exact hge) hin (by rw [HT.out]; omega)
            have hbt : (b : Int) ≤ (t : Int) := by omega
            clear h0 hback
            go_wp2_with fail
            refine HN.out.mono ?_
            rintro e w3 ⟨rfl, hD3, hG3⟩
            have HK3 : Hid (w.grownBy w3 (some r)) := by
              have := kept_side hS.out hK.out hG3 (by have := hK.out.size; have := G.out; omega) hgB
              rw [← G.out] at this
              exact this.to_grown
            clear hD3 hG3
            go_wp2_with fail
            rw [hRe.out]
            exact ⟨rfl, rfl, HK3.out⟩
        · have hRe : Hid (R = .error K) := by show _ = _; rw [← hR.out]; exact nm_cut hq (by rw [hC.out]; exact hge) (by omega)
          have hno : Hid (holdsB sx.size ((q + 1 : Nat) : Int) ((1 : Nat) : Int) = false) := holds_no (by omega)
          have HN := Lib.hid (number_no ax sx pb K ((q + 1 : Nat) : Int) 1 wr hD.out hsx (by decide) (by omega) (by omega) hno)
          have HK3 : Hid (w.grownBy wr (some r)) := by
            have := hK.out
            rw [← G.out] at this
            exact this.to_grown
          clear h0
          go_wp2_with fail
          refine HN.out.mono ?_
          rintro e w3 ⟨rfl, m, rfl⟩
          go_wp2_with fail
          rw [hRe.out]
          exact ⟨rfl, rfl, grown_drewN HK3.out m⟩
end Go.Proofs.Ytpmmjmnleoicjaa
