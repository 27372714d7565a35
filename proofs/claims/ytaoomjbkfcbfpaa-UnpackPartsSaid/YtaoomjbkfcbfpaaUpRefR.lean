/- The document's reading of a block. For blocks of at most 10^4 bytes. -/
import Derived.Test.YtaoomjbkfcbfpaaProg
import Derived.Test.YtaoomjbkfcbfpaaBytes
import Derived.Test.YtaoomjbkfcbfpaaGrown
import Derived.Test.YtaoomjbkfcbfpaaTbAt
import Derived.Test.YtaoomjbkfcbfpaaTcMem
import Derived.Test.YtaoomjbkfcbfpaaUpMath
import Derived.Test.YtaoomjbkfcbfpaaUpTxt
import Derived.Test.YtaoomjbkfcbfpaaUpEnt
import Derived.Test.YtaoomjbkfcbfpaaUpFld
import Derived.Test.YtaoomjbkfcbfpaaUpField
import Derived.Test.YtaoomjbkfcbfpaaUpOwn
import Derived.Test.YtaoomjbkfcbfpaaUpRef
import Derived.Test.YtaoomjbkfcbfpaaUpRefT
import Derived.Test.YtaoomjbkfcbfpaaUpRefL
import Derived.Test.YtaoomjbkfcbfpaaUpRefB
import Derived.WalkKit
import Derived.Lib.Hide
import Derived.Laws.Rows
import Derived.Outline
import Derived.IntWalk
import Derived.WalkSpells
import Derived.WalkLawsBesides
import Derived.Deep.QuietTactic
import Derived.BigQuiet
import Derived.Deep.Draws
import Derived.Deep.RegionLaw
import Derived.Deep.CutRange
namespace Go.Proofs.Ytaoomjbkfcbfpaa
open Go.RowKit Bytes Tb Up

/-- The document has read a block. -/
def RfEnd (w : World) (A : Option Addr) : Dec × List Fld × Nat → Ending → World → Prop
  | (D, out, x), e, w' => ∃ A' c' v, e = .returned (.tuple #[.agg #[.int .i64 (D.1.1 : Int), .slice A' D.1.2.length c', .bool D.2], v, .int .i64 (x : Int)]) ∧ TabE w' w'.heap.size A' D.1.2.length c' D.1.2 ∧ w'.ownsRow w.heap.size 47 3 v out.length (fldCs out) ∧ Below w.heap.size w w' ∧ (A' = A ∨ ∀ b o, A' = some ⟨b, o, none⟩ → w.heap.size ≤ b)
theorem tabE_same {w w' : World} {A : Option Addr} {n c : Nat} {L : List Ent} (h : TabE w w.heap.size A n c L) (hs : w.heap.size ≤ w'.heap.size) (hb : ∀ b o, A = some ⟨b, o, none⟩ → w'.heap[b]? = w.heap[b]?) : TabE w' w'.heap.size A n c L := by
  rcases h with h0 | ⟨b, o, i1, i2, i3, i4⟩
  · exact .inl h0
  · refine .inr ⟨b, o, i1, i2, i3, fun hp => ?_⟩
    obtain ⟨b2, o2, e2, hbl, hc⟩ := i4 hp
    injection e2 with e2
    injection e2 with e2 e2'
    subst e2
    subst e2'
    have hk := hb b o i1
    exact ⟨b, o, rfl, Nat.lt_of_lt_of_le hbl hs, fun j hj => ⟨(World.cell?_of_block (a := ⟨b, o + j * 2, none⟩) hk).trans (hc j hj).1, (World.cell?_of_block (a := ⟨b, o + j * 2 + 1, none⟩) hk).trans (hc j hj).2⟩⟩
theorem tabE_lt {w : World} {B : Nat} {A : Option Addr} {n c : Nat} {L : List Ent} (h : TabE w B A n c L) (b o : Nat) (hA : A = some ⟨b, o, none⟩) : b < B := by
  rcases h with ⟨h0, _⟩ | ⟨b', o', i1, i2, i3, i4⟩
  · rw [hA] at h0; cases h0
  · rw [hA] at i1
    injection i1 with i1
    injection i1 with i1 _
    subst i1
    obtain ⟨b2, o2, e2, hbl, _⟩ := i4 (by omega)
    injection e2 with e2
    injection e2 with e2 _
    omega
theorem own_turn {w1 w2 : World} {X n : Nat} {v u0 u1 : Value} {out : List Fld} (hO : w1.ownsRow (X + 1) 47 3 v n (fldCs out)) (hB : Below w1.heap.size w1 w2) : ((w2.setCell ⟨X, 0, none⟩ u0).setCell ⟨X, 1, none⟩ u1).ownsRow (X + 1) 47 3 v n (fldCs out) :=
  own_same hO (fun k hk => by
    have hl := hO.lt k hk
    exact ((Below.heap_setCell _ ⟨X, 1, none⟩ u1 k (by show k ≠ X; omega)).trans (Below.heap_setCell _ ⟨X, 0, none⟩ u0 k (by show k ≠ X; omega))).trans (hB.block k hl.2))
theorem sep_new {w1 : World} {X n : Nat} {v : Value} {out : List Fld} {A' : Option Addr} (hO : w1.ownsRow (X + 1) 47 3 v n (fldCs out)) (hA : ∀ b o, A' = some ⟨b, o, none⟩ → w1.heap.size ≤ b) : Sep v A' := fun k hk b o h => by
  have := (hO.lt k hk).2
  have := hA b o h
  omega
theorem spelt_err {s : ByteArray} {t : Tab} {p : Nat} {k : Int} {x : Nat} (h : spelt s t p k = .error x) : x ≠ 0 := by
  unfold spelt at h
  split at h
  · rename_i hn
    injection h with h
    have := num_err hn
    omega
  · split at h
    · rename_i hm
      injection h with h
      subst h
      unfold nam at hm
      split at hm
      · split at hm
        · rename_i he
          injection hm with hm
          unfold ent at he
          split at he
          · cases he
          · injection he with he; omega
        · cases hm
      · exact txt_err hm
    · split at h
      · rename_i hv
        injection h with h
        subst h
        exact txt_err hv
      · cases h
/-- The document's Add, asked beside the state and a field. -/
theorem refAdd_keep (X : Nat) (s : ByteArray) (t : Tab) (y z : ByteArray) (q : Nat) (A0 A : Option Addr) (c : Nat) (W wd : World) (hF : Rf W wd X s t q 0 A0 A c) (hy : y.size ≤ 1000000) (hz : z.size ≤ 1000000) :
    Calls Try.prog 28 #[.agg #[.int .i64 (t.1 : Int), .slice A t.2.length c], .string y, .string z] wd fun e w' => ∃ A' c', e = .returned (.agg #[.int .i64 (t.1 : Int), .slice A' (addT t (y, z)).2.length c']) ∧ w'.cell? ⟨X, 0, none⟩ = some (.int .i64 (t.1 : Int)) ∧ w'.cell? ⟨X, 1, none⟩ = some (.slice A t.2.length c) ∧ w'.frozen? ⟨X, 0, none⟩ = false ∧ w'.frozen? ⟨X, 1, none⟩ = false ∧
      Hid (TabE w' w'.heap.size A' (addT t (y, z)).2.length c' (addT t (y, z)).2 ∧ Below wd.heap.size wd w' ∧ ∀ b o, A' = some ⟨b, o, none⟩ → wd.heap.size ≤ b) :=
  (refAdd_t t y z A c wd (Lib.hid hF.at_.tab) (Lib.hid hF.ok4) hy hz).mono fun e w' ⟨A', c', he, hT, hB, hA⟩ => by
    obtain ⟨d1, d2, _, _, _, df⟩ := five_cells (hF.below hB).at_.cells
    exact ⟨A', c', he, d1, d2, df 0, df 1, hT, hB, hA⟩
/-- The decoder behind a block that was read, or wasn't. -/
def decEnd (t : Tab) : Except Nat (List Fld) → Dec × List Fld × Nat
  | .error e => ((t, true), [], e)
  | .ok out => ((t, false), out, 0)
/-- What is left of a state's reading. -/
def placeX (w : World) (X n : Nat) : Nat :=
  match w.cell? ⟨X, 3, none⟩, w.cell? ⟨X, 4, none⟩ with
  | some (.int _ p), some (.int _ e) => if e = 0 then n + 1 - p.toNat else 0
  | _, _ => 0
theorem placeX_at {w : World} {X n : Nat} {s : ByteArray} {t : Tab} {p : Nat} {A : Option Addr} {c : Nat} (h : XAt w X s t p 0 A c) : placeX w X n = n + 1 - p := by
  obtain ⟨_, _, _, c3, c4, _⟩ := five_cells h.cells
  unfold placeX
  rw [c3, c4]
  simp
theorem placeX_bad {w : World} {X n : Nat} {s : ByteArray} {t : Tab} {p e : Nat} {A : Option Addr} {c : Nat} (h : XAt w X s t p e A c) (he : e ≠ 0) : placeX w X n = 0 := by
  obtain ⟨_, _, _, c3, c4, _⟩ := five_cells h.cells
  unfold placeX
  rw [c3, c4]
  simp
  omega

set_option maxHeartbeats 8000000 in
set_option maxRecDepth 100000 in
theorem refRead_any (D : Dec) (s : ByteArray) (A0 : Option Addr) (c0 : Nat) (R : Dec × List Fld × Nat) (w : World) (hT : TabE w w.heap.size A0 D.1.2.length c0 D.1.2) (h4 : Up.Ok4 D.1) (hs : s.size ≤ 10000) (hR : Hid (Up.read D s = R)) :
    Calls Try.prog 11 #[.agg #[.int .i64 (D.1.1 : Int), .slice A0 D.1.2.length c0, .bool D.2], .string s] w (RfEnd w A0 R) := by
  obtain ⟨G, hG⟩ : ∃ G, w.heap.size = G := ⟨_, rfl⟩
  obtain ⟨t0, dn⟩ := D
  simp only at hT h4 ⊢
  have hr := hR.out
  obtain ⟨W0, hW0⟩ : ∃ W0, ((w.alloc (.cells #[.int .i64 (t0.1 : Int), .slice A0 t0.2.length c0, .bool dn] 31)).alloc (.cells #[.int .i64 0, .slice none 0 0, .bool false] 31)) = W0 := ⟨_, rfl⟩
  have hW0s : W0.heap.size = G + 2 := by rw [← hW0, ← hG]; simp
  have hB0 : Below G w W0 := by
    rw [← hW0, ← hG]
    exact ((Below.refl _ w).alloc (Nat.le_refl _) _).alloc (by simp) _
  have k0 : W0.heap[G]? = some (.cells #[.int .i64 (t0.1 : Int), .slice A0 t0.2.length c0, .bool dn] 31 (0, 0)) := by rw [← hW0, ← hG]; exact old_at (new_at _ _ _ rfl)
  have k1 : W0.heap[G + 1]? = some (.cells #[.int .i64 0, .slice none 0 0, .bool false] 31 (0, 0)) := by rw [← hW0, ← hG]; exact new_at _ _ _ (by simp)
  have hT0 : TabE W0 W0.heap.size A0 t0.2.length c0 t0.2 := hT.on (by rw [hG]; exact hB0) (by rw [hG]; omega)
  obtain ⟨a1, a2, a3, a4, a5, a6⟩ := three_cells k0
  obtain ⟨b1, b2, b3, b4, b5, b6⟩ := three_cells k1
  cases dn with
  | true =>
    have hRe : R = ((t0, true), [], 8) := by rw [← hr]; unfold Up.read; rw [if_pos rfl]
    subst hRe
    have hV := set_three (x := .int .i64 (t0.1 : Int)) (y := .slice A0 t0.2.length c0) (z := .bool true) k1
    obtain ⟨z1, z2, z3, _, _, _⟩ := three_cells hV
    have g1 := only_setCell (grown_refl W0 (some (G + 1))) (p := ⟨G + 1, 0, none⟩) (.inl rfl) (.int .i64 (t0.1 : Int))
    have g2 := only_setCell g1 (p := ⟨G + 1, 1, none⟩) (.inl rfl) (.slice A0 t0.2.length c0)
    have g3 := only_setCell g2 (p := ⟨G + 1, 2, none⟩) (.inl rfl) (.bool true)
    have HB := Lib.hid (below_of_grown hB0 g3 (by omega) (by omega))
    have HT := Lib.hid (hT.on (by rw [hG]; exact HB.out) HB.out.size)
    clear hR hr hB0 k0 k1 hT0 hT hV g1 g2 g3 h4
    go_enter Try.func11, Try.ntmps11
    go_wp2_with fail
    refine bodyPost_ret (v := .tuple #[.agg #[.int .i64 (t0.1 : Int), .slice A0 t0.2.length c0, .bool true], .slice none 0 0, .int .i64 8]) (by simp [results, Try.results11, go_sem, z1, z2, z3]) rfl ?_
    exact ⟨A0, c0, _, rfl, HT.out, World.ownsRow_nil _ _ _ _, by rw [hG]; exact HB.out, .inl rfl⟩
  | false =>
    obtain ⟨X, hX⟩ : ∃ X, G + 2 = X := ⟨_, rfl⟩
    obtain ⟨⟨tR, RR⟩, hgo⟩ : ∃ Z, go s t0 0 [] = Z := ⟨_, rfl⟩
    have hRv : R = decEnd tR RR := by
      rw [← hr]
      unfold Up.read
      rw [if_neg Bool.false_ne_true, hgo]
      cases RR <;> rfl
    obtain ⟨W, hW⟩ : ∃ W, W0.alloc (.cells #[.int .i64 (t0.1 : Int), .slice A0 t0.2.length c0, .string s, .int .i64 0, .int .i64 0] 58) = W := ⟨_, rfl⟩
    have hBW : Below W0.heap.size W0 W := by rw [← hW]; exact (Below.refl _ _).alloc (Nat.le_refl _) _
    have hWs : W.heap.size = X + 1 := by rw [← hW, World.size_alloc, hW0s]; omega
    have HF := Lib.hid (show Rf W W X s t0 0 0 A0 A0 c0 from ⟨⟨by rw [← hW]; exact new_at _ _ _ (by omega), hT0.on hBW hBW.size⟩, Below.refl _ _, .inl rfl, h4, hWs⟩)
    have HN : Hid (W.ownsRow (X + 1) 47 3 (.slice none 0 0) 0 (fldCs [])) := World.ownsRow_nil _ _ _ _
    have HK0 := Lib.hid ((hBW.block G (by omega)).trans k0)
    have HK1 := Lib.hid ((hBW.block (G + 1) (by omega)).trans k1)
    have HBW := Lib.hid (hB0.trans (hBW.mono (by omega)))
    have HGO := Lib.hid hgo
    have HAB := Lib.hid (fun b o (A : Option Addr) (h : A = A0 ∨ ∀ b o, A = some ⟨b, o, none⟩ → X < b) (hA : A = some ⟨b, o, none⟩) => show b < G ∨ X < b from by
      rcases h with rfl | h
      · exact .inl (by rw [← hG]; exact tabE_lt hT b o hA)
      · exact .inr (h b o hA))
    have HWS := Lib.hid hWs
    clear hR hr hB0 k0 k1 hT0 hT h4 hBW hgo
    go_enter Try.func11, Try.ntmps11
    go_wp2_with fail
    clear a1 a2 a3 a4 a5 a6 b1 b2 b3 b4 b5 b6 hW0s hWs
    clear hW0 hW
    go_loopw [8, 9, 10, 11, 12] (fun v _ _ _ _ wr => ∃ (p x : Nat) (t : Tab) (A : Option Addr) (c : Nat) (out : List Fld) (n : Nat), n ≤ 65 ∧ Hid (out.length = n) ∧ Hid (Rf W wr X s t p x A0 A c) ∧ Hid (wr.ownsRow (X + 1) 47 3 v n (fldCs out)) ∧ Hid (Sep v A) ∧ Hid (x = 0 → p ≤ s.size ∧ n ≤ 64 ∧ go s t p out = (tR, RR)) ∧ Hid (x ≠ 0 → (tR, RR) = (t, .error x))) (fun _ _ _ _ _ wr => placeX wr X s.size)
    case atStart => exact ⟨0, 0, t0, A0, c0, [], 0, by omega, rfl, HF, HN, Lib.hid (fun k hk => by cases hk), Lib.hid (fun _ => ⟨Nat.zero_le _, by omega, HGO.out⟩), Lib.hid (fun h => absurd rfl h)⟩
    case round =>
      obtain ⟨p, x, t, A, c, out, n, hn65, hn, hF, hO, hsep, hok, hbad⟩ := hrel
      obtain ⟨AA, cc, rfl⟩ := own_sl hO.out
      obtain ⟨c1, c2, c3, c4, c5, cf⟩ := five_cells hF.out.at_.cells
      have cf0 := cf 0
      have cf1 := cf 1
      have cf3 := cf 3
      have cf4 := cf 4
      clear cf
      by_cases hx : x = 0
      · subst hx
        obtain ⟨hp, hn64, hgo⟩ := hok.out rfl
        have HP := Lib.hid (placeX_at (n := s.size) hF.out.at_)
        have hz0 : (((0 : Nat) : Int) == 0) = true := rfl
        have HGO2 := Lib.hid hgo
        clear hgo hok hbad
        by_cases hlt : p < s.size
        · have hdk : decide ((p : Int) < (s.size : Int)) = true := by rw [decide_eq_true_eq]; omega
          have hp0 : (0 : Int) ≤ (p : Int) := by omega
          have hpi : (p : Int) < (s.size : Int) := by omega
          obtain ⟨u, hu⟩ : ∃ u, s[p]'hlt = u := ⟨_, rfl⟩
          have hc : byteAt s.data.toList p = u.toNat := by rw [← hu, byte_at hlt]
          have hcb := u.toNat_lt
          have HC := Lib.hid hc
          by_cases hsz : isSize s p
          · have h32 : (32 : Int) ≤ (u.toNat : Int) := by have := hsz.1; omega
            have h63 : (u.toNat : Int) ≤ 63 := by have := hsz.2; omega
            obtain ⟨N, hN⟩ : ∃ N, num s.data.toList p 5 = N := ⟨_, rfl⟩
            have HI := Lib.hid (xnumber_any X s t p A c 5 N wr hF.out.at_ (by omega) hp (by omega) (by omega) (Lib.hid hN))
            have HSZ := Lib.hid hsz
            have HN := Lib.hid hN
            clear hsz hc hN
            go_wp2_with fail
            refine HI.out.mono ?_
            clear c1 c2 c3 c4 c5 cf0 cf1 cf3 cf4
            cases N with
            | error e5 =>
              have hx5 : e5 ≠ 0 := by rcases num_err HN.out with e | e <;> omega
              have hz5 : ((e5 : Int) == 0) = false := beq_eq_false_iff_ne.2 (by omega)
              have HBAD := Lib.hid (show (tR, RR) = (t, .error e5) from by rw [← HGO2.out]; exact go_siz_err hlt HSZ.out (by unfold siz; rw [HN.out]))
              rintro e w1 ⟨rfl, ⟨q, hA⟩, hG⟩
              have HF1 := Lib.hid (hF.out.num hA hG)
              have HO1 := Lib.hid (own_num hO.out hG)
              obtain ⟨c1, c2, c3, c4, c5, cf⟩ := five_cells hA.cells
              clear hA hG cf
              go_wp2_with fail
              go_roundw
              case rel => exact ⟨q, e5, t, A, c, out, n, hn65, hn, HF1, HO1, hsep, Lib.hid (fun h => absurd h hx5), Lib.hid (fun _ => HBAD.out)⟩
              case measure => rw [placeX_bad HF1.out.at_ hx5, HP.out]; omega
            | ok mq =>
              obtain ⟨m, q⟩ := mq
              obtain ⟨i1, i2, i3, i4⟩ := num_ok HN.out
              rw [← size_list] at i1 i3
              rintro e w1 ⟨rfl, hA, hG⟩
              have HF1 := Lib.hid (hF.out.num hA hG)
              have HO1 := Lib.hid (own_num hO.out hG)
              obtain ⟨c1, c2, c3, c4, c5, cf⟩ := five_cells hA.cells
              have cf0 := cf 0
              have cf1 := cf 1
              have cf4 := cf 4
              have HX93 := Lib.hid (set5_4 (y := .int .i64 93) hA.cells)
              have HF2 : Hid (Rf W (w1.setCell ⟨X, 4, none⟩ (.int .i64 93)) X s t q 93 A0 A c) := Lib.hid (HF1.out.num (HF1.out.at_.set4 93) (only_setCell (grown_refl w1 (some X)) (p := ⟨X, 4, none⟩) (.inl rfl) (.int .i64 ((93 : Nat) : Int))))
              have HO2 : Hid ((w1.setCell ⟨X, 4, none⟩ (.int .i64 93)).ownsRow (X + 1) 47 3 (.slice AA n cc) n (fldCs out)) := Lib.hid (own_num HO1.out (only_setCell (grown_refl w1 (some X)) (p := ⟨X, 4, none⟩) (.inl rfl) (.int .i64 ((93 : Nat) : Int))))
              clear hA hG cf
              by_cases hbad2 : 0 < n ∨ 4096 < m
              · have HBAD := Lib.hid (show (tR, RR) = (t, .error 93) from by rw [← HGO2.out]; exact go_siz_err hlt HSZ.out (by unfold siz; rw [HN.out, hn.out]; exact if_pos hbad2))
                obtain ⟨d1, d2, d3, d4, d5, df⟩ := five_cells HX93.out
                clear df
                by_cases hn0 : 0 < n
                · have hni : (0 : Int) < (n : Int) := by omega
                  clear hbad2 hn0
                  go_wp2_with fail
                  go_roundw
                  case rel => exact ⟨q, 93, t, A, c, out, n, hn65, hn, HF2, HO2, hsep, Lib.hid (fun h => absurd h (by decide)), Lib.hid (fun _ => HBAD.out)⟩
                  case measure => rw [placeX_bad HF2.out.at_ (by decide), HP.out]; omega
                · obtain rfl : n = 0 := by omega
                  have hmi : (4096 : Int) < (m : Int) := by omega
                  clear hbad2 hn0
                  go_wp2_with fail
                  go_roundw
                  case rel => exact ⟨q, 93, t, A, c, out, 0, hn65, hn, HF2, HO2, hsep, Lib.hid (fun h => absurd h (by decide)), Lib.hid (fun _ => HBAD.out)⟩
                  case measure => rw [placeX_bad HF2.out.at_ (by decide), HP.out]; omega
              · obtain rfl : n = 0 := by omega
                have hmi : ¬ ((4096 : Int) < (m : Int)) := by omega
                have HG2 := Lib.hid (show go s (resT t m) q out = (tR, RR) from by
                  rw [← HGO2.out]
                  exact (go_siz hlt HSZ.out (by unfold siz; rw [HN.out, hn.out]; exact if_neg hbad2)).symm)
                have HRS := Lib.hid (refRes_t t m A c w1 (Lib.hid HF1.out.at_.tab) (Lib.hid HF1.out.ok4) (by omega))
                have H44 := Lib.hid (show Up.Ok4 (resT t m) from Ok4.res (by omega))
                clear hbad2 HX93 HF2 HO2
                go_wp2_with fail
                refine HRS.out.mono ?_
                rintro e w2 ⟨A', c', rfl, hT2, hB2, hA2⟩
                have HF3 := Lib.hid (HF1.out.turn hB2 hT2 hA2 H44.out)
                have HO3 : Hid (((w2.setCell ⟨X, 0, none⟩ (.int .i64 ((resT t m).1 : Int))).setCell ⟨X, 1, none⟩ (.slice A' (resT t m).2.length c')).ownsRow (X + 1) 47 3 (.slice AA 0 cc) 0 (fldCs out)) := Lib.hid (own_turn HO1.out hB2)
                have HS3 := Lib.hid (sep_new HO1.out hA2)
                obtain ⟨d1, d2, d3, d4, d5, df⟩ := five_cells (HF1.out.below hB2).at_.cells
                have df0 := df 0
                have df1 := df 1
                clear hT2 hB2 hA2 df
                go_wp2_with fail
                go_roundw
                case rel => exact ⟨q, 0, resT t m, A', c', out, 0, hn65, hn, HF3, HO3, HS3, Lib.hid (fun _ => ⟨i3, hn64, HG2.out⟩), Lib.hid (fun h => absurd rfl h)⟩
                case measure => rw [placeX_at HF3.out.at_, HP.out]; omega
          · have hsx : ¬ (32 ≤ u.toNat ∧ u.toNat < 64) := fun h => hsz (by unfold isSize; rw [hc]; exact h)
            by_cases h128 : 128 ≤ u.toNat
            · have h32i : (32 : Int) ≤ (u.toNat : Int) := by omega
              have h63i : ¬ ((u.toNat : Int) ≤ 63) := by omega
              have h128i : (128 : Int) ≤ (u.toNat : Int) := by omega
              clear hsx
              by_cases hfull : n = 64
              · have HBAD := Lib.hid (show (tR, RR) = (t, .error 94) from by rw [← HGO2.out]; exact go_full hlt hsz (by rw [hn.out]; exact hfull))
                subst hfull
                have h64e : (((64 : Nat) : Int) == 64) = true := rfl
                have HF2 : Hid (Rf W (wr.setCell ⟨X, 4, none⟩ (.int .i64 94)) X s t p 94 A0 A c) := Lib.hid (hF.out.num (hF.out.at_.set4 94) (only_setCell (grown_refl wr (some X)) (p := ⟨X, 4, none⟩) (.inl rfl) (.int .i64 ((94 : Nat) : Int))))
                have HO2 : Hid ((wr.setCell ⟨X, 4, none⟩ (.int .i64 94)).ownsRow (X + 1) 47 3 (.slice AA 64 cc) 64 (fldCs out)) := Lib.hid (own_num hO.out (only_setCell (grown_refl wr (some X)) (p := ⟨X, 4, none⟩) (.inl rfl) (.int .i64 ((94 : Nat) : Int))))
                clear hsz hc
                go_wp2_with fail
                go_roundw
                case rel => exact ⟨p, 94, t, A, c, out, 64, by omega, hn, HF2, HO2, hsep, Lib.hid (fun h => absurd h (by decide)), Lib.hid (fun _ => HBAD.out)⟩
                case measure => rw [placeX_bad HF2.out.at_ (by decide), HP.out]; omega
              · have hnf : ((n : Int) == 64) = false := beq_eq_false_iff_ne.2 (by omega)
                obtain ⟨E, hE⟩ : ∃ E, wr.heap.size = E := ⟨_, rfl⟩
                have hXE : X < E := by have := hF.out.le; omega
                have hAE : ∀ b o, A = some ⟨b, o, none⟩ → b ≠ E := fun b o hA => by have := tabE_lt hF.out.at_.tab b o hA; omega
                have hvE : ∀ k, (Value.slice AA n cc).ownBlock = some k → k < E := fun k hk => by have := (hO.out.lt k hk).2; omega
                have hBE := (Below.refl _ wr).alloc (Nat.le_refl _) (.cells #[.string ⟨#[]⟩, .string ⟨#[]⟩, .bool false] 47)
                have HF0 := Lib.hid (hF.out.below hBE)
                have HE0 := Lib.hid (new_at wr (.cells #[.string ⟨#[]⟩, .string ⟨#[]⟩, .bool false] 47) E hE.symm)
                have HO0 := Lib.hid (own_same (w' := wr.alloc (.cells #[.string ⟨#[]⟩, .string ⟨#[]⟩, .bool false] 47)) hO.out (fun k hk => hBE.block k (hO.out.lt k hk).2))
                clear hBE
                obtain ⟨N, hN⟩ : ∃ N, num s.data.toList p 7 = N := ⟨_, rfl⟩
                have HI := Lib.hid (fun W1 (h1 : XAt W1 X s t p 0 A c) => xnumber_any X s t p A c 7 N W1 h1 (by omega) hp (by omega) (by omega) (Lib.hid hN))
                have HSZ := Lib.hid hsz
                have HN := Lib.hid hN
                have HFU := Lib.hid (show out.length ≠ 64 from by rw [hn.out]; exact hfull)
                clear hsz hc hN
                go_wp2_with fail
                generalize wr.alloc (.cells #[.string ⟨#[]⟩, .string ⟨#[]⟩, .bool false] 47) = w0 at *
                refine (HI.out w0 HF0.out.at_).mono ?_
                clear c1 c2 c3 c4 c5 cf0 cf1 cf3 cf4
                cases N with
                | error e5 =>
                  have hx5 : e5 ≠ 0 := by rcases num_err HN.out with e | e <;> omega
                  have HBAD := Lib.hid (show (tR, RR) = (t, .error e5) from by rw [← HGO2.out]; exact go_fld_err hlt HSZ.out HFU.out (by unfold fld; rw [HC.out, if_pos h128, HN.out]))
                  rintro e w1 ⟨rfl, ⟨q, hA⟩, hG⟩
                  have HF1 := Lib.hid (HF0.out.num hA hG)
                  have HE1 := Lib.hid ((grown_block hG (world_lt HE0.out) (by omega)).trans HE0.out)
                  have HO1 := Lib.hid (own_num HO0.out hG)
                  clear hA hG
                  go_wp2_with fail
                  refine (xentry_bad X s t q e5 A c 0 w1 HF1.out.at_ hx5).mono ?_
                  rintro e w2 ⟨rfl, hB⟩
                  have HF2 := Lib.hid (HF1.out.below hB)
                  have HE2 := Lib.hid ((hB.block E (world_lt HE1.out)).trans HE1.out)
                  have HO2 := Lib.hid (own_same (w' := w2) HO1.out (fun k hk => hB.block k (HO1.out.lt k hk).2))
                  clear hB
                  have hBL := (Below.refl _ w2).alloc (Nat.le_refl _) (.cells #[.string ⟨#[]⟩, .string ⟨#[]⟩] 62)
                  have HF5 := Lib.hid (HF2.out.below hBL)
                  have HE5 := Lib.hid ((hBL.block E (world_lt HE2.out)).trans HE2.out)
                  have HO5 := Lib.hid (own_same (w' := w2.alloc (.cells #[.string ⟨#[]⟩, .string ⟨#[]⟩] 62)) HO2.out (fun k hk => hBL.block k (HO2.out.lt k hk).2))
                  have HZ5 := Lib.hid (new_at w2 (.cells #[.string ⟨#[]⟩, .string ⟨#[]⟩] 62) w2.heap.size rfl)
                  clear hBL
                  go_upto_region 18 with fail
                  generalize w2.alloc (.cells #[.string ⟨#[]⟩, .string ⟨#[]⟩] 62) = W5 at *
                  generalize w2.heap.size = Z at *
                  obtain ⟨m1, m2, m3, m4⟩ := two_cells HZ5.out
                  have HF6 := Lib.hid (((HF5.out.far (a := ⟨E, 0, none⟩) hXE hAE (.string ⟨#[]⟩)).far (a := ⟨E, 1, none⟩) hXE hAE (.string ⟨#[]⟩)).far (a := ⟨E, 2, none⟩) hXE hAE (.bool false))
                  have HE6 := Lib.hid (set_three (x := .string ⟨#[]⟩) (y := .string ⟨#[]⟩) (z := .bool false) HE5.out)
                  have HO6 := Lib.hid (own_same (w' := (((W5.setCell ⟨E, 0, none⟩ (.string ⟨#[]⟩)).setCell ⟨E, 1, none⟩ (.string ⟨#[]⟩)).setCell ⟨E, 2, none⟩ (.bool false))) HO5.out (fun k hk => set_other W5 E k _ _ _ (by have := hvE k hk; omega)))
                  obtain ⟨a1, a2, a3, a4, a5, a6⟩ := three_cells HE5.out
                  go_upto_region 25 with fail
                  generalize (((W5.setCell ⟨E, 0, none⟩ (.string ⟨#[]⟩)).setCell ⟨E, 1, none⟩ (.string ⟨#[]⟩)).setCell ⟨E, 2, none⟩ (.bool false)) = W6 at *
                  clear a1 a2 a3 a4 a5 a6 m1 m2 m3 m4
                  obtain ⟨k2, cap, w9, hrun, hF9, hO9, hs9⟩ := HF6.out.app HO6.out hsep.out (by omega) ⟨⟨#[]⟩, ⟨#[]⟩, false⟩
                  have HRUN := Lib.hid hrun
                  have HF9 := Lib.hid hF9
                  have HO9 := Lib.hid hO9
                  have HS9 := Lib.hid hs9
                  have hlen := Lib.hid (show (out ++ [(⟨⟨#[]⟩, ⟨#[]⟩, false⟩ : Fld)]).length = n + 1 from by rw [List.length_append, hn.out]; rfl)
                  obtain ⟨n1, n2, n3, n4, n5, n6⟩ := three_cells HE6.out
                  clear hrun hF9 hO9 hs9
                  go_wp2_with (at_builtin; refine wpList_append_run rfl _ _ _ rfl _ _ _ rfl rfl HRUN.out ?_)
                  go_roundw
                  case rel => exact ⟨q, e5, t, A, c, out ++ [⟨⟨#[]⟩, ⟨#[]⟩, false⟩], n + 1, by omega, hlen, HF9, HO9, HS9, Lib.hid (fun h => absurd h hx5), Lib.hid (fun _ => HBAD.out)⟩
                  case measure => rw [placeX_bad HF9.out.at_ hx5, HP.out]; omega
                | ok mq =>
                  obtain ⟨m, q⟩ := mq
                  obtain ⟨i1, i2, i3, i4⟩ := num_ok HN.out
                  rw [← size_list] at i1 i3
                  obtain ⟨EE, hEE⟩ : ∃ EE, ent t m = EE := ⟨_, rfl⟩
                  have HEE := Lib.hid hEE
                  rintro e w1 ⟨rfl, hA, hG⟩
                  have HF1 := Lib.hid (HF0.out.num hA hG)
                  have HE1 := Lib.hid ((grown_block hG (world_lt HE0.out) (by omega)).trans HE0.out)
                  have HO1 := Lib.hid (own_num HO0.out hG)
                  clear hA hG
                  have HI2 := Lib.hid (xentry_any X s t q A c m EE w1 HF1.out.at_ HF1.out.ok4 i4 (Lib.hid hEE))
                  clear hEE
                  go_wp2_with fail
                  refine HI2.out.mono ?_
                  cases EE with
                  | error e5 =>
                    have hx5 : e5 ≠ 0 := by
                      have h := HEE.out
                      unfold ent at h
                      split at h
                      · cases h
                      · injection h with h; omega
                    have HBAD := Lib.hid (show (tR, RR) = (t, .error e5) from by rw [← HGO2.out]; exact go_fld_err hlt HSZ.out HFU.out (by unfold fld; rw [HC.out, if_pos h128, HN.out]; simp only; rw [HEE.out]))
                    rintro e w2 ⟨⟨y, z, rfl⟩, hA, hG⟩
                    have HF2 := Lib.hid (HF1.out.num hA hG)
                    have HE2 := Lib.hid ((grown_block hG (world_lt HE1.out) (by omega)).trans HE1.out)
                    have HO2 := Lib.hid (own_num HO1.out hG)
                    clear hA hG
                    have hBL := (Below.refl _ w2).alloc (Nat.le_refl _) (.cells #[.string y, .string z] 62)
                    have HF5 := Lib.hid (HF2.out.below hBL)
                    have HE5 := Lib.hid ((hBL.block E (world_lt HE2.out)).trans HE2.out)
                    have HO5 := Lib.hid (own_same (w' := w2.alloc (.cells #[.string y, .string z] 62)) HO2.out (fun k hk => hBL.block k (HO2.out.lt k hk).2))
                    have HZ5 := Lib.hid (new_at w2 (.cells #[.string y, .string z] 62) w2.heap.size rfl)
                    clear hBL
                    go_upto_region 18 with fail
                    generalize w2.alloc (.cells #[.string y, .string z] 62) = W5 at *
                    generalize w2.heap.size = Z at *
                    obtain ⟨m1, m2, m3, m4⟩ := two_cells HZ5.out
                    have HF6 := Lib.hid (((HF5.out.far (a := ⟨E, 0, none⟩) hXE hAE (.string y)).far (a := ⟨E, 1, none⟩) hXE hAE (.string z)).far (a := ⟨E, 2, none⟩) hXE hAE (.bool false))
                    have HE6 := Lib.hid (set_three (x := .string y) (y := .string z) (z := .bool false) HE5.out)
                    have HO6 := Lib.hid (own_same (w' := (((W5.setCell ⟨E, 0, none⟩ (.string y)).setCell ⟨E, 1, none⟩ (.string z)).setCell ⟨E, 2, none⟩ (.bool false))) HO5.out (fun k hk => set_other W5 E k _ _ _ (by have := hvE k hk; omega)))
                    obtain ⟨a1, a2, a3, a4, a5, a6⟩ := three_cells HE5.out
                    go_upto_region 25 with fail
                    generalize (((W5.setCell ⟨E, 0, none⟩ (.string y)).setCell ⟨E, 1, none⟩ (.string z)).setCell ⟨E, 2, none⟩ (.bool false)) = W6 at *
                    clear a1 a2 a3 a4 a5 a6 m1 m2 m3 m4
                    obtain ⟨k2, cap, w9, hrun, hF9, hO9, hs9⟩ := HF6.out.app HO6.out hsep.out (by omega) ⟨y, z, false⟩
                    have HRUN := Lib.hid hrun
                    have HF9 := Lib.hid hF9
                    have HO9 := Lib.hid hO9
                    have HS9 := Lib.hid hs9
                    have hlen := Lib.hid (show (out ++ [(⟨y, z, false⟩ : Fld)]).length = n + 1 from by rw [List.length_append, hn.out]; rfl)
                    obtain ⟨n1, n2, n3, n4, n5, n6⟩ := three_cells HE6.out
                    clear hrun hF9 hO9 hs9
                    go_wp2_with (at_builtin; refine wpList_append_run rfl _ _ _ rfl _ _ _ rfl rfl HRUN.out ?_)
                    go_roundw
                    case rel => exact ⟨q, e5, t, A, c, out ++ [⟨y, z, false⟩], n + 1, by omega, hlen, HF9, HO9, HS9, Lib.hid (fun h => absurd h hx5), Lib.hid (fun _ => HBAD.out)⟩
                    case measure => rw [placeX_bad HF9.out.at_ hx5, HP.out]; omega
                  | ok en =>
                    obtain ⟨y, z⟩ := en
                    have HG2 := Lib.hid (show go s t q (out ++ [⟨y, z, false⟩]) = (tR, RR) from by
                      rw [← HGO2.out]
                      exact (go_fld hlt HSZ.out HFU.out (by unfold fld; rw [HC.out, if_pos h128, HN.out]; simp only; rw [HEE.out])).symm)
                    rintro e w2 ⟨rfl, hA, hG⟩
                    have HF2 := Lib.hid (HF1.out.num hA hG)
                    have HE2 := Lib.hid ((grown_block hG (world_lt HE1.out) (by omega)).trans HE1.out)
                    have HO2 := Lib.hid (own_num HO1.out hG)
                    clear hA hG
                    have hBL := (Below.refl _ w2).alloc (Nat.le_refl _) (.cells #[.string y, .string z] 62)
                    have HF5 := Lib.hid (HF2.out.below hBL)
                    have HE5 := Lib.hid ((hBL.block E (world_lt HE2.out)).trans HE2.out)
                    have HO5 := Lib.hid (own_same (w' := w2.alloc (.cells #[.string y, .string z] 62)) HO2.out (fun k hk => hBL.block k (HO2.out.lt k hk).2))
                    have HZ5 := Lib.hid (new_at w2 (.cells #[.string y, .string z] 62) w2.heap.size rfl)
                    clear hBL
                    go_upto_region 18 with fail
                    generalize w2.alloc (.cells #[.string y, .string z] 62) = W5 at *
                    generalize w2.heap.size = Z at *
                    obtain ⟨m1, m2, m3, m4⟩ := two_cells HZ5.out
                    have HF6 := Lib.hid (((HF5.out.far (a := ⟨E, 0, none⟩) hXE hAE (.string y)).far (a := ⟨E, 1, none⟩) hXE hAE (.string z)).far (a := ⟨E, 2, none⟩) hXE hAE (.bool false))
                    have HE6 := Lib.hid (set_three (x := .string y) (y := .string z) (z := .bool false) HE5.out)
                    have HO6 := Lib.hid (own_same (w' := (((W5.setCell ⟨E, 0, none⟩ (.string y)).setCell ⟨E, 1, none⟩ (.string z)).setCell ⟨E, 2, none⟩ (.bool false))) HO5.out (fun k hk => set_other W5 E k _ _ _ (by have := hvE k hk; omega)))
                    obtain ⟨a1, a2, a3, a4, a5, a6⟩ := three_cells HE5.out
                    go_upto_region 25 with fail
                    generalize (((W5.setCell ⟨E, 0, none⟩ (.string y)).setCell ⟨E, 1, none⟩ (.string z)).setCell ⟨E, 2, none⟩ (.bool false)) = W6 at *
                    clear a1 a2 a3 a4 a5 a6 m1 m2 m3 m4
                    obtain ⟨k2, cap, w9, hrun, hF9, hO9, hs9⟩ := HF6.out.app HO6.out hsep.out (by omega) ⟨y, z, false⟩
                    have HRUN := Lib.hid hrun
                    have HF9 := Lib.hid hF9
                    have HO9 := Lib.hid hO9
                    have HS9 := Lib.hid hs9
                    have hlen := Lib.hid (show (out ++ [(⟨y, z, false⟩ : Fld)]).length = n + 1 from by rw [List.length_append, hn.out]; rfl)
                    obtain ⟨n1, n2, n3, n4, n5, n6⟩ := three_cells HE6.out
                    clear hrun hF9 hO9 hs9
                    go_wp2_with (at_builtin; refine wpList_append_run rfl _ _ _ rfl _ _ _ rfl rfl HRUN.out ?_)
                    go_roundw
                    case rel => exact ⟨q, 0, t, A, c, out ++ [⟨y, z, false⟩], n + 1, by omega, hlen, HF9, HO9, HS9, Lib.hid (fun _ => ⟨i3, by omega, HG2.out⟩), Lib.hid (fun h => absurd rfl h)⟩
                    case measure => rw [placeX_at HF9.out.at_, HP.out]; omega
            · have h128i : ¬ ((128 : Int) ≤ (u.toNat : Int)) := by omega
              by_cases h64 : 64 ≤ u.toNat
              · have h32i : (32 : Int) ≤ (u.toNat : Int) := by omega
                have h63i : ¬ ((u.toNat : Int) ≤ 63) := by omega
                have h64i : (64 : Int) ≤ (u.toNat : Int) := by omega
                clear hsx
                by_cases hfull : n = 64
                · have HBAD := Lib.hid (show (tR, RR) = (t, .error 94) from by rw [← HGO2.out]; exact go_full hlt hsz (by rw [hn.out]; exact hfull))
                  subst hfull
                  have h64e : (((64 : Nat) : Int) == 64) = true := rfl
                  have HF2 : Hid (Rf W (wr.setCell ⟨X, 4, none⟩ (.int .i64 94)) X s t p 94 A0 A c) := Lib.hid (hF.out.num (hF.out.at_.set4 94) (only_setCell (grown_refl wr (some X)) (p := ⟨X, 4, none⟩) (.inl rfl) (.int .i64 ((94 : Nat) : Int))))
                  have HO2 : Hid ((wr.setCell ⟨X, 4, none⟩ (.int .i64 94)).ownsRow (X + 1) 47 3 (.slice AA 64 cc) 64 (fldCs out)) := Lib.hid (own_num hO.out (only_setCell (grown_refl wr (some X)) (p := ⟨X, 4, none⟩) (.inl rfl) (.int .i64 ((94 : Nat) : Int))))
                  clear hsz hc
                  go_wp2_with fail
                  go_roundw
                  case rel => exact ⟨p, 94, t, A, c, out, 64, by omega, hn, HF2, HO2, hsep, Lib.hid (fun h => absurd h (by decide)), Lib.hid (fun _ => HBAD.out)⟩
                  case measure => rw [placeX_bad HF2.out.at_ (by decide), HP.out]; omega
                · have hnf : ((n : Int) == 64) = false := beq_eq_false_iff_ne.2 (by omega)
                  obtain ⟨E, hE⟩ : ∃ E, wr.heap.size = E := ⟨_, rfl⟩
                  have hXE : X < E := by have := hF.out.le; omega
                  have hAE : ∀ b o, A = some ⟨b, o, none⟩ → b ≠ E := fun b o hA => by have := tabE_lt hF.out.at_.tab b o hA; omega
                  have hvE : ∀ k, (Value.slice AA n cc).ownBlock = some k → k < E := fun k hk => by have := (hO.out.lt k hk).2; omega
                  have hBE := (Below.refl _ wr).alloc (Nat.le_refl _) (.cells #[.string ⟨#[]⟩, .string ⟨#[]⟩, .bool false] 47)
                  have HF0 := Lib.hid (hF.out.below hBE)
                  have HE0 := Lib.hid (new_at wr (.cells #[.string ⟨#[]⟩, .string ⟨#[]⟩, .bool false] 47) E hE.symm)
                  have HO0 := Lib.hid (own_same (w' := wr.alloc (.cells #[.string ⟨#[]⟩, .string ⟨#[]⟩, .bool false] 47)) hO.out (fun k hk => hBE.block k (hO.out.lt k hk).2))
                  clear hBE
                  obtain ⟨N, hN⟩ : ∃ N, spelt s t p 6 = N := ⟨_, rfl⟩
                  have HI := Lib.hid (fun W1 (h1 : XAt W1 X s t p 0 A c) => xliteral_any X s t p A c 6 N W1 h1 hF.out.ok4 (by omega) hp (by omega) (by omega) (Lib.hid hN))
                  have HSZ := Lib.hid hsz
                  have HN := Lib.hid hN
                  have HFU := Lib.hid (show out.length ≠ 64 from by rw [hn.out]; exact hfull)
                  clear hsz hc hN
                  go_wp2_with fail
                  generalize wr.alloc (.cells #[.string ⟨#[]⟩, .string ⟨#[]⟩, .bool false] 47) = w0 at *
                  refine (HI.out w0 HF0.out.at_).mono ?_
                  clear c1 c2 c3 c4 c5 cf0 cf1 cf3 cf4
                  cases N with
                  | error e5 =>
                    have hx5 : e5 ≠ 0 := spelt_err HN.out
                    have hz5 : ((e5 : Int) == 0) = false := beq_eq_false_iff_ne.2 (by omega)
                    have HBAD := Lib.hid (show (tR, RR) = (t, .error e5) from by rw [← HGO2.out]; exact go_fld_err hlt HSZ.out HFU.out (by unfold fld; rw [HC.out, if_neg h128, if_pos h64, HN.out]))
                    rintro e w1 ⟨⟨y, z, rfl⟩, ⟨q, hA⟩, hG⟩
                    have HF1 := Lib.hid (HF0.out.num hA hG)
                    have HE1 := Lib.hid ((grown_block hG (world_lt HE0.out) (by omega)).trans HE0.out)
                    have HO1 := Lib.hid (own_num HO0.out hG)
                    clear hA hG
                    have HF6 := Lib.hid (((HF1.out.far (a := ⟨E, 0, none⟩) hXE hAE (.string y)).far (a := ⟨E, 1, none⟩) hXE hAE (.string z)).far (a := ⟨E, 2, none⟩) hXE hAE (.bool false))
                    have HE6 := Lib.hid (set_three (x := .string y) (y := .string z) (z := .bool false) HE1.out)
                    have HO6 := Lib.hid (own_same (w' := (((w1.setCell ⟨E, 0, none⟩ (.string y)).setCell ⟨E, 1, none⟩ (.string z)).setCell ⟨E, 2, none⟩ (.bool false))) HO1.out (fun k hk => set_other w1 E k _ _ _ (by have := hvE k hk; omega)))
                    obtain ⟨a1, a2, a3, a4, a5, a6⟩ := three_cells HE1.out
                    go_upto_region 21 with fail
                    generalize (((w1.setCell ⟨E, 0, none⟩ (.string y)).setCell ⟨E, 1, none⟩ (.string z)).setCell ⟨E, 2, none⟩ (.bool false)) = W6 at *
                    clear a1 a2 a3 a4 a5 a6
                    obtain ⟨c1, c2, c3, c4, c5, cf⟩ := five_cells HF6.out.at_.cells
                    clear cf
                    obtain ⟨k2, cap, w9, hrun, hF9, hO9, hs9⟩ := HF6.out.app HO6.out hsep.out (by omega) ⟨y, z, false⟩
                    have HRUN := Lib.hid hrun
                    have HF9 := Lib.hid hF9
                    have HO9 := Lib.hid hO9
                    have HS9 := Lib.hid hs9
                    have hlen := Lib.hid (show (out ++ [(⟨y, z, false⟩ : Fld)]).length = n + 1 from by rw [List.length_append, hn.out]; rfl)
                    obtain ⟨n1, n2, n3, n4, n5, n6⟩ := three_cells HE6.out
                    clear hrun hF9 hO9 hs9
                    go_wp2_with (at_builtin; refine wpList_append_run rfl _ _ _ rfl _ _ _ rfl rfl HRUN.out ?_)
                    go_roundw
                    case rel => exact ⟨q, e5, t, A, c, out ++ [⟨y, z, false⟩], n + 1, by omega, hlen, HF9, HO9, HS9, Lib.hid (fun h => absurd h hx5), Lib.hid (fun _ => HBAD.out)⟩
                    case measure => rw [placeX_bad HF9.out.at_ hx5, HP.out]; omega
                  | ok yq =>
                    obtain ⟨⟨y, z⟩, q⟩ := yq
                    obtain ⟨i1, i3⟩ := spelt_ok HN.out
                    obtain ⟨hsy, hsz2⟩ := spelt_size HN.out hs hF.out.ok4
                    have HG2 := Lib.hid (show go s (addT t (y, z)) q (out ++ [⟨y, z, false⟩]) = (tR, RR) from by
                      rw [← HGO2.out]
                      exact (go_fld hlt HSZ.out HFU.out (by unfold fld; rw [HC.out, if_neg h128, if_pos h64, HN.out])).symm)
                    rintro e w1 ⟨rfl, hA, hG⟩
                    have HF1 := Lib.hid (HF0.out.num hA hG)
                    have HE1 := Lib.hid ((grown_block hG (world_lt HE0.out) (by omega)).trans HE0.out)
                    have HO1 := Lib.hid (own_num HO0.out hG)
                    clear hA hG
                    have HF5 := Lib.hid (((HF1.out.far (a := ⟨E, 0, none⟩) hXE hAE (.string y)).far (a := ⟨E, 1, none⟩) hXE hAE (.string z)).far (a := ⟨E, 2, none⟩) hXE hAE (.bool false))
                    have HE5 := Lib.hid (set_three (x := .string y) (y := .string z) (z := .bool false) HE1.out)
                    have HO5 := Lib.hid (own_same (w' := (((w1.setCell ⟨E, 0, none⟩ (.string y)).setCell ⟨E, 1, none⟩ (.string z)).setCell ⟨E, 2, none⟩ (.bool false))) HO1.out (fun k hk => set_other w1 E k _ _ _ (by have := hvE k hk; omega)))
                    obtain ⟨a1, a2, a3, a4, a5, a6⟩ := three_cells HE1.out
                    go_upto_region 21 with fail
                    generalize (((w1.setCell ⟨E, 0, none⟩ (.string y)).setCell ⟨E, 1, none⟩ (.string z)).setCell ⟨E, 2, none⟩ (.bool false)) = W5 at *
                    clear a1 a2 a3 a4 a5 a6
                    obtain ⟨c1, c2, c3, c4, c5, cf⟩ := five_cells HF5.out.at_.cells
                    have cf0 := cf 0
                    have cf1 := cf 1
                    obtain ⟨n1, n2, n3, n4, n5, n6⟩ := three_cells HE5.out
                    clear cf
                    go_upto_region 22 with fail
                    have HF5d := Lib.hid (HF5.out.below ((Below.refl _ W5).drew))
                    have HE5d : Hid (W5.drew.heap[E]? = some (.cells #[.string y, .string z, .bool false] 47 (0, 0))) := HE5
                    have HO5d : Hid (W5.drew.ownsRow (X + 1) 47 3 (.slice AA n cc) n (fldCs out)) := HO5
                    have H44 := Lib.hid (HF5d.out.ok4.add (y, z))
                    go_cut [] from 21 to 127 (fun wx => ∃ A' c', Hid (Rf W wx X s (addT t (y, z)) q 0 A0 A' c') ∧ Hid (wx.ownsRow (X + 1) 47 3 (.slice AA n cc) n (fldCs out)) ∧ Hid (Sep (.slice AA n cc) A') ∧ Hid (wx.heap[E]? = some (.cells #[.string y, .string z, .bool false] 47 (0, 0))))
                    case first =>
                      have HAD := Lib.hid (refAdd_keep X s t y z q A0 A c W W5.drew HF5d.out hsy hsz2)
                      have q1 : W5.drew.cell? ⟨X, 0, none⟩ = some (.int .i64 (t.1 : Int)) := c1
                      have q2 : W5.drew.cell? ⟨X, 1, none⟩ = some (.slice A t.2.length c) := c2
                      have q3 : W5.drew.cell? ⟨E, 0, none⟩ = some (.string y) := n1
                      have q4 : W5.drew.cell? ⟨E, 1, none⟩ = some (.string z) := n2
                      go_region_law (go_simp; go_at_call 28; (with_reducible refine HAD.out.mono ?_); rintro e w8 ⟨A', c', rfl, d1, d2, df0, df1, hAd⟩)
                      all_goals
                        obtain ⟨hT2, hB2, hA2⟩ := hAd.out
                        have HF6 := Lib.hid (HF5d.out.turn hB2 hT2 hA2 H44.out)
                        have HO6 : Hid (((w8.setCell ⟨X, 0, none⟩ (.int .i64 (t.1 : Int))).setCell ⟨X, 1, none⟩ (.slice A' (addT t (y, z)).2.length c')).ownsRow (X + 1) 47 3 (.slice AA n cc) n (fldCs out)) := Lib.hid (own_turn HO5d.out hB2)
                        have HS6 := Lib.hid (sep_new HO5d.out hA2)
                        have HE6 := Lib.hid ((grown_block (only_setCell (only_setCell (grown_refl w8 (some X)) (p := ⟨X, 0, none⟩) (.inl rfl) (.int .i64 (t.1 : Int))) (p := ⟨X, 1, none⟩) (.inl rfl) (.slice A' (addT t (y, z)).2.length c')) (Nat.lt_of_lt_of_le (world_lt HE5d.out) hB2.size) (by omega)).trans ((hB2.block E (world_lt HE5d.out)).trans HE5d.out))
                        clear hT2 hB2 hA2
                        go_wp2_with fail
                        go_meet
                        exact ⟨A', c', HF6, HO6, HS6, HE6⟩
                    case rest =>
                      obtain ⟨A', c', HF6, HO6, HS6, HE6⟩ := hcut
                      clear c1 c2 c3 c4 c5 cf0 cf1 n1 n2 n3 n4 n5 n6
                      generalize wc = W6 at *
                      obtain ⟨k2, cap, w9, hrun, hF9, hO9, hs9⟩ := HF6.out.app HO6.out HS6.out (by omega) ⟨y, z, false⟩
                      have HRUN := Lib.hid hrun
                      have HF9 := Lib.hid hF9
                      have HO9 := Lib.hid hO9
                      have HS9 := Lib.hid hs9
                      have hlen := Lib.hid (show (out ++ [(⟨y, z, false⟩ : Fld)]).length = n + 1 from by rw [List.length_append, hn.out]; rfl)
                      obtain ⟨n1, n2, n3, n4, n5, n6⟩ := three_cells HE6.out
                      clear hrun hF9 hO9 hs9
                      go_wp2_with (at_builtin; refine wpList_append_run rfl _ _ _ rfl _ _ _ rfl rfl HRUN.out ?_)
                      go_roundw
                      case rel => exact ⟨q, 0, addT t (y, z), A', c', out ++ [⟨y, z, false⟩], n + 1, by omega, hlen, HF9, HO9, HS9, Lib.hid (fun _ => ⟨i3, by omega, HG2.out⟩), Lib.hid (fun h => absurd rfl h)⟩
                      case measure => rw [placeX_at HF9.out.at_, HP.out]; omega
              · have h32i : ¬ ((32 : Int) ≤ (u.toNat : Int)) := by omega
                have h64i : ¬ ((64 : Int) ≤ (u.toNat : Int)) := by omega
                clear hsx
                by_cases hfull : n = 64
                · have HBAD := Lib.hid (show (tR, RR) = (t, .error 94) from by rw [← HGO2.out]; exact go_full hlt hsz (by rw [hn.out]; exact hfull))
                  subst hfull
                  have h64e : (((64 : Nat) : Int) == 64) = true := rfl
                  have HF2 : Hid (Rf W (wr.setCell ⟨X, 4, none⟩ (.int .i64 94)) X s t p 94 A0 A c) := Lib.hid (hF.out.num (hF.out.at_.set4 94) (only_setCell (grown_refl wr (some X)) (p := ⟨X, 4, none⟩) (.inl rfl) (.int .i64 ((94 : Nat) : Int))))
                  have HO2 : Hid ((wr.setCell ⟨X, 4, none⟩ (.int .i64 94)).ownsRow (X + 1) 47 3 (.slice AA 64 cc) 64 (fldCs out)) := Lib.hid (own_num hO.out (only_setCell (grown_refl wr (some X)) (p := ⟨X, 4, none⟩) (.inl rfl) (.int .i64 ((94 : Nat) : Int))))
                  clear hsz hc
                  go_wp2_with fail
                  go_roundw
                  case rel => exact ⟨p, 94, t, A, c, out, 64, by omega, hn, HF2, HO2, hsep, Lib.hid (fun h => absurd h (by decide)), Lib.hid (fun _ => HBAD.out)⟩
                  case measure => rw [placeX_bad HF2.out.at_ (by decide), HP.out]; omega
                · have hnf : ((n : Int) == 64) = false := beq_eq_false_iff_ne.2 (by omega)
                  obtain ⟨nv, hnv⟩ : ∃ nv, decide (16 ≤ u.toNat) = nv := ⟨_, rfl⟩
                  have hdc : decide ((16 : Int) ≤ (u.toNat : Int)) = nv := by rw [← hnv]; exact decide_eq_decide.2 (by omega)
                  have HNV := Lib.hid hnv
                  clear hnv
                  obtain ⟨E, hE⟩ : ∃ E, wr.heap.size = E := ⟨_, rfl⟩
                  have hXE : X < E := by have := hF.out.le; omega
                  have hAE : ∀ b o, A = some ⟨b, o, none⟩ → b ≠ E := fun b o hA => by have := tabE_lt hF.out.at_.tab b o hA; omega
                  have hvE : ∀ k, (Value.slice AA n cc).ownBlock = some k → k < E := fun k hk => by have := (hO.out.lt k hk).2; omega
                  have hBE := (Below.refl _ wr).alloc (Nat.le_refl _) (.cells #[.string ⟨#[]⟩, .string ⟨#[]⟩, .bool false] 47)
                  have HF0 := Lib.hid (hF.out.below hBE)
                  have HE0 := Lib.hid (new_at wr (.cells #[.string ⟨#[]⟩, .string ⟨#[]⟩, .bool false] 47) E hE.symm)
                  have HO0 := Lib.hid (own_same (w' := wr.alloc (.cells #[.string ⟨#[]⟩, .string ⟨#[]⟩, .bool false] 47)) hO.out (fun k hk => hBE.block k (hO.out.lt k hk).2))
                  clear hBE
                  obtain ⟨N, hN⟩ : ∃ N, spelt s t p 4 = N := ⟨_, rfl⟩
                  have HI := Lib.hid (fun W1 (h1 : XAt W1 X s t p 0 A c) => xliteral_any X s t p A c 4 N W1 h1 hF.out.ok4 (by omega) hp (by omega) (by omega) (Lib.hid hN))
                  have HSZ := Lib.hid hsz
                  have HN := Lib.hid hN
                  have HFU := Lib.hid (show out.length ≠ 64 from by rw [hn.out]; exact hfull)
                  clear hsz hc hN
                  go_wp2_with fail
                  generalize wr.alloc (.cells #[.string ⟨#[]⟩, .string ⟨#[]⟩, .bool false] 47) = w0 at *
                  refine (HI.out w0 HF0.out.at_).mono ?_
                  clear c1 c2 c3 c4 c5 cf0 cf1 cf3 cf4
                  cases N with
                  | error e5 =>
                    have hx5 : e5 ≠ 0 := spelt_err HN.out
                    have hz5 : ((e5 : Int) == 0) = false := beq_eq_false_iff_ne.2 (by omega)
                    have HBAD := Lib.hid (show (tR, RR) = (t, .error e5) from by rw [← HGO2.out]; exact go_fld_err hlt HSZ.out HFU.out (by unfold fld; rw [HC.out, if_neg h128, if_neg h64, HN.out]))
                    rintro e w1 ⟨⟨y, z, rfl⟩, ⟨q, hA⟩, hG⟩
                    have HF1 := Lib.hid (HF0.out.num hA hG)
                    have HE1 := Lib.hid ((grown_block hG (world_lt HE0.out) (by omega)).trans HE0.out)
                    have HO1 := Lib.hid (own_num HO0.out hG)
                    clear hA hG
                    have HF5 := Lib.hid (((HF1.out.far (a := ⟨E, 0, none⟩) hXE hAE (.string y)).far (a := ⟨E, 1, none⟩) hXE hAE (.string z)).far (a := ⟨E, 2, none⟩) hXE hAE (.bool false))
                    have HE5 := Lib.hid (set_three (x := .string y) (y := .string z) (z := .bool false) HE1.out)
                    have HO5 := Lib.hid (own_same (w' := (((w1.setCell ⟨E, 0, none⟩ (.string y)).setCell ⟨E, 1, none⟩ (.string z)).setCell ⟨E, 2, none⟩ (.bool false))) HO1.out (fun k hk => set_other w1 E k _ _ _ (by have := hvE k hk; omega)))
                    obtain ⟨a1, a2, a3, a4, a5, a6⟩ := three_cells HE1.out
                    go_upto_region 24 with fail
                    generalize (((w1.setCell ⟨E, 0, none⟩ (.string y)).setCell ⟨E, 1, none⟩ (.string z)).setCell ⟨E, 2, none⟩ (.bool false)) = W5 at *
                    clear a1 a2 a3 a4 a5 a6
                    have HF6 := Lib.hid (HF5.out.far (a := ⟨E, 2, none⟩) hXE hAE (.bool nv))
                    have HE6 := Lib.hid (set3_2 (y := .bool nv) HE5.out)
                    have HO6 := Lib.hid (own_same (w' := W5.setCell ⟨E, 2, none⟩ (.bool nv)) HO5.out (fun k hk => Below.heap_setCell W5 ⟨E, 2, none⟩ _ k (by show k ≠ E; have := hvE k hk; omega)))
                    obtain ⟨m1, m2, m3, m4, m5, m6⟩ := three_cells HE5.out
                    go_upto_region 25 with fail
                    generalize W5.setCell ⟨E, 2, none⟩ (.bool nv) = W6 at *
                    clear m1 m2 m3 m4 m5 m6
                    obtain ⟨k2, cap, w9, hrun, hF9, hO9, hs9⟩ := HF6.out.app HO6.out hsep.out (by omega) ⟨y, z, nv⟩
                    have HRUN := Lib.hid hrun
                    have HF9 := Lib.hid hF9
                    have HO9 := Lib.hid hO9
                    have HS9 := Lib.hid hs9
                    have hlen := Lib.hid (show (out ++ [(⟨y, z, nv⟩ : Fld)]).length = n + 1 from by rw [List.length_append, hn.out]; rfl)
                    obtain ⟨n1, n2, n3, n4, n5, n6⟩ := three_cells HE6.out
                    clear hrun hF9 hO9 hs9
                    go_wp2_with (at_builtin; refine wpList_append_run rfl _ _ _ rfl _ _ _ rfl rfl HRUN.out ?_)
                    go_roundw
                    case rel => exact ⟨q, e5, t, A, c, out ++ [⟨y, z, nv⟩], n + 1, by omega, hlen, HF9, HO9, HS9, Lib.hid (fun h => absurd h hx5), Lib.hid (fun _ => HBAD.out)⟩
                    case measure => rw [placeX_bad HF9.out.at_ hx5, HP.out]; omega
                  | ok yq =>
                    obtain ⟨⟨y, z⟩, q⟩ := yq
                    obtain ⟨i1, i3⟩ := spelt_ok HN.out
                    have HG2 := Lib.hid (show go s t q (out ++ [⟨y, z, nv⟩]) = (tR, RR) from by
                      rw [← HGO2.out]
                      exact (go_fld hlt HSZ.out HFU.out (by unfold fld; rw [HC.out, if_neg h128, if_neg h64, HN.out, ← HNV.out])).symm)
                    rintro e w1 ⟨rfl, hA, hG⟩
                    have HF1 := Lib.hid (HF0.out.num hA hG)
                    have HE1 := Lib.hid ((grown_block hG (world_lt HE0.out) (by omega)).trans HE0.out)
                    have HO1 := Lib.hid (own_num HO0.out hG)
                    clear hA hG
                    have HF5 := Lib.hid (((HF1.out.far (a := ⟨E, 0, none⟩) hXE hAE (.string y)).far (a := ⟨E, 1, none⟩) hXE hAE (.string z)).far (a := ⟨E, 2, none⟩) hXE hAE (.bool false))
                    have HE5 := Lib.hid (set_three (x := .string y) (y := .string z) (z := .bool false) HE1.out)
                    have HO5 := Lib.hid (own_same (w' := (((w1.setCell ⟨E, 0, none⟩ (.string y)).setCell ⟨E, 1, none⟩ (.string z)).setCell ⟨E, 2, none⟩ (.bool false))) HO1.out (fun k hk => set_other w1 E k _ _ _ (by have := hvE k hk; omega)))
                    obtain ⟨a1, a2, a3, a4, a5, a6⟩ := three_cells HE1.out
                    go_upto_region 24 with fail
                    generalize (((w1.setCell ⟨E, 0, none⟩ (.string y)).setCell ⟨E, 1, none⟩ (.string z)).setCell ⟨E, 2, none⟩ (.bool false)) = W5 at *
                    clear a1 a2 a3 a4 a5 a6
                    have HF6 := Lib.hid (HF5.out.far (a := ⟨E, 2, none⟩) hXE hAE (.bool nv))
                    have HE6 := Lib.hid (set3_2 (y := .bool nv) HE5.out)
                    have HO6 := Lib.hid (own_same (w' := W5.setCell ⟨E, 2, none⟩ (.bool nv)) HO5.out (fun k hk => Below.heap_setCell W5 ⟨E, 2, none⟩ _ k (by show k ≠ E; have := hvE k hk; omega)))
                    obtain ⟨m1, m2, m3, m4, m5, m6⟩ := three_cells HE5.out
                    go_upto_region 25 with fail
                    generalize W5.setCell ⟨E, 2, none⟩ (.bool nv) = W6 at *
                    clear m1 m2 m3 m4 m5 m6
                    obtain ⟨k2, cap, w9, hrun, hF9, hO9, hs9⟩ := HF6.out.app HO6.out hsep.out (by omega) ⟨y, z, nv⟩
                    have HRUN := Lib.hid hrun
                    have HF9 := Lib.hid hF9
                    have HO9 := Lib.hid hO9
                    have HS9 := Lib.hid hs9
                    have hlen := Lib.hid (show (out ++ [(⟨y, z, nv⟩ : Fld)]).length = n + 1 from by rw [List.length_append, hn.out]; rfl)
                    obtain ⟨n1, n2, n3, n4, n5, n6⟩ := three_cells HE6.out
                    clear hrun hF9 hO9 hs9
                    go_wp2_with (at_builtin; refine wpList_append_run rfl _ _ _ rfl _ _ _ rfl rfl HRUN.out ?_)
                    go_roundw
                    case rel => exact ⟨q, 0, t, A, c, out ++ [⟨y, z, nv⟩], n + 1, by omega, hlen, HF9, HO9, HS9, Lib.hid (fun _ => ⟨i3, by omega, HG2.out⟩), Lib.hid (fun h => absurd rfl h)⟩
                    case measure => rw [placeX_at HF9.out.at_, HP.out]; omega
        · have hdk : decide ((p : Int) < (s.size : Int)) = false := by rw [decide_eq_false_iff_not]; omega
          have hpi : ¬ ((p : Int) < (s.size : Int)) := by omega
          have hRe : (tR, RR) = (t, .ok out) := by rw [← HGO2.out]; exact go_end (by omega)
          injection hRe with hR1 hR2
          cases hR1
          cases hR2
          subst hRv
          have k0 := (hF.out.fr.block G (by omega)).trans HK0.out
          have k1 := (hF.out.fr.block (G + 1) (by omega)).trans HK1.out
          obtain ⟨a1, a2, a3, a4, a5, a6⟩ := three_cells k0
          obtain ⟨b1, b2, b3, b4, b5, b6⟩ := three_cells k1
          have m0 := set3_1 (y := .slice A tR.2.length c) (set3_0 (y := .int .i64 (tR.1 : Int)) k0)
          obtain ⟨d1, d2, d3, d4, d5, d6⟩ := three_cells m0
          have hoth : ∀ k, k ≠ G → ((wr.setCell ⟨G, 0, none⟩ (.int .i64 (tR.1 : Int))).setCell ⟨G, 1, none⟩ (.slice A tR.2.length c)).heap[k]? = wr.heap[k]? := fun k hk => (Below.heap_setCell _ ⟨G, 1, none⟩ _ k hk).trans (Below.heap_setCell _ ⟨G, 0, none⟩ _ k hk)
          obtain ⟨e1, e2, e3, e4, e5, _⟩ := five_cells ((hoth X (by omega)).trans hF.out.at_.cells)
          have m1 := (hoth (G + 1) (by omega)).trans k1
          obtain ⟨f1, f2, f3, f4, f5, f6⟩ := three_cells m1
          obtain ⟨z1, z2, z3, z4, z5, z6⟩ := three_cells (set_three (x := .int .i64 (tR.1 : Int)) (y := .slice A tR.2.length c) (z := .bool false) m1)
          have hothV : ∀ k, k ≠ G → k ≠ G + 1 → (((((wr.setCell ⟨G, 0, none⟩ (.int .i64 (tR.1 : Int))).setCell ⟨G, 1, none⟩ (.slice A tR.2.length c)).setCell ⟨G + 1, 0, none⟩ (.int .i64 (tR.1 : Int))).setCell ⟨G + 1, 1, none⟩ (.slice A tR.2.length c)).setCell ⟨G + 1, 2, none⟩ (.bool false)).heap[k]? = wr.heap[k]? := fun k h0 h1 => (set_other _ (G + 1) k _ _ _ h1).trans (hoth k h0)
          have hBV : Below G w (((((wr.setCell ⟨G, 0, none⟩ (.int .i64 (tR.1 : Int))).setCell ⟨G, 1, none⟩ (.slice A tR.2.length c)).setCell ⟨G + 1, 0, none⟩ (.int .i64 (tR.1 : Int))).setCell ⟨G + 1, 1, none⟩ (.slice A tR.2.length c)).setCell ⟨G + 1, 2, none⟩ (.bool false)) := (((((HBW.out.trans (hF.out.fr.mono (by omega))).setCell (p := ⟨G, 0, none⟩) (Nat.le_refl _) _).setCell (p := ⟨G, 1, none⟩) (Nat.le_refl _) _).setCell (p := ⟨G + 1, 0, none⟩) (by show G ≤ G + 1; omega) _).setCell (p := ⟨G + 1, 1, none⟩) (by show G ≤ G + 1; omega) _).setCell (p := ⟨G + 1, 2, none⟩) (by show G ≤ G + 1; omega) _
          have HBV := Lib.hid hBV
          have HOV := Lib.hid (own_lower (own_same (w' := ((((wr.setCell ⟨G, 0, none⟩ (.int .i64 (tR.1 : Int))).setCell ⟨G, 1, none⟩ (.slice A tR.2.length c)).setCell ⟨G + 1, 0, none⟩ (.int .i64 (tR.1 : Int))).setCell ⟨G + 1, 1, none⟩ (.slice A tR.2.length c)).setCell ⟨G + 1, 2, none⟩ (.bool false)) hO.out (fun k hk => hothV k (by have := (hO.out.lt k hk).1; omega) (by have := (hO.out.lt k hk).1; omega))) (g' := w.heap.size) (by omega))
          have HTV := Lib.hid (tabE_same (w' := ((((wr.setCell ⟨G, 0, none⟩ (.int .i64 (tR.1 : Int))).setCell ⟨G, 1, none⟩ (.slice A tR.2.length c)).setCell ⟨G + 1, 0, none⟩ (.int .i64 (tR.1 : Int))).setCell ⟨G + 1, 1, none⟩ (.slice A tR.2.length c)).setCell ⟨G + 1, 2, none⟩ (.bool false)) hF.out.at_.tab (by simp) (fun b o hA => hothV b (by have := HAB.out b o A hF.out.prov hA; omega) (by have := HAB.out b o A hF.out.prov hA; omega)))
          have HPV := Lib.hid (show A = A0 ∨ ∀ b o, A = some ⟨b, o, none⟩ → w.heap.size ≤ b from hF.out.prov.imp id (fun h b o hA => by have := h b o hA; omega))
          clear hoth hothV hBV m0 m1 k0 k1
          go_wp2_with fail
          refine bodyPost_ret (v := .tuple #[.agg #[.int .i64 (tR.1 : Int), .slice A tR.2.length c, .bool false], .slice AA n cc, .int .i64 0]) (by simp [results, Try.results11, go_sem, z1, z2, z3]) rfl ?_
          exact ⟨A, c, _, rfl, HTV.out, by rw [hn.out]; exact HOV.out, by rw [hG]; exact HBV.out, HPV.out⟩
      · have hz0 : ((x : Int) == 0) = false := beq_eq_false_iff_ne.2 (by omega)
        have hRe := hbad.out hx
        injection hRe with hR1 hR2
        subst hR1
        subst hR2
        subst hRv
        clear hok hbad
        have k0 := (hF.out.fr.block G (by omega)).trans HK0.out
        have k1 := (hF.out.fr.block (G + 1) (by omega)).trans HK1.out
        obtain ⟨a1, a2, a3, a4, a5, a6⟩ := three_cells k0
        obtain ⟨b1, b2, b3, b4, b5, b6⟩ := three_cells k1
        have m0 := set3_1 (y := .slice A tR.2.length c) (set3_0 (y := .int .i64 (tR.1 : Int)) k0)
        obtain ⟨d1, d2, d3, d4, d5, d6⟩ := three_cells m0
        have hoth1 : ∀ k, k ≠ G → ((wr.setCell ⟨G, 0, none⟩ (.int .i64 (tR.1 : Int))).setCell ⟨G, 1, none⟩ (.slice A tR.2.length c)).heap[k]? = wr.heap[k]? := fun k hk => (Below.heap_setCell _ ⟨G, 1, none⟩ _ k hk).trans (Below.heap_setCell _ ⟨G, 0, none⟩ _ k hk)
        obtain ⟨q1, q2, q3, q4, q5, _⟩ := five_cells ((hoth1 X (by omega)).trans hF.out.at_.cells)
        have hoth : ∀ k, k ≠ G → (((wr.setCell ⟨G, 0, none⟩ (.int .i64 (tR.1 : Int))).setCell ⟨G, 1, none⟩ (.slice A tR.2.length c)).setCell ⟨G, 2, none⟩ (.bool true)).heap[k]? = wr.heap[k]? := fun k hk => set_other wr G k _ _ _ hk
        have hz2 : ((x : Int) != 0) = true := bne_iff_ne.2 (by omega)
        have M2 := Lib.hid (set_three (x := .int .i64 (tR.1 : Int)) (y := .slice A tR.2.length c) (z := .bool true) k0)
        have M1 := Lib.hid ((hoth (G + 1) (by omega)).trans k1)
        have MX := Lib.hid ((hoth X (by omega)).trans hF.out.at_.cells)
        have HBU := Lib.hid ((((HBW.out.trans (hF.out.fr.mono (by omega))).setCell (p := ⟨G, 0, none⟩) (Nat.le_refl _) (.int .i64 (tR.1 : Int))).setCell (p := ⟨G, 1, none⟩) (Nat.le_refl _) (.slice A tR.2.length c)).setCell (p := ⟨G, 2, none⟩) (Nat.le_refl _) (.bool true))
        have HTU := Lib.hid (tabE_same (w' := (((wr.setCell ⟨G, 0, none⟩ (.int .i64 (tR.1 : Int))).setCell ⟨G, 1, none⟩ (.slice A tR.2.length c)).setCell ⟨G, 2, none⟩ (.bool true))) hF.out.at_.tab (by simp) (fun b o hA => hoth b (by have := HAB.out b o A hF.out.prov hA; omega)))
        have HAU := Lib.hid (fun b o (hA : A = some ⟨b, o, none⟩) => show b ≠ G + 1 from by have := HAB.out b o A hF.out.prov hA; omega)
        have HPV := Lib.hid (show A = A0 ∨ ∀ b o, A = some ⟨b, o, none⟩ → w.heap.size ≤ b from hF.out.prov.imp id (fun h b o hA => by have := h b o hA; omega))
        clear hoth hoth1 m0 k0 k1
        go_upto_region 29 with fail
        generalize (((wr.setCell ⟨G, 0, none⟩ (.int .i64 (tR.1 : Int))).setCell ⟨G, 1, none⟩ (.slice A tR.2.length c)).setCell ⟨G, 2, none⟩ (.bool true)) = U at *
        clear a1 a2 a3 a4 a5 a6 b1 b2 b3 b4 b5 b6 d1 d2 d3 d4 d5 d6 q1 q2 q3 q4 q5 c1 c2 c3 c4 c5 cf0 cf1 cf3 cf4
        obtain ⟨e1, e2, e3, e4, e5, _⟩ := five_cells MX.out
        obtain ⟨g1, g2, g3, g4, g5, g6⟩ := three_cells M2.out
        obtain ⟨f1, f2, f3, f4, f5, f6⟩ := three_cells M1.out
        have hm1 := set_three (x := .int .i64 (tR.1 : Int)) (y := .slice A tR.2.length c) (z := .bool true) M1.out
        have z1 : (((U.setCell ⟨G + 1, 0, none⟩ (.int .i64 (tR.1 : Int))).setCell ⟨G + 1, 1, none⟩ (.slice A tR.2.length c)).setCell ⟨G + 1, 2, none⟩ (.bool true)).drew.cell? ⟨G + 1, 0, none⟩ = some (.int .i64 (tR.1 : Int)) := cell_of_row _ _ 0 _ _ _ hm1
        have z2 : (((U.setCell ⟨G + 1, 0, none⟩ (.int .i64 (tR.1 : Int))).setCell ⟨G + 1, 1, none⟩ (.slice A tR.2.length c)).setCell ⟨G + 1, 2, none⟩ (.bool true)).drew.cell? ⟨G + 1, 1, none⟩ = some (.slice A tR.2.length c) := cell_of_row _ _ 1 _ _ _ hm1
        have z3 : (((U.setCell ⟨G + 1, 0, none⟩ (.int .i64 (tR.1 : Int))).setCell ⟨G + 1, 1, none⟩ (.slice A tR.2.length c)).setCell ⟨G + 1, 2, none⟩ (.bool true)).drew.cell? ⟨G + 1, 2, none⟩ = some (.bool true) := cell_of_row _ _ 2 _ _ _ hm1
        have HBV := Lib.hid ((((HBU.out.setCell (p := ⟨G + 1, 0, none⟩) (by show G ≤ G + 1; omega) (.int .i64 (tR.1 : Int))).setCell (p := ⟨G + 1, 1, none⟩) (by show G ≤ G + 1; omega) (.slice A tR.2.length c)).setCell (p := ⟨G + 1, 2, none⟩) (by show G ≤ G + 1; omega) (.bool true)).drew)
        have HTV := Lib.hid (tabE_same (w' := (((U.setCell ⟨G + 1, 0, none⟩ (.int .i64 (tR.1 : Int))).setCell ⟨G + 1, 1, none⟩ (.slice A tR.2.length c)).setCell ⟨G + 1, 2, none⟩ (.bool true)).drew) HTU.out (by show _ ≤ (((U.setCell ⟨G + 1, 0, none⟩ (.int .i64 (tR.1 : Int))).setCell ⟨G + 1, 1, none⟩ (.slice A tR.2.length c)).setCell ⟨G + 1, 2, none⟩ (.bool true)).heap.size; simp) (fun b o hA => set_other U (G + 1) b _ _ _ (HAU.out b o hA)))
        clear hm1
        go_region
        all_goals
          go_wp2_with fail
          refine bodyPost_ret (v := .tuple #[.agg #[.int .i64 (tR.1 : Int), .slice A tR.2.length c, .bool true], .slice none 0 0, .int .i64 x]) (by simp [results, Try.results11, go_sem, z1, z2, z3]) rfl ?_
          exact ⟨A, c, _, rfl, HTV.out, World.ownsRow_nil _ _ _ _, by rw [hG]; exact HBV.out, HPV.out⟩
end Go.Proofs.Ytaoomjbkfcbfpaa
