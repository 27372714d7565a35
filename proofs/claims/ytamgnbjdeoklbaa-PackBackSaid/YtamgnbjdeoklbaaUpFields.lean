/- The contract of a header block's reader: all fields. For blocks of at most 10^4 bytes. -/
import Derived.Test.YtamgnbjdeoklbaaProg
import Derived.Test.YtamgnbjdeoklbaaBytes
import Derived.Test.YtamgnbjdeoklbaaGrown
import Derived.Test.YtamgnbjdeoklbaaTcAt
import Derived.Test.YtamgnbjdeoklbaaUpMath
import Derived.Test.YtamgnbjdeoklbaaUpRdr
import Derived.Test.YtamgnbjdeoklbaaUpTxt
import Derived.Test.YtamgnbjdeoklbaaUpFld
import Derived.Test.YtamgnbjdeoklbaaUpField
import Derived.Test.YtamgnbjdeoklbaaUpOwn
import Derived.WalkKit
import Derived.Lib.Hide
import Derived.Laws.Rows
import Derived.Outline
import Derived.IntWalk
import Derived.WalkSpells
import Derived.WalkLawsBesides
import Derived.Deep.QuietTactic
import Derived.BigQuiet
import Derived.Deep.Draws
namespace Go.Proofs.Ytamgnbjdeoklbaa
open Go.RowKit Bytes Tb Up

/-- The place of a reader. -/
def placeOf (w : World) (B : Nat) : Nat :=
  match w.cell? ⟨B, 1, none⟩ with
  | some (.int _ n) => n.toNat
  | _ => 0
theorem placeOf_at {w : World} {r g : Nat} {s : ByteArray} {p : Nat} (h : RdAt w r g s p) : placeOf w r = p := by
  unfold placeOf
  rw [h.c1]
  exact Int.toNat_natCast p
theorem tat_drewN {w : World} {g b : Nat} {t : Tab} (h : TAt w g b t) (n : Nat) : TAt (w.drewN n) g b t := h.below ⟨rfl, rfl, rfl, Nat.le_refl _, fun _ _ => rfl⟩
/-- What stands while fields are read: the reader, the table with its row b', nothing else that stood has changed. -/
structure Fr (w w1 : World) (r g b b' : Nat) (s : ByteArray) (t : Tab) (p : Nat) : Prop where
  rd : RdAt w1 r g s p
  tab : TAt w1 g b' t
  kept : Kept3 r g b w w1
  at_ : b' = b ∨ b' = g ∨ w.heap.size ≤ b'
  lt : r < w.heap.size ∧ g < w.heap.size ∧ b < w.heap.size
  ne : r ≠ g ∧ r ≠ b
section
variable {w w1 w2 : World} {r g b b' b2 : Nat} {s : ByteArray} {t t' : Tab} {p q : Nat}
theorem Fr.start (h : RdAt w r g s p) (hT : TAt w g b t) (h1 : r ≠ g) (h2 : r ≠ b) : Fr w w r g b b s t p := ⟨h, hT, Kept3.refl _ _ _ _, .inl rfl, ⟨h.lt, hT.lt.1, hT.lt.2⟩, ⟨h1, h2⟩⟩
theorem Fr.rb (h : Fr w w1 r g b b' s t p) : r ≠ b' := by
  have h1 := h.lt
  have h2 := h.ne
  rcases h.at_ with e | e | e <;> omega
theorem Fr.drewN (h : Fr w w1 r g b b' s t p) (n : Nat) : Fr w (w1.drewN n) r g b b' s t p := ⟨h.rd, tat_drewN h.tab n, h.kept.drewN n, h.at_, h.lt, h.ne⟩
/-- The reader went on, the table stands. -/
theorem Fr.num (h : Fr w w1 r g b b' s t p) (hG : w1.grownBy w2 (some r)) : TAt w2 g b' t ∧ Kept3 r g b w w2 :=
  ⟨h.tab.kept hG.size (grown_block hG h.tab.lt.1 (fun e => h.ne.1 e.symm)) (fun hb => grown_block hG hb (fun e => h.rb e.symm)), h.kept.trans (Kept3.of_grown (b := b') hG) h.at_⟩
/-- The table was turned. -/
theorem Fr.step (h : Fr w w1 r g b b' s t p) (hR : RdAt w2 r g s q) (hT : TAt w2 g b2 t') (hK : Kept3 r g b' w1 w2) (hb : b2 = b' ∨ b2 = g ∨ w1.heap.size ≤ b2) : Fr w w2 r g b b2 s t' q := by
  refine ⟨hR, hT, h.kept.trans hK h.at_, ?_, h.lt, h.ne⟩
  have h1 := h.kept.size
  have h2 := h.at_
  omega
end
/-- All fields came, or the reading gave up. -/
def FdEnd (w : World) (r g b : Nat) : Tab × Except Nat (List Fld) → Ending → World → Prop
  | (t, .error x), e, w' => e = gave x ∧ (∃ b', TAt w' g b' t ∧ (b' = b ∨ b' = g ∨ w.heap.size ≤ b')) ∧ Kept3 r g b w w'
  | (t, .ok out), e, w' => ∃ v, e = .returned v ∧ w'.ownsRow w.heap.size 45 3 v out.length (fldCs out) ∧ (∃ b', TAt w' g b' t ∧ (b' = b ∨ b' = g ∨ w.heap.size ≤ b') ∧ ∀ k, v.ownBlock = some k → k ≠ b') ∧ Kept3 r g b w w'

set_option maxHeartbeats 4000000 in
set_option maxRecDepth 100000 in
theorem fields_any (r g b : Nat) (s : ByteArray) (p0 : Nat) (t0 : Tab) (R : Tab × Except Nat (List Fld)) (w : World) (h : RdAt w r g s p0) (hT : TAt w g b t0) (h4 : Up.Ok4 t0) (h1 : r ≠ g) (h2 : r ≠ b) (hs : s.size ≤ 10000) (hp0 : p0 ≤ s.size) (hR : Hid (go s t0 p0 [] = R)) :
    Calls Try.prog 28 #[.pointer (some ⟨r, 0, none⟩)] w (FdEnd w r g b R) := by
  have HS := Lib.hid (Fr.start h hT h1 h2)
  have H4 := Lib.hid h4
  have HN : Hid (w.ownsRow w.heap.size 45 3 (.slice none 0 0) 0 (fldCs [])) := World.ownsRow_nil _ _ _ _
  clear h hT h1 h2 h4
  go_enter Try.func28, Try.ntmps28
  go_wp2_with fail
  go_loopw [3, 4] (fun v _ wr => ∃ (p : Nat) (t : Tab) (b' : Nat) (out : List Fld) (n : Nat), p ≤ s.size ∧ n ≤ 64 ∧ Hid (out.length = n) ∧ Hid (Fr w wr r g b b' s t p) ∧ Hid (Up.Ok4 t) ∧ Hid (wr.ownsRow w.heap.size 45 3 v n (fldCs out)) ∧ Hid (∀ k, v.ownBlock = some k → k ≠ b') ∧ Hid (go s t p out = R)) (fun _ _ wr => s.size - placeOf wr r)
  case atStart => exact ⟨p0, t0, b, [], 0, hp0, Nat.zero_le _, rfl, HS, H4, HN, Lib.hid (fun k hk => by cases hk), hR⟩
  case round =>
    obtain ⟨p, t, b', out, n, hp, hn64, hn, hF, h4, hO, hsep, hgo⟩ := hrel
    obtain ⟨A, cc, rfl⟩ := own_sl hO.out
    have HP := Lib.hid (placeOf_at hF.out.rd)
    have c0 := hF.out.rd.c0
    have c1 := hF.out.rd.c1
    by_cases hlt : p < s.size
    · have hdk : decide ((p : Int) < (s.size : Int)) = true := by rw [decide_eq_true_eq]; omega
      have hp0 : (0 : Int) ≤ (p : Int) := by omega
      have hpi : (p : Int) < (s.size : Int) := by omega
      obtain ⟨u, hu⟩ : ∃ u, s[p]'hlt = u := ⟨_, rfl⟩
      have hc : byteAt s.data.toList p = u.toNat := by rw [← hu, byte_at hlt]
      have hcb := u.toNat_lt
      have HC := Lib.hid hc
      by_cases hsz : isSize s p
      · have h32 : (32 : Int) ≤ (u.toNat : Int) := by have := hsz.1; omega
        have h64 : (u.toNat : Int) < 64 := by have := hsz.2; omega
        obtain ⟨q, hq⟩ : ∃ q, decide (0 < n) = q := ⟨_, rfl⟩
        have hqi : decide ((0 : Int) < (n : Int)) = q := by rw [← hq]; exact decide_eq_decide.2 (by omega)
        obtain ⟨Z, hZ⟩ : ∃ Z, siz s t p n = Z := ⟨_, rfl⟩
        have HRZ := Lib.hid (fun W (hA : RdAt W r g s p) (hTT : TAt W g b' t) => resize_any r g b' s p t n q Z W hA hTT h4.out hF.out.ne.1 hF.out.rb (by omega) hp hq (Lib.hid hZ))
        have HSZ := Lib.hid hsz
        have HZ := Lib.hid (show siz s t p out.length = Z from by rw [hn.out]; exact hZ)
        clear hsz hc hZ
        go_wp2_with fail
        go_quiet (fail)
        go_wp2_with fail
        go_quiet (fail)
        go_wp2_with fail
        refine (HRZ.out _ (hF.out.drewN _).rd (hF.out.drewN _).tab).mono ?_
        cases Z with
        | error x =>
          have hRe : R = (t, .error x) := by rw [← hgo.out]; exact go_siz_err hlt HSZ.out HZ.out
          subst hRe
          rintro e w1 ⟨rfl, hG⟩
          have HG := Lib.hid ((hF.out.drewN _).num hG)
          clear hG
          go_wp2_with fail
          exact ⟨rfl, rfl, ⟨b', HG.out.1, hF.out.at_⟩, HG.out.2⟩
        | ok tq =>
          obtain ⟨t', q'⟩ := tq
          have hgo2 := Lib.hid ((go_siz hlt HSZ.out HZ.out).symm.trans hgo.out)
          obtain ⟨i1, i2, _⟩ := siz_ok HZ.out
          have H42 := Lib.hid (siz_ok4 HZ.out)
          rintro e w1 ⟨rfl, hA, b2, hT1, hK1, hb2⟩
          have HF2 := Lib.hid ((hF.out.drewN _).step hA hT1 hK1 hb2)
          have hO2 := Lib.hid (own_same (w' := w1) hO.out (fun k hk => hK1.block k (hO.out.lt k hk).2 (by have := (hO.out.lt k hk).1; have := hF.out.lt; omega) (by have := (hO.out.lt k hk).1; have := hF.out.lt; omega) (hsep.out k hk)))
          have hsep2 := Lib.hid (fun k (hk : (Value.slice A n cc).ownBlock = some k) => show k ≠ b2 from by
            have h1 := (hO.out.lt k hk)
            have h2 := hsep.out k hk
            have h3 := hF.out.lt
            rcases hb2 with e | e | e
            · omega
            · omega
            · exact fun e2 => by subst e2; exact absurd h1.2 (Nat.not_lt.2 e))
          have HP2 := Lib.hid (placeOf_at hA)
          clear hA hT1 hK1 hb2
          go_wp2_with fail
          go_roundw
          case rel => exact ⟨q', t', b2, out, n, i2, hn64, hn, HF2, H42, hO2, hsep2, hgo2⟩
          case measure => rw [HP2.out, HP.out]; omega
      · by_cases h32 : 32 ≤ u.toNat
        · have h64 : ¬ (u.toNat < 64) := fun h => hsz ⟨by omega, by omega⟩
          have h32i : (32 : Int) ≤ (u.toNat : Int) := by omega
          have h64i : ¬ ((u.toNat : Int) < 64) := by omega
          clear h32 h64
          by_cases hfull : n = 64
          · have hRe : R = (t, .error 94) := by rw [← hgo.out]; exact go_full hlt hsz (by rw [hn.out]; exact hfull)
            subst hRe
            subst hfull
            have h64e : (((64 : Nat) : Int) == 64) = true := rfl
            clear hsz hc
            go_wp2_with fail
            go_quiet (fail)
            go_wp2_with fail
            go_quiet (fail)
            go_wp2_with fail
            exact ⟨rfl, rfl, ⟨b', (hF.out.drewN _).tab, hF.out.at_⟩, (hF.out.drewN _).kept⟩
          · have hnf : ((n : Int) == 64) = false := beq_eq_false_iff_ne.2 (by omega)
            obtain ⟨Z, hZ⟩ : ∃ Z, fld s t p = Z := ⟨_, rfl⟩
            have HRZ := Lib.hid (fun W (hA : RdAt W r g s p) (hTT : TAt W g b' t) => field_any r g b' s p t u.toNat Z W hA hTT h4.out hF.out.ne.1 hF.out.rb hs hp HC.out (Lib.hid hZ))
            have HSZ := Lib.hid hsz
            have HZ := Lib.hid hZ
            have HFU := Lib.hid (show out.length ≠ 64 from by rw [hn.out]; exact hfull)
            clear hsz hc hZ hfull
            go_wp2_with fail
            go_quiet (fail)
            go_wp2_with fail
            go_quiet (fail)
            go_wp2_with fail
            refine (HRZ.out _ (hF.out.drewN _).rd (hF.out.drewN _).tab).mono ?_
            cases Z with
            | error x =>
              have hRe : R = (t, .error x) := by rw [← hgo.out]; exact go_fld_err hlt HSZ.out HFU.out HZ.out
              subst hRe
              rintro e w1 ⟨rfl, hG⟩
              have HG := Lib.hid ((hF.out.drewN _).num hG)
              clear hG
              go_wp2_with fail
              exact ⟨rfl, rfl, ⟨b', HG.out.1, hF.out.at_⟩, HG.out.2⟩
            | ok tq =>
              obtain ⟨t', x, q'⟩ := tq
              have hgo2 := Lib.hid ((go_fld hlt HSZ.out HFU.out HZ.out).symm.trans hgo.out)
              obtain ⟨i1, i2⟩ := fld_ok HZ.out
              have H42 := Lib.hid (fld_ok4 HZ.out h4.out)
              have hn65 : n + 1 ≤ 64 := by have := HFU.out; have := hn.out; omega
              rintro e w1 ⟨rfl, hA, b2, hT1, hK1, hb2⟩
              have hF1 := (hF.out.drewN _).step hA hT1 hK1 hb2
              have hO1 : w1.ownsRow w.heap.size 45 3 (.slice A n cc) n (fldCs out) := own_same (w' := w1) hO.out (fun k hk => hK1.block k (hO.out.lt k hk).2 (by have := (hO.out.lt k hk).1; have := hF.out.lt; omega) (by have := (hO.out.lt k hk).1; have := hF.out.lt; omega) (hsep.out k hk))
              have hsep1 : ∀ k, (Value.slice A n cc).ownBlock = some k → k ≠ b2 := fun k hk => by
                have h1 := (hO.out.lt k hk)
                have h2 := hsep.out k hk
                have h3 := hF.out.lt
                rcases hb2 with e | e | e
                · omega
                · omega
                · exact fun e2 => by subst e2; exact absurd h1.2 (Nat.not_lt.2 e)
              have hlit := new_at w1 (.cells #[.string x.name, .string x.val, .bool x.never] 45) w1.heap.size rfl
              have hBL := (Below.refl _ w1).alloc (Nat.le_refl _) (.cells #[.string x.name, .string x.val, .bool x.never] 45)
              have hOL := own_same (w' := w1.alloc (.cells #[.string x.name, .string x.val, .bool x.never] 45)) hO1 (fun k hk => hBL.block k (hO1.lt k hk).2)
              obtain ⟨k2, cap, w2, hrun, hO2, hG2, hloc⟩ := run_append_fld hOL hlit (by omega) (Nat.le_trans hF1.kept.size hBL.size) 30
              have HRUN := Lib.hid hrun
              have hown : ∀ k, (Value.slice A n cc).ownBlock = some k → w.heap.size ≤ k := fun k hk => (hO1.lt k hk).1
              have hblk : ∀ k, k < w1.heap.size → (∀ j, (Value.slice A n cc).ownBlock = some j → k ≠ j) → w2.heap[k]? = w1.heap[k]? := fun k hk hne => (hG2.block k (Nat.lt_of_lt_of_le hk hBL.size) (fun e => hne k e.symm rfl)).trans (hBL.block k hk)
              have hF2 : Fr w w2 r g b b2 s t' q' := ⟨(hblk r hF1.rd.lt (fun j hj => by have := hown j hj; have := hF.out.lt; omega)).trans hF1.rd,
                hF1.tab.kept (Nat.le_trans hBL.size hG2.size) (hblk g hF1.tab.lt.1 (fun j hj => by have := hown j hj; have := hF.out.lt; omega)) (fun hb => hblk b2 hb (fun j hj => (hsep1 j hj).symm)),
                (hF1.kept.alloc _).own hG2 hown, hF1.at_, hF1.lt, hF1.ne⟩
              have HF2 := Lib.hid hF2
              have HO2 := Lib.hid hO2
              have hsep2 := Lib.hid (fun k (hk : (Value.slice (some ⟨k2, 0, none⟩) (n + 1) cap).ownBlock = some k) => show k ≠ b2 from by
                injection hk with hk
                have hk' : k2 = k := hk
                subst hk'
                rcases hloc with e | e
                · exact hsep1 _ e
                · have := hF1.tab.lt.2
                  have := hBL.size
                  omega)
              have HP2 := Lib.hid (placeOf_at hF2.rd)
              have hlen := Lib.hid (show (out ++ [x]).length = n + 1 from by rw [List.length_append, hn.out]; rfl)
              clear hA hT1 hK1 hb2 hF1 hO1 hsep1 hlit hBL hOL hrun hO2 hG2 hloc hown hblk hF2
              unfold fldV
              go_wp2_with (at_builtin; refine wpList_append_run rfl _ _ _ rfl _ _ _ rfl rfl HRUN.out ?_)
              go_roundw
              case rel => exact ⟨q', t', b2, out ++ [x], n + 1, i2, hn65, hlen, HF2, H42, HO2, hsep2, hgo2⟩
              case measure => rw [HP2.out, HP.out]; omega
        · have h32i : ¬ ((32 : Int) ≤ (u.toNat : Int)) := by omega
          clear h32
          by_cases hfull : n = 64
          · have hRe : R = (t, .error 94) := by rw [← hgo.out]; exact go_full hlt hsz (by rw [hn.out]; exact hfull)
            subst hRe
            subst hfull
            have h64e : (((64 : Nat) : Int) == 64) = true := rfl
            clear hsz hc
            go_wp2_with fail
            go_quiet (fail)
            go_wp2_with fail
            go_quiet (fail)
            go_wp2_with fail
            exact ⟨rfl, rfl, ⟨b', (hF.out.drewN _).tab, hF.out.at_⟩, (hF.out.drewN _).kept⟩
          · have hnf : ((n : Int) == 64) = false := beq_eq_false_iff_ne.2 (by omega)
            obtain ⟨Z, hZ⟩ : ∃ Z, fld s t p = Z := ⟨_, rfl⟩
            have HRZ := Lib.hid (fun W (hA : RdAt W r g s p) (hTT : TAt W g b' t) => field_any r g b' s p t u.toNat Z W hA hTT h4.out hF.out.ne.1 hF.out.rb hs hp HC.out (Lib.hid hZ))
            have HSZ := Lib.hid hsz
            have HZ := Lib.hid hZ
            have HFU := Lib.hid (show out.length ≠ 64 from by rw [hn.out]; exact hfull)
            clear hsz hc hZ hfull
            go_wp2_with fail
            go_quiet (fail)
            go_wp2_with fail
            go_quiet (fail)
            go_wp2_with fail
            refine (HRZ.out _ (hF.out.drewN _).rd (hF.out.drewN _).tab).mono ?_
            cases Z with
            | error x =>
              have hRe : R = (t, .error x) := by rw [← hgo.out]; exact go_fld_err hlt HSZ.out HFU.out HZ.out
              subst hRe
              rintro e w1 ⟨rfl, hG⟩
              have HG := Lib.hid ((hF.out.drewN _).num hG)
              clear hG
              go_wp2_with fail
              exact ⟨rfl, rfl, ⟨b', HG.out.1, hF.out.at_⟩, HG.out.2⟩
            | ok tq =>
              obtain ⟨t', x, q'⟩ := tq
              have hgo2 := Lib.hid ((go_fld hlt HSZ.out HFU.out HZ.out).symm.trans hgo.out)
              obtain ⟨i1, i2⟩ := fld_ok HZ.out
              have H42 := Lib.hid (fld_ok4 HZ.out h4.out)
              have hn65 : n + 1 ≤ 64 := by have := HFU.out; have := hn.out; omega
              rintro e w1 ⟨rfl, hA, b2, hT1, hK1, hb2⟩
              have hF1 := (hF.out.drewN _).step hA hT1 hK1 hb2
              have hO1 : w1.ownsRow w.heap.size 45 3 (.slice A n cc) n (fldCs out) := own_same (w' := w1) hO.out (fun k hk => hK1.block k (hO.out.lt k hk).2 (by have := (hO.out.lt k hk).1; have := hF.out.lt; omega) (by have := (hO.out.lt k hk).1; have := hF.out.lt; omega) (hsep.out k hk))
              have hsep1 : ∀ k, (Value.slice A n cc).ownBlock = some k → k ≠ b2 := fun k hk => by
                have h1 := (hO.out.lt k hk)
                have h2 := hsep.out k hk
                have h3 := hF.out.lt
                rcases hb2 with e | e | e
                · omega
                · omega
                · exact fun e2 => by subst e2; exact absurd h1.2 (Nat.not_lt.2 e)
              have hlit := new_at w1 (.cells #[.string x.name, .string x.val, .bool x.never] 45) w1.heap.size rfl
              have hBL := (Below.refl _ w1).alloc (Nat.le_refl _) (.cells #[.string x.name, .string x.val, .bool x.never] 45)
              have hOL := own_same (w' := w1.alloc (.cells #[.string x.name, .string x.val, .bool x.never] 45)) hO1 (fun k hk => hBL.block k (hO1.lt k hk).2)
              obtain ⟨k2, cap, w2, hrun, hO2, hG2, hloc⟩ := run_append_fld hOL hlit (by omega) (Nat.le_trans hF1.kept.size hBL.size) 30
              have HRUN := Lib.hid hrun
              have hown : ∀ k, (Value.slice A n cc).ownBlock = some k → w.heap.size ≤ k := fun k hk => (hO1.lt k hk).1
              have hblk : ∀ k, k < w1.heap.size → (∀ j, (Value.slice A n cc).ownBlock = some j → k ≠ j) → w2.heap[k]? = w1.heap[k]? := fun k hk hne => (hG2.block k (Nat.lt_of_lt_of_le hk hBL.size) (fun e => hne k e.symm rfl)).trans (hBL.block k hk)
              have hF2 : Fr w w2 r g b b2 s t' q' := ⟨(hblk r hF1.rd.lt (fun j hj => by have := hown j hj; have := hF.out.lt; omega)).trans hF1.rd,
                hF1.tab.kept (Nat.le_trans hBL.size hG2.size) (hblk g hF1.tab.lt.1 (fun j hj => by have := hown j hj; have := hF.out.lt; omega)) (fun hb => hblk b2 hb (fun j hj => (hsep1 j hj).symm)),
                (hF1.kept.alloc _).own hG2 hown, hF1.at_, hF1.lt, hF1.ne⟩
              have HF2 := Lib.hid hF2
              have HO2 := Lib.hid hO2
              have hsep2 := Lib.hid (fun k (hk : (Value.slice (some ⟨k2, 0, none⟩) (n + 1) cap).ownBlock = some k) => show k ≠ b2 from by
                injection hk with hk
                have hk' : k2 = k := hk
                subst hk'
                rcases hloc with e | e
                · exact hsep1 _ e
                · have := hF1.tab.lt.2
                  have := hBL.size
                  omega)
              have HP2 := Lib.hid (placeOf_at hF2.rd)
              have hlen := Lib.hid (show (out ++ [x]).length = n + 1 from by rw [List.length_append, hn.out]; rfl)
              clear hA hT1 hK1 hb2 hF1 hO1 hsep1 hlit hBL hOL hrun hO2 hG2 hloc hown hblk hF2
              unfold fldV
              go_wp2_with (at_builtin; refine wpList_append_run rfl _ _ _ rfl _ _ _ rfl rfl HRUN.out ?_)
              go_roundw
              case rel => exact ⟨q', t', b2, out ++ [x], n + 1, i2, hn65, hlen, HF2, H42, HO2, hsep2, hgo2⟩
              case measure => rw [HP2.out, HP.out]; omega
    · have hdk : decide ((p : Int) < (s.size : Int)) = false := by rw [decide_eq_false_iff_not]; omega
      have hRe : R = (t, .ok out) := by rw [← hgo.out]; exact go_end (by omega)
      subst hRe
      have hni : ¬ ((p : Int) < (s.size : Int)) := by omega
      go_wp2_with fail
      go_quiet (fail)
      go_wp2_with fail
      go_ret
      exact ⟨_, rfl, by rw [hn.out]; exact own_same hO.out (fun _ _ => rfl), ⟨b', (hF.out.drewN _).tab, hF.out.at_, hsep.out⟩, (hF.out.drewN _).kept⟩
end Go.Proofs.Ytamgnbjdeoklbaa
