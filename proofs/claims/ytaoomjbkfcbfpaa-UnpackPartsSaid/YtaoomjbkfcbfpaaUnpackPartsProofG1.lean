/- Texts of one proof, one behind the other: UpKnow, UpFields, UpRead, TcCopy, UpDec, UpSame, UpAwake, UpCame, UpLaw, UpTwo, UpParts. -/
import Derived.Test.YtaoomjbkfcbfpaaProg
import Derived.Test.YtaoomjbkfcbfpaaTbMath
import Derived.Test.YtaoomjbkfcbfpaaTbMem
import Derived.Test.YtaoomjbkfcbfpaaTbLeast
import Derived.Test.YtaoomjbkfcbfpaaTbFix
import Derived.Test.YtaoomjbkfcbfpaaTbAt
import Derived.Test.YtaoomjbkfcbfpaaTcMem
import Derived.Test.YtaoomjbkfcbfpaaTcLow
import Derived.Test.YtaoomjbkfcbfpaaTcShrink
import Derived.Test.YtaoomjbkfcbfpaaTcAdd
import Derived.Test.YtaoomjbkfcbfpaaTcAt
import Derived.Test.YtaoomjbkfcbfpaaBytes
import Derived.Test.YtaoomjbkfcbfpaaGrown
import Derived.Test.YtaoomjbkfcbfpaaUpMath
import Derived.Test.YtaoomjbkfcbfpaaUpRdr
import Derived.Test.YtaoomjbkfcbfpaaUpTxt
import Derived.Test.YtaoomjbkfcbfpaaUpFld
import Derived.Test.YtaoomjbkfcbfpaaUpField
import Derived.Test.YtaoomjbkfcbfpaaUpOwn
import Derived.Test.YtaoomjbkfcbfpaaTbRef
import Derived.Test.YtaoomjbkfcbfpaaUpEnt
import Derived.Test.YtaoomjbkfcbfpaaQuiet
import Derived.Test.YtaoomjbkfcbfpaaStrs
import Derived.Test.YtaoomjbkfcbfpaaUpFew
import Derived.Test.YtaoomjbkfcbfpaaUpRef
import Derived.Test.YtaoomjbkfcbfpaaUpRefR
import Derived.WalkKit
import Derived.Lib.Hide
import Derived.Laws.Rows
import Derived.Outline
import Derived.IntWalk
import Derived.WalkSpells
import Derived.WalkLawsBesides
import Derived.Deep.QuietTactic
import Derived.BigQuiet
import Derived.Deep.Draws
import Derived.Defers
import Derived.Recover
import Derived.Laws.MakeOwn
import Derived.Deep.RegionLaw
import Derived.Deep.CutBlock
import Derived.Deep.DeepCutAuto
import Derived.Deep.CutRange
import Derived.Below
import Derived.ProofKit
import Derived.OpenShut
import Derived.ShutString
import Derived.ChangeOld
import Derived.SliceStrings

/- What the laws ask of a table: its length, size, greatest size; its entries by number. No condition. -/
namespace Go.Proofs.Ytaoomjbkfcbfpaa
open Go.RowKit Tb
namespace Tb
theorem TAt.row {w : World} {g b : Nat} {t : Tab} (h : TAt w g b t) : ∃ ao c, w.heap[g]? = some (.cells #[.int .i64 (t.1 : Int), .int .i64 (sumL t.2 : Int), .slice ao t.2.length c] 71 (0, 0)) := by
  obtain ⟨⟨ao, off, c, hT⟩, _⟩ := h
  have h1 := hT.1
  rw [sum_rev, List.length_reverse] at h1
  exact ⟨ao, c, h1⟩
/-- An entry behind the fixed ones. -/
theorem at_mine {L : List Ent} {i : Nat} (h : i < L.length) : atR (fixedT ++ L) (62 + (i : Int)) = (entAt L i, true) := by
  have hf : fixedT.length = 61 := rfl
  have hl : (fixedT ++ L).length = 61 + L.length := by rw [List.length_append, hf]
  unfold atR
  have e1 : entAt (fixedT ++ L) (61 + i) = entAt L i := by
    have h2 := entAt_right (A := fixedT) (B := L) (k := 61 + i) (by rw [hf]; omega)
    rw [hf, show 61 + i - 61 = i by omega] at h2
    exact h2
  rw [if_neg (by rw [hl]; omega), show (62 + (i : Int)).toNat - 1 = 61 + i by omega, e1]
theorem at_none {L : List Ent} {i : Nat} (h : L.length ≤ i) : atR (fixedT ++ L) (62 + (i : Int)) = ((⟨#[]⟩, ⟨#[]⟩), false) := by
  have hf : fixedT.length = 61 := rfl
  have hl : (fixedT ++ L).length = 61 + L.length := by rw [List.length_append, hf]
  unfold atR
  rw [if_pos (.inr (by rw [hl]; omega))]
theorem entAt_least {L : List Ent} {m i : Nat} (h : i < (leastL L m).length) : entAt (leastL L m) i = entAt L i := by
  obtain ⟨k, hk, he⟩ := leastL_pre L m
  rw [he] at h ⊢
  rw [List.length_take] at h
  unfold entAt
  rw [List.getD_eq_getElem?_getD, List.getD_eq_getElem?_getD, List.getElem?_take_of_lt (by omega)]
end Tb
theorem len_t (g b : Nat) (t : Tab) (n : Nat) (w : World) (h : Hid (TAt w g b t)) (hn : Hid (t.2.length = n)) :
    Calls Try.prog 18 #[.pointer (some ⟨g, 0, none⟩)] w fun e w' => e = .returned (.int .i64 (n : Int)) ∧ w' = w := by
  obtain ⟨ao, c, hr⟩ := h.out.row
  rw [hn.out] at hr
  exact len_is g _ _ _ _ _ _ w (Lib.hid hr)
theorem size_t (g b : Nat) (t : Tab) (S : Nat) (w : World) (h : Hid (TAt w g b t)) (hn : Hid (sumL t.2 = S)) :
    Calls Try.prog 16 #[.pointer (some ⟨g, 0, none⟩)] w fun e w' => e = .returned (.int .i64 (S : Int)) ∧ w' = w := by
  obtain ⟨ao, c, hr⟩ := h.out.row
  rw [hn.out] at hr
  exact size_is g _ _ _ _ w (Lib.hid hr)
theorem most_t (g b : Nat) (t : Tab) (M : Int) (w : World) (h : Hid (TAt w g b t)) (hn : Hid ((t.1 : Int) = M)) :
    Calls Try.prog 17 #[.pointer (some ⟨g, 0, none⟩)] w fun e w' => e = .returned (.int .i64 M) ∧ w' = w := by
  obtain ⟨ao, c, hr⟩ := h.out.row
  rw [hn.out] at hr
  exact most_is g _ _ _ _ w (Lib.hid hr)
end Go.Proofs.Ytaoomjbkfcbfpaa

/- The contract of a header block's reader: all fields. For blocks of at most 10^4 bytes. -/
namespace Go.Proofs.Ytaoomjbkfcbfpaa
open Go.RowKit Bytes Tb Up

/-- The place of a reader. -/
def placeOf (w : World) (B : Nat) : Nat :=
  match w.cell? ⟨B, 1, none⟩ with
  | some (.int _ n) => n.toNat
  | _ => 0
theorem placeOf_at {w : World} {r g : Nat} {s : ByteArray} {p : Nat} (h : RdAt w r g s p) : placeOf w r = p := by
  unfold placeOf
  rw [h.c1]
  exact Int.toNat_natCast p
theorem tat_drewN {w : World} {g b : Nat} {t : Tab} (h : TAt w g b t) (n : Nat) : TAt (w.drewN n) g b t := h.below ⟨rfl, rfl, rfl, Nat.le_refl _, fun _ _ => rfl⟩
/-- What stands while fields are read: the reader, the table with its row b', nothing else that stood has changed. -/
structure Fr (w w1 : World) (r g b b' : Nat) (s : ByteArray) (t : Tab) (p : Nat) : Prop where
  rd : RdAt w1 r g s p
  tab : TAt w1 g b' t
  kept : Kept3 r g b w w1
  at_ : b' = b ∨ b' = g ∨ w.heap.size ≤ b'
  lt : r < w.heap.size ∧ g < w.heap.size ∧ b < w.heap.size
  ne : r ≠ g ∧ r ≠ b
section
variable {w w1 w2 : World} {r g b b' b2 : Nat} {s : ByteArray} {t t' : Tab} {p q : Nat}
theorem Fr.start (h : RdAt w r g s p) (hT : TAt w g b t) (h1 : r ≠ g) (h2 : r ≠ b) : Fr w w r g b b s t p := ⟨h, hT, Kept3.refl _ _ _ _, .inl rfl, ⟨h.lt, hT.lt.1, hT.lt.2⟩, ⟨h1, h2⟩⟩
theorem Fr.rb (h : Fr w w1 r g b b' s t p) : r ≠ b' := by
  have h1 := h.lt
  have h2 := h.ne
  rcases h.at_ with e | e | e <;> omega
theorem Fr.drewN (h : Fr w w1 r g b b' s t p) (n : Nat) : Fr w (w1.drewN n) r g b b' s t p := ⟨h.rd, tat_drewN h.tab n, h.kept.drewN n, h.at_, h.lt, h.ne⟩
/-- The reader went on, the table stands. -/
theorem Fr.num (h : Fr w w1 r g b b' s t p) (hG : w1.grownBy w2 (some r)) : TAt w2 g b' t ∧ Kept3 r g b w w2 :=
  ⟨h.tab.kept hG.size (grown_block hG h.tab.lt.1 (fun e => h.ne.1 e.symm)) (fun hb => grown_block hG hb (fun e => h.rb e.symm)), h.kept.trans (Kept3.of_grown (b := b') hG) h.at_⟩
/-- The table was turned. -/
theorem Fr.step (h : Fr w w1 r g b b' s t p) (hR : RdAt w2 r g s q) (hT : TAt w2 g b2 t') (hK : Kept3 r g b' w1 w2) (hb : b2 = b' ∨ b2 = g ∨ w1.heap.size ≤ b2) : Fr w w2 r g b b2 s t' q := by
  refine ⟨hR, hT, h.kept.trans hK h.at_, ?_, h.lt, h.ne⟩
  have h1 := h.kept.size
  have h2 := h.at_
  omega
end
/-- All fields came, or the reading gave up. -/
def FdEnd (w : World) (r g b : Nat) : Tab × Except Nat (List Fld) → Ending → World → Prop
  | (t, .error x), e, w' => e = gave x ∧ (∃ b', TAt w' g b' t ∧ (b' = b ∨ b' = g ∨ w.heap.size ≤ b')) ∧ Kept3 r g b w w'
  | (t, .ok out), e, w' => ∃ v, e = .returned v ∧ w'.ownsRow w.heap.size 47 3 v out.length (fldCs out) ∧ (∃ b', TAt w' g b' t ∧ (b' = b ∨ b' = g ∨ w.heap.size ≤ b') ∧ ∀ k, v.ownBlock = some k → k ≠ b') ∧ Kept3 r g b w w'

set_option maxHeartbeats 4000000 in
set_option maxRecDepth 100000 in
theorem fields_any (r g b : Nat) (s : ByteArray) (p0 : Nat) (t0 : Tab) (R : Tab × Except Nat (List Fld)) (w : World) (h : RdAt w r g s p0) (hT : TAt w g b t0) (h4 : Up.Ok4 t0) (h1 : r ≠ g) (h2 : r ≠ b) (hs : s.size ≤ 10000) (hp0 : p0 ≤ s.size) (hR : Hid (go s t0 p0 [] = R)) :
    Calls Try.prog 23 #[.pointer (some ⟨r, 0, none⟩)] w (FdEnd w r g b R) := by
  have HS := Lib.hid (Fr.start h hT h1 h2)
  have H4 := Lib.hid h4
  have HN : Hid (w.ownsRow w.heap.size 47 3 (.slice none 0 0) 0 (fldCs [])) := World.ownsRow_nil _ _ _ _
  clear h hT h1 h2 h4
  go_enter Try.func23, Try.ntmps23
  go_wp2_with fail
  go_loopw [3, 4] (fun v _ wr => ∃ (p : Nat) (t : Tab) (b' : Nat) (out : List Fld) (n : Nat), p ≤ s.size ∧ n ≤ 64 ∧ Hid (out.length = n) ∧ Hid (Fr w wr r g b b' s t p) ∧ Hid (Up.Ok4 t) ∧ Hid (wr.ownsRow w.heap.size 47 3 v n (fldCs out)) ∧ Hid (∀ k, v.ownBlock = some k → k ≠ b') ∧ Hid (go s t p out = R)) (fun _ _ wr => s.size - placeOf wr r)
  case atStart => exact ⟨p0, t0, b, [], 0, hp0, Nat.zero_le _, rfl, HS, H4, HN, Lib.hid (fun k hk => by cases hk), hR⟩
  case round =>
    obtain ⟨p, t, b', out, n, hp, hn64, hn, hF, h4, hO, hsep, hgo⟩ := hrel
    obtain ⟨A, cc, rfl⟩ := own_sl hO.out
    have HP := Lib.hid (placeOf_at hF.out.rd)
    have c0 := hF.out.rd.c0
    have c1 := hF.out.rd.c1
    by_cases hlt : p < s.size
    · have hdk : decide ((p : Int) < (s.size : Int)) = true := by rw [decide_eq_true_eq]; omega
      have hp0 : (0 : Int) ≤ (p : Int) := by omega
      have hpi : (p : Int) < (s.size : Int) := by omega
      obtain ⟨u, hu⟩ : ∃ u, s[p]'hlt = u := ⟨_, rfl⟩
      have hc : byteAt s.data.toList p = u.toNat := by rw [← hu, byte_at hlt]
      have hcb := u.toNat_lt
      have HC := Lib.hid hc
      by_cases hsz : isSize s p
      · have h32 : (32 : Int) ≤ (u.toNat : Int) := by have := hsz.1; omega
        have h64 : (u.toNat : Int) < 64 := by have := hsz.2; omega
        obtain ⟨q, hq⟩ : ∃ q, decide (0 < n) = q := ⟨_, rfl⟩
        have hqi : decide ((0 : Int) < (n : Int)) = q := by rw [← hq]; exact decide_eq_decide.2 (by omega)
        obtain ⟨Z, hZ⟩ : ∃ Z, siz s t p n = Z := ⟨_, rfl⟩
        have HRZ := Lib.hid (fun W (hA : RdAt W r g s p) (hTT : TAt W g b' t) => resize_any r g b' s p t n q Z W hA hTT h4.out hF.out.ne.1 hF.out.rb (by omega) hp hq (Lib.hid hZ))
        have HSZ := Lib.hid hsz
        have HZ := Lib.hid (show siz s t p out.length = Z from by rw [hn.out]; exact hZ)
        clear hsz hc hZ
        go_wp2_with fail
        go_quiet (fail)
        go_wp2_with fail
        go_quiet (fail)
        go_wp2_with fail
        refine (HRZ.out _ (hF.out.drewN _).rd (hF.out.drewN _).tab).mono ?_
        cases Z with
        | error x =>
          have hRe : R = (t, .error x) := by rw [← hgo.out]; exact go_siz_err hlt HSZ.out HZ.out
          subst hRe
          rintro e w1 ⟨rfl, hG⟩
          have HG := Lib.hid ((hF.out.drewN _).num hG)
          clear hG
          go_wp2_with fail
          exact ⟨rfl, rfl, ⟨b', HG.out.1, hF.out.at_⟩, HG.out.2⟩
        | ok tq =>
          obtain ⟨t', q'⟩ := tq
          have hgo2 := Lib.hid ((go_siz hlt HSZ.out HZ.out).symm.trans hgo.out)
          obtain ⟨i1, i2, _⟩ := siz_ok HZ.out
          have H42 := Lib.hid (siz_ok4 HZ.out)
          rintro e w1 ⟨rfl, hA, b2, hT1, hK1, hb2⟩
          have HF2 := Lib.hid ((hF.out.drewN _).step hA hT1 hK1 hb2)
          have hO2 := Lib.hid (own_same (w' := w1) hO.out (fun k hk => hK1.block k (hO.out.lt k hk).2 (by have := (hO.out.lt k hk).1; have := hF.out.lt; omega) (by have := (hO.out.lt k hk).1; have := hF.out.lt; omega) (hsep.out k hk)))
          have hsep2 := Lib.hid (fun k (hk : (Value.slice A n cc).ownBlock = some k) => show k ≠ b2 from by
            have h1 := (hO.out.lt k hk)
            have h2 := hsep.out k hk
            have h3 := hF.out.lt
            rcases hb2 with e | e | e
            · omega
            · omega
            · exact fun e2 => by subst e2; exact absurd h1.2 (Nat.not_lt.2 e))
          have HP2 := Lib.hid (placeOf_at hA)
          clear hA hT1 hK1 hb2
          go_wp2_with fail
          go_roundw
          case rel => exact ⟨q', t', b2, out, n, i2, hn64, hn, HF2, H42, hO2, hsep2, hgo2⟩
          case measure => rw [HP2.out, HP.out]; omega
      · by_cases h32 : 32 ≤ u.toNat
        · have h64 : ¬ (u.toNat < 64) := fun h => hsz ⟨by omega, by omega⟩
          have h32i : (32 : Int) ≤ (u.toNat : Int) := by omega
          have h64i : ¬ ((u.toNat : Int) < 64) := by omega
          clear h32 h64
          by_cases hfull : n = 64
          · have hRe : R = (t, .error 94) := by rw [← hgo.out]; exact go_full hlt hsz (by rw [hn.out]; exact hfull)
            subst hRe
            subst hfull
            have h64e : (((64 : Nat) : Int) == 64) = true := rfl
            clear hsz hc
            go_wp2_with fail
            go_quiet (fail)
            go_wp2_with fail
            go_quiet (fail)
            go_wp2_with fail
            exact ⟨rfl, rfl, ⟨b', (hF.out.drewN _).tab, hF.out.at_⟩, (hF.out.drewN _).kept⟩
          · have hnf : ((n : Int) == 64) = false := beq_eq_false_iff_ne.2 (by omega)
            obtain ⟨Z, hZ⟩ : ∃ Z, fld s t p = Z := ⟨_, rfl⟩
            have HRZ := Lib.hid (fun W (hA : RdAt W r g s p) (hTT : TAt W g b' t) => field_any r g b' s p t u.toNat Z W hA hTT h4.out hF.out.ne.1 hF.out.rb hs hp HC.out (Lib.hid hZ))
            have HSZ := Lib.hid hsz
            have HZ := Lib.hid hZ
            have HFU := Lib.hid (show out.length ≠ 64 from by rw [hn.out]; exact hfull)
            clear hsz hc hZ hfull
            go_wp2_with fail
            go_quiet (fail)
            go_wp2_with fail
            go_quiet (fail)
            go_wp2_with fail
            refine (HRZ.out _ (hF.out.drewN _).rd (hF.out.drewN _).tab).mono ?_
            cases Z with
            | error x =>
              have hRe : R = (t, .error x) := by rw [← hgo.out]; exact go_fld_err hlt HSZ.out HFU.out HZ.out
              subst hRe
              rintro e w1 ⟨rfl, hG⟩
              have HG := Lib.hid ((hF.out.drewN _).num hG)
              clear hG
              go_wp2_with fail
              exact ⟨rfl, rfl, ⟨b', HG.out.1, hF.out.at_⟩, HG.out.2⟩
            | ok tq =>
              obtain ⟨t', x, q'⟩ := tq
              have hgo2 := Lib.hid ((go_fld hlt HSZ.out HFU.out HZ.out).symm.trans hgo.out)
              obtain ⟨i1, i2⟩ := fld_ok HZ.out
              have H42 := Lib.hid (fld_ok4 HZ.out h4.out)
              have hn65 : n + 1 ≤ 64 := by have := HFU.out; have := hn.out; omega
              rintro e w1 ⟨rfl, hA, b2, hT1, hK1, hb2⟩
              have hF1 := (hF.out.drewN _).step hA hT1 hK1 hb2
              have hO1 : w1.ownsRow w.heap.size 47 3 (.slice A n cc) n (fldCs out) := own_same (w' := w1) hO.out (fun k hk => hK1.block k (hO.out.lt k hk).2 (by have := (hO.out.lt k hk).1; have := hF.out.lt; omega) (by have := (hO.out.lt k hk).1; have := hF.out.lt; omega) (hsep.out k hk))
              have hsep1 : ∀ k, (Value.slice A n cc).ownBlock = some k → k ≠ b2 := fun k hk => by
                have h1 := (hO.out.lt k hk)
                have h2 := hsep.out k hk
                have h3 := hF.out.lt
                rcases hb2 with e | e | e
                · omega
                · omega
                · exact fun e2 => by subst e2; exact absurd h1.2 (Nat.not_lt.2 e)
              have hlit := new_at w1 (.cells #[.string x.name, .string x.val, .bool x.never] 47) w1.heap.size rfl
              have hBL := (Below.refl _ w1).alloc (Nat.le_refl _) (.cells #[.string x.name, .string x.val, .bool x.never] 47)
              have hOL := own_same (w' := w1.alloc (.cells #[.string x.name, .string x.val, .bool x.never] 47)) hO1 (fun k hk => hBL.block k (hO1.lt k hk).2)
              obtain ⟨k2, cap, w2, hrun, hO2, hG2, hloc⟩ := run_append_fld hOL hlit (by omega) (Nat.le_trans hF1.kept.size hBL.size) 33
              have HRUN := Lib.hid hrun
              have hown : ∀ k, (Value.slice A n cc).ownBlock = some k → w.heap.size ≤ k := fun k hk => (hO1.lt k hk).1
              have hblk : ∀ k, k < w1.heap.size → (∀ j, (Value.slice A n cc).ownBlock = some j → k ≠ j) → w2.heap[k]? = w1.heap[k]? := fun k hk hne => (hG2.block k (Nat.lt_of_lt_of_le hk hBL.size) (fun e => hne k e.symm rfl)).trans (hBL.block k hk)
              have hF2 : Fr w w2 r g b b2 s t' q' := ⟨(hblk r hF1.rd.lt (fun j hj => by have := hown j hj; have := hF.out.lt; omega)).trans hF1.rd,
                hF1.tab.kept (Nat.le_trans hBL.size hG2.size) (hblk g hF1.tab.lt.1 (fun j hj => by have := hown j hj; have := hF.out.lt; omega)) (fun hb => hblk b2 hb (fun j hj => (hsep1 j hj).symm)),
                (hF1.kept.alloc _).own hG2 hown, hF1.at_, hF1.lt, hF1.ne⟩
              have HF2 := Lib.hid hF2
              have HO2 := Lib.hid hO2
              have hsep2 := Lib.hid (fun k (hk : (Value.slice (some ⟨k2, 0, none⟩) (n + 1) cap).ownBlock = some k) => show k ≠ b2 from by
                injection hk with hk
                have hk' : k2 = k := hk
                subst hk'
                rcases hloc with e | e
                · exact hsep1 _ e
                · have := hF1.tab.lt.2
                  have := hBL.size
                  omega)
              have HP2 := Lib.hid (placeOf_at hF2.rd)
              have hlen := Lib.hid (show (out ++ [x]).length = n + 1 from by rw [List.length_append, hn.out]; rfl)
              clear hA hT1 hK1 hb2 hF1 hO1 hsep1 hlit hBL hOL hrun hO2 hG2 hloc hown hblk hF2
              unfold fldV
              go_wp2_with (at_builtin; refine wpList_append_run rfl _ _ _ rfl _ _ _ rfl rfl HRUN.out ?_)
              go_roundw
              case rel => exact ⟨q', t', b2, out ++ [x], n + 1, i2, hn65, hlen, HF2, H42, HO2, hsep2, hgo2⟩
              case measure => rw [HP2.out, HP.out]; omega
        · have h32i : ¬ ((32 : Int) ≤ (u.toNat : Int)) := by omega
          clear h32
          by_cases hfull : n = 64
          · have hRe : R = (t, .error 94) := by rw [← hgo.out]; exact go_full hlt hsz (by rw [hn.out]; exact hfull)
            subst hRe
            subst hfull
            have h64e : (((64 : Nat) : Int) == 64) = true := rfl
            clear hsz hc
            go_wp2_with fail
            go_quiet (fail)
            go_wp2_with fail
            go_quiet (fail)
            go_wp2_with fail
            exact ⟨rfl, rfl, ⟨b', (hF.out.drewN _).tab, hF.out.at_⟩, (hF.out.drewN _).kept⟩
          · have hnf : ((n : Int) == 64) = false := beq_eq_false_iff_ne.2 (by omega)
            obtain ⟨Z, hZ⟩ : ∃ Z, fld s t p = Z := ⟨_, rfl⟩
            have HRZ := Lib.hid (fun W (hA : RdAt W r g s p) (hTT : TAt W g b' t) => field_any r g b' s p t u.toNat Z W hA hTT h4.out hF.out.ne.1 hF.out.rb hs hp HC.out (Lib.hid hZ))
            have HSZ := Lib.hid hsz
            have HZ := Lib.hid hZ
            have HFU := Lib.hid (show out.length ≠ 64 from by rw [hn.out]; exact hfull)
            clear hsz hc hZ hfull
            go_wp2_with fail
            go_quiet (fail)
            go_wp2_with fail
            go_quiet (fail)
            go_wp2_with fail
            refine (HRZ.out _ (hF.out.drewN _).rd (hF.out.drewN _).tab).mono ?_
            cases Z with
            | error x =>
              have hRe : R = (t, .error x) := by rw [← hgo.out]; exact go_fld_err hlt HSZ.out HFU.out HZ.out
              subst hRe
              rintro e w1 ⟨rfl, hG⟩
              have HG := Lib.hid ((hF.out.drewN _).num hG)
              clear hG
              go_wp2_with fail
              exact ⟨rfl, rfl, ⟨b', HG.out.1, hF.out.at_⟩, HG.out.2⟩
            | ok tq =>
              obtain ⟨t', x, q'⟩ := tq
              have hgo2 := Lib.hid ((go_fld hlt HSZ.out HFU.out HZ.out).symm.trans hgo.out)
              obtain ⟨i1, i2⟩ := fld_ok HZ.out
              have H42 := Lib.hid (fld_ok4 HZ.out h4.out)
              have hn65 : n + 1 ≤ 64 := by have := HFU.out; have := hn.out; omega
              rintro e w1 ⟨rfl, hA, b2, hT1, hK1, hb2⟩
              have hF1 := (hF.out.drewN _).step hA hT1 hK1 hb2
              have hO1 : w1.ownsRow w.heap.size 47 3 (.slice A n cc) n (fldCs out) := own_same (w' := w1) hO.out (fun k hk => hK1.block k (hO.out.lt k hk).2 (by have := (hO.out.lt k hk).1; have := hF.out.lt; omega) (by have := (hO.out.lt k hk).1; have := hF.out.lt; omega) (hsep.out k hk))
              have hsep1 : ∀ k, (Value.slice A n cc).ownBlock = some k → k ≠ b2 := fun k hk => by
                have h1 := (hO.out.lt k hk)
                have h2 := hsep.out k hk
                have h3 := hF.out.lt
                rcases hb2 with e | e | e
                · omega
                · omega
                · exact fun e2 => by subst e2; exact absurd h1.2 (Nat.not_lt.2 e)
              have hlit := new_at w1 (.cells #[.string x.name, .string x.val, .bool x.never] 47) w1.heap.size rfl
              have hBL := (Below.refl _ w1).alloc (Nat.le_refl _) (.cells #[.string x.name, .string x.val, .bool x.never] 47)
              have hOL := own_same (w' := w1.alloc (.cells #[.string x.name, .string x.val, .bool x.never] 47)) hO1 (fun k hk => hBL.block k (hO1.lt k hk).2)
              obtain ⟨k2, cap, w2, hrun, hO2, hG2, hloc⟩ := run_append_fld hOL hlit (by omega) (Nat.le_trans hF1.kept.size hBL.size) 33
              have HRUN := Lib.hid hrun
              have hown : ∀ k, (Value.slice A n cc).ownBlock = some k → w.heap.size ≤ k := fun k hk => (hO1.lt k hk).1
              have hblk : ∀ k, k < w1.heap.size → (∀ j, (Value.slice A n cc).ownBlock = some j → k ≠ j) → w2.heap[k]? = w1.heap[k]? := fun k hk hne => (hG2.block k (Nat.lt_of_lt_of_le hk hBL.size) (fun e => hne k e.symm rfl)).trans (hBL.block k hk)
              have hF2 : Fr w w2 r g b b2 s t' q' := ⟨(hblk r hF1.rd.lt (fun j hj => by have := hown j hj; have := hF.out.lt; omega)).trans hF1.rd,
                hF1.tab.kept (Nat.le_trans hBL.size hG2.size) (hblk g hF1.tab.lt.1 (fun j hj => by have := hown j hj; have := hF.out.lt; omega)) (fun hb => hblk b2 hb (fun j hj => (hsep1 j hj).symm)),
                (hF1.kept.alloc _).own hG2 hown, hF1.at_, hF1.lt, hF1.ne⟩
              have HF2 := Lib.hid hF2
              have HO2 := Lib.hid hO2
              have hsep2 := Lib.hid (fun k (hk : (Value.slice (some ⟨k2, 0, none⟩) (n + 1) cap).ownBlock = some k) => show k ≠ b2 from by
                injection hk with hk
                have hk' : k2 = k := hk
                subst hk'
                rcases hloc with e | e
                · exact hsep1 _ e
                · have := hF1.tab.lt.2
                  have := hBL.size
                  omega)
              have HP2 := Lib.hid (placeOf_at hF2.rd)
              have hlen := Lib.hid (show (out ++ [x]).length = n + 1 from by rw [List.length_append, hn.out]; rfl)
              clear hA hT1 hK1 hb2 hF1 hO1 hsep1 hlit hBL hOL hrun hO2 hG2 hloc hown hblk hF2
              unfold fldV
              go_wp2_with (at_builtin; refine wpList_append_run rfl _ _ _ rfl _ _ _ rfl rfl HRUN.out ?_)
              go_roundw
              case rel => exact ⟨q', t', b2, out ++ [x], n + 1, i2, hn65, hlen, HF2, H42, HO2, hsep2, hgo2⟩
              case measure => rw [HP2.out, HP.out]; omega
    · have hdk : decide ((p : Int) < (s.size : Int)) = false := by rw [decide_eq_false_iff_not]; omega
      have hRe : R = (t, .ok out) := by rw [← hgo.out]; exact go_end (by omega)
      subst hRe
      have hni : ¬ ((p : Int) < (s.size : Int)) := by omega
      go_wp2_with fail
      go_quiet (fail)
      go_wp2_with fail
      go_ret
      exact ⟨_, rfl, by rw [hn.out]; exact own_same hO.out (fun _ _ => rfl), ⟨b', (hF.out.drewN _).tab, hF.out.at_, hsep.out⟩, (hF.out.drewN _).kept⟩
end Go.Proofs.Ytaoomjbkfcbfpaa

/- The contract of a decoder's Read: a block's fields, or the error; the table behind it. For blocks of at most 10^4 bytes. -/
namespace Go.Proofs.Ytaoomjbkfcbfpaa
open Go.RowKit Bytes Tb Up

theorem assert_hit (v : Value) (w : World) : (Instr.typeAssert (.iface 34 v) 20 34 false).run Try.prog w = .ok v w := by kernel_rfl

theorem catch_panicking (q1 q2 : Addr) (d k : Nat) (x y : Value) (w : World) (hb : w.cell? q1 = some (.pointer (some ⟨d, 0, none⟩))) (hd : w.cell? ⟨d, 1, none⟩ = some y) (hdz : w.frozen? ⟨d, 1, none⟩ = false)
    (hc : (w.setCell ⟨d, 1, none⟩ (.bool true)).cell? q2 = some x) (hz : (w.setCell ⟨d, 1, none⟩ (.bool true)).frozen? q2 = false) :
    CallsD Try.prog 22 #[.pointer (some q1), .pointer (some q2)] (.panicking [{ v := .iface 34 (.int .i64 k), recovered := false }]) w fun e u' w' =>
      e = .returned (.tuple #[]) ∧ u' = .panicking [{ v := .iface 34 (.int .i64 k), recovered := true }] ∧ w' = (w.setCell ⟨d, 1, none⟩ (.bool true)).setCell q2 (.int .i64 k) := by
  refine callsD_of_wpS Try.func22 rfl fun c₀ cs hu => ?_
  apply wpS_seq
  apply wpS_region
  simp [wpOpsS, go_sem, recoverD, hu, Try.ntmps22, Exit.thenS]
  apply wpS_seq
  apply wpS_region
  simp [wpOpsS, go_sem, Exit.thenS]
  refine wpS_cond (t := true) rfl ?_
  simp only [if_true]
  apply wpS_seq
  apply wpS_region
  simp [wpOpsS, go_sem, Exit.thenS, hb, hd, hdz]
  apply wpS_region
  simp [wpOpsS, go_sem, assert_hit, hc, hz, bodyPostS, results, Try.results22]

theorem catch_idle (q1 q2 : Addr) (w : World) :
    CallsD Try.prog 22 #[.pointer (some q1), .pointer (some q2)] .returning w fun e u' w' => e = .returned (.tuple #[]) ∧ u' = .returning ∧ w' = w := by
  refine callsD_of_wpS Try.func22 rfl fun c₀ cs hu => ?_
  apply wpS_seq
  apply wpS_region
  simp [wpOpsS, go_sem, recoverD, hu, Try.ntmps22, Exit.thenS]
  apply wpS_seq
  apply wpS_region
  simp [wpOpsS, go_sem, Exit.thenS]
  refine wpS_cond (t := false) rfl ?_
  apply wpS_of_wp
  go_wp2_with fail
  simp [bodyPostS, results, Try.results22]
  cases c₀
  simp at hu
  subst hu
  rfl

/-- A decoder in memory: its block d, its table's block g, the table's row in block b. -/
structure DcAt (w : World) (d g b : Nat) (D : Dec) : Prop where
  cells : w.heap[d]? = some (.cells #[.pointer (some ⟨g, 0, none⟩), .bool D.2] 50 (0, 0))
  tab : TAt w g b D.1
  ok4 : Up.Ok4 D.1
  ne : d ≠ g ∧ d ≠ b
theorem DcAt.lt {w : World} {d g b : Nat} {D : Dec} (h : DcAt w d g b D) : d < w.heap.size ∧ g < w.heap.size ∧ b < w.heap.size := ⟨world_lt h.cells, h.tab.lt.1, h.tab.lt.2⟩
theorem DcAt.kept {w w' : World} {d g b : Nat} {D : Dec} (h : DcAt w d g b D) (hs : w.heap.size ≤ w'.heap.size) (hk : ∀ k, k = d ∨ k = g ∨ k = b → w'.heap[k]? = w.heap[k]?) : DcAt w' d g b D :=
  ⟨(hk d (.inl rfl)).trans h.cells, h.tab.kept hs (hk g (.inr (.inl rfl))) (fun _ => hk b (.inr (.inr rfl))), h.ok4, h.ne⟩
theorem DcAt.below {w w' : World} {d g b : Nat} {D : Dec} (h : DcAt w d g b D) (hB : Below w.heap.size w w') : DcAt w' d g b D := by
  have hl := h.lt
  exact h.kept hB.size (fun k hk => hB.block k (by omega))
theorem DcAt.drewN {w : World} {d g b : Nat} {D : Dec} (h : DcAt w d g b D) (n : Nat) : DcAt (w.drewN n) d g b D := h.kept (Nat.le_refl _) (fun _ _ => rfl)
/-- A block was read. -/
def RdEnd (w : World) (d g b : Nat) : Dec × List Fld × Nat → Ending → World → Prop
  | (D, out, c), e, w' => ∃ v, e = .returned (.tuple #[v, .int .i64 (c : Int)]) ∧ w'.ownsRow w.heap.size 47 3 v out.length (fldCs out) ∧ ∃ b', DcAt w' d g b' D ∧ Kept3 d g b w w' ∧ (b' = b ∨ b' = g ∨ w.heap.size ≤ b') ∧ ∀ k, v.ownBlock = some k → k ≠ b'

set_option maxHeartbeats 4000000 in
set_option maxRecDepth 100000 in
theorem read_any (d g b : Nat) (D : Dec) (s : ByteArray) (R : Dec × List Fld × Nat) (w : World) (h : DcAt w d g b D) (hs : s.size ≤ 10000) (hR : Hid (Up.read D s = R)) :
    Calls Try.prog 10 #[.pointer (some ⟨d, 0, none⟩), .string s] w (RdEnd w d g b R) := by
  have hmf : ∀ (fn : Fn) (first cap : Array Value) (w : World), (Instr.makeFunc fn first cap).run Try.prog w = .ok (.func fn first cap) w := fun _ _ _ _ => rfl
  obtain ⟨G, hG⟩ : ∃ G, w.heap.size = G := ⟨_, rfl⟩
  obtain ⟨t, dn⟩ := D
  have hl := h.lt
  have hr := hR.out
  obtain ⟨W, hW⟩ : ∃ W, ((w.alloc (.cells #[.pointer (some ⟨d, 0, none⟩)] 25)).alloc (.cells #[.int .i64 0] 34)) = W := ⟨_, rfl⟩
  have hWs : W.heap.size = G + 2 := by rw [← hW, ← hG]; simp
  have hB : Below G w W := by
    rw [← hW, ← hG]
    exact ((Below.refl _ w).alloc (Nat.le_refl _) _).alloc (by simp) _
  have k0 : W.heap[G]? = some (.cells #[.pointer (some ⟨d, 0, none⟩)] 25 (0, 0)) := by rw [← hW, ← hG]; exact old_at (new_at _ _ _ rfl)
  have k1 : W.heap[G + 1]? = some (.cells #[.int .i64 0] 34 (0, 0)) := by rw [← hW, ← hG]; exact new_at _ _ _ (by simp)
  have hD : DcAt W d g b (t, dn) := h.below (by rw [hG]; exact hB)
  have e0 := cell_of_row _ _ 0 _ _ _ k0
  have e1 := cell_of_row _ _ 0 _ _ _ k1
  have f0 := cell_of_row _ _ 0 _ _ _ hD.cells
  have f1 := cell_of_row _ _ 1 _ _ _ hD.cells
  have z1 : W.frozen? ⟨G + 1, 0, none⟩ = false := by simp [World.frozen?, k1]
  cases dn with
  | true =>
    have hRe : R = ((t, true), [], 8) := by rw [← hr]; unfold Up.read; simp
    subst hRe
    have hk2 : (W.setCell ⟨G + 1, 0, none⟩ (.int .i64 8)).cell? ⟨G + 1, 0, none⟩ = some (.int .i64 8) := World.cell?_setCell_same _ _ _ e1
    have HD := Lib.hid (hD.kept (w' := W.setCell ⟨G + 1, 0, none⟩ (.int .i64 8)) (by simp) (fun k hk => Below.heap_setCell W ⟨G + 1, 0, none⟩ _ k (by show k ≠ G + 1; omega)))
    have HK := Lib.hid ((Kept3.of_below (r := d) (g := g) (b := b) (by rw [hG]; exact hB)).setCell (p := ⟨G + 1, 0, none⟩) (by show w.heap.size ≤ G + 1; omega) (.int .i64 8))
    clear h hR hr hl hWs hB k0 k1 hD
    go_enter_defers Try.func10, Try.ntmps10
    go_wp2_with fail
    refine ⟨.tuple #[.slice none 0 0, .int .i64 8], by simp [results, Try.results10, go_sem, hk2], _, rfl, World.ownsRow_nil _ _ _ _, b, HD.out, HK.out, .inl rfl, fun k hk => by cases hk⟩
  | false =>
    obtain ⟨⟨t', RR⟩, hX⟩ : ∃ X, go s t 0 [] = X := ⟨_, rfl⟩
    have hA3 : RdAt (W.alloc (.cells #[.string s, .int .i64 0, .pointer (some ⟨g, 0, none⟩)] 54)) (G + 2) g s 0 := new_at _ _ _ hWs.symm
    have hB3 : Below W.heap.size W (W.alloc (.cells #[.string s, .int .i64 0, .pointer (some ⟨g, 0, none⟩)] 54)) := (Below.refl _ W).alloc (Nat.le_refl _) _
    have hs3 : (W.alloc (.cells #[.string s, .int .i64 0, .pointer (some ⟨g, 0, none⟩)] 54)).heap.size = G + 3 := by rw [World.size_alloc, hWs]
    have hl3 : d < G ∧ g < G ∧ b < G := by rw [← hG]; exact hl
    have HF := Lib.hid (fields_any (G + 2) g b s 0 t (t', RR) _ hA3 (hD.tab.below hB3) hD.ok4 (by omega) (by omega) hs (Nat.zero_le _) (Lib.hid hX))
    have h4 : Up.Ok4 t' := by
      have := run_ok4 s (s.size - 0) t 0 [] hD.ok4
      unfold go at hX
      rw [hX] at this
      exact this
    have H4 := Lib.hid h4
    have HNE := Lib.hid h.ne
    -- all that stood, but for the table, the row and the reader
    have HST := Lib.hid (fun (w1 : World) (hK : Kept3 (G + 2) g b (W.alloc (.cells #[.string s, .int .i64 0, .pointer (some ⟨g, 0, none⟩)] 54)) w1) => show (∀ k, k < G + 2 → k ≠ g → k ≠ b → w1.heap[k]? = W.heap[k]?) ∧ G + 3 ≤ w1.heap.size from
      ⟨fun k hk h1 h2 => (hK.block k (by omega) (by omega) h1 h2).trans (hB3.block k (by omega)), by have := hK.size; omega⟩)
    have HW := Lib.hid (show (∀ k, k < G → W.heap[k]? = w.heap[k]?) from fun k hk => hB.block k hk)
    have HOS := Lib.hid (show W.os = w.os ∧ W.tape = w.tape ∧ W.output = w.output from ⟨hB.os, hB.tape, hB.output⟩)
    have K0 := Lib.hid k0
    have K1 := Lib.hid k1
    have KD := Lib.hid hD.cells
    clear hA3 hB3 hD h4 hB k0 k1 h hl hs3
    cases RR with
    | error x =>
      have hRe : R = ((t', true), [], x) := by rw [← hr]; unfold Up.read; rw [if_neg Bool.false_ne_true, hX]
      subst hRe
      clear hr hR hX
      go_enter_defers Try.func10, Try.ntmps10
      go_wp2_with fail
      refine HF.out.mono ?_
      rintro e w1 ⟨rfl, ⟨b', hT1, hb1⟩, hK1⟩
      obtain ⟨hst, hsz⟩ := HST.out w1 hK1
      have j0 := (hst G (by omega) (by omega) (by omega)).trans K0.out
      have j1 := (hst (G + 1) (by omega) (by omega) (by omega)).trans K1.out
      have jd := (hst d (by omega) HNE.out.1 HNE.out.2).trans KD.out
      have j1' := (Below.heap_setCell w1 ⟨d, 1, none⟩ (.bool true) (G + 1) (by show G + 1 ≠ d; omega)).trans j1
      have jd' := one_set (y := .bool true) jd
      have jd2 := (Below.heap_setCell (w1.setCell ⟨d, 1, none⟩ (.bool true)) ⟨G + 1, 0, none⟩ (.int .i64 x) d (by show d ≠ G + 1; omega)).trans jd'
      have hk2 : ((w1.setCell ⟨d, 1, none⟩ (.bool true)).setCell ⟨G + 1, 0, none⟩ (.int .i64 x)).cell? ⟨G + 1, 0, none⟩ = some (.int .i64 x) := World.cell?_setCell_same _ _ _ (cell_of_row _ _ 0 _ _ _ j1')
      have hoth : ∀ k, k ≠ d → k ≠ G + 1 → ((w1.setCell ⟨d, 1, none⟩ (.bool true)).setCell ⟨G + 1, 0, none⟩ (.int .i64 x)).heap[k]? = w1.heap[k]? := fun k h1 h2 => (Below.heap_setCell _ ⟨G + 1, 0, none⟩ _ k h2).trans (Below.heap_setCell w1 ⟨d, 1, none⟩ _ k h1)
      have hb2 : b' ≠ d ∧ b' ≠ G + 1 := by
        have := HNE.out
        have hs4 : (W.alloc (.cells #[.string s, .int .i64 0, .pointer (some ⟨g, 0, none⟩)] 54)).heap.size = W.heap.size + 1 := by simp
        have hs5 := world_lt K1.out
        omega
      have HD := Lib.hid (show DcAt ((w1.setCell ⟨d, 1, none⟩ (.bool true)).setCell ⟨G + 1, 0, none⟩ (.int .i64 x)) d g b' (t', true) from ⟨jd2, hT1.kept (by simp) (hoth g (fun e => HNE.out.1 e.symm) (by omega)) (fun _ => hoth b' hb2.1 hb2.2), H4.out, HNE.out.1, fun e => hb2.1 e.symm⟩)
      have HK := Lib.hid (show Kept3 d g b w ((w1.setCell ⟨d, 1, none⟩ (.bool true)).setCell ⟨G + 1, 0, none⟩ (.int .i64 x)) from
        ⟨hK1.os.trans HOS.out.1, hK1.tape.trans HOS.out.2.1, hK1.output.trans HOS.out.2.2, by rw [hG]; simp; omega, fun k hk h0 h1 h2 => ((hoth k h0 (by omega)).trans (hst k (by omega) h1 h2)).trans (HW.out k (by omega))⟩)
      have HB2 := Lib.hid (show b' = b ∨ b' = g ∨ w.heap.size ≤ b' from by
        have hs4 : (W.alloc (.cells #[.string s, .int .i64 0, .pointer (some ⟨g, 0, none⟩)] 54)).heap.size = W.heap.size + 1 := by simp
        have hs5 := world_lt K1.out
        omega)
      have HC := Lib.hid (catch_panicking ⟨G, 0, none⟩ ⟨G + 1, 0, none⟩ d x (.int .i64 0) (.bool false) w1 (cell_of_row _ _ 0 _ _ _ j0) (cell_of_row _ _ 1 _ _ _ jd) (frozen_of_row _ _ _ _ _ jd) (cell_of_row _ _ 0 _ _ _ j1') (frozen_of_row _ _ _ _ _ j1'))
      clear hst hsz j0 j1 jd j1' jd' jd2 hoth hb2 hT1 hb1 hK1
      go_wp2_with fail
      refine leaves_cons (f := 22) (args := #[.pointer (some ⟨G, 0, none⟩), .pointer (some ⟨G + 1, 0, none⟩)]) (by simp) (by simp [go_sem]) ?_
      refine HC.out.mono ?_
      rintro e u' w'' ⟨rfl, rfl, rfl⟩
      simp [Leaves, settle, results, Try.results10, go_sem, hk2]
      exact ⟨_, rfl, World.ownsRow_nil _ _ _ _, b', HD.out, HK.out, HB2.out, fun k hk => by cases hk⟩
    | ok out =>
      have hRe : R = ((t', false), out, 0) := by rw [← hr]; unfold Up.read; rw [if_neg Bool.false_ne_true, hX]
      subst hRe
      clear hr hR hX
      go_enter_defers Try.func10, Try.ntmps10
      go_wp2_with fail
      refine HF.out.mono ?_
      rintro e w1 ⟨v, rfl, hO, ⟨b', hT1, hb1, hsp⟩, hK1⟩
      have HSP := Lib.hid hsp
      clear hsp
      obtain ⟨hst, hsz⟩ := HST.out w1 hK1
      have j1 := (hst (G + 1) (by omega) (by omega) (by omega)).trans K1.out
      have jd := (hst d (by omega) HNE.out.1 HNE.out.2).trans KD.out
      have jd2 := (Below.heap_setCell w1 ⟨G + 1, 0, none⟩ (.int .i64 0) d (by show d ≠ G + 1; omega)).trans jd
      have c1 := cell_of_row _ _ 0 _ _ _ j1
      have c2 := frozen_of_row _ (G + 1) 0 _ _ j1
      have hk2 : (w1.setCell ⟨G + 1, 0, none⟩ (.int .i64 0)).cell? ⟨G + 1, 0, none⟩ = some (.int .i64 0) := World.cell?_setCell_same _ _ _ c1
      have hoth : ∀ k, k ≠ G + 1 → (w1.setCell ⟨G + 1, 0, none⟩ (.int .i64 0)).heap[k]? = w1.heap[k]? := fun k h2 => Below.heap_setCell _ ⟨G + 1, 0, none⟩ _ k h2
      have hs4 : (W.alloc (.cells #[.string s, .int .i64 0, .pointer (some ⟨g, 0, none⟩)] 54)).heap.size = W.heap.size + 1 := by simp
      have hs5 := world_lt K1.out
      have hne := HNE.out
      have hb2 : b' ≠ d ∧ b' ≠ G + 1 := by omega
      have HO := Lib.hid (own_lower (own_same (w' := w1.setCell ⟨G + 1, 0, none⟩ (.int .i64 0)) hO (fun k hk => hoth k (by have := (hO.lt k hk).1; omega))) (g' := w.heap.size) (by omega))
      have HD := Lib.hid (show DcAt (w1.setCell ⟨G + 1, 0, none⟩ (.int .i64 0)) d g b' (t', false) from ⟨jd2, hT1.kept (by simp) (hoth g (by omega)) (fun _ => hoth b' hb2.2), H4.out, HNE.out.1, fun e => hb2.1 e.symm⟩)
      have HK := Lib.hid (show Kept3 d g b w (w1.setCell ⟨G + 1, 0, none⟩ (.int .i64 0)) from
        ⟨hK1.os.trans HOS.out.1, hK1.tape.trans HOS.out.2.1, hK1.output.trans HOS.out.2.2, by rw [hG]; simp; omega, fun k hk h0 h1 h2 => ((hoth k (by omega)).trans (hst k (by omega) h1 h2)).trans (HW.out k (by omega))⟩)
      have HB2 := Lib.hid (show b' = b ∨ b' = g ∨ w.heap.size ≤ b' from by omega)
      have HC := Lib.hid (catch_idle ⟨G, 0, none⟩ ⟨G + 1, 0, none⟩ (w1.setCell ⟨G + 1, 0, none⟩ (.int .i64 0)))
      clear hst hsz j1 jd jd2 hoth hb2 hT1 hb1 hK1 hO hs4 hs5 hne
      go_wp2_with fail
      refine leaves_cons (f := 22) (args := #[.pointer (some ⟨G, 0, none⟩), .pointer (some ⟨G + 1, 0, none⟩)]) (by simp) (by simp [go_sem]) ?_
      refine HC.out.mono ?_
      rintro e u' w'' ⟨rfl, rfl, rfl⟩
      simp [Leaves, settle, results, Try.results10, go_sem, hk2]
      exact ⟨_, rfl, HO.out, b', HD.out, HK.out, HB2.out, HSP.out⟩
end Go.Proofs.Ytaoomjbkfcbfpaa

/- The contract of a table's Copy. For at most 1000 entries of at most 10^6 bytes a text, 10^9 together. -/
namespace Go.Proofs.Ytaoomjbkfcbfpaa
open Go.RowKit Tb

namespace Tb
theorem entAt_set {L : List Ent} {k i : Nat} {e : Ent} (hk : k < L.length) : entAt (L.set k e) i = if i = k then e else entAt L i := by
  unfold entAt
  rw [List.getD_eq_getElem?_getD, List.getD_eq_getElem?_getD, List.getElem?_set]
  by_cases h : i = k
  · subst h; rw [if_pos rfl, if_pos rfl, if_pos hk]; rfl
  · rw [if_neg h, if_neg (fun e => h e.symm)]
theorem entCs_get {L : List Ent} {j : Nat} {u : Value} (h : (entCs L)[j]? = some u) : (j % 2 = 0 ∧ u = .string (entAt L (j / 2)).1) ∨ (j % 2 = 1 ∧ u = .string (entAt L (j / 2)).2) := by
  have hj := entCs_lt h
  have hat := entCs_at (L := L) (k := j / 2) (by omega)
  rcases Nat.mod_two_eq_zero_or_one j with hm | hm
  · rw [show j / 2 * 2 = j by omega, h] at hat
    injection hat.1 with e
    exact .inl ⟨hm, e⟩
  · rw [show j / 2 * 2 + 1 = j by omega, h] at hat
    injection hat.2 with e
    exact .inr ⟨hm, e⟩
/-- An entry is laid over one that stood there. -/
theorem Row.set {w : World} {b off n c : Nat} {ao : Option Addr} {L : List Ent} (h : Row w b ao off n c L) {k : Nat} (hk : k < n) (x y : ByteArray) : Row ((w.setCell ⟨b, off + k * 2, none⟩ (.string x)).setCell ⟨b, off + k * 2 + 1, none⟩ (.string y)) b ao off n c (L.set k (x, y)) := by
  obtain ⟨ha, hlt, c1, c2, f1, f2⟩ := h.get hk
  have hkl : k < L.length := by rw [h.len]; exact hk
  refine ⟨by rw [List.length_set]; exact h.len, h.le, h.max, h.addr, fun hc => by simpa using h.lt hc, fun j u hj => ?_, fun j hj => ⟨?_, by rw [World.frozen?_setCell, World.frozen?_setCell]; exact (h.there j hj).2⟩⟩
  · by_cases hj2 : j = k * 2 + 1
    · subst hj2
      rcases entCs_get hj with ⟨hm, _⟩ | ⟨_, rfl⟩
      · omega
      · rw [show (k * 2 + 1) / 2 = k by omega, entAt_set hkl, if_pos rfl, ← Nat.add_assoc]
        exact World.cell?_setCell_same (u := .string (entAt L k).2) _ _ _ (by rw [World.cell?_setCell_other _ _ _ _ (by simp)]; exact c2)
    · rw [World.cell?_setCell_other _ _ _ _ (by simp <;> omega)]
      by_cases hj1 : j = k * 2
      · subst hj1
        rcases entCs_get hj with ⟨_, rfl⟩ | ⟨hm, _⟩
        · rw [show k * 2 / 2 = k by omega, entAt_set hkl, if_pos rfl]
          exact World.cell?_setCell_same (u := .string (entAt L k).1) _ _ _ c1
        · omega
      · rw [World.cell?_setCell_other _ _ _ _ (by simp <;> omega)]
        refine h.holds j u ?_
        have hjl := entCs_lt hj
        rw [List.length_set] at hjl
        have hat := entCs_at (L := L) (k := j / 2) (by omega)
        rcases entCs_get hj with ⟨hm, rfl⟩ | ⟨hm, rfl⟩
        · rw [entAt_set hkl, if_neg (by omega)]
          rw [show j / 2 * 2 = j by omega] at hat
          exact hat.1
        · rw [entAt_set hkl, if_neg (by omega)]
          rw [show j / 2 * 2 + 1 = j by omega] at hat
          exact hat.2
  · obtain ⟨v, hv⟩ := Option.isSome_iff_exists.1 (h.there j hj).1
    by_cases hj2 : j = k * 2 + 1
    · subst hj2
      rw [← Nat.add_assoc, World.cell?_setCell_same (u := .string (entAt L k).2) _ _ _ (by rw [World.cell?_setCell_other _ _ _ _ (by simp)]; exact c2)]
      rfl
    · rw [World.cell?_setCell_other _ _ _ _ (by simp <;> omega)]
      by_cases hj1 : j = k * 2
      · subst hj1
        rw [World.cell?_setCell_same (u := .string (entAt L k).1) _ _ _ c1]
        rfl
      · rw [World.cell?_setCell_other _ _ _ _ (by simp <;> omega), hv]
        rfl
/-- A row that is filled up to a place. -/
def fillP (L : List Ent) (n k : Nat) : List Ent := L.take k ++ List.replicate (n - k) (⟨#[]⟩, ⟨#[]⟩)
theorem fillP_len {L : List Ent} {n k : Nat} (hL : L.length = n) (hk : k ≤ n) : (fillP L n k).length = n := by
  unfold fillP
  rw [List.length_append, List.length_take, List.length_replicate]
  omega
theorem fillP_step {L : List Ent} {n k : Nat} (hL : L.length = n) (hk : k < n) : (fillP L n k).set k (entAt L k) = fillP L n (k + 1) := by
  unfold fillP
  rw [entAt_take (by omega), List.set_append_right _ _ (by rw [List.length_take]; omega), List.length_take, show k - min k L.length = 0 by omega, show n - k = (n - (k + 1)) + 1 by omega, List.replicate_succ, List.set_cons_zero, List.append_assoc]
  rfl
end Tb
/-- An entry's copy, asked beside a table's block and a row. -/
theorem apart_at (g R o : Nat) (u0 u1 u2 v0 v1 : Value) (t : TypeId) (x y : ByteArray) (w : World) (hx : x.size ≤ 1000000) (hy : y.size ≤ 1000000) (h : w.heap[g]? = some (.cells #[u0, u1, u2] t (0, 0))) (hR : R < w.heap.size) (c0 : w.cell? ⟨R, o, none⟩ = some v0) (c1 : w.cell? ⟨R, o + 1, none⟩ = some v1) (f0 : w.frozen? ⟨R, o, none⟩ = false) (f1 : w.frozen? ⟨R, o + 1, none⟩ = false) :
    Calls Try.prog 40 #[.agg #[.string x, .string y]] w fun e w' => e = .returned (.agg #[.string x, .string y]) ∧ w'.cell? ⟨g, 2, none⟩ = some u2 ∧ w'.cell? ⟨R, o, none⟩ = some v0 ∧ w'.cell? ⟨R, o + 1, none⟩ = some v1 ∧ w'.frozen? ⟨R, o, none⟩ = false ∧ w'.frozen? ⟨R, o + 1, none⟩ = false ∧ Below w.heap.size w w' :=
  (apart_is x y w hx hy).mono fun e w' ⟨he, hB⟩ => by
    have h2 := (hB.block g (world_lt h)).trans h
    obtain ⟨_, _, a3, _, _, _⟩ := three_cells h2
    exact ⟨he, a3, (hB.cell (p := ⟨R, o, none⟩) hR).trans c0, (hB.cell (p := ⟨R, o + 1, none⟩) hR).trans c1, (hB.frozen (p := ⟨R, o, none⟩) hR).trans f0, (hB.frozen (p := ⟨R, o + 1, none⟩) hR).trans f1, hB⟩
/-- An empty row, as make lays it. -/
def MadeO (n : Nat) : Obj := .cells (madeCells #[.string ⟨#[]⟩, .string ⟨#[]⟩] (n * 2)) 82
theorem make_row (n : Nat) (hn : n ≤ 1000) (w : World) : (Instr.makeSlice 69 (.int .i64 (n : Int)) (.int .i64 (n : Int))).run Try.prog w = .ok (.slice (some ⟨w.heap.size, 0, none⟩) n n) (w.alloc (MadeO n)) := by
  obtain ⟨i0, hi, hz0, hz1, hz2⟩ := info_parts infoP
  have := run_make (P := Try.prog) w 69 82 i0 _ Try.underlying69 hi hz0 .i64 .i64 n n (by omega) (Int.le_refl _) (by rw [hz2]; omega) (by omega)
  rw [hz1, Int.toNat_natCast] at this
  exact this

set_option maxHeartbeats 4000000 in
set_option maxRecDepth 100000 in
theorem copy_is (g b : Nat) (t : Tab) (w : World) (h : Hid (TAt w g b t)) (hf : Hid (Fit t)) :
    Calls Try.prog 31 #[.pointer (some ⟨g, 0, none⟩)] w fun e w' => ∃ g2, e = .returned (.pointer (some ⟨g2, 0, none⟩)) ∧ w.heap.size ≤ g2 ∧ Below w.heap.size w w' ∧ ∃ b2, TAt w' g2 b2 t ∧ w.heap.size ≤ b2 := by
  obtain ⟨⟨ao, off, c, hT0⟩, hok, hmx⟩ := h.out
  obtain ⟨n, hn⟩ : ∃ n, t.2.length = n := ⟨_, rfl⟩
  have hnb : n ≤ 1000 := by rw [← hn]; exact hf.out.1
  have hrl : t.2.reverse.length = n := by rw [List.length_reverse]; exact hn
  unfold TRaw at hT0
  rw [hrl] at hT0
  obtain ⟨M, hM⟩ : ∃ M : Int, (t.1 : Int) = M := ⟨_, rfl⟩
  obtain ⟨S, hS⟩ : ∃ S : Int, (sumL t.2.reverse : Int) = S := ⟨_, rfl⟩
  rw [hM, hS] at hT0
  have HG := Lib.hid hT0.1
  have HR := Lib.hid hT0.2.1
  have hmk := make_row n hnb
  clear hT0
  obtain ⟨a1, a2, a3, _, _, _⟩ := three_cells HG.out
  obtain ⟨q1, q2, q3, _, _, _⟩ := three_cells (w := w.drew) HG.out
  have HGA := (heap_alloc_old w (MadeO n) (world_lt HG.out)).trans HG.out
  obtain ⟨r1, r2, r3, _, _, _⟩ := three_cells HGA
  clear HGA
  go_enter Try.func31, Try.ntmps31
  go_upto_region 1 with fail
  go_cut [3] from 6 to 21 (fun v wx => v = .pointer (some ⟨w.heap.size + 1, 0, none⟩) ∧ wx = ((w.alloc (MadeO n)).alloc (.cells #[.int .i64 M, .int .i64 S, .slice (some ⟨w.heap.size, 0, none⟩) n n] 71)).drew)
  case first =>
    go_region_law (fail)
    all_goals (go_wp2_with fail; go_meet; exact ⟨rfl, rfl⟩)
  case rest =>
    obtain ⟨rfl, rfl⟩ := hcut
    clear hmk a1 a2 a3 q1 q2 q3 r1 r2 r3
    obtain ⟨R, hRR⟩ : ∃ R, w.heap.size = R := ⟨_, rfl⟩
    have HS0 := Lib.hid (show (w.alloc (MadeO n)).heap.size = R + 1 by rw [World.size_alloc, hRR])
    have HG2 := Lib.hid (show (((w.alloc (MadeO n)).alloc (.cells #[.int .i64 M, .int .i64 S, .slice (some ⟨w.heap.size, 0, none⟩) n n] 71)).drew).heap[R + 1]? = some (.cells #[.int .i64 M, .int .i64 S, .slice (some ⟨R, 0, none⟩) n n] 71 (0, 0)) from by
      have := heap_alloc_new (w.alloc (MadeO n)) (.cells #[.int .i64 M, .int .i64 S, .slice (some ⟨w.heap.size, 0, none⟩) n n] 71)
      rw [HS0.out, hRR] at this
      rw [hRR]
      exact this)
    have hRow0 : Row (w.alloc (MadeO n)) R (some ⟨R, 0, none⟩) 0 n n (fillP t.2.reverse n 0) := by
      have hc : ∀ j, (w.alloc (MadeO n)).cell? ⟨R, j, none⟩ = (madeCells #[.string ⟨#[]⟩, .string ⟨#[]⟩] (n * 2))[j]? := fun j => by rw [← hRR]; exact World.cell?_alloc_new w _ _ j
      have hz : ∀ j, j < n * 2 → (madeCells #[Value.string ⟨#[]⟩, .string ⟨#[]⟩] (n * 2))[j]? = some (.string ⟨#[]⟩) := fun j hj => by
        rcases Nat.mod_two_eq_zero_or_one j with hm | hm <;> simp [madeCells, hj, hm]
      refine ⟨fillP_len hrl (Nat.zero_le _), Nat.le_refl _, by unfold maxLen; omega, fun _ => rfl, fun _ => by rw [HS0.out]; omega, fun j u hj => ?_, fun j hj => ⟨?_, ?_⟩⟩
      · have hjl := entCs_lt hj
        rw [fillP_len hrl (Nat.zero_le _)] at hjl
        rw [Nat.zero_add, hc, hz j hjl]
        have hu : ∀ i, entAt (fillP t.2.reverse n 0) i = (⟨#[]⟩, ⟨#[]⟩) := fun i => by
          unfold entAt fillP
          rw [List.take_zero, List.nil_append, Nat.sub_zero, List.getD_eq_getElem?_getD, List.getElem?_replicate]
          split <;> rfl
        rcases entCs_get hj with ⟨_, rfl⟩ | ⟨_, rfl⟩ <;> rw [hu]
      · rw [Nat.zero_add, hc, hz j hj]
        rfl
      · rw [Nat.zero_add, ← hRR]
        exact World.frozen?_alloc_new w _ _ j
    have HB0 := Lib.hid ((((Below.refl w.heap.size w).alloc (Nat.le_refl _) (MadeO n)).alloc (by simp) (.cells #[.int .i64 M, .int .i64 S, .slice (some ⟨w.heap.size, 0, none⟩) n n] 71)).drew)
    have HRow := Lib.hid (hRow0.kept (w' := ((w.alloc (MadeO n)).alloc (.cells #[.int .i64 M, .int .i64 S, .slice (some ⟨w.heap.size, 0, none⟩) n n] 71)).drew) (by simp) (fun hl => heap_alloc_old (w.alloc (MadeO n)) _ hl))
    clear hRow0
    generalize ((w.alloc (MadeO n)).alloc (.cells #[.int .i64 M, .int .i64 S, .slice (some ⟨w.heap.size, 0, none⟩) n n] 71)).drew = W at *
    rw [hRR]
    have HRR := Lib.hid hRR
    have hgR := world_lt HG.out
    rw [hRR] at hgR HB0
    have HGW := Lib.hid ((HB0.out.block g hgR).trans HG.out)
    obtain ⟨a1, a2, a3, _, _, _⟩ := three_cells HGW.out
    clear hRR
    have HSM := Lib.hid hf.out.rev.1
    go_wp2_with fail
    go_loopw [27, 4, 5] (fun i u4 u5 wr => ∃ k : Nat, k ≤ n ∧ i = .int .i64 (k : Int) ∧ Hid (Row wr R (some ⟨R, 0, none⟩) 0 n n (fillP t.2.reverse n k)) ∧ Hid (wr.heap[R + 1]? = some (.cells #[.int .i64 M, .int .i64 S, .slice (some ⟨R, 0, none⟩) n n] 71 (0, 0))) ∧ Below R w wr) (fun i _ _ _ => n - (intOf i).toNat)
    case atStart => exact ⟨0, by omega, rfl, HRow, HG2, HB0.out⟩
    case round =>
      obtain ⟨k, hk, rfl, hRw, hGw, hBw⟩ := hrel
      by_cases hlt : k < n
      · have hli : (k : Int) < (n : Int) := by omega
        have hkl : k < t.2.reverse.length := by omega
        obtain ⟨rfl, hbl, hc1, hc2, _, _⟩ := HR.out.get hlt
        obtain ⟨hxs, hys⟩ := HSM.out.at hkl
        have hst := Lib.hid (fillP_step hrl hlt)
        obtain ⟨e, he⟩ : ∃ e, entAt t.2.reverse k = e := ⟨_, rfl⟩
        rw [he] at hc1 hc2 hxs hys hst
        obtain ⟨x, y⟩ := e
        obtain ⟨_, hRl, d1, d2, d3, d4⟩ := hRw.out.get hlt
        have hbR : b < R := by rw [← HRR.out]; exact hbl
        have s1 := (hBw.cell (p := ⟨b, off + k * 2, none⟩) hbR).trans hc1
        have s2 := (hBw.cell (p := ⟨b, off + k * 2 + 1, none⟩) hbR).trans hc2
        have hof := off_add_addr b off (k * 2)
        have hof2 := zero_add_addr R (k * 2)
        rw [Nat.zero_add] at d1 d2 d3 d4
        have hk0 : (0 : Int) ≤ (k : Int) := by omega
        have e2 : IntKind.i64.wrap ((k : Int) + 1) = ((k + 1 : Nat) : Int) := by rw [IntKind.wrap_i64]; omega
        have hA := (Below.refl wr.heap.size wr).alloc (Nat.le_refl _) (.cells #[.string x, .string y] 82)
        clear hc1 hc2 he hkl hof
        have hof := off_add_addr b off (k * 2)
        obtain ⟨W2, hW2⟩ : ∃ W2, wr.alloc (.cells #[.string x, .string y] 82) = W2 := ⟨_, rfl⟩
        rw [hW2] at hA
        have hrs := hA.size
        have hnE : W2.heap[wr.heap.size]? = some (.cells #[.string x, .string y] 82 (0, 0)) := by rw [← hW2]; exact heap_alloc_new wr _
        have hG3 := Lib.hid ((hA.block (R + 1) (world_lt hGw.out)).trans hGw.out)
        have hR3 := Lib.hid (hRw.out.kept hA.size (hA.block R))
        have hB3 := Lib.hid (hBw.trans (hA.mono (by omega)))
        go_upto_region 5 with fail
        obtain ⟨m1, m2, m3, m4⟩ := two_cells hnE
        obtain ⟨l1, l2, l3, l4⟩ := two_cells (w := W2.drew) hnE
        obtain ⟨n1, n2, n3, _, _, _⟩ := three_cells hG3.out
        obtain ⟨p1, p2, p3, _, _, _⟩ := three_cells (w := W2.drew) hG3.out
        obtain ⟨_, hRl3, d1, d2, d3, d4⟩ := hR3.out.get hlt
        rw [Nat.zero_add] at d1 d2 d3 d4
        have HGd : Hid (W2.drew.heap[R + 1]? = some (.cells #[.int .i64 M, .int .i64 S, .slice (some ⟨R, 0, none⟩) n n] 71 (0, 0))) := hG3
        have HRd : Hid (R < W2.drew.heap.size) := Lib.hid hRl3
        have HD : Hid (W2.drew.cell? ⟨R, k * 2, none⟩ = some (.string (entAt (fillP t.2.reverse n k) k).1) ∧ W2.drew.cell? ⟨R, k * 2 + 1, none⟩ = some (.string (entAt (fillP t.2.reverse n k) k).2) ∧ W2.drew.frozen? ⟨R, k * 2, none⟩ = false ∧ W2.drew.frozen? ⟨R, k * 2 + 1, none⟩ = false) := Lib.hid ⟨d1, d2, d3, d4⟩
        clear hnE s1 s2 hW2
        go_region_law (go_simp; go_at_call 40; (with_reducible refine (apart_at (R + 1) R (k * 2) _ _ _ _ _ _ x y _ hxs hys HGd.out HRd.out HD.out.1 HD.out.2.1 HD.out.2.2.1 HD.out.2.2.2).mono ?_); rintro e w5 ⟨rfl, z2, v0, v1, v2, v3, hB5⟩)
        all_goals
          have hR5 : Row w5 R (some ⟨R, 0, none⟩) 0 n n (fillP t.2.reverse n k) := (hR3.out.kept (w' := W2.drew) (Nat.le_refl _) (fun _ => rfl)).kept hB5.size (hB5.block R)
          have hG5 := (hB5.block (R + 1) (world_lt HGd.out)).trans HGd.out
          have R6 := hR5.set hlt x y
          rw [Nat.zero_add, hst.out] at R6
          have G6 := Lib.hid ((Below.heap_setCell (w5.setCell ⟨R, k * 2, none⟩ (.string x)) ⟨R, k * 2 + 1, none⟩ (.string y) (R + 1) (by show R + 1 ≠ R; omega)).trans ((Below.heap_setCell w5 ⟨R, k * 2, none⟩ (.string x) (R + 1) (by show R + 1 ≠ R; omega)).trans hG5))
          have B6 := Lib.hid (((hB3.out.drew.trans (hB5.mono (Nat.le_of_lt HRd.out))).setCell (p := ⟨R, k * 2, none⟩) (Nat.le_refl _) (.string x)).setCell (p := ⟨R, k * 2 + 1, none⟩) (Nat.le_refl _) (.string y))
          have HR6 := Lib.hid R6
          clear hR5 hG5 R6 hB5 z2 v0 v1 v2 v3
          go_wp2_with fail
          go_roundw
          case rel => exact ⟨k + 1, by omega, rfl, HR6, G6, B6.out⟩
          case measure => simp [intOf] <;> omega
      · have hli : ¬ (k : Int) < (n : Int) := by omega
        have hkn : k = n := by omega
        have hfl : fillP t.2.reverse n k = t.2.reverse := by
          unfold fillP
          rw [hkn, Nat.sub_self, List.take_of_length_le (by omega)]
          exact List.append_nil _
        have hr2 := hRw.out
        rw [hfl] at hr2
        have HFIN := Lib.hid (show ∃ b2, TAt wr (R + 1) b2 t ∧ R ≤ b2 from by
          refine ⟨if n = 0 then R + 1 else R, ⟨⟨some ⟨R, 0, none⟩, 0, n, ?_⟩, hok, hmx⟩, by split <;> omega⟩
          unfold TRaw
          rw [hrl, hM, hS]
          refine ⟨hGw.out, ?_, fun h0 => if_pos h0, fun h0 => by rw [if_neg (by omega)]; omega⟩
          by_cases h0 : n = 0
          · subst h0
            have hl : t.2.reverse = [] := List.length_eq_zero_iff.1 hrl
            rw [hl]
            exact Row.empty _ _ _ _
          · rw [if_neg h0]
            exact hr2)
        clear hr2 hfl
        go_wp2_with fail
        go_ret
        obtain ⟨b2, f1, f2⟩ := HFIN.out
        refine ⟨R + 1, rfl, ?_, ?_, b2, f1, ?_⟩
        · rw [HRR.out]; exact Nat.le_succ R
        · rw [HRR.out]; exact hBw
        · rw [HRR.out]; exact f2
end Go.Proofs.Ytaoomjbkfcbfpaa

/- The contracts of a decoder's New, Table and Down, and of the document's New. No condition. -/
namespace Go.Proofs.Ytaoomjbkfcbfpaa
open Go.RowKit Tb Up

theorem decInfo : (Try.prog.info? 31).map (·.size) = some 3 := by kernel_rfl
set_option maxRecDepth 100000 in
theorem unew_is (w : World) :
    Calls Try.prog 8 #[] w fun e w' => ∃ d g b, e = .returned (.pointer (some ⟨d, 0, none⟩)) ∧ DcAt w' d g b (newT 4096, false) ∧ Below w.heap.size w w' ∧ w.heap.size ≤ d ∧ w.heap.size ≤ g ∧ w.heap.size ≤ b := by
  have HN := Lib.hid (new_is 4096 w (by omega) (by omega))
  go_enter Try.func8, Try.ntmps8
  go_wp2_with fail
  refine HN.out.mono ?_
  rintro e w1 ⟨rfl, hT, hB⟩
  have hB1 := (Below.refl _ w1).alloc (Nat.le_refl _) (.cells #[.pointer (some ⟨w.heap.size, 0, none⟩), .bool false] 50)
  have hD := new_at w1 (.cells #[.pointer (some ⟨w.heap.size, 0, none⟩), .bool false] 50) w1.heap.size rfl
  have hlt := hT.lt.1
  have HD := Lib.hid (show DcAt (w1.alloc (.cells #[.pointer (some ⟨w.heap.size, 0, none⟩), .bool false] 50)) w1.heap.size w.heap.size w.heap.size (newT 4096, false) from ⟨hD, hT.below hB1, ok4_new, by omega, by omega⟩)
  have HB := Lib.hid (hB.trans (hB1.mono hB.size))
  have hs := hB.size
  clear hT hB hB1 hD
  go_wp2_with fail
  go_ret
  exact ⟨w1.heap.size, w.heap.size, w.heap.size, rfl, HD.out, HB.out, hs, Nat.le_refl _, Nat.le_refl _⟩
set_option maxRecDepth 100000 in
theorem xnew_is (w : World) :
    Calls Try.prog 9 #[] w fun e w' => e = .returned (.agg #[.int .i64 4096, .slice none 0 0, .bool false]) ∧ Below w.heap.size w w' := by
  have hB0 := (Below.refl _ w).alloc (Nat.le_refl _) (.cells #[.int .i64 0, .slice none 0 0, .bool false] 31)
  have HK := Lib.hid (new_at w (.cells #[.int .i64 0, .slice none 0 0, .bool false] 31) w.heap.size rfl)
  have HB0 := Lib.hid hB0
  have HL := Lib.hid (show w.heap.size < (w.alloc (.cells #[.int .i64 0, .slice none 0 0, .bool false] 31)).heap.size by simp)
  have HN := Lib.hid (fun W => refNew_is 4096 W (by omega) (by omega))
  clear hB0
  go_enter Try.func9, Try.ntmps9
  go_wp2_with fail
  generalize w.alloc (.cells #[.int .i64 0, .slice none 0 0, .bool false] 31) = W at *
  refine (HN.out W).mono ?_
  rintro e w1 ⟨rfl, hB⟩
  have hk := (hB.block _ HL.out).trans HK.out
  obtain ⟨a1, a2, a3, a4, a5, a6⟩ := three_cells hk
  have HV := Lib.hid (set3_2 (y := .bool false) (set3_1 (y := .slice none 0 0) (set3_0 (y := .int .i64 4096) hk)))
  have HB := Lib.hid ((((HB0.out.trans (hB.mono (Nat.le_of_lt HL.out))).setCell (p := ⟨w.heap.size, 0, none⟩) (Nat.le_refl _) (.int .i64 4096)).setCell (p := ⟨w.heap.size, 1, none⟩) (Nat.le_refl _) (.slice none 0 0)).setCell (p := ⟨w.heap.size, 2, none⟩) (Nat.le_refl _) (.bool false))
  clear hB hk
  go_wp2_with fail
  exact bodyPost_ret (v := .agg #[.int .i64 4096, .slice none 0 0, .bool false]) (results_cell_row rfl _ _ w.heap.size 31 #[.int .i64 4096, .slice none 0 0, .bool false] (0, 0) _ rfl HV.out Try.underlying31 rfl decInfo) rfl ⟨rfl, HB.out⟩
theorem table_any (d g b : Nat) (D : Dec) (w : World) (h : DcAt w d g b D) :
    Calls Try.prog 15 #[.pointer (some ⟨d, 0, none⟩)] w fun e w' => ∃ g2, e = .returned (.pointer (some ⟨g2, 0, none⟩)) ∧ w.heap.size ≤ g2 ∧ Below w.heap.size w w' ∧ ∃ b2, TAt w' g2 b2 D.1 ∧ w.heap.size ≤ b2 := by
  have HC := Lib.hid (copy_is g b D.1 w (Lib.hid h.tab) (Lib.hid (Ok4.fit h.ok4)))
  have c0 := cell_of_row _ _ 0 _ _ _ h.cells
  clear h
  go_enter Try.func15, Try.ntmps15
  go_wp2_with fail
  refine HC.out.mono ?_
  rintro e w1 ⟨g2, rfl, h1, h2, b2, h3, h4⟩
  go_wp2_with fail
  go_ret
  exact ⟨g2, rfl, h1, h2, b2, h3, h4⟩
theorem down_any (d g b : Nat) (D : Dec) (w : World) (h : DcAt w d g b D) :
    Calls Try.prog 13 #[.pointer (some ⟨d, 0, none⟩)] w fun e w' => e = .returned (.bool D.2) ∧ w' = w := by
  have c0 := cell_of_row _ _ 1 _ _ _ h.cells
  clear h
  go_enter Try.func13, Try.ntmps13
  go_wp2_with fail
  go_ret
  exact ⟨rfl, rfl⟩
end Go.Proofs.Ytaoomjbkfcbfpaa

/- The document's Same: two rows of the same fields are told alike. For at most 10^5 fields. -/
namespace Go.Proofs.Ytaoomjbkfcbfpaa
open Go.RowKit Tb Up

def fldAt (L : List Fld) (k : Nat) : Fld := L.getD k ⟨⟨#[]⟩, ⟨#[]⟩, false⟩
theorem fldCs_cons (x : Fld) (l : List Fld) : fldCs (x :: l) = .string x.name :: .string x.val :: .bool x.never :: fldCs l := rfl
theorem fldCs_at : ∀ {L : List Fld} {k : Nat}, k < L.length → (fldCs L)[k * 3]? = some (.string (fldAt L k).name) ∧ (fldCs L)[k * 3 + 1]? = some (.string (fldAt L k).val) ∧ (fldCs L)[k * 3 + 2]? = some (.bool (fldAt L k).never)
  | [], k, h => absurd h (Nat.not_lt_zero k)
  | x :: l, 0, _ => ⟨rfl, rfl, rfl⟩
  | x :: l, k + 1, h => by
    have ih := fldCs_at (L := l) (k := k) (by rw [List.length_cons] at h; omega)
    rw [fldCs_cons, show (k + 1) * 3 = k * 3 + 1 + 1 + 1 by omega]
    exact ih
theorem row_fld {w : World} {g n : Nat} {v : Value} {L : List Fld} (h : w.ownsRow g 47 3 v n (fldCs L)) (hn : L.length = n) {k : Nat} (hk : k < n) :
    ∃ b c, v = .slice (some ⟨b, 0, none⟩) n c ∧ w.cell? ⟨b, k * 3, none⟩ = some (.string (fldAt L k).name) ∧ w.cell? ⟨b, k * 3 + 1, none⟩ = some (.string (fldAt L k).val) ∧ w.cell? ⟨b, k * 3 + 2, none⟩ = some (.bool (fldAt L k).never) := by
  rcases h.2 with ⟨_, h0⟩ | ⟨b, c, cur, rfl, _⟩
  · omega
  · obtain ⟨h1, h2, h3⟩ := fldCs_at (L := L) (k := k) (by omega)
    have c1 := h.cells (g := b) rfl _ _ h1
    have c2 := h.cells (g := b) rfl _ _ h2
    have c3 := h.cells (g := b) rfl _ _ h3
    rw [zero_add_addr] at c1 c2 c3
    exact ⟨b, c, rfl, c1, c2, c3⟩

set_option maxHeartbeats 4000000 in
set_option maxRecDepth 100000 in
theorem fsame_is (g1 g2 n : Nat) (v1 v2 : Value) (L : List Fld) (w : World) (h1 : w.ownsRow g1 47 3 v1 n (fldCs L)) (h2 : w.ownsRow g2 47 3 v2 n (fldCs L)) (hL : L.length = n) (hn : n ≤ 100000) :
    Calls Try.prog 12 #[v1, v2] w fun e w' => e = .returned (.bool true) ∧ Below w.heap.size w w' := by
  obtain ⟨A1, c1, rfl⟩ := own_sl h1
  obtain ⟨A2, c2, rfl⟩ := own_sl h2
  have H1 := Lib.hid (fun k (hk : k < n) => row_fld h1 hL hk)
  have H2 := Lib.hid (fun k (hk : k < n) => row_fld h2 hL hk)
  clear h1 h2
  go_enter Try.func12, Try.ntmps12
  go_wp2_with fail
  go_loopw [5] (fun i wr => ∃ k q : Nat, k ≤ n ∧ i = .int .i64 (k : Int) ∧ wr = w.drewN q) (fun i _ => n - (intOf i).toNat)
  case atStart => exact ⟨0, 0, Nat.zero_le _, rfl, rfl⟩
  case round =>
    obtain ⟨k, qd, hk, rfl, rfl⟩ := hrel
    by_cases hlt : k < n
    · have hli : (k : Int) < (n : Int) := by omega
      have hk0 : (0 : Int) ≤ (k : Int) := by omega
      obtain ⟨b1, d1, e1, i1, i2, i3⟩ := H1.out k hlt
      obtain ⟨b2, d2, e2, j1, j2, j3⟩ := H2.out k hlt
      injection e1 with e1 _ e1'
      injection e2 with e2 _ e2'
      subst e1
      subst e2
      subst e1'
      subst e2'
      generalize fldAt L k = f at *
      obtain ⟨x, y, z⟩ := f
      simp only at i1 i2 i3 j1 j2 j3
      have a1 : (w.drewN qd).cell? ⟨b1, k * 3, none⟩ = some (.string x) := i1
      have a2 : (w.drewN qd).cell? ⟨b1, k * 3 + 1, none⟩ = some (.string y) := i2
      have a3 : (w.drewN qd).cell? ⟨b1, k * 3 + 2, none⟩ = some (.bool z) := i3
      have a4 : (w.drewN qd).cell? ⟨b2, k * 3, none⟩ = some (.string x) := j1
      have a5 : (w.drewN qd).cell? ⟨b2, k * 3 + 1, none⟩ = some (.string y) := j2
      have a6 : (w.drewN qd).cell? ⟨b2, k * 3 + 2, none⟩ = some (.bool z) := j3
      have hof1 := zero_add_addr b1 (k * 3)
      have hof2 := zero_add_addr b2 (k * 3)
      have e3 : IntKind.i64.wrap ((k : Int) + 1) = ((k + 1 : Nat) : Int) := by rw [IntKind.wrap_i64]; omega
      have fx : (x.toList == x.toList) = true := beq_self_eq_true _
      have fy : (y.toList == y.toList) = true := beq_self_eq_true _
      have HDQ := Lib.hid (fun q => World.drewN_drewN w qd q)
      clear i1 i2 i3 j1 j2 j3
      generalize w.drewN qd = wr at *
      go_wp2_with fail
      go_quiet (fail)
      go_wp2_with fail
      go_roundw
      case rel => exact ⟨k + 1, _, by omega, rfl, HDQ.out _⟩
      case measure => simp [intOf] <;> omega
    · have hli : ¬ (k : Int) < (n : Int) := by omega
      have hB := Lib.hid (show Below w.heap.size w (w.drewN qd) from ⟨rfl, rfl, rfl, Nat.le_refl _, fun _ _ => rfl⟩)
      go_wp2_with fail
      go_ret
      exact ⟨rfl, hB.out⟩
end Go.Proofs.Ytaoomjbkfcbfpaa

/- The law's awake: two blocks whose fields are known. No condition. -/
namespace Go.Proofs.Ytaoomjbkfcbfpaa
open Go.RowKit Bytes Tb Up

theorem below_drewN {B : Nat} {w w' : World} (h : Below B w w') (n : Nat) : Below B w (w'.drewN n) := ⟨h.os, h.tape, h.output, h.size, h.block⟩
namespace Up
def awL1 : List Fld := [⟨⟨#[58, 109, 101, 116, 104, 111, 100]⟩, ⟨#[71, 69, 84]⟩, false⟩, ⟨⟨#[58, 115, 99, 104, 101, 109, 101]⟩, ⟨#[104, 116, 116, 112]⟩, false⟩, ⟨⟨#[58, 112, 97, 116, 104]⟩, ⟨#[47]⟩, false⟩, ⟨⟨#[58, 97, 117, 116, 104, 111, 114, 105, 116, 121]⟩, ⟨#[119, 119, 119, 46, 101, 120, 97, 109, 112, 108, 101, 46, 99, 111, 109]⟩, false⟩]
def awL2 : List Fld := [⟨⟨#[58, 109, 101, 116, 104, 111, 100]⟩, ⟨#[71, 69, 84]⟩, false⟩, ⟨⟨#[58, 115, 99, 104, 101, 109, 101]⟩, ⟨#[104, 116, 116, 112]⟩, false⟩, ⟨⟨#[58, 112, 97, 116, 104]⟩, ⟨#[47]⟩, false⟩, ⟨⟨#[58, 97, 117, 116, 104, 111, 114, 105, 116, 121]⟩, ⟨#[119, 119, 119, 46, 101, 120, 97, 109, 112, 108, 101, 46, 99, 111, 109]⟩, false⟩, ⟨⟨#[99, 97, 99, 104, 101, 45, 99, 111, 110, 116, 114, 111, 108]⟩, ⟨#[110, 111, 45, 99, 97, 99, 104, 101]⟩, false⟩]
def awT1 : Tab := (4096, [(⟨#[58, 97, 117, 116, 104, 111, 114, 105, 116, 121]⟩, ⟨#[119, 119, 119, 46, 101, 120, 97, 109, 112, 108, 101, 46, 99, 111, 109]⟩)])
def awT2 : Tab := (4096, [(⟨#[99, 97, 99, 104, 101, 45, 99, 111, 110, 116, 114, 111, 108]⟩, ⟨#[110, 111, 45, 99, 97, 99, 104, 101]⟩), (⟨#[58, 97, 117, 116, 104, 111, 114, 105, 116, 121]⟩, ⟨#[119, 119, 119, 46, 101, 120, 97, 109, 112, 108, 101, 46, 99, 111, 109]⟩)])
theorem aw1 : Up.read (newT 4096, false) ⟨#[130, 134, 132, 65, 15, 119, 119, 119, 46, 101, 120, 97, 109, 112, 108, 101, 46, 99, 111, 109]⟩ = ((awT1, false), awL1, 0) := by kernel_rfl
theorem aw2 : Up.read (awT1, false) ⟨#[130, 134, 132, 190, 88, 8, 110, 111, 45, 99, 97, 99, 104, 101]⟩ = ((awT2, false), awL2, 0) := by kernel_rfl
end Up

set_option maxHeartbeats 4000000 in
set_option maxRecDepth 100000 in
theorem awake_is (w : World) : Calls Try.prog 6 #[] w fun e w' => e = .returned (.bool true) ∧ Below w.heap.size w w' := by
  go_enter Try.func6, Try.ntmps6
  go_wp2_with fail
  refine (unew_is w).mono ?_
  rintro e w1 ⟨d, g, b, rfl, hD, hB, l1, l2, l3⟩
  have HR1 := Lib.hid (read_any d g b _ ⟨#[130, 134, 132, 65, 15, 119, 119, 119, 46, 101, 120, 97, 109, 112, 108, 101, 46, 99, 111, 109]⟩ _ w1 hD (by decide) (Lib.hid aw1))
  have HB1 := Lib.hid hB
  have HD0 := Lib.hid hD.lt
  clear hD hB
  go_wp2_with fail
  refine HR1.out.mono ?_
  rintro e w2 ⟨v1, rfl, hO1, b1, hD1, hK1, hb1, hs1⟩
  have HR2 := Lib.hid (read_any d g b1 _ ⟨#[130, 134, 132, 190, 88, 8, 110, 111, 45, 99, 97, 99, 104, 101]⟩ _ w2 hD1 (by decide) (Lib.hid aw2))
  have hs := HB1.out.size
  have n1 : b1 = b ∨ b1 = g ∨ w.heap.size ≤ b1 := by omega
  have hB2 : Below w.heap.size w w2 := ⟨hK1.os.trans HB1.out.os, hK1.tape.trans HB1.out.tape, hK1.output.trans HB1.out.output, Nat.le_trans hs hK1.size, fun k hk => (hK1.block k (by omega) (by omega) (by omega) (by omega)).trans (HB1.out.block k hk)⟩
  have HB2 := Lib.hid hB2
  have HO1 := Lib.hid hO1
  have HS1 := Lib.hid hs1
  have HL1 := Lib.hid hD1.lt
  have hl1 := hD1.ne
  clear hO1 hD1 hK1 hs1 hB2 HR1
  have hge : w.heap.size ≤ b1 := by omega
  go_wp2_with fail
  refine HR2.out.mono ?_
  rintro e w3 ⟨v2, rfl, hO2, b2, hD2, hK2, hb2, hs2⟩
  have hO1 : w3.ownsRow w1.heap.size 47 3 v1 4 (fldCs awL1) := own_same HO1.out (fun k hk => hK2.block k (HO1.out.lt k hk).2 (by have := (HO1.out.lt k hk).1; have := HD0.out; omega) (by have := (HO1.out.lt k hk).1; have := HD0.out; omega) (HS1.out k hk))
  have hB3 : Below w.heap.size w w3 := ⟨hK2.os.trans HB2.out.os, hK2.tape.trans HB2.out.tape, hK2.output.trans HB2.out.output, Nat.le_trans HB2.out.size hK2.size, fun k hk => (hK2.block k (by have := HB2.out.size; omega) (by omega) (by omega) (by omega)).trans (HB2.out.block k hk)⟩
  have HB3 := Lib.hid hB3
  obtain ⟨k1, c1, rfl, i1, i2, i3⟩ := row_fld hO1 rfl (k := 3) (by decide)
  obtain ⟨k2, c2, rfl, j1, j2, j3⟩ := row_fld (n := 5) hO2 rfl (k := 3) (by decide)
  obtain ⟨k3, c3, e3, m1, m2, m3⟩ := row_fld (n := 5) hO2 rfl (k := 4) (by decide)
  injection e3 with e3 _ _
  injection e3 with e3
  injection e3 with e3 _
  subst e3
  have HDN := Lib.hid (fun n => (down_any d g b2 _ (w3.drewN n) (hD2.drewN n)).mono (fun e w' (h : e = .returned (.bool false) ∧ w' = w3.drewN n) => And.intro h.1 h.2.symm))
  clear hO1 hO2 hB3 hD2 hK2 hb2 hs2 HR2
  have q1 : w3.cell? ⟨k1, 9, none⟩ = some (.string ⟨#[58, 97, 117, 116, 104, 111, 114, 105, 116, 121]⟩) := i1
  have q2 : w3.cell? ⟨k1, 10, none⟩ = some (.string ⟨#[119, 119, 119, 46, 101, 120, 97, 109, 112, 108, 101, 46, 99, 111, 109]⟩) := i2
  have q3 : w3.cell? ⟨k1, 11, none⟩ = some (.bool false) := i3
  have q4 : w3.cell? ⟨k2, 9, none⟩ = some (.string ⟨#[58, 97, 117, 116, 104, 111, 114, 105, 116, 121]⟩) := j1
  have q5 : w3.cell? ⟨k2, 10, none⟩ = some (.string ⟨#[119, 119, 119, 46, 101, 120, 97, 109, 112, 108, 101, 46, 99, 111, 109]⟩) := j2
  have q6 : w3.cell? ⟨k2, 11, none⟩ = some (.bool false) := j3
  have q7 : w3.cell? ⟨k2, 12, none⟩ = some (.string ⟨#[99, 97, 99, 104, 101, 45, 99, 111, 110, 116, 114, 111, 108]⟩) := m1
  have ho1 := zero_add_addr k1 9
  have ho2 := zero_add_addr k2 9
  have ho3 := zero_add_addr k2 12
  have hz0 : (((0 : Nat) : Int) == 0) = true := rfl
  clear i1 i2 i3 j1 j2 j3 m1 m2 m3
  go_wp2_with fail
  go_quiet ((go_at_call 13; exact quiet_left (HDN.out _)))
  go_wp2_with fail
  go_ret
  exact ⟨rfl, below_drewN HB3.out _⟩
end Go.Proofs.Ytaoomjbkfcbfpaa

/- Blocks that came in: a slice of texts, nil or at an address. No condition. -/
namespace Go.Proofs.Ytaoomjbkfcbfpaa
open Go.ChangeShapes Go.WideShapes Go.ChangeAt Go.RowKit
open Bytes Strs

theorem rds_of_trod {H : Type} {enc : TypeId × Value → H} {w : World} {base : Nat} {spare : Nat → Bool} {held : Bool} {fuel : Nat} {a : Option Addr} {len cap : Nat} {x : DataW H × List MemPlace}
    (h : DataW.trod enc Try.prog w base spare held fuel 22 [.slice a len cap] = some x) : len ≤ maxLen ∧ ∃ L : List (List UInt8), L.length = len ∧ RdS w w.heap.size a L := by
  rcases open_strings Try.underlying22 Try.underlying9 (by kernel_rfl) h with ⟨hcs, _⟩ | ⟨ad, l, c, ss, hcs, _, hl, hm, hz, _, hcell, _⟩
  · simp at hcs
    obtain ⟨rfl, rfl, rfl⟩ := hcs
    exact ⟨Nat.zero_le _, [], rfl, RdS.void _ _ _⟩
  · simp at hcs
    obtain ⟨rfl, rfl, rfl⟩ := hcs
    have hls : len ≤ ss.length := by rw [hz]; split <;> omega
    have hlen : ((ss.take len).map fun s => s.data.toList).length = len := by rw [List.length_map, List.length_take]; omega
    have hc : ∀ k, k < ((ss.take len).map fun s => s.data.toList).length → w.cell? (ad.add k) = some (.string (mk (((ss.take len).map fun s => s.data.toList).getD k []))) := fun k hk => by
      rw [hlen] at hk
      rw [hcell k (by omega)]
      refine congrArg (fun s => some (Value.string s)) ?_
      have hk2 : k < (ss.take len).length := by rw [List.length_take]; omega
      rw [List.getD_eq_getElem?_getD, List.getD_eq_getElem?_getD, List.getElem?_map, List.getElem?_eq_getElem hk2, List.getElem_take, List.getElem?_eq_getElem (by omega)]
      exact (mk_data _).symm
    refine ⟨by omega, (ss.take len).map fun s => s.data.toList, hlen, fun hp => ⟨ad, rfl, ?_, hc⟩⟩
    have := World.block_lt_of_cell? _ _ (hc 0 hp)
    rwa [add_block] at this
end Go.Proofs.Ytaoomjbkfcbfpaa

/- A decoder and the document's, side by side: what stands between two blocks. No condition. -/
namespace Go.Proofs.Ytaoomjbkfcbfpaa
open Go Go.RowKit Tb Up

namespace Up
theorem siz_err {s : ByteArray} {t : Tab} {p n x : Nat} (h : siz s t p n = .error x) : x ≠ 0 := by
  unfold siz at h
  split at h
  · rename_i hn
    injection h with h
    have := num_err hn
    omega
  · split at h
    · injection h with h; omega
    · cases h
theorem ent_err {t : Tab} {m x : Nat} (h : ent t m = .error x) : x ≠ 0 := by
  unfold ent at h
  split at h
  · cases h
  · injection h with h; omega
theorem fld_err {s : ByteArray} {t : Tab} {p x : Nat} (h : fld s t p = .error x) : x ≠ 0 := by
  unfold fld at h
  split at h
  · split at h
    · rename_i hn
      injection h with h
      have := num_err hn
      omega
    · split at h
      · rename_i he
        injection h with h
        subst h
        exact ent_err he
      · cases h
  · split at h
    · split at h
      · rename_i hn
        injection h with h
        subst h
        exact spelt_err hn
      · cases h
    · split at h
      · rename_i hn
        injection h with h
        subst h
        exact spelt_err hn
      · cases h
theorem run_err (s : ByteArray) : ∀ (k : Nat) (t t' : Tab) (p : Nat) (out : List Fld) (x : Nat), run s k t p out = (t', .error x) → x ≠ 0
  | 0, t, t', p, out, x, h => by rw [run] at h; injection h with _ h; cases h
  | k + 1, t, t', p, out, x, h => by
    rw [run] at h
    split at h
    · split at h
      · split at h
        · rename_i hs
          injection h with _ h
          injection h with h
          subst h
          exact siz_err hs
        · exact run_err s k _ _ _ _ _ h
      · split at h
        · injection h with _ h
          injection h with h
          omega
        · split at h
          · rename_i hs
            injection h with _ h
            injection h with h
            subst h
            exact fld_err hs
          · exact run_err s k _ _ _ _ _ h
    · injection h with _ h
      cases h
/-- What a block leaves, in three ways. -/
theorem read_ways (D : Dec) (s : ByteArray) : (D.2 = true ∧ Up.read D s = (D, [], 8)) ∨ (D.2 = false ∧ ∃ t out, out.length ≤ 64 ∧ Up.read D s = ((t, false), out, 0)) ∨ (D.2 = false ∧ ∃ t x, x ≠ 0 ∧ Up.read D s = ((t, true), [], x)) := by
  obtain ⟨t, dn⟩ := D
  cases dn with
  | true => exact .inl ⟨rfl, by unfold Up.read; rw [if_pos rfl]⟩
  | false =>
    obtain ⟨⟨t', RR⟩, hX⟩ : ∃ X, go s t 0 [] = X := ⟨_, rfl⟩
    have hr : Up.read (t, false) s = decEnd t' RR := by
      unfold Up.read
      rw [if_neg Bool.false_ne_true, hX]
      cases RR <;> rfl
    cases RR with
    | error x => exact .inr (.inr ⟨rfl, t', x, run_err s _ _ _ _ _ _ hX, hr⟩)
    | ok out => exact .inr (.inl ⟨rfl, t', out, (run_len s _ _ _ _ _ _ (Nat.zero_le _) hX).1, hr⟩)
end Up
/-- A decoder of the call's own, between two blocks. -/
structure DL (w wr : World) (d g b : Nat) (D : Dec) : Prop where
  dec : DcAt wr d g b D
  fr : Below w.heap.size w wr
  ge : w.heap.size ≤ d ∧ w.heap.size ≤ g ∧ w.heap.size ≤ b
section
variable {w wr w1 : World} {d g b b1 : Nat} {D D' : Dec}
theorem DL.below (h : DL w wr d g b D) (hB : Below wr.heap.size wr w1) : DL w w1 d g b D := ⟨h.dec.below hB, h.fr.trans (hB.mono h.fr.size), h.ge⟩
theorem DL.step (h : DL w wr d g b D) (hD : DcAt w1 d g b1 D') (hK : Kept3 d g b wr w1) (hb : b1 = b ∨ b1 = g ∨ wr.heap.size ≤ b1) : DL w w1 d g b1 D' := by
  have h1 := h.ge
  have h2 := h.fr.size
  exact ⟨hD, ⟨hK.os.trans h.fr.os, hK.tape.trans h.fr.tape, hK.output.trans h.fr.output, Nat.le_trans h2 hK.size, fun k hk => (hK.block k (by omega) (by omega) (by omega) (by omega)).trans (h.fr.block k hk)⟩, by omega⟩
end
/-- The two side by side: the document's lies in block M, its table's row at A. -/
structure LR (w wr : World) (d g b M : Nat) (D : Dec) (A : Option Addr) (c : Nat) : Prop where
  dl : DL w wr d g b D
  cell : wr.heap[M]? = some (.cells #[.int .i64 (D.1.1 : Int), .slice A D.1.2.length c, .bool D.2] 31 (0, 0))
  tab : TabE wr wr.heap.size A D.1.2.length c D.1.2
  ge : w.heap.size ≤ M
  ne : M ≠ d ∧ M ≠ g ∧ M ≠ b
  sep : ∀ bb o, A = some ⟨bb, o, none⟩ → bb ≠ d ∧ bb ≠ g ∧ bb ≠ b ∧ bb ≠ M
/-- Between the two readings: the decoder has read, the document not yet. -/
structure LH (w wr : World) (d g b M : Nat) (D0 D : Dec) (A : Option Addr) (c : Nat) : Prop where
  dl : DL w wr d g b D
  cell : wr.heap[M]? = some (.cells #[.int .i64 (D0.1.1 : Int), .slice A D0.1.2.length c, .bool D0.2] 31 (0, 0))
  tab : TabE wr wr.heap.size A D0.1.2.length c D0.1.2
  ge : w.heap.size ≤ M
  ne : M ≠ d ∧ M ≠ g ∧ M ≠ b
  sep : ∀ bb o, A = some ⟨bb, o, none⟩ → bb ≠ d ∧ bb ≠ g ∧ bb ≠ b ∧ bb ≠ M
section
variable {w wr w1 w2 : World} {d g b b1 M : Nat} {D D' : Dec} {A A' : Option Addr} {c c' : Nat}
theorem LR.lt (h : LR w wr d g b M D A c) : M < wr.heap.size := world_lt h.cell
theorem LR.below (h : LR w wr d g b M D A c) (hB : Below wr.heap.size wr w1) : LR w w1 d g b M D A c :=
  ⟨h.dl.below hB, (hB.block M h.lt).trans h.cell, h.tab.on hB hB.size, h.ge, h.ne, h.sep⟩
theorem LH.below (h : LH w wr d g b M D D' A c) (hB : Below wr.heap.size wr w1) : LH w w1 d g b M D D' A c :=
  ⟨h.dl.below hB, (hB.block M (world_lt h.cell)).trans h.cell, h.tab.on hB hB.size, h.ge, h.ne, h.sep⟩
/-- The decoder reads. -/
theorem LR.read (h : LR w wr d g b M D A c) (hD : DcAt w1 d g b1 D') (hK : Kept3 d g b wr w1) (hb : b1 = b ∨ b1 = g ∨ wr.heap.size ≤ b1) : LH w w1 d g b1 M D D' A c := by
  have hl := h.lt
  have h1 := h.ne
  refine ⟨h.dl.step hD hK hb, (hK.block M hl h1.1 h1.2.1 h1.2.2).trans h.cell, tabE_same h.tab hK.size (fun bb o hA => ?_), h.ge, ?_, fun bb o hA => ?_⟩
  · have h2 := h.sep bb o hA
    exact hK.block bb (tabE_lt h.tab bb o hA) h2.1 h2.2.1 h2.2.2.1
  · rcases hb with e | e | e
    · exact ⟨h1.1, h1.2.1, by omega⟩
    · exact ⟨h1.1, h1.2.1, by omega⟩
    · exact ⟨h1.1, h1.2.1, by omega⟩
  · have h2 := h.sep bb o hA
    have h3 := tabE_lt h.tab bb o hA
    refine ⟨h2.1, h2.2.1, ?_, h2.2.2.2⟩
    rcases hb with e | e | e
    · omega
    · omega
    · omega
/-- The document reads, and is stored. -/
theorem LH.read (h : LH w wr d g b M D D' A c) (hB : Below wr.heap.size wr w1) (hT : TabE w1 w1.heap.size A' D'.1.2.length c' D'.1.2) (hA : A' = A ∨ ∀ bb o, A' = some ⟨bb, o, none⟩ → wr.heap.size ≤ bb) :
    LR w (((w1.setCell ⟨M, 0, none⟩ (.int .i64 (D'.1.1 : Int))).setCell ⟨M, 1, none⟩ (.slice A' D'.1.2.length c')).setCell ⟨M, 2, none⟩ (.bool D'.2)) d g b M D' A' c' := by
  have h1 := h.below hB
  have hl := h.dl.dec.lt
  have hm := world_lt h.cell
  have hne := h.ne
  have hsep : ∀ bb o, A' = some ⟨bb, o, none⟩ → bb ≠ d ∧ bb ≠ g ∧ bb ≠ b ∧ bb ≠ M := fun bb o e => by
    rcases hA with rfl | hA
    · exact h.sep bb o e
    · have := hA bb o e
      omega
  have ho : ∀ k, k ≠ M → (((w1.setCell ⟨M, 0, none⟩ (.int .i64 (D'.1.1 : Int))).setCell ⟨M, 1, none⟩ (.slice A' D'.1.2.length c')).setCell ⟨M, 2, none⟩ (.bool D'.2)).heap[k]? = w1.heap[k]? := fun k hk => set_other w1 M k _ _ _ hk
  have hs : w1.heap.size ≤ (((w1.setCell ⟨M, 0, none⟩ (.int .i64 (D'.1.1 : Int))).setCell ⟨M, 1, none⟩ (.slice A' D'.1.2.length c')).setCell ⟨M, 2, none⟩ (.bool D'.2)).heap.size := by simp
  exact ⟨⟨h1.dl.dec.kept hs (fun k hk => ho k (by omega)), ((h1.dl.fr.setCell (p := ⟨M, 0, none⟩) h.ge _).setCell (p := ⟨M, 1, none⟩) h.ge _).setCell (p := ⟨M, 2, none⟩) h.ge _, h1.dl.ge⟩, set_three h1.cell,
    tabE_same hT hs (fun bb o e => ho bb (hsep bb o e).2.2.2), h.ge, h.ne, hsep⟩
end
end Go.Proofs.Ytaoomjbkfcbfpaa

/- The law's same: two tables that tell the same. For tables that can be gone through. -/
namespace Go.Proofs.Ytaoomjbkfcbfpaa
open Go.RowKit Tb

set_option maxHeartbeats 4000000 in
set_option maxRecDepth 100000 in
theorem two_same (g1 b1 g2 b2 : Nat) (t : Tab) (w : World) (h1 : TAt w g1 b1 t) (h2 : TAt w g2 b2 t) (hf : Fit t) :
    Calls Try.prog 19 #[.pointer (some ⟨g1, 0, none⟩), .pointer (some ⟨g2, 0, none⟩)] w fun e w' => e = .returned (.bool true) ∧ Below w.heap.size w w' := by
  obtain ⟨n, hn⟩ : ∃ n, t.2.length = n := ⟨_, rfl⟩
  obtain ⟨M, hM⟩ : ∃ M : Int, (t.1 : Int) = M := ⟨_, rfl⟩
  obtain ⟨S, hS⟩ : ∃ S : Nat, sumL t.2 = S := ⟨_, rfl⟩
  have hln := hf.1
  rw [hn] at hln
  have HF := Lib.hid hf
  have HL1 := Lib.hid (fun X (hX : Below w.heap.size w X) => len_t g1 b1 t n X (Lib.hid (h1.below hX)) (Lib.hid hn))
  have HL2 := Lib.hid (fun X (hX : Below w.heap.size w X) => len_t g2 b2 t n X (Lib.hid (h2.below hX)) (Lib.hid hn))
  have HM1 := Lib.hid (most_t g1 b1 t M w (Lib.hid h1) (Lib.hid hM))
  have HM2 := Lib.hid (most_t g2 b2 t M w (Lib.hid h2) (Lib.hid hM))
  have HS1 := Lib.hid (size_t g1 b1 t S w (Lib.hid h1) (Lib.hid hS))
  have HS2 := Lib.hid (size_t g2 b2 t S w (Lib.hid h2) (Lib.hid hS))
  have HT1 := Lib.hid h1
  have HT2 := Lib.hid h2
  have HN := Lib.hid hn
  have hd : Below w.heap.size w w := Below.refl _ _
  clear h1 h2 hf hn hM hS
  go_enter Try.func19, Try.ntmps19
  go_wp2_with (first | (go_at_call 18; refine (HL1.out _ hd).mono ?_; rintro e w8 ⟨rfl, rfl⟩) | (go_at_call 18; refine (HL2.out _ hd).mono ?_; rintro e w8 ⟨rfl, rfl⟩) | (go_at_call 17; refine HM1.out.mono ?_; rintro e w8 ⟨rfl, rfl⟩) | (go_at_call 17; refine HM2.out.mono ?_; rintro e w8 ⟨rfl, rfl⟩) | (go_at_call 16; refine HS1.out.mono ?_; rintro e w8 ⟨rfl, rfl⟩) | (go_at_call 16; refine HS2.out.mono ?_; rintro e w8 ⟨rfl, rfl⟩) | fail)
  go_loopw [5, 6, 7, 8, 9, 10, 11] (fun i _ _ _ _ _ _ wr => ∃ k : Nat, k ≤ n ∧ i = .int .i64 (k : Int) ∧ Hid (Below w8.heap.size w8 wr)) (fun i _ _ _ _ _ _ _ => n - (intOf i).toNat)
  case atStart => exact ⟨0, Nat.zero_le _, rfl, hd⟩
  case round =>
    obtain ⟨k, hk, rfl, hBw⟩ := hrel
    by_cases hlt : k < n
    · have hli : (k : Int) < (n : Int) := by omega
      obtain ⟨e, he⟩ : ∃ e, entAt t.2 k = e := ⟨_, rfl⟩
      obtain ⟨x, y⟩ := e
      have hR := at_mine (L := t.2) (i := k) (by rw [HN.out]; exact hlt)
      rw [he] at hR
      have e1 : IntKind.i64.wrap ((k : Int) + 1) = ((k + 1 : Nat) : Int) := by rw [IntKind.wrap_i64]; omega
      obtain ⟨z, hz⟩ : ∃ z : Int, 62 + (k : Int) = z := ⟨_, rfl⟩
      have e2 : IntKind.i64.wrap (62 + (k : Int)) = z := by rw [IntKind.wrap_i64]; omega
      rw [hz] at hR
      have HR := Lib.hid hR
      have hz1 : -9223372036854775808 ≤ z := by omega
      have hz2 : z ≤ 9223372036854775807 := by omega
      have fx : (x.toList == x.toList) = true := beq_self_eq_true _
      have fy : (y.toList == y.toList) = true := beq_self_eq_true _
      clear hR hz he
      go_wp2_with fail
      refine (HL1.out _ hBw.out).mono ?_
      rintro e w3 ⟨rfl, rfl⟩
      go_wp2_with fail
      refine (at_is g1 b1 t z x y true w3 (Lib.hid (HT1.out.below hBw.out)) HF hz1 hz2 HR).mono ?_
      rintro e w4 ⟨rfl, hB4⟩
      have HB4 := Lib.hid (hBw.out.trans (hB4.mono hBw.out.size))
      clear hB4
      go_wp2_with fail
      refine (at_is g2 b2 t z x y true w4 (Lib.hid (HT2.out.below HB4.out)) HF hz1 hz2 HR).mono ?_
      rintro e w5 ⟨rfl, hB5⟩
      have HB5 := Lib.hid (HB4.out.trans (hB5.mono HB4.out.size))
      clear hB5
      go_wp2_with fail
      go_roundw
      case rel => exact ⟨k + 1, by omega, rfl, HB5⟩
      case measure => simp [intOf] <;> omega
    · have hli : ¬ (k : Int) < (n : Int) := by omega
      go_wp2_with fail
      refine (HL1.out _ hBw.out).mono ?_
      rintro e w3 ⟨rfl, rfl⟩
      go_wp2_with fail
      go_ret
      exact ⟨rfl, hBw.out⟩
end Go.Proofs.Ytaoomjbkfcbfpaa

/- Two blocks, one behind the other, are read as one. No program. -/
namespace Go.Proofs.Ytaoomjbkfcbfpaa.Up
open Go.RowKit Bytes Pf Tb

theorem cat_size (a b : ByteArray) : (a ++ b).size = a.size + b.size := by rw [size_list, size_list, size_list, cat_list, List.length_append]
theorem ext_left (a b : ByteArray) {i j : Nat} (h : j ≤ a.size) : (a ++ b).extract i j = a.extract i j := by
  rw [size_list] at h
  refine list_inj ?_
  rw [extract_list, extract_list, cat_list, List.take_append_of_le_length h]
theorem ext_right (a b : ByteArray) (i j : Nat) : (a ++ b).extract (a.size + i) (a.size + j) = b.extract i j := by
  refine list_inj ?_
  rw [extract_list, extract_list, cat_list, size_list]
  generalize a.data.toList = l
  generalize b.data.toList = r
  rw [List.take_append, List.take_of_length_le (by omega), Nat.add_sub_cancel_left, List.drop_append, List.drop_of_length_le (by omega), Nat.add_sub_cancel_left, List.nil_append]
theorem at_left (a b : ByteArray) {p : Nat} (h : p < a.size) : byteAt (a ++ b).data.toList p = byteAt a.data.toList p := by
  rw [size_list] at h
  unfold byteAt
  rw [cat_list, List.getD_eq_getElem?_getD, List.getD_eq_getElem?_getD, List.getElem?_append_left h]
theorem at_right (a b : ByteArray) (p : Nat) : byteAt (a ++ b).data.toList (a.size + p) = byteAt b.data.toList p := by
  unfold byteAt
  rw [cat_list, size_list, List.getD_eq_getElem?_getD, List.getD_eq_getElem?_getD, List.getElem?_append_right (by omega), Nat.add_sub_cancel_left]
theorem num_left (a b : ByteArray) {p : Nat} {k : Int} {m q : Nat} (h : num a.data.toList p k = .ok (m, q)) : num (a ++ b).data.toList p k = .ok (m, q) := by
  rw [cat_list]
  exact num_app _ h
theorem num_right (a b : ByteArray) {p : Nat} {k : Int} {m q : Nat} (h : num b.data.toList p k = .ok (m, q)) : num (a ++ b).data.toList (a.size + p) k = .ok (m, a.size + q) := by
  rw [cat_list, size_list]
  exact num_shift _ h
theorem txt_left (a b : ByteArray) {p : Nat} {y : ByteArray} {q : Nat} (h : txt a p = .ok (y, q)) : txt (a ++ b) p = .ok (y, q) := by
  have hp := (txt_ok h).1
  unfold txt at h ⊢
  split at h
  · cases h
  · rename_i m q' hn
    rw [num_left a b hn]
    simp only
    split at h
    · rename_i hq
      rw [if_pos (by rw [cat_size]; omega), at_left a b hp, ext_left a b hq]
      exact h
    · cases h
theorem txt_right (a b : ByteArray) {p : Nat} {y : ByteArray} {q : Nat} (h : txt b p = .ok (y, q)) : txt (a ++ b) (a.size + p) = .ok (y, a.size + q) := by
  unfold txt at h ⊢
  split at h
  · cases h
  · rename_i m q' hn
    rw [num_right a b hn]
    simp only
    split at h
    · rename_i hq
      rw [if_pos (by rw [cat_size]; omega), at_right, Nat.add_assoc, ext_right a b]
      split at h
      · rename_i hb
        rw [if_pos hb]
        injection h with h
        injection h with h1 h2
        rw [h1, h2]
      · rename_i hb
        rw [if_neg hb]
        split at h
        · injection h with h
          injection h with h1 h2
          rw [h1, h2]
        · cases h
    · cases h
theorem nam_left (a b : ByteArray) {t : Tab} {m q : Nat} {y : ByteArray} {q' : Nat} (h : nam a t m q = .ok (y, q')) : nam (a ++ b) t m q = .ok (y, q') := by
  unfold nam at h ⊢
  split at h
  · rename_i hm
    rw [if_pos hm]
    exact h
  · rename_i hm
    rw [if_neg hm]
    exact txt_left a b h
theorem nam_right (a b : ByteArray) {t : Tab} {m q : Nat} {y : ByteArray} {q' : Nat} (h : nam b t m q = .ok (y, q')) : nam (a ++ b) t m (a.size + q) = .ok (y, a.size + q') := by
  unfold nam at h ⊢
  split at h
  · rename_i hm
    rw [if_pos hm]
    split at h
    · cases h
    · injection h with h
      injection h with h1 h2
      rw [h1, h2]
  · rename_i hm
    rw [if_neg hm]
    exact txt_right a b h
theorem spelt_left (a b : ByteArray) {t : Tab} {p : Nat} {k : Int} {e : Ent} {q : Nat} (h : spelt a t p k = .ok (e, q)) : spelt (a ++ b) t p k = .ok (e, q) := by
  unfold spelt at h ⊢
  split at h
  · cases h
  · rename_i m q' hn
    rw [num_left a b hn]
    simp only
    split at h
    · cases h
    · rename_i n q1 hm
      rw [nam_left a b hm]
      simp only
      split at h
      · cases h
      · rename_i v q2 hv
        rw [txt_left a b hv]
        exact h
theorem spelt_right (a b : ByteArray) {t : Tab} {p : Nat} {k : Int} {e : Ent} {q : Nat} (h : spelt b t p k = .ok (e, q)) : spelt (a ++ b) t (a.size + p) k = .ok (e, a.size + q) := by
  unfold spelt at h ⊢
  split at h
  · cases h
  · rename_i m q' hn
    rw [num_right a b hn]
    simp only
    split at h
    · cases h
    · rename_i n q1 hm
      rw [nam_right a b hm]
      simp only
      split at h
      · cases h
      · rename_i v q2 hv
        rw [txt_right a b hv]
        injection h with h
        injection h with h1 h2
        simp only [h1, h2]
theorem fld_left (a b : ByteArray) {t t' : Tab} {p : Nat} {x : Fld} {q : Nat} (hp : p < a.size) (h : fld a t p = .ok (t', x, q)) : fld (a ++ b) t p = .ok (t', x, q) := by
  unfold fld at h ⊢
  rw [at_left a b hp]
  split at h
  · rename_i hc
    rw [if_pos hc]
    split at h
    · cases h
    · rename_i m q' hn
      rw [num_left a b hn]
      exact h
  · rename_i hc
    rw [if_neg hc]
    split at h
    · rename_i hc2
      rw [if_pos hc2]
      split at h
      · cases h
      · rename_i e q' hs
        rw [spelt_left a b hs]
        exact h
    · rename_i hc2
      rw [if_neg hc2]
      split at h
      · cases h
      · rename_i e q' hs
        rw [spelt_left a b hs]
        exact h
theorem fld_right (a b : ByteArray) {t t' : Tab} {p : Nat} {x : Fld} {q : Nat} (h : fld b t p = .ok (t', x, q)) : fld (a ++ b) t (a.size + p) = .ok (t', x, a.size + q) := by
  unfold fld at h ⊢
  rw [at_right]
  split at h
  · rename_i hc
    rw [if_pos hc]
    split at h
    · cases h
    · rename_i m q' hn
      rw [num_right a b hn]
      simp only
      split at h
      · cases h
      · injection h with h
        injection h with h1 h2
        injection h2 with h2 h3
        rw [h1, h2, h3]
  · rename_i hc
    rw [if_neg hc]
    split at h
    · rename_i hc2
      rw [if_pos hc2]
      split at h
      · cases h
      · rename_i e q' hs
        rw [spelt_right a b hs]
        injection h with h
        injection h with h1 h2
        injection h2 with h2 h3
        simp only [h1, h2, h3]
    · rename_i hc2
      rw [if_neg hc2]
      split at h
      · cases h
      · rename_i e q' hs
        rw [spelt_right a b hs]
        injection h with h
        injection h with h1 h2
        injection h2 with h2 h3
        simp only [h1, h2, h3]
theorem siz_left (a b : ByteArray) {t t' : Tab} {p n q : Nat} (h : siz a t p n = .ok (t', q)) : siz (a ++ b) t p n = .ok (t', q) := by
  unfold siz at h ⊢
  split at h
  · cases h
  · rename_i m q' hn
    rw [num_left a b hn]
    exact h
theorem siz_right (a b : ByteArray) {t t' : Tab} {p n q : Nat} (h : siz b t p n = .ok (t', q)) : siz (a ++ b) t (a.size + p) n = .ok (t', a.size + q) := by
  unfold siz at h ⊢
  split at h
  · cases h
  · rename_i m q' hn
    rw [num_right a b hn]
    simp only
    split at h
    · cases h
    · rename_i hb
      rw [if_neg hb]
      injection h with h
      injection h with h1 h2
      rw [h1, h2]
/-- Up to where the first block ends. -/
theorem run_left (a b : ByteArray) : ∀ (k : Nat) (t t' : Tab) (p : Nat) (out l : List Fld), a.size - p ≤ k → p ≤ a.size → run a k t p out = (t', .ok l) → go (a ++ b) t p out = go (a ++ b) t' a.size l
  | 0, t, t', p, out, l, hk, hp, h => by
    rw [run] at h
    injection h with h1 h2
    injection h2 with h2
    have : p = a.size := by omega
    rw [h1, h2, this]
  | k + 1, t, t', p, out, l, hk, hp, h => by
    rw [run] at h
    split at h
    · rename_i hlt
      have hlt2 : p < (a ++ b).size := by rw [cat_size]; omega
      have hat := at_left a b hlt
      split at h
      · rename_i hs
        have hs2 : isSize (a ++ b) p := by unfold isSize at hs ⊢; rw [hat]; exact hs
        split at h
        · injection h with _ h; cases h
        · rename_i t1 q hz
          have hq := siz_ok hz
          rw [go_siz hlt2 hs2 (siz_left a b hz)]
          exact run_left a b k _ _ _ _ _ (by omega) (by omega) h
      · rename_i hs
        have hs2 : ¬ isSize (a ++ b) p := by unfold isSize at hs ⊢; rw [hat]; exact hs
        split at h
        · injection h with _ h; cases h
        · rename_i hl
          split at h
          · injection h with _ h; cases h
          · rename_i t1 x q hz
            have hq := fld_ok hz
            rw [go_fld hlt2 hs2 hl (fld_left a b hlt hz)]
            exact run_left a b k _ _ _ _ _ (by omega) (by omega) h
    · rename_i hlt
      injection h with h1 h2
      injection h2 with h2
      have : p = a.size := by omega
      rw [h1, h2, this]
/-- From there on. -/
theorem run_right (a b : ByteArray) (l : List Fld) : ∀ (k : Nat) (t t' : Tab) (p : Nat) (out m : List Fld), b.size - p ≤ k → p ≤ b.size → out.length ≤ 64 → run b k t p out = (t', .ok m) → l.length + m.length ≤ 64 → (l = [] ∨ 0 < out.length ∨ ¬ (p < b.size ∧ isSize b p)) →
    go (a ++ b) t (a.size + p) (l ++ out) = (t', .ok (l ++ m))
  | 0, t, t', p, out, m, hk, hp, ho, h, hm, hc => by
    rw [run] at h
    injection h with h1 h2
    injection h2 with h2
    rw [← h1, ← h2]
    exact go_end (by rw [cat_size]; omega)
  | k + 1, t, t', p, out, m, hk, hp, ho, h, hm, hc => by
    rw [run] at h
    split at h
    · rename_i hlt
      have hlt2 : a.size + p < (a ++ b).size := by rw [cat_size]; omega
      have hat := at_right a b p
      split at h
      · rename_i hs
        have hs2 : isSize (a ++ b) (a.size + p) := by unfold isSize at hs ⊢; rw [hat]; exact hs
        split at h
        · injection h with _ h; cases h
        · rename_i t1 q hz
          have hq := siz_ok hz
          have hl : l = [] := by
            rcases hc with e | e | e
            · exact e
            · omega
            · exact absurd ⟨hlt, hs⟩ e
          rw [go_siz (q := a.size + q) (t' := t1) hlt2 hs2 (by rw [hl, List.nil_append]; exact siz_right a b hz)]
          exact run_right a b l k _ _ _ _ _ (by omega) (by omega) ho h hm (.inl hl)
      · rename_i hs
        have hs2 : ¬ isSize (a ++ b) (a.size + p) := by unfold isSize at hs ⊢; rw [hat]; exact hs
        split at h
        · injection h with _ h; cases h
        · rename_i hl
          split at h
          · injection h with _ h; cases h
          · rename_i t1 x q hz
            have hq := fld_ok hz
            have hlen := (run_len b _ _ _ _ _ _ (by rw [List.length_append, List.length_singleton]; omega) h).2
            rw [List.length_append, List.length_singleton] at hlen
            rw [go_fld hlt2 hs2 (by rw [List.length_append]; omega) (fld_right a b hz), List.append_assoc]
            exact run_right a b l k _ _ _ _ _ (by omega) (by omega) (by rw [List.length_append, List.length_singleton]; omega) h hm (.inr (.inl (by rw [List.length_append, List.length_singleton]; omega)))
    · rename_i hlt
      injection h with h1 h2
      injection h2 with h2
      rw [← h1, ← h2]
      exact go_end (by rw [cat_size]; omega)
/-- Two blocks are read as one. -/
theorem parts {D : Dec} {a b : ByteArray} {t1 t2 : Tab} {l m : List Fld} (hd : D.2 = false) (h1 : Up.read D a = ((t1, false), l, 0)) (h2 : Up.read (t1, false) b = ((t2, false), m, 0)) (hlen : l.length + m.length ≤ 64) (hc : ¬ (0 < b.size ∧ isSize b 0 ∧ 0 < l.length)) : Up.read D (a ++ b) = ((t2, false), l ++ m, 0) := by
  have key : ∀ (D : Dec) (s : ByteArray) (t : Tab) (out : List Fld), D.2 = false → Up.read D s = ((t, false), out, 0) → go s D.1 0 [] = (t, .ok out) := fun D s t out hd h => by
    unfold Up.read at h
    rw [if_neg (by rw [hd]; exact Bool.false_ne_true)] at h
    obtain ⟨⟨t', RR⟩, hX⟩ : ∃ X, go s D.1 0 [] = X := ⟨_, rfl⟩
    rw [hX] at h ⊢
    cases RR with
    | error e =>
      injection h with h _
      injection h with _ h
      cases h
    | ok o =>
      injection h with h h'
      injection h with h _
      injection h' with h' _
      rw [h, h']
  have g1 := key D a t1 l hd h1
  have g2 := key (t1, false) b t2 m rfl h2
  unfold go at g1 g2
  have e1 := run_left a b _ _ _ _ _ _ (Nat.le_refl _) (Nat.zero_le _) g1
  have e2 := run_right a b l _ _ _ _ _ _ (Nat.le_refl _) (Nat.zero_le _) (Nat.zero_le _) g2 hlen (by
    by_cases hl : l = []
    · exact .inl hl
    · refine .inr (.inr fun h => hc ⟨by omega, h.2, ?_⟩)
      cases l with
      | nil => exact absurd rfl hl
      | cons x r => rw [List.length_cons]; omega)
  rw [List.append_nil, Nat.add_zero] at e2
  unfold Up.read
  rw [if_neg (by rw [hd]; exact Bool.false_ne_true), e1, e2]
end Go.Proofs.Ytaoomjbkfcbfpaa.Up
