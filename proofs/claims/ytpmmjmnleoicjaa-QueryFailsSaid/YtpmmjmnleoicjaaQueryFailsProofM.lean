/- Proves QueryFails: the failure of a query fits the query, as an answer with that ID, isn't negative, holds for no time, and is no query itself. No condition. -/
import Derived.Test.YtpmmjmnleoicjaaRows
import Derived.Test.YtpmmjmnleoicjaaQueryFailsProofG2
import Derived.Test.YtpmmjmnleoicjaaQueryFailsProofG5
import Derived.Test.YtpmmjmnleoicjaaQueryFailsProofG3
import Derived.WalkKit
import Derived.ProofKit
import Derived.OpenShut
import Derived.ShutString
import Derived.ChangeOld
import Derived.Below
import Derived.Lib.Hide
import Derived.Laws.Rows
import Derived.Outline
import Derived.IntWalk
import Derived.WalkSpells
import Derived.WalkLawsBesides
import Derived.Deep.RegionHeld3
import Derived.Deep.Draws
import Derived.Deep.Heap
namespace Go.Proofs.Ytpmmjmnleoicjaa.queryFails
open Go.ChangeShapes Go.WideShapes Go.ChangeAt Go.RowKit
open Bytes Strs Nums MsgMath NameMath RecMath WrMath QrMath QrRows
set_option linter.unusedVariables false
set_option linter.unusedSimpArgs false

theorem own : ownKnob Try.prog.godebug = none := by kernel_rfl
theorem laidOut : laidOutB Try.prog = true := by kernel_rfl
/-- The failure of a query. -/
def fl (id : Nat) (k : Ky) : Msg := ⟨id, 33154, [⟨k.name, k.kind, k.cls⟩], [], [], []⟩
theorem fail_256 : failF 256 = 33154 := by decide
theorem fits_fail {id : Nat} {k : Ky} (hf : foldN k.name = k.name) : fitsM k id (fl id k) = true := by
  rw [fitsM_one (k := k) (id := id) (M := fl id k) (q := ⟨k.name, k.kind, k.cls⟩) ⟨rfl, by show 32768 ≤ 33154; omega, by show 33154 / 512 % 2 = 0; omega, by show opc 33154 = 0; decide⟩ rfl]
  exact decide_eq_true ⟨hf, rfl, rfl⟩
theorem ask_fail {id : Nat} {k : Ky} : askM (fl id k) = none := askM_no (fun e => by have h := e.1; revert h; show 33154 < 32768 → False; omega)
theorem neg_fail {id : Nat} {k : Ky} : negM (fl id k) = false := by
  show (if cod 33154 = 3 then true else if cod 33154 = 0 then !(([] : List Rec).any fun R => decide (R.kind = k.kind ∨ R.kind = 5)) else false) = false
  rw [if_neg (by decide), if_neg (by decide)]
theorem least_fail {id : Nat} {k : Ky} : leastM (fl id k) = 0 := by
  unfold leastM
  rw [neg_fail, if_neg (by decide)]
  rfl
theorem age_fail {id s : Nat} {k : Ky} : ageM s (fl id k) = fl id k := rfl
theorem few_fail {id : Nat} {k : Ky} (hid : id ≤ 65535) (hn : k.name.length ≤ maxLen) (hk : k.kind ≤ 65535) (hc : k.cls ≤ 65535) : QM (fl id k) := by
  have h := (qm_make (id := id) hid hn hk hc).few
  exact ⟨⟨hid, by show 33154 ≤ 65535; omega, h.nq, Nat.zero_le _, Nat.zero_le _, Nat.zero_le _, h.qs, fun _ R hR => by cases hR⟩, fun R hR => by cases hR⟩
theorem small_fail {id : Nat} {k : Ky} : SmallM (fl id k) := ⟨by show 1 ≤ 1000; omega, Nat.zero_le _, Nat.zero_le _, Nat.zero_le _, fun R hR => by cases hR⟩
theorem znil_nil : ZNil [] := fun z hz => by cases hz
theorem fail_v {w : World} {g id c : Nat} {A : Option Addr} {k : Ky} (h : w.ownsRow g 62 3 (.slice A 1 c) 1 (qnCs [⟨k.name, k.kind, k.cls⟩])) : MsgV w w.heap.size (fl id k) A none none none 1 0 0 0 0 0 0 [] [] [] := by
  obtain ⟨A', c', e, h2⟩ := cells_own h
  injection e with e1 _ _
  subst e1
  exact ⟨⟨h2, cells_nil _ _ _, cells_nil _ _ _, cells_nil _ _ _, zAt_nil _ _, zAt_nil _ _, zAt_nil _ _, rfl, rfl, rfl⟩, rfl, rfl, rfl, rfl, fun _ => rfl, fun _ => rfl, fun _ => rfl⟩
set_option maxHeartbeats 16000000 in
set_option maxRecDepth 100000 in
theorem walk (x : ByteArray) (kk kl : Nat) (kd : Bool) (id : Nat) (w : World) (hx : x.size ≤ maxLen) (hkk : kk ≤ 65535) (hkl : kl ≤ 65535) (hid : id ≤ 65535) :
    Calls Try.prog 11 #[.agg (kyA x kk kl kd), .int .u16 id] w fun e w' => e = .returned (.bool true) ∧ Below w.heap.size w w' := by
  obtain ⟨g, hg⟩ : ∃ g, w.heap.size = g := ⟨_, rfl⟩
  rw [hg]
  obtain ⟨wa, hwa⟩ : ∃ v, w.alloc (.cells (kyA x kk kl kd) 42) = v := ⟨_, rfl⟩
  have hsa : wa.heap.size = g + 1 := by rw [← hwa, ← hg]; simp
  have HBA : Hid (Below g w wa) := by rw [← hwa, ← hg]; exact (Below.refl _ _).alloc (Nat.le_refl _) _
  have HX : Hid (wa.heap[g]? = some (.cells (kyA x kk kl kd) 42 (0, 0))) := by rw [← hwa, ← hg]; exact heap_alloc_new w _
  have HSA := Lib.hid hsa
  go_enter Try.func11, Try.ntmps11
  go_wp2_with fail
  refine (awake8_any _).mono ?_
  rintro e w1 ⟨rfl, hB1⟩
  have K1 : Hid (Below (g + 1) wa w1) := by have h := hB1; rw [HSA.out] at h; exact h
  have V1 : Hid (Below g w w1) := HBA.out.trans (K1.out.mono (by omega))
  have hx1 := (K1.out.block g (by omega)).trans HX.out
  have k0 := cell_of_row _ _ 0 _ _ _ hx1
  have k1 := cell_of_row _ _ 1 _ _ _ hx1
  have k2 := cell_of_row _ _ 2 _ _ _ hx1
  have k3 := cell_of_row _ _ 3 _ _ _ hx1
  obtain ⟨bn, hbn⟩ : ∃ b, isN x.data.toList = b := ⟨_, rfl⟩
  obtain ⟨t, ht⟩ : ∃ t, mk (foldN x.data.toList) = t := ⟨_, rfl⟩
  have CIS := Lib.hid (fun W hs h => held4 ⟨g, 0, none⟩ ⟨g, 1, none⟩ ⟨g, 2, none⟩ ⟨g, 3, none⟩ (.string x) (.int .u16 kk) (.int .u16 kl) (.bool kd) (fun W (_ : Below (g + 1) wa W) (_ : g + 1 ≤ W.heap.size) => refIs_w x bn W hx hbn) W hs h)
  have CFO := Lib.hid (fun W hs h => held4 ⟨g, 0, none⟩ ⟨g, 1, none⟩ ⟨g, 2, none⟩ ⟨g, 3, none⟩ (.string x) (.int .u16 kk) (.int .u16 kl) (.bool kd) (fun W (_ : Below (g + 1) wa W) (_ : g + 1 ≤ W.heap.size) => refFold_w x t W hx ht) W hs h)
  have HGW : Hid (∀ W : World, W.cell? ⟨g, 0, none⟩ = some (.string x) → g + 1 ≤ W.heap.size) := fun W h => by have h2 : g < W.heap.size := World.block_lt_of_cell? W _ h; omega
  have h0 : Below (g + 1) wa w1.drew := K1.out.drew
  have HT := Lib.hid ht
  clear hB1 hx1 hwa hsa hg ht
  cases bn with
  | false =>
    go_wp2_with fail
    refine wp_region_held_drew (S := (fun w' => w'.cell? ⟨g, 0, none⟩ = some (.string x) ∧ w'.cell? ⟨g, 1, none⟩ = some (.int .u16 kk) ∧ w'.cell? ⟨g, 2, none⟩ = some (.int .u16 kl) ∧ w'.cell? ⟨g, 3, none⟩ = some (.bool kd) ∧ Below (g + 1) wa w')) (by kernel_rfl) ?_ (fun hHeld => ?_)
    · exact ⟨k0, k1, k2, k3, h0⟩
    refine wpAnyH_take (i := 0) (v := ?_) rfl (by kernel_rfl) (by kernel_rfl) (by kernel_rfl) (fun _ _ _ h => h) (Or.inl ⟨by rfl, ?_⟩) (by assumption) ?_
    rotate_left
    · intro w hSw; (try dsimp only at hSw); first | (go_simp; done) | (go_simp; with_reducible rfl)
    try simp only [Act.put, List.getElem_toArray, List.getElem_cons_succ, List.getElem_cons_zero, List.setIfInBounds_toArray, List.set_cons_zero, List.set_cons_succ]
    refine wpAnyH_take (i := 1) (v := ?_) rfl (by kernel_rfl) (by kernel_rfl) (by kernel_rfl) (fun _ _ _ h => h) (Or.inl ⟨by rfl, ?_⟩) (by assumption) ?_
    rotate_left
    · intro w hSw; (try dsimp only at hSw); first | (go_simp; done) | (go_simp; with_reducible rfl)
    try simp only [Act.put, List.getElem_toArray, List.getElem_cons_succ, List.getElem_cons_zero, List.setIfInBounds_toArray, List.set_cons_zero, List.set_cons_succ]
    refine wpAnyH_ready (rs := [2]) (by kernel_rfl) (by simp) ?_
    refine AllReadyH.cons rfl (fun K hK => ?_) AllReadyH.nil
    rw [if_pos (by rfl)]
    (go_simp; go_at_call 39; (with_reducible refine (CIS.out _ (HGW.out _ ?_) ?_).mono ?_); (simp [*]); (simp [*]); rintro e w5 ⟨rfl, c0, c1, c2, c3, hG5⟩)
    refine hK.out _ _ ?_ (fun hHeld => ?_)
    · first | assumption | (try dsimp only); go_keep
    clear hK K
    try simp only [Act.put, List.getElem_toArray, List.getElem_cons_succ, List.getElem_cons_zero, List.setIfInBounds_toArray, List.set_cons_zero, List.set_cons_succ]
    refine wpAnyH_take (i := 3) (v := ?_) rfl (by kernel_rfl) (by kernel_rfl) (by kernel_rfl) (fun _ _ _ h => h) (Or.inl ⟨by rfl, ?_⟩) (by assumption) ?_
    rotate_left
    · intro w hSw; (try dsimp only at hSw); first | (go_simp; done) | (go_simp; with_reducible rfl)
    try simp only [Act.put, List.getElem_toArray, List.getElem_cons_succ, List.getElem_cons_zero, List.setIfInBounds_toArray, List.set_cons_zero, List.set_cons_succ]
    refine wpAnyH_take (i := 4) (v := ?_) rfl (by kernel_rfl) (by kernel_rfl) (by kernel_rfl) (fun _ _ _ h => h) (Or.inl ⟨by rfl, ?_⟩) (by assumption) ?_
    rotate_left
    · intro w hSw; (try dsimp only at hSw); first | (go_simp; done) | (go_simp; with_reducible rfl)
    try simp only [Act.put, List.getElem_toArray, List.getElem_cons_succ, List.getElem_cons_zero, List.setIfInBounds_toArray, List.set_cons_zero, List.set_cons_succ]
    refine wpAnyH_take (i := 5) (v := undef) rfl (by kernel_rfl) (by kernel_rfl) (by kernel_rfl) (fun _ _ _ h => h) (Or.inr ⟨by rfl, rfl⟩) (by assumption) ?_
    try simp only [Act.put, List.getElem_toArray, List.getElem_cons_succ, List.getElem_cons_zero, List.setIfInBounds_toArray, List.set_cons_zero, List.set_cons_succ]
    refine wpAnyH_take (i := 6) (v := undef) rfl (by kernel_rfl) (by kernel_rfl) (by kernel_rfl) (fun _ _ _ h => h) (Or.inr ⟨by rfl, rfl⟩) (by assumption) ?_
    try simp only [Act.put, List.getElem_toArray, List.getElem_cons_succ, List.getElem_cons_zero, List.setIfInBounds_toArray, List.set_cons_zero, List.set_cons_succ]
    refine wpAnyH_take (i := 7) (v := undef) rfl (by kernel_rfl) (by kernel_rfl) (by kernel_rfl) (fun _ _ _ h => h) (Or.inr ⟨by rfl, rfl⟩) (by assumption) ?_
    try simp only [Act.put, List.getElem_toArray, List.getElem_cons_succ, List.getElem_cons_zero, List.setIfInBounds_toArray, List.set_cons_zero, List.set_cons_succ]
    refine wpAnyH_take (i := 8) (v := undef) rfl (by kernel_rfl) (by kernel_rfl) (by kernel_rfl) (fun _ _ _ h => h) (Or.inr ⟨by rfl, rfl⟩) (by assumption) ?_
    try simp only [Act.put, List.getElem_toArray, List.getElem_cons_succ, List.getElem_cons_zero, List.setIfInBounds_toArray, List.set_cons_zero, List.set_cons_succ]
    refine wpAnyH_take (i := 9) (v := undef) rfl (by kernel_rfl) (by kernel_rfl) (by kernel_rfl) (fun _ _ _ h => h) (Or.inr ⟨by rfl, rfl⟩) (by assumption) ?_
    try simp only [Act.put, List.getElem_toArray, List.getElem_cons_succ, List.getElem_cons_zero, List.setIfInBounds_toArray, List.set_cons_zero, List.set_cons_succ]
    refine wpAnyH_take (i := 10) (v := undef) rfl (by kernel_rfl) (by kernel_rfl) (by kernel_rfl) (fun _ _ _ h => h) (Or.inr ⟨by rfl, rfl⟩) (by assumption) ?_
    try simp only [Act.put, List.getElem_toArray, List.getElem_cons_succ, List.getElem_cons_zero, List.setIfInBounds_toArray, List.set_cons_zero, List.set_cons_succ]
    refine wpAnyH_take (i := 11) (v := ?_) rfl (by kernel_rfl) (by kernel_rfl) (by kernel_rfl) (fun _ _ _ h => h) (Or.inl ⟨by rfl, ?_⟩) (by assumption) ?_
    rotate_left
    · intro w hSw; (try dsimp only at hSw); first | (go_simp; done) | (go_simp; with_reducible rfl)
    try simp only [Act.put, List.getElem_toArray, List.getElem_cons_succ, List.getElem_cons_zero, List.setIfInBounds_toArray, List.set_cons_zero, List.set_cons_succ]
    refine wpAnyH_take (i := 12) (v := ?_) rfl (by kernel_rfl) (by kernel_rfl) (by kernel_rfl) (fun _ _ _ h => h) (Or.inl ⟨by rfl, ?_⟩) (by assumption) ?_
    rotate_left
    · intro w hSw; (try dsimp only at hSw); first | (go_simp; done) | (go_simp; with_reducible rfl)
    try simp only [Act.put, List.getElem_toArray, List.getElem_cons_succ, List.getElem_cons_zero, List.setIfInBounds_toArray, List.set_cons_zero, List.set_cons_succ]
    refine wpAnyH_take (i := 13) (v := undef) rfl (by kernel_rfl) (by kernel_rfl) (by kernel_rfl) (fun _ _ _ h => h) (Or.inr ⟨by rfl, rfl⟩) (by assumption) ?_
    try simp only [Act.put, List.getElem_toArray, List.getElem_cons_succ, List.getElem_cons_zero, List.setIfInBounds_toArray, List.set_cons_zero, List.set_cons_succ]
    refine wpAnyH_take (i := 14) (v := undef) rfl (by kernel_rfl) (by kernel_rfl) (by kernel_rfl) (fun _ _ _ h => h) (Or.inr ⟨by rfl, rfl⟩) (by assumption) ?_
    try simp only [Act.put, List.getElem_toArray, List.getElem_cons_succ, List.getElem_cons_zero, List.setIfInBounds_toArray, List.set_cons_zero, List.set_cons_succ]
    refine wpAnyH_take (i := 15) (v := undef) rfl (by kernel_rfl) (by kernel_rfl) (by kernel_rfl) (fun _ _ _ h => h) (Or.inr ⟨by rfl, rfl⟩) (by assumption) ?_
    try simp only [Act.put, List.getElem_toArray, List.getElem_cons_succ, List.getElem_cons_zero, List.setIfInBounds_toArray, List.set_cons_zero, List.set_cons_succ]
    refine wpAnyH_take (i := 16) (v := ?_) rfl (by kernel_rfl) (by kernel_rfl) (by kernel_rfl) (fun _ _ _ h => h) (Or.inl ⟨by rfl, ?_⟩) (by assumption) ?_
    rotate_left
    · intro w hSw; (try dsimp only at hSw); first | (go_simp; done) | (go_simp; with_reducible rfl)
    try simp only [Act.put, List.getElem_toArray, List.getElem_cons_succ, List.getElem_cons_zero, List.setIfInBounds_toArray, List.set_cons_zero, List.set_cons_succ]
    refine wpAnyH_done (by kernel_rfl) ?_ _
    all_goals
      go_wp2_with fail
      go_ret
      exact ⟨rfl, HBA.out.trans ((show Below (g + 1) wa _ by assumption).mono (by omega))⟩
  | true =>
  have HBN := Lib.hid hbn
  clear hbn
  by_cases htx : t = x
  case neg =>
    have f1 : (t.toList == x.toList) = false := ne_toList htx
    clear htx
    go_wp2_with fail
    refine wp_region_held_drew (S := (fun w' => w'.cell? ⟨g, 0, none⟩ = some (.string x) ∧ w'.cell? ⟨g, 1, none⟩ = some (.int .u16 kk) ∧ w'.cell? ⟨g, 2, none⟩ = some (.int .u16 kl) ∧ w'.cell? ⟨g, 3, none⟩ = some (.bool kd) ∧ Below (g + 1) wa w')) (by kernel_rfl) ?_ (fun hHeld => ?_)
    · exact ⟨k0, k1, k2, k3, h0⟩
    refine wpAnyH_take (i := 0) (v := ?_) rfl (by kernel_rfl) (by kernel_rfl) (by kernel_rfl) (fun _ _ _ h => h) (Or.inl ⟨by rfl, ?_⟩) (by assumption) ?_
    rotate_left
    · intro w hSw; (try dsimp only at hSw); first | (go_simp; done) | (go_simp; with_reducible rfl)
    try simp only [Act.put, List.getElem_toArray, List.getElem_cons_succ, List.getElem_cons_zero, List.setIfInBounds_toArray, List.set_cons_zero, List.set_cons_succ]
    refine wpAnyH_take (i := 1) (v := ?_) rfl (by kernel_rfl) (by kernel_rfl) (by kernel_rfl) (fun _ _ _ h => h) (Or.inl ⟨by rfl, ?_⟩) (by assumption) ?_
    rotate_left
    · intro w hSw; (try dsimp only at hSw); first | (go_simp; done) | (go_simp; with_reducible rfl)
    try simp only [Act.put, List.getElem_toArray, List.getElem_cons_succ, List.getElem_cons_zero, List.setIfInBounds_toArray, List.set_cons_zero, List.set_cons_succ]
    refine wpAnyH_ready (rs := [2]) (by kernel_rfl) (by simp) ?_
    refine AllReadyH.cons rfl (fun K hK => ?_) AllReadyH.nil
    rw [if_pos (by rfl)]
    (go_simp; go_at_call 39; (with_reducible refine (CIS.out _ (HGW.out _ ?_) ?_).mono ?_); (simp [*]); (simp [*]); rintro e w5 ⟨rfl, c0, c1, c2, c3, hG5⟩)
    refine hK.out _ _ ?_ (fun hHeld => ?_)
    · first | assumption | (try dsimp only); go_keep
    clear hK K
    try simp only [Act.put, List.getElem_toArray, List.getElem_cons_succ, List.getElem_cons_zero, List.setIfInBounds_toArray, List.set_cons_zero, List.set_cons_succ]
    refine wpAnyH_take (i := 3) (v := ?_) rfl (by kernel_rfl) (by kernel_rfl) (by kernel_rfl) (fun _ _ _ h => h) (Or.inl ⟨by rfl, ?_⟩) (by assumption) ?_
    rotate_left
    · intro w hSw; (try dsimp only at hSw); first | (go_simp; done) | (go_simp; with_reducible rfl)
    try simp only [Act.put, List.getElem_toArray, List.getElem_cons_succ, List.getElem_cons_zero, List.setIfInBounds_toArray, List.set_cons_zero, List.set_cons_succ]
    refine wpAnyH_take (i := 4) (v := ?_) rfl (by kernel_rfl) (by kernel_rfl) (by kernel_rfl) (fun _ _ _ h => h) (Or.inl ⟨by rfl, ?_⟩) (by assumption) ?_
    rotate_left
    · intro w hSw; (try dsimp only at hSw); first | (go_simp; done) | (go_simp; with_reducible rfl)
    try simp only [Act.put, List.getElem_toArray, List.getElem_cons_succ, List.getElem_cons_zero, List.setIfInBounds_toArray, List.set_cons_zero, List.set_cons_succ]
    refine wpAnyH_take (i := 5) (v := ?_) rfl (by kernel_rfl) (by kernel_rfl) (by kernel_rfl) (fun _ _ _ h => h) (Or.inl ⟨by rfl, ?_⟩) (by assumption) ?_
    rotate_left
    · intro w hSw; (try dsimp only at hSw); first | (go_simp; done) | (go_simp; with_reducible rfl)
    try simp only [Act.put, List.getElem_toArray, List.getElem_cons_succ, List.getElem_cons_zero, List.setIfInBounds_toArray, List.set_cons_zero, List.set_cons_succ]
    refine wpAnyH_take (i := 6) (v := ?_) rfl (by kernel_rfl) (by kernel_rfl) (by kernel_rfl) (fun _ _ _ h => h) (Or.inl ⟨by rfl, ?_⟩) (by assumption) ?_
    rotate_left
    · intro w hSw; (try dsimp only at hSw); first | (go_simp; done) | (go_simp; with_reducible rfl)
    try simp only [Act.put, List.getElem_toArray, List.getElem_cons_succ, List.getElem_cons_zero, List.setIfInBounds_toArray, List.set_cons_zero, List.set_cons_succ]
    refine wpAnyH_take (i := 8) (v := ?_) rfl (by kernel_rfl) (by kernel_rfl) (by kernel_rfl) (fun _ _ _ h => h) (Or.inl ⟨by rfl, ?_⟩) (by assumption) ?_
    rotate_left
    · intro w hSw; (try dsimp only at hSw); first | (go_simp; done) | (go_simp; with_reducible rfl)
    try simp only [Act.put, List.getElem_toArray, List.getElem_cons_succ, List.getElem_cons_zero, List.setIfInBounds_toArray, List.set_cons_zero, List.set_cons_succ]
    refine wpAnyH_take (i := 9) (v := ?_) rfl (by kernel_rfl) (by kernel_rfl) (by kernel_rfl) (fun _ _ _ h => h) (Or.inl ⟨by rfl, ?_⟩) (by assumption) ?_
    rotate_left
    · intro w hSw; (try dsimp only at hSw); first | (go_simp; done) | (go_simp; with_reducible rfl)
    try simp only [Act.put, List.getElem_toArray, List.getElem_cons_succ, List.getElem_cons_zero, List.setIfInBounds_toArray, List.set_cons_zero, List.set_cons_succ]
    refine wpAnyH_ready (rs := [7]) (by kernel_rfl) (by simp) ?_
    refine AllReadyH.cons rfl (fun K hK => ?_) AllReadyH.nil
    rw [if_pos (by rfl)]
    (go_simp; go_at_call 40; (with_reducible refine (CFO.out _ (HGW.out _ ?_) ?_).mono ?_); (simp [*]); (simp [*]); rintro e w6 ⟨rfl, c0, c1, c2, c3, hG6⟩)
    refine hK.out _ _ ?_ (fun hHeld => ?_)
    · first | assumption | (try dsimp only); go_keep
    clear hK K
    try simp only [Act.put, List.getElem_toArray, List.getElem_cons_succ, List.getElem_cons_zero, List.setIfInBounds_toArray, List.set_cons_zero, List.set_cons_succ]
    refine wpAnyH_take (i := 10) (v := ?_) rfl (by kernel_rfl) (by kernel_rfl) (by kernel_rfl) (fun _ _ _ h => h) (Or.inl ⟨by rfl, ?_⟩) (by assumption) ?_
    rotate_left
    · intro w hSw; (try dsimp only at hSw); first | (go_simp; done) | (go_simp; with_reducible rfl)
    try simp only [Act.put, List.getElem_toArray, List.getElem_cons_succ, List.getElem_cons_zero, List.setIfInBounds_toArray, List.set_cons_zero, List.set_cons_succ]
    refine wpAnyH_take (i := 11) (v := ?_) rfl (by kernel_rfl) (by kernel_rfl) (by kernel_rfl) (fun _ _ _ h => h) (Or.inl ⟨by rfl, ?_⟩) (by assumption) ?_
    rotate_left
    · intro w hSw; (try dsimp only at hSw); first | (go_simp; done) | (go_simp; with_reducible rfl)
    try simp only [Act.put, List.getElem_toArray, List.getElem_cons_succ, List.getElem_cons_zero, List.setIfInBounds_toArray, List.set_cons_zero, List.set_cons_succ]
    refine wpAnyH_take (i := 12) (v := ?_) rfl (by kernel_rfl) (by kernel_rfl) (by kernel_rfl) (fun _ _ _ h => h) (Or.inl ⟨by rfl, ?_⟩) (by assumption) ?_
    rotate_left
    · intro w hSw; (try dsimp only at hSw); first | (go_simp; done) | (go_simp; with_reducible rfl)
    try simp only [Act.put, List.getElem_toArray, List.getElem_cons_succ, List.getElem_cons_zero, List.setIfInBounds_toArray, List.set_cons_zero, List.set_cons_succ]
    refine wpAnyH_take (i := 13) (v := undef) rfl (by kernel_rfl) (by kernel_rfl) (by kernel_rfl) (fun _ _ _ h => h) (Or.inr ⟨by rfl, rfl⟩) (by assumption) ?_
    try simp only [Act.put, List.getElem_toArray, List.getElem_cons_succ, List.getElem_cons_zero, List.setIfInBounds_toArray, List.set_cons_zero, List.set_cons_succ]
    refine wpAnyH_take (i := 14) (v := undef) rfl (by kernel_rfl) (by kernel_rfl) (by kernel_rfl) (fun _ _ _ h => h) (Or.inr ⟨by rfl, rfl⟩) (by assumption) ?_
    try simp only [Act.put, List.getElem_toArray, List.getElem_cons_succ, List.getElem_cons_zero, List.setIfInBounds_toArray, List.set_cons_zero, List.set_cons_succ]
    refine wpAnyH_take (i := 15) (v := undef) rfl (by kernel_rfl) (by kernel_rfl) (by kernel_rfl) (fun _ _ _ h => h) (Or.inr ⟨by rfl, rfl⟩) (by assumption) ?_
    try simp only [Act.put, List.getElem_toArray, List.getElem_cons_succ, List.getElem_cons_zero, List.setIfInBounds_toArray, List.set_cons_zero, List.set_cons_succ]
    refine wpAnyH_take (i := 16) (v := ?_) rfl (by kernel_rfl) (by kernel_rfl) (by kernel_rfl) (fun _ _ _ h => h) (Or.inl ⟨by rfl, ?_⟩) (by assumption) ?_
    rotate_left
    · intro w hSw; (try dsimp only at hSw); first | (go_simp; done) | (go_simp; with_reducible rfl)
    try simp only [Act.put, List.getElem_toArray, List.getElem_cons_succ, List.getElem_cons_zero, List.setIfInBounds_toArray, List.set_cons_zero, List.set_cons_succ]
    refine wpAnyH_done (by kernel_rfl) ?_ _
    all_goals
      go_wp2_with fail
      go_ret
      exact ⟨rfl, HBA.out.trans ((show Below (g + 1) wa _ by assumption).mono (by omega))⟩
  have f1 : (t.toList == x.toList) = true := by rw [htx]; exact beq_self_eq_true _
  by_cases h41 : kk = 41
  · have f2 : ((kk : Int) == 41) = true := beq_iff_eq.2 (by omega)
    clear h41
    go_wp2_with fail
    go_region_held3 (fun w' => w'.cell? ⟨g, 0, none⟩ = some (.string x) ∧ w'.cell? ⟨g, 1, none⟩ = some (.int .u16 kk) ∧ w'.cell? ⟨g, 2, none⟩ = some (.int .u16 kl) ∧ w'.cell? ⟨g, 3, none⟩ = some (.bool kd) ∧ Below (g + 1) wa w') (go_keep) (first | (go_at_call 39; (with_reducible refine (CIS.out _ (HGW.out _ ?_) ?_).mono ?_); (simp [*]); (simp [*]); rintro e w5 ⟨rfl, c0, c1, c2, c3, hG5⟩) | (go_at_call 40; (with_reducible refine (CFO.out _ (HGW.out _ ?_) ?_).mono ?_); (simp [*]); (simp [*]); rintro e w6 ⟨rfl, c0, c1, c2, c3, hG6⟩))
    all_goals
      go_wp2_with fail
      go_ret
      exact ⟨rfl, HBA.out.trans ((show Below (g + 1) wa _ by assumption).mono (by omega))⟩
  have f2 : ((kk : Int) == 41) = false := beq_eq_false_iff_ne.2 (by omega)
  have HXS : Hid (x.size ≤ 255) := by
    obtain ⟨L, hL⟩ := isN_some HBN.out
    have h2 := (labels_some hL).2.2
    have h3 : x.data.toList.length = x.size := by rw [Array.length_toList]; rfl
    show _ ≤ _
    omega
  have HXL : Hid (x.data.toList.length ≤ maxLen) := by rw [Array.length_toList]; exact hx
  have HFO : Hid (foldN x.data.toList = x.data.toList) := by
    have h : mk (foldN x.data.toList) = x := HT.out.trans htx
    have h2 := congrArg (fun b : ByteArray => b.data.toList) h
    exact h2
  have HTX := Lib.hid htx
  clear h41 htx
  go_upto_region 3 with fail
  go_region_held3 (fun w' => w'.cell? ⟨g, 0, none⟩ = some (.string x) ∧ w'.cell? ⟨g, 1, none⟩ = some (.int .u16 kk) ∧ w'.cell? ⟨g, 2, none⟩ = some (.int .u16 kl) ∧ w'.cell? ⟨g, 3, none⟩ = some (.bool kd) ∧ Below (g + 1) wa w') (go_keep) (first | (go_at_call 39; (with_reducible refine (CIS.out _ (HGW.out _ ?_) ?_).mono ?_); (simp [*]); (simp [*]); rintro e w5 ⟨rfl, c0, c1, c2, c3, hG5⟩) | (go_at_call 40; (with_reducible refine (CFO.out _ (HGW.out _ ?_) ?_).mono ?_); (simp [*]); (simp [*]); rintro e w6 ⟨rfl, c0, c1, c2, c3, hG6⟩))
  clear CIS CFO HGW HTX
  have HK6 : Hid (Below (g + 1) wa w6) := hG6
  have s6 : g + 1 ≤ w6.heap.size := by have h := hG6.size; rw [HSA.out] at h; exact h
  have HMK := Lib.hid (make_is id x kk kl kd w6 (by have := HXS.out; omega))
  go_wp2_with fail
  refine HMK.out.mono ?_
  rintro e w7 ⟨Aq, Ax, nx, cx, Zx, he, hmv, hnx, n1⟩
  have he' : e = .returned (.agg #[.int .u16 id, .int .u16 256, .slice Aq 1 1, .slice none 0 0, .slice none 0 0, .slice Ax nx cx]) := he
  subst he'
  clear c0 c1 c2 c3
  have K7 : Hid (Below (g + 1) wa w7) := HK6.out.trans (n1.mono s6)
  have s7 : g + 1 ≤ w7.heap.size := by have h := K7.out.size; rw [HSA.out] at h; exact h
  have HFA := Lib.hid (fail_w id (makeM id ⟨x.data.toList, kk, kl, kd⟩) Aq none none Ax 1 0 0 nx 1 0 0 cx w7.heap.size [] [] Zx w7 hmv (Nat.le_refl _) (qm_make hid HXL.out hkk hkl).few (fun q hq => by obtain rfl := List.mem_singleton.1 hq; show x.data.toList.length ≤ cloneMost; have h3 : x.data.toList.length = x.size := by { rw [Array.length_toList]; rfl }; have := HXS.out; have h4 : cloneMost = 281474976710656 := rfl; omega))
  clear hmv hnx n1
  go_wp2_with fail
  refine HFA.out.mono ?_
  rintro e w8 ⟨A, c, he, hO, n2⟩
  have he' : e = .returned (.agg #[.int .u16 id, .int .u16 33154, .slice A 1 c, .slice none 0 0, .slice none 0 0, .slice none 0 0]) := by
    have h : e = .returned (.agg (msgA id (failF 256) A 1 c none 0 0 none 0 0 none 0 0)) := he
    rw [fail_256] at h
    exact h
  subst he'
  have K8 : Hid (Below (g + 1) wa w8) := K7.out.trans (n2.mono s7)
  have s8 : g + 1 ≤ w8.heap.size := by have h := K8.out.size; rw [HSA.out] at h; exact h
  have hfv : MsgV w8 w8.heap.size (fl id ⟨x.data.toList, kk, kl, kd⟩) A none none none 1 0 0 0 0 0 0 [] [] [] := fail_v hO
  obtain ⟨b1, hb1⟩ : ∃ b, w8.heap.size = b := ⟨_, rfl⟩
  obtain ⟨w9, hw9⟩ : ∃ v, w8.alloc (.cells #[.int .u16 id, .int .u16 33154, .slice A 1 c, .slice none 0 0, .slice none 0 0, .slice none 0 0] 26) = v := ⟨_, rfl⟩
  have n3 : Below b1 w8 w9 := by rw [← hw9, ← hb1]; exact (Below.refl _ _).alloc (Nat.le_refl _) _
  have HM9 : Hid (w9.heap[b1]? = some (.cells #[.int .u16 id, .int .u16 33154, .slice A 1 c, .slice none 0 0, .slice none 0 0, .slice none 0 0] 26 (0, 0))) := by rw [← hw9, ← hb1]; exact heap_alloc_new w8 _
  have S9 : Hid (w9.heap.size = b1 + 1) := by show _ = _; rw [← hw9, ← hb1]; simp
  rw [hb1] at hfv s8
  have K9 : Hid (Below (g + 1) wa w9) := K8.out.trans (n3.mono s8)
  have HMV : Hid (MsgV w9 b1 (fl id ⟨x.data.toList, kk, kl, kd⟩) A none none none 1 0 0 0 0 0 0 [] [] []) := hfv.on n3 (Nat.le_refl _)
  have HGBB : Hid (g + 1 ≤ b1) := s8
  have HW9 := Lib.hid hw9
  clear hfv n2 n3 hw9 hG6 HMK HFA s6 s7 s8 hO he
  go_upto_region 6 with fail
  rw [HW9.out]
  clear hb1
  have m0 := cell_of_row _ _ 0 _ _ _ HM9.out
  have m1 := cell_of_row _ _ 1 _ _ _ HM9.out
  have m2 := cell_of_row _ _ 2 _ _ _ HM9.out
  have m3 := cell_of_row _ _ 3 _ _ _ HM9.out
  have m4 := cell_of_row _ _ 4 _ _ _ HM9.out
  have m5 := cell_of_row _ _ 5 _ _ _ HM9.out
  have HQF : Hid (QM (fl id ⟨x.data.toList, kk, kl, kd⟩)) := few_fail hid HXL.out hkk hkl
  have HAK := Lib.hid (ask_w (fl id ⟨x.data.toList, kk, kl, kd⟩) A none none none 1 0 0 0 c 0 0 0 b1 [] [] [] none w9 HMV.out (by have := S9.out; omega) HQF.out ask_fail)
  go_wp2_with fail
  refine HAK.out.mono ?_
  rintro e w10 ⟨hret, n4⟩
  have hret' : e = .returned (.tuple #[.agg #[.string ⟨#[]⟩, .int .u16 0, .int .u16 0, .bool false], .int .i64 107]) := hret
  subst hret'
  rw [S9.out] at n4
  have s10 : b1 + 1 ≤ w10.heap.size := by have h := n4.size; rw [S9.out] at h; exact h
  obtain ⟨b2, hb2⟩ : ∃ b, w10.heap.size = b := ⟨_, rfl⟩
  obtain ⟨w11, hw11⟩ : ∃ v, w10.alloc (.cells #[.string ⟨#[]⟩, .int .u16 0, .int .u16 0, .bool false] 42) = v := ⟨_, rfl⟩
  have n5 : Below b2 w10 w11 := by rw [← hw11, ← hb2]; exact (Below.refl _ _).alloc (Nat.le_refl _) _
  have N11 : Hid (Below (b1 + 1) w9 w11) := n4.trans (n5.mono (by omega))
  have hM11 := (N11.out.block b1 (by have := S9.out; omega)).trans HM9.out
  have K11 : Hid (Below (g + 1) wa w11) := K9.out.trans (N11.out.mono (by have := HGBB.out; omega))
  have hX11 := (K11.out.block g (by have := HSA.out; omega)).trans HX.out
  have HW11 := Lib.hid hw11
  clear n4 n5 hw11 hret m0 m1 m2 m3 m4 m5 HAK s10
  go_upto_region 7 with fail
  rw [HW11.out]
  clear hb2
  have k0 := cell_of_row _ _ 0 _ _ _ hX11
  have k1 := cell_of_row _ _ 1 _ _ _ hX11
  have k2 := cell_of_row _ _ 2 _ _ _ hX11
  have k3 := cell_of_row _ _ 3 _ _ _ hX11
  have m0 := cell_of_row _ _ 0 _ _ _ hM11
  have m1 := cell_of_row _ _ 1 _ _ _ hM11
  have m2 := cell_of_row _ _ 2 _ _ _ hM11
  have m3 := cell_of_row _ _ 3 _ _ _ hM11
  have m4 := cell_of_row _ _ 4 _ _ _ hM11
  have m5 := cell_of_row _ _ 5 _ _ _ hM11
  have HVM := fun W (h : Below (b1 + 1) w9 W) => HMV.out.on (h.mono (Nat.le_succ b1)) (Nat.le_refl b1)
  have M1 : ∀ W, Below (b1 + 1) w9 W → b1 + 1 ≤ W.heap.size → Calls Try.prog 27 #[.agg #[.string x, .int .u16 kk, .int .u16 kl, .bool kd], .int .u16 id, .agg #[.int .u16 id, .int .u16 33154, .slice A 1 c, .slice none 0 0, .slice none 0 0, .slice none 0 0]] W fun e w' => e = .returned (.bool true) ∧ Below W.heap.size W w' := fun W hb hs => fits_w x kk kl kd id (fl id ⟨x.data.toList, kk, kl, kd⟩) A none none none 1 0 0 0 c 0 0 0 b1 [] [] [] true W (HVM W hb) (by omega) HQF.out.few (fits_fail HFO.out)
  have M2 : ∀ W, Below (b1 + 1) w9 W → b1 + 1 ≤ W.heap.size → Calls Try.prog 29 #[.agg #[.int .u16 id, .int .u16 33154, .slice A 1 c, .slice none 0 0, .slice none 0 0, .slice none 0 0]] W fun e w' => e = .returned (.bool false) ∧ Below W.heap.size W w' := fun W hb hs => negative_w (fl id ⟨x.data.toList, kk, kl, kd⟩) A none none none 1 0 0 0 c 0 0 0 b1 [] [] [] false W (HVM W hb) (by omega) HQF.out.few neg_fail
  have M3 : ∀ W, Below (b1 + 1) w9 W → b1 + 1 ≤ W.heap.size → Calls Try.prog 31 #[.agg #[.int .u16 id, .int .u16 33154, .slice A 1 c, .slice none 0 0, .slice none 0 0, .slice none 0 0]] W fun e w' => e = .returned (.int .u32 0) ∧ Below W.heap.size W w' := fun W hb hs => least_w (fl id ⟨x.data.toList, kk, kl, kd⟩) A none none none 1 0 0 0 c 0 0 0 b1 [] [] [] 0 W (HVM W hb) (by omega) HQF.out least_fail
  have C1 := Lib.hid (fun W hs h => held10 ⟨g, 0, none⟩ ⟨g, 1, none⟩ ⟨g, 2, none⟩ ⟨g, 3, none⟩ ⟨b1, 0, none⟩ ⟨b1, 1, none⟩ ⟨b1, 2, none⟩ ⟨b1, 3, none⟩ ⟨b1, 4, none⟩ ⟨b1, 5, none⟩ (.string x) (.int .u16 kk) (.int .u16 kl) (.bool kd) (.int .u16 id) (.int .u16 33154) (.slice A 1 c) (.slice none 0 0) (.slice none 0 0) (.slice none 0 0) M1 W hs h)
  have C2 := Lib.hid (fun W hs h => held10 ⟨g, 0, none⟩ ⟨g, 1, none⟩ ⟨g, 2, none⟩ ⟨g, 3, none⟩ ⟨b1, 0, none⟩ ⟨b1, 1, none⟩ ⟨b1, 2, none⟩ ⟨b1, 3, none⟩ ⟨b1, 4, none⟩ ⟨b1, 5, none⟩ (.string x) (.int .u16 kk) (.int .u16 kl) (.bool kd) (.int .u16 id) (.int .u16 33154) (.slice A 1 c) (.slice none 0 0) (.slice none 0 0) (.slice none 0 0) M2 W hs h)
  have C3 := Lib.hid (fun W hs h => held10 ⟨g, 0, none⟩ ⟨g, 1, none⟩ ⟨g, 2, none⟩ ⟨g, 3, none⟩ ⟨b1, 0, none⟩ ⟨b1, 1, none⟩ ⟨b1, 2, none⟩ ⟨b1, 3, none⟩ ⟨b1, 4, none⟩ ⟨b1, 5, none⟩ (.string x) (.int .u16 kk) (.int .u16 kl) (.bool kd) (.int .u16 id) (.int .u16 33154) (.slice A 1 c) (.slice none 0 0) (.slice none 0 0) (.slice none 0 0) M3 W hs h)
  have HXC : Hid (x.data.toList.length ≤ cloneMost) := by
    have h3 : x.data.toList.length = x.size := by rw [Array.length_toList]; rfl
    have := HXS.out
    have h4 : cloneMost = 281474976710656 := rfl
    show _ ≤ _
    omega
  have HXC2 : Hid (∀ q ∈ (fl id ⟨x.data.toList, kk, kl, kd⟩).qs, q.name.length ≤ cloneMost) := fun q hq => by obtain rfl := List.mem_singleton.1 hq; exact HXC.out
  have C5 : Hid (∀ W, b1 + 1 ≤ W.heap.size → (W.cell? ⟨g, 0, none⟩ = some (.string x) ∧ W.cell? ⟨g, 1, none⟩ = some (.int .u16 kk) ∧ W.cell? ⟨g, 2, none⟩ = some (.int .u16 kl) ∧ W.cell? ⟨g, 3, none⟩ = some (.bool kd) ∧ W.cell? ⟨b1, 0, none⟩ = some (.int .u16 id) ∧ W.cell? ⟨b1, 1, none⟩ = some (.int .u16 33154) ∧ W.cell? ⟨b1, 2, none⟩ = some (.slice A 1 c) ∧ W.cell? ⟨b1, 3, none⟩ = some (.slice none 0 0) ∧ W.cell? ⟨b1, 4, none⟩ = some (.slice none 0 0) ∧ W.cell? ⟨b1, 5, none⟩ = some (.slice none 0 0) ∧ Below (b1 + 1) w9 W) → Calls Try.prog 33 #[.agg #[.int .u16 id, .int .u16 33154, .slice A 1 c, .slice none 0 0, .slice none 0 0, .slice none 0 0], .int .u64 9] W fun e w' => ∃ Bq Ba Bn Bx dq da dn dx Ya Yn Yx, e = .returned (.agg #[.int .u16 id, .int .u16 33154, .slice Bq 1 dq, .slice Ba 0 da, .slice Bn 0 dn, .slice Bx 0 dx]) ∧ Hid (MsgV w' w'.heap.size (fl id ⟨x.data.toList, kk, kl, kd⟩) Bq Ba Bn Bx 1 0 0 0 da dn dx Ya Yn Yx) ∧ w'.cell? ⟨g, 0, none⟩ = some (.string x) ∧ w'.cell? ⟨g, 1, none⟩ = some (.int .u16 kk) ∧ w'.cell? ⟨g, 2, none⟩ = some (.int .u16 kl) ∧ w'.cell? ⟨g, 3, none⟩ = some (.bool kd) ∧ w'.cell? ⟨b1, 0, none⟩ = some (.int .u16 id) ∧ w'.cell? ⟨b1, 1, none⟩ = some (.int .u16 33154) ∧ w'.cell? ⟨b1, 2, none⟩ = some (.slice A 1 c) ∧ w'.cell? ⟨b1, 3, none⟩ = some (.slice none 0 0) ∧ w'.cell? ⟨b1, 4, none⟩ = some (.slice none 0 0) ∧ w'.cell? ⟨b1, 5, none⟩ = some (.slice none 0 0) ∧ Below (b1 + 1) w9 w') := by
    intro W hW hc
    obtain ⟨h0, h1, h2, h3, h4, h5, h6, h7, h8, h9, hH⟩ := hc
    refine (age_held 9 (fl id ⟨x.data.toList, kk, kl, kd⟩) A none none none 1 0 0 0 c 0 0 0 b1 (b1 + 1) [] [] [] [(⟨g, 0, none⟩, (.string x)), (⟨g, 1, none⟩, (.int .u16 kk)), (⟨g, 2, none⟩, (.int .u16 kl)), (⟨g, 3, none⟩, (.bool kd)), (⟨b1, 0, none⟩, (.int .u16 id)), (⟨b1, 1, none⟩, (.int .u16 33154)), (⟨b1, 2, none⟩, (.slice A 1 c)), (⟨b1, 3, none⟩, (.slice none 0 0)), (⟨b1, 4, none⟩, (.slice none 0 0)), (⟨b1, 5, none⟩, (.slice none 0 0))] w9 W (HMV.out.on (hH.mono (Nat.le_succ b1)) (Nat.le_refl b1)) (by omega) ⟨znil_nil, znil_nil, znil_nil⟩ HQF.out (by decide) HXC2.out hW (fun p hp => by simp only [List.mem_cons, List.not_mem_nil, or_false] at hp; rcases hp with rfl | rfl | rfl | rfl | rfl | rfl | rfl | rfl | rfl | rfl <;> assumption) hH).mono ?_
    rintro e w' ⟨Bq, Ba, Bn, Bx, dq, da, dn, dx, Ya, Yn, Yx, rfl, hV, _, hcs, hbl⟩
    exact ⟨Bq, Ba, Bn, Bx, dq, da, dn, dx, Ya, Yn, Yx, rfl, hV, hcs (⟨g, 0, none⟩, (.string x)) (by simp), hcs (⟨g, 1, none⟩, (.int .u16 kk)) (by simp), hcs (⟨g, 2, none⟩, (.int .u16 kl)) (by simp), hcs (⟨g, 3, none⟩, (.bool kd)) (by simp), hcs (⟨b1, 0, none⟩, (.int .u16 id)) (by simp), hcs (⟨b1, 1, none⟩, (.int .u16 33154)) (by simp), hcs (⟨b1, 2, none⟩, (.slice A 1 c)) (by simp), hcs (⟨b1, 3, none⟩, (.slice none 0 0)) (by simp), hcs (⟨b1, 4, none⟩, (.slice none 0 0)) (by simp), hcs (⟨b1, 5, none⟩, (.slice none 0 0)) (by simp), hbl⟩
  have C6 : Hid (∀ (Bq Ba Bn Bx : Option Addr) (dq da dn dx : Nat) (Ya Yn Yx : List RecZ) (W : World), b1 + 1 ≤ W.heap.size → (W.cell? ⟨g, 0, none⟩ = some (.string x) ∧ W.cell? ⟨g, 1, none⟩ = some (.int .u16 kk) ∧ W.cell? ⟨g, 2, none⟩ = some (.int .u16 kl) ∧ W.cell? ⟨g, 3, none⟩ = some (.bool kd) ∧ W.cell? ⟨b1, 0, none⟩ = some (.int .u16 id) ∧ W.cell? ⟨b1, 1, none⟩ = some (.int .u16 33154) ∧ W.cell? ⟨b1, 2, none⟩ = some (.slice A 1 c) ∧ W.cell? ⟨b1, 3, none⟩ = some (.slice none 0 0) ∧ W.cell? ⟨b1, 4, none⟩ = some (.slice none 0 0) ∧ W.cell? ⟨b1, 5, none⟩ = some (.slice none 0 0) ∧ Below (b1 + 1) w9 W) → Hid (MsgV W W.heap.size (fl id ⟨x.data.toList, kk, kl, kd⟩) Bq Ba Bn Bx 1 0 0 0 da dn dx Ya Yn Yx) → Calls Try.prog 19 #[.agg #[.int .u16 id, .int .u16 33154, .slice Bq 1 dq, .slice Ba 0 da, .slice Bn 0 dn, .slice Bx 0 dx], .agg #[.int .u16 id, .int .u16 33154, .slice A 1 c, .slice none 0 0, .slice none 0 0, .slice none 0 0]] W fun e w' => e = .returned (.bool true) ∧ w'.cell? ⟨g, 0, none⟩ = some (.string x) ∧ w'.cell? ⟨g, 1, none⟩ = some (.int .u16 kk) ∧ w'.cell? ⟨g, 2, none⟩ = some (.int .u16 kl) ∧ w'.cell? ⟨g, 3, none⟩ = some (.bool kd) ∧ w'.cell? ⟨b1, 0, none⟩ = some (.int .u16 id) ∧ w'.cell? ⟨b1, 1, none⟩ = some (.int .u16 33154) ∧ w'.cell? ⟨b1, 2, none⟩ = some (.slice A 1 c) ∧ w'.cell? ⟨b1, 3, none⟩ = some (.slice none 0 0) ∧ w'.cell? ⟨b1, 4, none⟩ = some (.slice none 0 0) ∧ w'.cell? ⟨b1, 5, none⟩ = some (.slice none 0 0) ∧ Below (b1 + 1) w9 w') := Lib.hid (fun Bq Ba Bn Bx dq da dn dx Ya Yn Yx W hs h hV => by
    obtain ⟨h0, h1, h2, h3, h4, h5, h6, h7, h8, h9, hH⟩ := (show W.cell? ⟨g, 0, none⟩ = some (.string x) ∧ W.cell? ⟨g, 1, none⟩ = some (.int .u16 kk) ∧ W.cell? ⟨g, 2, none⟩ = some (.int .u16 kl) ∧ W.cell? ⟨g, 3, none⟩ = some (.bool kd) ∧ W.cell? ⟨b1, 0, none⟩ = some (.int .u16 id) ∧ W.cell? ⟨b1, 1, none⟩ = some (.int .u16 33154) ∧ W.cell? ⟨b1, 2, none⟩ = some (.slice A 1 c) ∧ W.cell? ⟨b1, 3, none⟩ = some (.slice none 0 0) ∧ W.cell? ⟨b1, 4, none⟩ = some (.slice none 0 0) ∧ W.cell? ⟨b1, 5, none⟩ = some (.slice none 0 0) ∧ Below (b1 + 1) w9 W from h)
    refine (same_held (fl id ⟨x.data.toList, kk, kl, kd⟩) (fl id ⟨x.data.toList, kk, kl, kd⟩) Bq Ba Bn Bx A none none none dq da dn dx c 0 0 0 1 0 0 0 1 0 0 0 (b1 + 1) Ya [] Yn [] Yx [] true [(⟨g, 0, none⟩, (.string x)), (⟨g, 1, none⟩, (.int .u16 kk)), (⟨g, 2, none⟩, (.int .u16 kl)), (⟨g, 3, none⟩, (.bool kd)), (⟨b1, 0, none⟩, (.int .u16 id)), (⟨b1, 1, none⟩, (.int .u16 33154)), (⟨b1, 2, none⟩, (.slice A 1 c)), (⟨b1, 3, none⟩, (.slice none 0 0)), (⟨b1, 4, none⟩, (.slice none 0 0)), (⟨b1, 5, none⟩, (.slice none 0 0))] w9 W hV (HMV.out.on (hH.mono (Nat.le_succ b1)) (by have hs' : b1 + 1 ≤ W.heap.size := hs; omega)) small_fail small_fail ⟨fun _ => rfl, fun _ => rfl⟩ hs (fun p hp => by simp only [List.mem_cons, List.not_mem_nil, or_false] at hp; rcases hp with rfl | rfl | rfl | rfl | rfl | rfl | rfl | rfl | rfl | rfl <;> assumption) hH).mono ?_
    rintro e w' ⟨rfl, hcs, hbl⟩
    exact (show _ ∧ w'.cell? ⟨g, 0, none⟩ = some (.string x) ∧ w'.cell? ⟨g, 1, none⟩ = some (.int .u16 kk) ∧ w'.cell? ⟨g, 2, none⟩ = some (.int .u16 kl) ∧ w'.cell? ⟨g, 3, none⟩ = some (.bool kd) ∧ w'.cell? ⟨b1, 0, none⟩ = some (.int .u16 id) ∧ w'.cell? ⟨b1, 1, none⟩ = some (.int .u16 33154) ∧ w'.cell? ⟨b1, 2, none⟩ = some (.slice A 1 c) ∧ w'.cell? ⟨b1, 3, none⟩ = some (.slice none 0 0) ∧ w'.cell? ⟨b1, 4, none⟩ = some (.slice none 0 0) ∧ w'.cell? ⟨b1, 5, none⟩ = some (.slice none 0 0) ∧ Below (b1 + 1) w9 w' from ⟨rfl, hcs (⟨g, 0, none⟩, (.string x)) (by simp), hcs (⟨g, 1, none⟩, (.int .u16 kk)) (by simp), hcs (⟨g, 2, none⟩, (.int .u16 kl)) (by simp), hcs (⟨g, 3, none⟩, (.bool kd)) (by simp), hcs (⟨b1, 0, none⟩, (.int .u16 id)) (by simp), hcs (⟨b1, 1, none⟩, (.int .u16 33154)) (by simp), hcs (⟨b1, 2, none⟩, (.slice A 1 c)) (by simp), hcs (⟨b1, 3, none⟩, (.slice none 0 0)) (by simp), hcs (⟨b1, 4, none⟩, (.slice none 0 0)) (by simp), hcs (⟨b1, 5, none⟩, (.slice none 0 0)) (by simp), hbl⟩))
  have HGB : Hid (∀ W : World, W.cell? ⟨b1, 0, none⟩ = some (.int .u16 id) → b1 + 1 ≤ W.heap.size) := fun W h => by have h2 : b1 < W.heap.size := World.block_lt_of_cell? W _ h; omega
  have h0 : Below (b1 + 1) w9 w11.drew := N11.out.drew
  clear HVM hX11 hM11 M1 M2 M3
  go_wp2_with fail
  go_region_held3 (fun w' => w'.cell? ⟨g, 0, none⟩ = some (.string x) ∧ w'.cell? ⟨g, 1, none⟩ = some (.int .u16 kk) ∧ w'.cell? ⟨g, 2, none⟩ = some (.int .u16 kl) ∧ w'.cell? ⟨g, 3, none⟩ = some (.bool kd) ∧ w'.cell? ⟨b1, 0, none⟩ = some (.int .u16 id) ∧ w'.cell? ⟨b1, 1, none⟩ = some (.int .u16 33154) ∧ w'.cell? ⟨b1, 2, none⟩ = some (.slice A 1 c) ∧ w'.cell? ⟨b1, 3, none⟩ = some (.slice none 0 0) ∧ w'.cell? ⟨b1, 4, none⟩ = some (.slice none 0 0) ∧ w'.cell? ⟨b1, 5, none⟩ = some (.slice none 0 0) ∧ Below (b1 + 1) w9 w') (first | assumption | go_keep) (first | (go_at_call 27; (with_reducible refine (C1.out _ (HGB.out _ ?_) ?_).mono ?_); (simp [*]); (first | assumption | (simp [*])); rintro e w13 ⟨rfl, c0, c1, c2, c3, d0, d1, d2, d3, d4, d5, hG13⟩) | (go_at_call 29; (with_reducible refine (C2.out _ (HGB.out _ ?_) ?_).mono ?_); (simp [*]); (first | assumption | (simp [*])); rintro e w14 ⟨rfl, c0, c1, c2, c3, d0, d1, d2, d3, d4, d5, hG14⟩) | (go_at_call 31; (with_reducible refine (C3.out _ (HGB.out _ ?_) ?_).mono ?_); (simp [*]); (first | assumption | (simp [*])); rintro e w15 ⟨rfl, c0, c1, c2, c3, d0, d1, d2, d3, d4, d5, hG15⟩) | (go_at_call 33; (with_reducible refine (C5.out _ (HGB.out _ ?_) ?_).mono ?_); (simp [*]); (first | assumption | (simp [*])); rintro e w16 ⟨Bq, Ba, Bn, Bx, dq, da, dn, dx, Ya, Yn, Yx, rfl, HAG, c0, c1, c2, c3, d0, d1, d2, d3, d4, d5, hG16⟩) | (go_at_call 19; (with_reducible refine (C6.out Bq Ba Bn Bx dq da dn dx Ya Yn Yx _ (HGB.out _ ?_) ?_ HAG).mono ?_); (simp [*]); (first | assumption | (simp [*])); rintro e w17 ⟨rfl, c0, c1, c2, c3, d0, d1, d2, d3, d4, d5, hG17⟩))
  all_goals
    go_wp2_with fail
    go_ret
    exact ⟨rfl, HBA.out.trans ((K9.out.trans ((show Below (b1 + 1) w9 _ by assumption).mono (by have := HGBB.out; omega))).mono (by omega))⟩

set_option maxRecDepth 100000 in
theorem lifted (os : Os) (started : os.Started) (H : Type) (enc : TypeId × Value → H) :
    ReturnsInHanded {} Try.checked os 11 .any (Rows.queryFailsSpec.pre6 enc Try.prog Try.f11 Rows.queryFailsRow.domain false) (Rows.queryFailsSpec.post enc Try.prog Try.f11 false true false false) := by
  refine returnsInHanded_of_change (C := Try.checked) own started (by kernel_rfl) Try.func11
    (ChangeSpec.witness6 (enc := enc) (C := Try.checked) false ⟨#[], #[.agg #[.string ByteArray.empty, .int .u16 0, .int .u16 0, .bool false], .int .u16 0], []⟩ 8 (by kernel_rfl) (by kernel_rfl) (by kernel_rfl) (by kernel_rfl)) ?_
  intro W base args ds gs before hval0 hW hcnd _
  have hval : ∀ (j : Nat) t v, Try.f11.params[j]? = some t → args[j]? = some v → Value.okWide Try.prog W .any base t v := hval0
  have hW' := hW
  obtain ⟨p, q, hA0, hV, rfl, hfz, hnd⟩ := hW
  have hA : DataW.TrodAll enc Try.prog W 0 (fun _ => true) true Try.f11.params.toList args.toList ds p := hA0
  rw [Try.params11] at hA hval
  obtain ⟨v0, vs0, d0, ds0, p0, q0, hargs, rfl, rfl, h0, r0⟩ := trodAll_cons hA
  obtain ⟨v1, vs1, d1, ds1, p1, q1, rfl, rfl, rfl, h1, r1⟩ := trodAll_cons r0
  obtain ⟨rfl, rfl, rfl⟩ := trodAll_nil r1
  obtain rfl : args = #[v0, v1] := by cases args; simp_all
  obtain ⟨rfl, rfl⟩ := trodVars_none hV
  have k00 := h0
  have lt0 : ∀ x ∈ p0, x.block < W.heap.size := by obtain ⟨m, hm⟩ := k00; exact DataW.trod_lt m _ _ _ hm
  obtain ⟨x0, kk0, kl0, kd0, hc0⟩ := came_key (hval 0 42 v0 rfl rfl) h0
  obtain ⟨rfl, hx0, hk0, hl0⟩ := hc0
  obtain ⟨z1, rfl, rfl, rfl, wf1⟩ := open_int Try.underlying22 (hval 1 22 v1 rfl rfl) h1
  have wf10 := wf1
  obtain ⟨m1, rfl, hm1⟩ := wf_u16 wf1
  clear hA0 hval0
  refine (walk x0 kk0 kl0 kd0 m1 W hx0 hk0 hl0 hm1).mono fun e W' ⟨he, bel⟩ => ?_
  subst he
  exact ⟨_, rfl, _, _, _, [], _, [], hW', trodAll_mk1 (shut_bool Try.underlying4 _), (trodAll_cons_mk (Below.trod laidOut (by kernel_rfl) (of_decide_eq_true (by kernel_rfl)) k00 bel lt0) (trodAll_cons_mk (shut_int Try.underlying22 wf10) trodAll_mk0)), rfl, bel.frame _, fun h => by cases h⟩

theorem over : Rows.queryFailsRow.holds Try.pinned (OpenSpec.ofChange Rows.queryFailsSpec) :=
  OpenClaim.holds_of_wide 11 Try.f11 rfl rfl rfl rfl rfl rfl rfl ⟨rfl, rfl, rfl, rfl, rfl⟩ rfl rfl rfl rfl rfl (by kernel_rfl) Try.func11 (by kernel_rfl)
    (of_decide_eq_true (by kernel_rfl)) (by unfold Func.isWrapper; first | (rw [if_pos (by decide +kernel)]; kernel_rfl) | (rw [if_neg (by decide +kernel)]; exact ⟨rfl, rfl⟩))
    (fun os started H enc _ => lifted os started H enc)

theorem proved : Rows.QueryFailsSaid := over
#print axioms proved
end Go.Proofs.Ytpmmjmnleoicjaa.queryFails
