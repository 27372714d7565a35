/- Proves QueryBack: a query that was made of a key, whose name is a folded one, asks just that key, and the answer with its question fits it, but no other. No condition. -/
import Derived.Test.YtpmmjmnleoicjaaRows
import Derived.Test.YtpmmjmnleoicjaaQueryBackProofG2
import Derived.Test.YtpmmjmnleoicjaaQueryBackProofG3
import Derived.Test.YtpmmjmnleoicjaaQueryBackProofG6
import Derived.Test.YtpmmjmnleoicjaaQueryBackProofG5
import Derived.WalkKit
import Derived.ProofKit
import Derived.OpenShut
import Derived.ShutString
import Derived.ChangeOld
import Derived.Below
import Derived.Lib.Hide
import Derived.Laws.Rows
import Derived.Outline
import Derived.IntWalk
import Derived.WalkSpells
import Derived.WalkLawsBesides
import Derived.Deep.RegionHeld3
import Derived.Deep.Draws
import Derived.Deep.Heap
namespace Go.Proofs.Ytpmmjmnleoicjaa.queryBack
open Go.ChangeShapes Go.WideShapes Go.ChangeAt Go.RowKit
open Bytes Strs Nums MsgMath NameMath RecMath WrMath QrMath
set_option linter.unusedVariables false
set_option linter.unusedSimpArgs false

theorem own : ownKnob Try.prog.godebug = none := by kernel_rfl
theorem laidOut : laidOutB Try.prog = true := by kernel_rfl
/-- A query of a key whose name is a folded one asks that key. -/
theorem ask_make {id : Nat} {k : Ky} (hn : isN k.name = true) (hf : foldN k.name = k.name) (hk : k.kind ≠ 41) : askM (makeM id k) = some k := by
  have hp : plainQ (makeM id k) = true := decide_eq_true ⟨by show 256 < 32768; decide, by show opc 256 = 0; decide, rfl, rfl, rfl⟩
  rw [askM_one (q := ⟨k.name, k.kind, k.cls⟩) hp rfl, if_neg (by rw [hn]; simp [hk])]
  have hd : doM (makeM id k) = k.wants := by
    unfold doM makeM
    cases k.wants with
    | true => rw [if_pos rfl, firstR, if_pos (show optR.kind = 41 from rfl)]; exact decide_eq_true (by decide)
    | false => rw [if_neg (by decide), firstR]; exact decide_eq_false (by decide)
  rw [hd, hf]
def answerOf (id F : Nat) (k : Ky) : Msg := ⟨id, F, [⟨k.name, k.kind, k.cls⟩], [], [], if k.wants = true then [optR] else []⟩
theorem fits_answer {id no f : Nat} {k k' : Ky} (hf : foldN k.name = k.name) (hF : f < 512) : fitsM k' no (answerOf id (32768 + f) k) = decide (id = no ∧ k.name = k'.name ∧ k.kind = k'.kind ∧ k.cls = k'.cls) := by
  by_cases h : id = no
  · subst h
    rw [fitsM_one (k := k') (id := id) (M := answerOf id (32768 + f) k) (q := ⟨k.name, k.kind, k.cls⟩) ⟨rfl, by show 32768 ≤ 32768 + f; omega, by show (32768 + f) / 512 % 2 = 0; omega, by show opc (32768 + f) = 0; unfold opc; omega⟩ rfl]
    simp only [hf, true_and]
  · rw [fitsM_no (fun e => h e.1), decide_eq_false (fun e => h e.1)]
theorem fits_query {id no : Nat} {k k' : Ky} : fitsM k' no (makeM id k) = false := fitsM_no (fun e => by have := e.2.1; revert this; show 32768 ≤ 256 → False; omega)
/-- What a cell with a Boolean holds plays no part in a message. -/
def KeepB (w w' : World) : Prop := ∀ a v, (∀ d, v ≠ .bool d) → w.cell? a = some v → w'.cell? a = some v
theorem keepB_set {w : World} {a : Addr} {d : Bool} {v : Value} (h : w.cell? a = some (.bool d)) : KeepB w (w.setCell a v) := fun b u hu hb => by
  have ne : a ≠ b := fun e => by subst e; exact hu d (Option.some.inj (hb.symm.trans h))
  rw [World.cell?_setCell_other _ _ _ _ ne]
  exact hb
theorem keepB_cells {w w' : World} {B : Nat} {A : Option Addr} {xs : List Value} (K : KeepB w w') (hx : ∀ v ∈ xs, ∀ d, v ≠ .bool d) (h : CellsAt w B A xs) : CellsAt w' B A xs := by
  rcases h with h | ⟨b, o, e, hb, h⟩
  · exact .inl h
  · exact .inr ⟨b, o, e, hb, fun j u hj => K _ _ (hx u (List.mem_of_getElem? hj)) (h j u hj)⟩
theorem keepB_rds {w w' : World} {B : Nat} {A : Option Addr} {L : List (List UInt8)} (K : KeepB w w') (h : RdS w B A L) : RdS w' B A L := fun hl => by
  obtain ⟨a, e, hb, hc⟩ := h hl
  exact ⟨a, e, hb, fun k hk => K _ _ (fun d e => by cases e) (hc k hk)⟩
theorem keepB_rdn {w w' : World} {B : Nat} {A : Option Addr} {L : List Nat} (K : KeepB w w') (h : RdN w B A L) : RdN w' B A L := fun hl => by
  obtain ⟨a, e, hb, hc⟩ := h hl
  exact ⟨a, e, hb, fun k hk => K _ _ (fun d e => by cases e) (hc k hk)⟩
theorem keepB_z {w w' : World} {B : Nat} {Z : List RecZ} (K : KeepB w w') (h : ZAt w B Z) : ZAt w' B Z := fun z hz => by
  obtain ⟨A1, c1, A2, c2, A3, c3, e1, e2, e3, h⟩ := h z hz
  exact ⟨A1, c1, A2, c2, A3, c3, e1, e2, e3, h.name, h.kind, h.cls, h.ttl, h.len1, h.len2, h.len3, keepB_rds K h.rd1, keepB_rdn K h.rd2, keepB_rds K h.rd3⟩
theorem qn_nob {L : List Qn} : ∀ v ∈ qnCs L, ∀ d, v ≠ .bool d := fun v hv d e => by
  subst e
  unfold qnCs at hv
  obtain ⟨q, _, hq⟩ := List.mem_flatMap.1 hv
  unfold qnV at hq
  simp at hq
theorem rec_nob {w : World} {B : Nat} {Z : List RecZ} (h : ZAt w B Z) : ∀ v ∈ recCs Z, ∀ d, v ≠ .bool d := fun v hv d e => by
  subst e
  unfold recCs at hv
  obtain ⟨z, hz, hq⟩ := List.mem_flatMap.1 hv
  obtain ⟨A1, c1, A2, c2, A3, c3, e1, e2, e3, _⟩ := h z hz
  rw [e1, e2, e3] at hq
  unfold recV at hq
  simp at hq
theorem keepB_msg {w w' : World} {B : Nat} {M : Msg} {Aq Aa An Ax : Option Addr} {nq na nn nx ca cn cx : Nat} {Za Zn Zx : List RecZ} (K : KeepB w w') (h : MsgV w B M Aq Aa An Ax nq na nn nx ca cn cx Za Zn Zx) : MsgV w' B M Aq Aa An Ax nq na nn nx ca cn cx Za Zn Zx :=
  ⟨⟨keepB_cells K qn_nob h.at_.q, keepB_cells K (rec_nob h.at_.za) h.at_.a, keepB_cells K (rec_nob h.at_.zn) h.at_.n, keepB_cells K (rec_nob h.at_.zx) h.at_.x, keepB_z K h.at_.za, keepB_z K h.at_.zn, keepB_z K h.at_.zx, h.at_.ea, h.at_.en, h.at_.ex⟩, h.eq, h.ea, h.en, h.ex, h.ha, h.hn, h.hx⟩
theorem answer_v {w : World} {B id F : Nat} {k : Ky} {Aq Aa An Ax : Option Addr} {nq na nn nx ca cn cx : Nat} {Za Zn Zx : List RecZ} (h : MsgV w B (makeM id k) Aq Aa An Ax nq na nn nx ca cn cx Za Zn Zx) : MsgV w B (answerOf id F k) Aq Aa An Ax nq na nn nx ca cn cx Za Zn Zx :=
  ⟨⟨h.at_.q, h.at_.a, h.at_.n, h.at_.x, h.at_.za, h.at_.zn, h.at_.zx, h.at_.ea, h.at_.en, h.at_.ex⟩, h.eq, h.ea, h.en, h.ex, h.ha, h.hn, h.hx⟩
theorem set_heap {w : World} {b i : Nat} {c : Array Value} {t : TypeId} {v : Value} (h : w.heap[b]? = some (.cells c t (0, 0))) : (w.setCell ⟨b, i, none⟩ v).heap[b]? = some (.cells (c.setIfInBounds i v) t (0, 0)) := by simp [World.setCell, Array.getElem?_modify, h]
theorem far_heap {w : World} {b i m : Nat} {v : Value} (h : m ≠ b) : (w.setCell ⟨b, i, none⟩ v).heap[m]? = w.heap[m]? := by
  simp [World.setCell, Array.getElem?_modify]
  intro e
  exact absurd e.symm h
theorem size_set {w : World} {a : Addr} {v : Value} : (w.setCell a v).heap.size = w.heap.size := by simp [World.setCell]
theorem qm_answer {id F : Nat} {k : Ky} (hid : id ≤ 65535) (hF : F ≤ 65535) (hn : k.name.length ≤ maxLen) (hk : k.kind ≤ 65535) (hc : k.cls ≤ 65535) : FewM (answerOf id F k) := by
  have h := (qm_make hid hn hk hc).few
  exact ⟨hid, hF, h.nq, h.na, h.nn, h.nx, h.qs, h.recs⟩
set_option maxHeartbeats 16000000 in
set_option maxRecDepth 100000 in
theorem walk (x y : ByteArray) (kk kl ok ol : Nat) (kd od : Bool) (id no fg : Nat) (w : World) (hx : x.size ≤ maxLen) (hy : y.size ≤ maxLen) (hkk : kk ≤ 65535) (hkl : kl ≤ 65535) (hok : ok ≤ 65535) (hol : ol ≤ 65535) (hid : id ≤ 65535) (hno : no ≤ 65535) (hfg : fg ≤ 65535) :
    Calls Try.prog 9 #[.agg (kyA x kk kl kd), .agg (kyA y ok ol od), .int .u16 id, .int .u16 no, .int .u16 fg] w fun e w' => e = .returned (.bool true) ∧ Below w.heap.size w w' := by
  obtain ⟨g, hg⟩ : ∃ g, w.heap.size = g := ⟨_, rfl⟩
  rw [hg]
  obtain ⟨w0, hw0⟩ : ∃ v, w.alloc (.cells (kyA x kk kl kd) 42) = v := ⟨_, rfl⟩
  obtain ⟨wa, hwa⟩ : ∃ v, w0.alloc (.cells (kyA y ok ol od) 42) = v := ⟨_, rfl⟩
  have hs0 : w0.heap.size = g + 1 := by rw [← hw0, ← hg]; simp
  have hsa : wa.heap.size = g + 2 := by rw [← hwa]; simp [hs0]
  have hb0 : Below g w w0 := by rw [← hw0, ← hg]; exact (Below.refl _ _).alloc (Nat.le_refl _) _
  have HBA : Hid (Below g w wa) := by rw [← hwa]; exact hb0.alloc (by omega) _
  have hx0 : w0.heap[g]? = some (.cells (kyA x kk kl kd) 42 (0, 0)) := by rw [← hw0, ← hg]; exact heap_alloc_new w _
  have HX : Hid (wa.heap[g]? = some (.cells (kyA x kk kl kd) 42 (0, 0))) := by rw [← hwa]; exact old_at hx0
  have HY : Hid (wa.heap[g + 1]? = some (.cells (kyA y ok ol od) 42 (0, 0))) := by rw [← hwa, ← hs0]; exact heap_alloc_new w0 _
  have HSA := Lib.hid hsa
  clear hb0 hx0
  go_enter Try.func9, Try.ntmps9
  go_wp2_with fail
  refine (awake8_any _).mono ?_
  rintro e w1 ⟨rfl, hB1⟩
  have K1 : Hid (Below (g + 2) wa w1) := by have h := hB1; rw [HSA.out] at h; exact h
  have V1 : Hid (Below g w w1) := HBA.out.trans (K1.out.mono (by omega))
  have hx1 := (K1.out.block g (by omega)).trans HX.out
  have hy1 := (K1.out.block (g + 1) (by omega)).trans HY.out
  have k0 := cell_of_row _ _ 0 _ _ _ hx1
  have k1 := cell_of_row _ _ 1 _ _ _ hx1
  have k2 := cell_of_row _ _ 2 _ _ _ hx1
  have k3 := cell_of_row _ _ 3 _ _ _ hx1
  have j0 := cell_of_row _ _ 0 _ _ _ hy1
  have j1 := cell_of_row _ _ 1 _ _ _ hy1
  have j2 := cell_of_row _ _ 2 _ _ _ hy1
  have j3 := cell_of_row _ _ 3 _ _ _ hy1
  obtain ⟨bn, hbn⟩ : ∃ b, isN x.data.toList = b := ⟨_, rfl⟩
  obtain ⟨t, ht⟩ : ∃ t, mk (foldN x.data.toList) = t := ⟨_, rfl⟩
  have CIS := Lib.hid (fun W hs h => held5 ⟨g, 0, none⟩ ⟨g, 1, none⟩ ⟨g, 2, none⟩ ⟨g, 3, none⟩ ⟨g + 1, 0, none⟩ (.string x) (.int .u16 kk) (.int .u16 kl) (.bool kd) (.string y) (fun W (_ : Below (g + 2) wa W) (_ : g + 2 ≤ W.heap.size) => refIs_w x bn W hx hbn) W hs h)
  have CFO := Lib.hid (fun W hs h => held5 ⟨g, 0, none⟩ ⟨g, 1, none⟩ ⟨g, 2, none⟩ ⟨g, 3, none⟩ ⟨g + 1, 0, none⟩ (.string x) (.int .u16 kk) (.int .u16 kl) (.bool kd) (.string y) (fun W (_ : Below (g + 2) wa W) (_ : g + 2 ≤ W.heap.size) => refFold_w x t W hx ht) W hs h)
  have HGW : Hid (∀ W : World, W.cell? ⟨g, 0, none⟩ = some (.string x) → g ≤ W.heap.size) := fun W h => by have h2 : g < W.heap.size := World.block_lt_of_cell? W _ h; omega
  have HGW2 : Hid (∀ W : World, W.cell? ⟨g + 1, 0, none⟩ = some (.string y) → g + 2 ≤ W.heap.size) := fun W h => by have h2 : g + 1 < W.heap.size := World.block_lt_of_cell? W _ h; omega
  have h0 : Below (g + 2) wa w1.drew := K1.out.drew
  have HT := Lib.hid ht
  clear hB1 hx1 hy1 hwa hw0 hsa hs0 hg ht
  cases bn with
  | false =>
    go_wp2_with fail
    refine wp_region_held_drew (S := (fun w' => w'.cell? ⟨g, 0, none⟩ = some (.string x) ∧ w'.cell? ⟨g, 1, none⟩ = some (.int .u16 kk) ∧ w'.cell? ⟨g, 2, none⟩ = some (.int .u16 kl) ∧ w'.cell? ⟨g, 3, none⟩ = some (.bool kd) ∧ w'.cell? ⟨g + 1, 0, none⟩ = some (.string y) ∧ Below (g + 2) wa w')) (by kernel_rfl) ?_ (fun hHeld => ?_)
    · exact ⟨k0, k1, k2, k3, j0, h0⟩
    refine wpAnyH_take (i := 0) (v := ?_) rfl (by kernel_rfl) (by kernel_rfl) (by kernel_rfl) (fun _ _ _ h => h) (Or.inl ⟨by rfl, ?_⟩) (by assumption) ?_
    rotate_left
    · intro w hSw; (try dsimp only at hSw); first | (go_simp; done) | (go_simp; with_reducible rfl)
    try simp only [Act.put, List.getElem_toArray, List.getElem_cons_succ, List.getElem_cons_zero, List.setIfInBounds_toArray, List.set_cons_zero, List.set_cons_succ]
    refine wpAnyH_take (i := 1) (v := ?_) rfl (by kernel_rfl) (by kernel_rfl) (by kernel_rfl) (fun _ _ _ h => h) (Or.inl ⟨by rfl, ?_⟩) (by assumption) ?_
    rotate_left
    · intro w hSw; (try dsimp only at hSw); first | (go_simp; done) | (go_simp; with_reducible rfl)
    try simp only [Act.put, List.getElem_toArray, List.getElem_cons_succ, List.getElem_cons_zero, List.setIfInBounds_toArray, List.set_cons_zero, List.set_cons_succ]
    refine wpAnyH_ready (rs := [2]) (by kernel_rfl) (by simp) ?_
    refine AllReadyH.cons rfl (fun K hK => ?_) AllReadyH.nil
    rw [if_pos (by rfl)]
    (go_simp; go_at_call 39; (with_reducible refine (CIS.out _ (HGW2.out _ ?_) ?_).mono ?_); (simp [*]); (simp [*]); rintro e w5 ⟨rfl, c0, c1, c2, c3, c4, hG5⟩)
    refine hK.out _ _ ?_ (fun hHeld => ?_)
    · first | assumption | (try dsimp only); go_keep
    clear hK K
    try simp only [Act.put, List.getElem_toArray, List.getElem_cons_succ, List.getElem_cons_zero, List.setIfInBounds_toArray, List.set_cons_zero, List.set_cons_succ]
    refine wpAnyH_take (i := 3) (v := ?_) rfl (by kernel_rfl) (by kernel_rfl) (by kernel_rfl) (fun _ _ _ h => h) (Or.inl ⟨by rfl, ?_⟩) (by assumption) ?_
    rotate_left
    · intro w hSw; (try dsimp only at hSw); first | (go_simp; done) | (go_simp; with_reducible rfl)
    try simp only [Act.put, List.getElem_toArray, List.getElem_cons_succ, List.getElem_cons_zero, List.setIfInBounds_toArray, List.set_cons_zero, List.set_cons_succ]
    refine wpAnyH_take (i := 4) (v := ?_) rfl (by kernel_rfl) (by kernel_rfl) (by kernel_rfl) (fun _ _ _ h => h) (Or.inl ⟨by rfl, ?_⟩) (by assumption) ?_
    rotate_left
    · intro w hSw; (try dsimp only at hSw); first | (go_simp; done) | (go_simp; with_reducible rfl)
    try simp only [Act.put, List.getElem_toArray, List.getElem_cons_succ, List.getElem_cons_zero, List.setIfInBounds_toArray, List.set_cons_zero, List.set_cons_succ]
    refine wpAnyH_take (i := 5) (v := undef) rfl (by kernel_rfl) (by kernel_rfl) (by kernel_rfl) (fun _ _ _ h => h) (Or.inr ⟨by rfl, rfl⟩) (by assumption) ?_
    try simp only [Act.put, List.getElem_toArray, List.getElem_cons_succ, List.getElem_cons_zero, List.setIfInBounds_toArray, List.set_cons_zero, List.set_cons_succ]
    refine wpAnyH_take (i := 6) (v := undef) rfl (by kernel_rfl) (by kernel_rfl) (by kernel_rfl) (fun _ _ _ h => h) (Or.inr ⟨by rfl, rfl⟩) (by assumption) ?_
    try simp only [Act.put, List.getElem_toArray, List.getElem_cons_succ, List.getElem_cons_zero, List.setIfInBounds_toArray, List.set_cons_zero, List.set_cons_succ]
    refine wpAnyH_take (i := 7) (v := undef) rfl (by kernel_rfl) (by kernel_rfl) (by kernel_rfl) (fun _ _ _ h => h) (Or.inr ⟨by rfl, rfl⟩) (by assumption) ?_
    try simp only [Act.put, List.getElem_toArray, List.getElem_cons_succ, List.getElem_cons_zero, List.setIfInBounds_toArray, List.set_cons_zero, List.set_cons_succ]
    refine wpAnyH_take (i := 8) (v := undef) rfl (by kernel_rfl) (by kernel_rfl) (by kernel_rfl) (fun _ _ _ h => h) (Or.inr ⟨by rfl, rfl⟩) (by assumption) ?_
    try simp only [Act.put, List.getElem_toArray, List.getElem_cons_succ, List.getElem_cons_zero, List.setIfInBounds_toArray, List.set_cons_zero, List.set_cons_succ]
    refine wpAnyH_take (i := 9) (v := undef) rfl (by kernel_rfl) (by kernel_rfl) (by kernel_rfl) (fun _ _ _ h => h) (Or.inr ⟨by rfl, rfl⟩) (by assumption) ?_
    try simp only [Act.put, List.getElem_toArray, List.getElem_cons_succ, List.getElem_cons_zero, List.setIfInBounds_toArray, List.set_cons_zero, List.set_cons_succ]
    refine wpAnyH_take (i := 10) (v := undef) rfl (by kernel_rfl) (by kernel_rfl) (by kernel_rfl) (fun _ _ _ h => h) (Or.inr ⟨by rfl, rfl⟩) (by assumption) ?_
    try simp only [Act.put, List.getElem_toArray, List.getElem_cons_succ, List.getElem_cons_zero, List.setIfInBounds_toArray, List.set_cons_zero, List.set_cons_succ]
    refine wpAnyH_take (i := 11) (v := ?_) rfl (by kernel_rfl) (by kernel_rfl) (by kernel_rfl) (fun _ _ _ h => h) (Or.inl ⟨by rfl, ?_⟩) (by assumption) ?_
    rotate_left
    · intro w hSw; (try dsimp only at hSw); first | (go_simp; done) | (go_simp; with_reducible rfl)
    try simp only [Act.put, List.getElem_toArray, List.getElem_cons_succ, List.getElem_cons_zero, List.setIfInBounds_toArray, List.set_cons_zero, List.set_cons_succ]
    refine wpAnyH_take (i := 12) (v := ?_) rfl (by kernel_rfl) (by kernel_rfl) (by kernel_rfl) (fun _ _ _ h => h) (Or.inl ⟨by rfl, ?_⟩) (by assumption) ?_
    rotate_left
    · intro w hSw; (try dsimp only at hSw); first | (go_simp; done) | (go_simp; with_reducible rfl)
    try simp only [Act.put, List.getElem_toArray, List.getElem_cons_succ, List.getElem_cons_zero, List.setIfInBounds_toArray, List.set_cons_zero, List.set_cons_succ]
    refine wpAnyH_take (i := 13) (v := undef) rfl (by kernel_rfl) (by kernel_rfl) (by kernel_rfl) (fun _ _ _ h => h) (Or.inr ⟨by rfl, rfl⟩) (by assumption) ?_
    try simp only [Act.put, List.getElem_toArray, List.getElem_cons_succ, List.getElem_cons_zero, List.setIfInBounds_toArray, List.set_cons_zero, List.set_cons_succ]
    refine wpAnyH_take (i := 14) (v := undef) rfl (by kernel_rfl) (by kernel_rfl) (by kernel_rfl) (fun _ _ _ h => h) (Or.inr ⟨by rfl, rfl⟩) (by assumption) ?_
    try simp only [Act.put, List.getElem_toArray, List.getElem_cons_succ, List.getElem_cons_zero, List.setIfInBounds_toArray, List.set_cons_zero, List.set_cons_succ]
    refine wpAnyH_take (i := 15) (v := undef) rfl (by kernel_rfl) (by kernel_rfl) (by kernel_rfl) (fun _ _ _ h => h) (Or.inr ⟨by rfl, rfl⟩) (by assumption) ?_
    try simp only [Act.put, List.getElem_toArray, List.getElem_cons_succ, List.getElem_cons_zero, List.setIfInBounds_toArray, List.set_cons_zero, List.set_cons_succ]
    refine wpAnyH_take (i := 16) (v := ?_) rfl (by kernel_rfl) (by kernel_rfl) (by kernel_rfl) (fun _ _ _ h => h) (Or.inl ⟨by rfl, ?_⟩) (by assumption) ?_
    rotate_left
    · intro w hSw; (try dsimp only at hSw); first | (go_simp; done) | (go_simp; with_reducible rfl)
    try simp only [Act.put, List.getElem_toArray, List.getElem_cons_succ, List.getElem_cons_zero, List.setIfInBounds_toArray, List.set_cons_zero, List.set_cons_succ]
    refine wpAnyH_take (i := 17) (v := ?_) rfl (by kernel_rfl) (by kernel_rfl) (by kernel_rfl) (fun _ _ _ h => h) (Or.inl ⟨by rfl, ?_⟩) (by assumption) ?_
    rotate_left
    · intro w hSw; (try dsimp only at hSw); first | (go_simp; done) | (go_simp; with_reducible rfl)
    try simp only [Act.put, List.getElem_toArray, List.getElem_cons_succ, List.getElem_cons_zero, List.setIfInBounds_toArray, List.set_cons_zero, List.set_cons_succ]
    refine wpAnyH_take (i := 18) (v := undef) rfl (by kernel_rfl) (by kernel_rfl) (by kernel_rfl) (fun _ _ _ h => h) (Or.inr ⟨by rfl, rfl⟩) (by assumption) ?_
    try simp only [Act.put, List.getElem_toArray, List.getElem_cons_succ, List.getElem_cons_zero, List.setIfInBounds_toArray, List.set_cons_zero, List.set_cons_succ]
    refine wpAnyH_take (i := 19) (v := undef) rfl (by kernel_rfl) (by kernel_rfl) (by kernel_rfl) (fun _ _ _ h => h) (Or.inr ⟨by rfl, rfl⟩) (by assumption) ?_
    try simp only [Act.put, List.getElem_toArray, List.getElem_cons_succ, List.getElem_cons_zero, List.setIfInBounds_toArray, List.set_cons_zero, List.set_cons_succ]
    refine wpAnyH_take (i := 20) (v := undef) rfl (by kernel_rfl) (by kernel_rfl) (by kernel_rfl) (fun _ _ _ h => h) (Or.inr ⟨by rfl, rfl⟩) (by assumption) ?_
    try simp only [Act.put, List.getElem_toArray, List.getElem_cons_succ, List.getElem_cons_zero, List.setIfInBounds_toArray, List.set_cons_zero, List.set_cons_succ]
    refine wpAnyH_take (i := 21) (v := undef) rfl (by kernel_rfl) (by kernel_rfl) (by kernel_rfl) (fun _ _ _ h => h) (Or.inr ⟨by rfl, rfl⟩) (by assumption) ?_
    try simp only [Act.put, List.getElem_toArray, List.getElem_cons_succ, List.getElem_cons_zero, List.setIfInBounds_toArray, List.set_cons_zero, List.set_cons_succ]
    refine wpAnyH_take (i := 22) (v := ?_) rfl (by kernel_rfl) (by kernel_rfl) (by kernel_rfl) (fun _ _ _ h => h) (Or.inl ⟨by rfl, ?_⟩) (by assumption) ?_
    rotate_left
    · intro w hSw; (try dsimp only at hSw); first | (go_simp; done) | (go_simp; with_reducible rfl)
    try simp only [Act.put, List.getElem_toArray, List.getElem_cons_succ, List.getElem_cons_zero, List.setIfInBounds_toArray, List.set_cons_zero, List.set_cons_succ]
    refine wpAnyH_done (by kernel_rfl) ?_ _
    all_goals
      go_wp2_with fail
      go_ret
      exact ⟨rfl, HBA.out.trans ((show Below (g + 2) wa _ by assumption).mono (by omega))⟩
  | true =>
  have HBN := Lib.hid hbn
  clear hbn
  by_cases htx : t = x
  case neg =>
    have f1 : (t.toList == x.toList) = false := ne_toList htx
    clear htx
    go_wp2_with fail
    refine wp_region_held_drew (S := (fun w' => w'.cell? ⟨g, 0, none⟩ = some (.string x) ∧ w'.cell? ⟨g, 1, none⟩ = some (.int .u16 kk) ∧ w'.cell? ⟨g, 2, none⟩ = some (.int .u16 kl) ∧ w'.cell? ⟨g, 3, none⟩ = some (.bool kd) ∧ w'.cell? ⟨g + 1, 0, none⟩ = some (.string y) ∧ Below (g + 2) wa w')) (by kernel_rfl) ?_ (fun hHeld => ?_)
    · exact ⟨k0, k1, k2, k3, j0, h0⟩
    refine wpAnyH_take (i := 0) (v := ?_) rfl (by kernel_rfl) (by kernel_rfl) (by kernel_rfl) (fun _ _ _ h => h) (Or.inl ⟨by rfl, ?_⟩) (by assumption) ?_
    rotate_left
    · intro w hSw; (try dsimp only at hSw); first | (go_simp; done) | (go_simp; with_reducible rfl)
    try simp only [Act.put, List.getElem_toArray, List.getElem_cons_succ, List.getElem_cons_zero, List.setIfInBounds_toArray, List.set_cons_zero, List.set_cons_succ]
    refine wpAnyH_take (i := 1) (v := ?_) rfl (by kernel_rfl) (by kernel_rfl) (by kernel_rfl) (fun _ _ _ h => h) (Or.inl ⟨by rfl, ?_⟩) (by assumption) ?_
    rotate_left
    · intro w hSw; (try dsimp only at hSw); first | (go_simp; done) | (go_simp; with_reducible rfl)
    try simp only [Act.put, List.getElem_toArray, List.getElem_cons_succ, List.getElem_cons_zero, List.setIfInBounds_toArray, List.set_cons_zero, List.set_cons_succ]
    refine wpAnyH_ready (rs := [2]) (by kernel_rfl) (by simp) ?_
    refine AllReadyH.cons rfl (fun K hK => ?_) AllReadyH.nil
    rw [if_pos (by rfl)]
    (go_simp; go_at_call 39; (with_reducible refine (CIS.out _ (HGW2.out _ ?_) ?_).mono ?_); (simp [*]); (simp [*]); rintro e w5 ⟨rfl, c0, c1, c2, c3, c4, hG5⟩)
    refine hK.out _ _ ?_ (fun hHeld => ?_)
    · first | assumption | (try dsimp only); go_keep
    clear hK K
    try simp only [Act.put, List.getElem_toArray, List.getElem_cons_succ, List.getElem_cons_zero, List.setIfInBounds_toArray, List.set_cons_zero, List.set_cons_succ]
    refine wpAnyH_take (i := 3) (v := ?_) rfl (by kernel_rfl) (by kernel_rfl) (by kernel_rfl) (fun _ _ _ h => h) (Or.inl ⟨by rfl, ?_⟩) (by assumption) ?_
    rotate_left
    · intro w hSw; (try dsimp only at hSw); first | (go_simp; done) | (go_simp; with_reducible rfl)
    try simp only [Act.put, List.getElem_toArray, List.getElem_cons_succ, List.getElem_cons_zero, List.setIfInBounds_toArray, List.set_cons_zero, List.set_cons_succ]
    refine wpAnyH_take (i := 4) (v := ?_) rfl (by kernel_rfl) (by kernel_rfl) (by kernel_rfl) (fun _ _ _ h => h) (Or.inl ⟨by rfl, ?_⟩) (by assumption) ?_
    rotate_left
    · intro w hSw; (try dsimp only at hSw); first | (go_simp; done) | (go_simp; with_reducible rfl)
    try simp only [Act.put, List.getElem_toArray, List.getElem_cons_succ, List.getElem_cons_zero, List.setIfInBounds_toArray, List.set_cons_zero, List.set_cons_succ]
    refine wpAnyH_take (i := 5) (v := ?_) rfl (by kernel_rfl) (by kernel_rfl) (by kernel_rfl) (fun _ _ _ h => h) (Or.inl ⟨by rfl, ?_⟩) (by assumption) ?_
    rotate_left
    · intro w hSw; (try dsimp only at hSw); first | (go_simp; done) | (go_simp; with_reducible rfl)
    try simp only [Act.put, List.getElem_toArray, List.getElem_cons_succ, List.getElem_cons_zero, List.setIfInBounds_toArray, List.set_cons_zero, List.set_cons_succ]
    refine wpAnyH_take (i := 6) (v := ?_) rfl (by kernel_rfl) (by kernel_rfl) (by kernel_rfl) (fun _ _ _ h => h) (Or.inl ⟨by rfl, ?_⟩) (by assumption) ?_
    rotate_left
    · intro w hSw; (try dsimp only at hSw); first | (go_simp; done) | (go_simp; with_reducible rfl)
    try simp only [Act.put, List.getElem_toArray, List.getElem_cons_succ, List.getElem_cons_zero, List.setIfInBounds_toArray, List.set_cons_zero, List.set_cons_succ]
    refine wpAnyH_take (i := 8) (v := ?_) rfl (by kernel_rfl) (by kernel_rfl) (by kernel_rfl) (fun _ _ _ h => h) (Or.inl ⟨by rfl, ?_⟩) (by assumption) ?_
    rotate_left
    · intro w hSw; (try dsimp only at hSw); first | (go_simp; done) | (go_simp; with_reducible rfl)
    try simp only [Act.put, List.getElem_toArray, List.getElem_cons_succ, List.getElem_cons_zero, List.setIfInBounds_toArray, List.set_cons_zero, List.set_cons_succ]
    refine wpAnyH_take (i := 9) (v := ?_) rfl (by kernel_rfl) (by kernel_rfl) (by kernel_rfl) (fun _ _ _ h => h) (Or.inl ⟨by rfl, ?_⟩) (by assumption) ?_
    rotate_left
    · intro w hSw; (try dsimp only at hSw); first | (go_simp; done) | (go_simp; with_reducible rfl)
    try simp only [Act.put, List.getElem_toArray, List.getElem_cons_succ, List.getElem_cons_zero, List.setIfInBounds_toArray, List.set_cons_zero, List.set_cons_succ]
    refine wpAnyH_ready (rs := [7]) (by kernel_rfl) (by simp) ?_
    refine AllReadyH.cons rfl (fun K hK => ?_) AllReadyH.nil
    rw [if_pos (by rfl)]
    (go_simp; go_at_call 40; (with_reducible refine (CFO.out _ (HGW2.out _ ?_) ?_).mono ?_); (simp [*]); (simp [*]); rintro e w6 ⟨rfl, c0, c1, c2, c3, c4, hG6⟩)
    refine hK.out _ _ ?_ (fun hHeld => ?_)
    · first | assumption | (try dsimp only); go_keep
    clear hK K
    try simp only [Act.put, List.getElem_toArray, List.getElem_cons_succ, List.getElem_cons_zero, List.setIfInBounds_toArray, List.set_cons_zero, List.set_cons_succ]
    refine wpAnyH_take (i := 10) (v := ?_) rfl (by kernel_rfl) (by kernel_rfl) (by kernel_rfl) (fun _ _ _ h => h) (Or.inl ⟨by rfl, ?_⟩) (by assumption) ?_
    rotate_left
    · intro w hSw; (try dsimp only at hSw); first | (go_simp; done) | (go_simp; with_reducible rfl)
    try simp only [Act.put, List.getElem_toArray, List.getElem_cons_succ, List.getElem_cons_zero, List.setIfInBounds_toArray, List.set_cons_zero, List.set_cons_succ]
    refine wpAnyH_take (i := 11) (v := ?_) rfl (by kernel_rfl) (by kernel_rfl) (by kernel_rfl) (fun _ _ _ h => h) (Or.inl ⟨by rfl, ?_⟩) (by assumption) ?_
    rotate_left
    · intro w hSw; (try dsimp only at hSw); first | (go_simp; done) | (go_simp; with_reducible rfl)
    try simp only [Act.put, List.getElem_toArray, List.getElem_cons_succ, List.getElem_cons_zero, List.setIfInBounds_toArray, List.set_cons_zero, List.set_cons_succ]
    refine wpAnyH_take (i := 12) (v := ?_) rfl (by kernel_rfl) (by kernel_rfl) (by kernel_rfl) (fun _ _ _ h => h) (Or.inl ⟨by rfl, ?_⟩) (by assumption) ?_
    rotate_left
    · intro w hSw; (try dsimp only at hSw); first | (go_simp; done) | (go_simp; with_reducible rfl)
    try simp only [Act.put, List.getElem_toArray, List.getElem_cons_succ, List.getElem_cons_zero, List.setIfInBounds_toArray, List.set_cons_zero, List.set_cons_succ]
    refine wpAnyH_take (i := 13) (v := undef) rfl (by kernel_rfl) (by kernel_rfl) (by kernel_rfl) (fun _ _ _ h => h) (Or.inr ⟨by rfl, rfl⟩) (by assumption) ?_
    try simp only [Act.put, List.getElem_toArray, List.getElem_cons_succ, List.getElem_cons_zero, List.setIfInBounds_toArray, List.set_cons_zero, List.set_cons_succ]
    refine wpAnyH_take (i := 14) (v := undef) rfl (by kernel_rfl) (by kernel_rfl) (by kernel_rfl) (fun _ _ _ h => h) (Or.inr ⟨by rfl, rfl⟩) (by assumption) ?_
    try simp only [Act.put, List.getElem_toArray, List.getElem_cons_succ, List.getElem_cons_zero, List.setIfInBounds_toArray, List.set_cons_zero, List.set_cons_succ]
    refine wpAnyH_take (i := 15) (v := undef) rfl (by kernel_rfl) (by kernel_rfl) (by kernel_rfl) (fun _ _ _ h => h) (Or.inr ⟨by rfl, rfl⟩) (by assumption) ?_
    try simp only [Act.put, List.getElem_toArray, List.getElem_cons_succ, List.getElem_cons_zero, List.setIfInBounds_toArray, List.set_cons_zero, List.set_cons_succ]
    refine wpAnyH_take (i := 16) (v := ?_) rfl (by kernel_rfl) (by kernel_rfl) (by kernel_rfl) (fun _ _ _ h => h) (Or.inl ⟨by rfl, ?_⟩) (by assumption) ?_
    rotate_left
    · intro w hSw; (try dsimp only at hSw); first | (go_simp; done) | (go_simp; with_reducible rfl)
    try simp only [Act.put, List.getElem_toArray, List.getElem_cons_succ, List.getElem_cons_zero, List.setIfInBounds_toArray, List.set_cons_zero, List.set_cons_succ]
    refine wpAnyH_take (i := 17) (v := ?_) rfl (by kernel_rfl) (by kernel_rfl) (by kernel_rfl) (fun _ _ _ h => h) (Or.inl ⟨by rfl, ?_⟩) (by assumption) ?_
    rotate_left
    · intro w hSw; (try dsimp only at hSw); first | (go_simp; done) | (go_simp; with_reducible rfl)
    try simp only [Act.put, List.getElem_toArray, List.getElem_cons_succ, List.getElem_cons_zero, List.setIfInBounds_toArray, List.set_cons_zero, List.set_cons_succ]
    refine wpAnyH_take (i := 18) (v := undef) rfl (by kernel_rfl) (by kernel_rfl) (by kernel_rfl) (fun _ _ _ h => h) (Or.inr ⟨by rfl, rfl⟩) (by assumption) ?_
    try simp only [Act.put, List.getElem_toArray, List.getElem_cons_succ, List.getElem_cons_zero, List.setIfInBounds_toArray, List.set_cons_zero, List.set_cons_succ]
    refine wpAnyH_take (i := 19) (v := undef) rfl (by kernel_rfl) (by kernel_rfl) (by kernel_rfl) (fun _ _ _ h => h) (Or.inr ⟨by rfl, rfl⟩) (by assumption) ?_
    try simp only [Act.put, List.getElem_toArray, List.getElem_cons_succ, List.getElem_cons_zero, List.setIfInBounds_toArray, List.set_cons_zero, List.set_cons_succ]
    refine wpAnyH_take (i := 20) (v := undef) rfl (by kernel_rfl) (by kernel_rfl) (by kernel_rfl) (fun _ _ _ h => h) (Or.inr ⟨by rfl, rfl⟩) (by assumption) ?_
    try simp only [Act.put, List.getElem_toArray, List.getElem_cons_succ, List.getElem_cons_zero, List.setIfInBounds_toArray, List.set_cons_zero, List.set_cons_succ]
    refine wpAnyH_take (i := 21) (v := undef) rfl (by kernel_rfl) (by kernel_rfl) (by kernel_rfl) (fun _ _ _ h => h) (Or.inr ⟨by rfl, rfl⟩) (by assumption) ?_
    try simp only [Act.put, List.getElem_toArray, List.getElem_cons_succ, List.getElem_cons_zero, List.setIfInBounds_toArray, List.set_cons_zero, List.set_cons_succ]
    refine wpAnyH_take (i := 22) (v := ?_) rfl (by kernel_rfl) (by kernel_rfl) (by kernel_rfl) (fun _ _ _ h => h) (Or.inl ⟨by rfl, ?_⟩) (by assumption) ?_
    rotate_left
    · intro w hSw; (try dsimp only at hSw); first | (go_simp; done) | (go_simp; with_reducible rfl)
    try simp only [Act.put, List.getElem_toArray, List.getElem_cons_succ, List.getElem_cons_zero, List.setIfInBounds_toArray, List.set_cons_zero, List.set_cons_succ]
    refine wpAnyH_done (by kernel_rfl) ?_ _
    all_goals
      go_wp2_with fail
      go_ret
      exact ⟨rfl, HBA.out.trans ((show Below (g + 2) wa _ by assumption).mono (by omega))⟩
  have f1 : (t.toList == x.toList) = true := by rw [htx]; exact beq_self_eq_true _
  by_cases h41 : kk = 41
  · have f2 : ((kk : Int) == 41) = true := beq_iff_eq.2 (by omega)
    clear h41
    go_wp2_with fail
    refine wp_region_held_drew (S := (fun w' => w'.cell? ⟨g, 0, none⟩ = some (.string x) ∧ w'.cell? ⟨g, 1, none⟩ = some (.int .u16 kk) ∧ w'.cell? ⟨g, 2, none⟩ = some (.int .u16 kl) ∧ w'.cell? ⟨g, 3, none⟩ = some (.bool kd) ∧ w'.cell? ⟨g + 1, 0, none⟩ = some (.string y) ∧ Below (g + 2) wa w')) (by kernel_rfl) ?_ (fun hHeld => ?_)
    · exact ⟨k0, k1, k2, k3, j0, h0⟩
    refine wpAnyH_take (i := 0) (v := ?_) rfl (by kernel_rfl) (by kernel_rfl) (by kernel_rfl) (fun _ _ _ h => h) (Or.inl ⟨by rfl, ?_⟩) (by assumption) ?_
    rotate_left
    · intro w hSw; (try dsimp only at hSw); first | (go_simp; done) | (go_simp; with_reducible rfl)
    try simp only [Act.put, List.getElem_toArray, List.getElem_cons_succ, List.getElem_cons_zero, List.setIfInBounds_toArray, List.set_cons_zero, List.set_cons_succ]
    refine wpAnyH_take (i := 1) (v := ?_) rfl (by kernel_rfl) (by kernel_rfl) (by kernel_rfl) (fun _ _ _ h => h) (Or.inl ⟨by rfl, ?_⟩) (by assumption) ?_
    rotate_left
    · intro w hSw; (try dsimp only at hSw); first | (go_simp; done) | (go_simp; with_reducible rfl)
    try simp only [Act.put, List.getElem_toArray, List.getElem_cons_succ, List.getElem_cons_zero, List.setIfInBounds_toArray, List.set_cons_zero, List.set_cons_succ]
    refine wpAnyH_ready (rs := [2]) (by kernel_rfl) (by simp) ?_
    refine AllReadyH.cons rfl (fun K hK => ?_) AllReadyH.nil
    rw [if_pos (by rfl)]
    (go_simp; go_at_call 39; (with_reducible refine (CIS.out _ (HGW2.out _ ?_) ?_).mono ?_); (simp [*]); (simp [*]); rintro e w5 ⟨rfl, c0, c1, c2, c3, c4, hG5⟩)
    refine hK.out _ _ ?_ (fun hHeld => ?_)
    · first | assumption | (try dsimp only); go_keep
    clear hK K
    try simp only [Act.put, List.getElem_toArray, List.getElem_cons_succ, List.getElem_cons_zero, List.setIfInBounds_toArray, List.set_cons_zero, List.set_cons_succ]
    refine wpAnyH_take (i := 3) (v := ?_) rfl (by kernel_rfl) (by kernel_rfl) (by kernel_rfl) (fun _ _ _ h => h) (Or.inl ⟨by rfl, ?_⟩) (by assumption) ?_
    rotate_left
    · intro w hSw; (try dsimp only at hSw); first | (go_simp; done) | (go_simp; with_reducible rfl)
    try simp only [Act.put, List.getElem_toArray, List.getElem_cons_succ, List.getElem_cons_zero, List.setIfInBounds_toArray, List.set_cons_zero, List.set_cons_succ]
    refine wpAnyH_take (i := 4) (v := ?_) rfl (by kernel_rfl) (by kernel_rfl) (by kernel_rfl) (fun _ _ _ h => h) (Or.inl ⟨by rfl, ?_⟩) (by assumption) ?_
    rotate_left
    · intro w hSw; (try dsimp only at hSw); first | (go_simp; done) | (go_simp; with_reducible rfl)
    try simp only [Act.put, List.getElem_toArray, List.getElem_cons_succ, List.getElem_cons_zero, List.setIfInBounds_toArray, List.set_cons_zero, List.set_cons_succ]
    refine wpAnyH_take (i := 5) (v := ?_) rfl (by kernel_rfl) (by kernel_rfl) (by kernel_rfl) (fun _ _ _ h => h) (Or.inl ⟨by rfl, ?_⟩) (by assumption) ?_
    rotate_left
    · intro w hSw; (try dsimp only at hSw); first | (go_simp; done) | (go_simp; with_reducible rfl)
    try simp only [Act.put, List.getElem_toArray, List.getElem_cons_succ, List.getElem_cons_zero, List.setIfInBounds_toArray, List.set_cons_zero, List.set_cons_succ]
    refine wpAnyH_take (i := 6) (v := ?_) rfl (by kernel_rfl) (by kernel_rfl) (by kernel_rfl) (fun _ _ _ h => h) (Or.inl ⟨by rfl, ?_⟩) (by assumption) ?_
    rotate_left
    · intro w hSw; (try dsimp only at hSw); first | (go_simp; done) | (go_simp; with_reducible rfl)
    try simp only [Act.put, List.getElem_toArray, List.getElem_cons_succ, List.getElem_cons_zero, List.setIfInBounds_toArray, List.set_cons_zero, List.set_cons_succ]
    refine wpAnyH_take (i := 8) (v := ?_) rfl (by kernel_rfl) (by kernel_rfl) (by kernel_rfl) (fun _ _ _ h => h) (Or.inl ⟨by rfl, ?_⟩) (by assumption) ?_
    rotate_left
    · intro w hSw; (try dsimp only at hSw); first | (go_simp; done) | (go_simp; with_reducible rfl)
    try simp only [Act.put, List.getElem_toArray, List.getElem_cons_succ, List.getElem_cons_zero, List.setIfInBounds_toArray, List.set_cons_zero, List.set_cons_succ]
    refine wpAnyH_take (i := 9) (v := ?_) rfl (by kernel_rfl) (by kernel_rfl) (by kernel_rfl) (fun _ _ _ h => h) (Or.inl ⟨by rfl, ?_⟩) (by assumption) ?_
    rotate_left
    · intro w hSw; (try dsimp only at hSw); first | (go_simp; done) | (go_simp; with_reducible rfl)
    try simp only [Act.put, List.getElem_toArray, List.getElem_cons_succ, List.getElem_cons_zero, List.setIfInBounds_toArray, List.set_cons_zero, List.set_cons_succ]
    refine wpAnyH_ready (rs := [7]) (by kernel_rfl) (by simp) ?_
    refine AllReadyH.cons rfl (fun K hK => ?_) AllReadyH.nil
    rw [if_pos (by rfl)]
    (go_simp; go_at_call 40; (with_reducible refine (CFO.out _ (HGW2.out _ ?_) ?_).mono ?_); (simp [*]); (simp [*]); rintro e w6 ⟨rfl, c0, c1, c2, c3, c4, hG6⟩)
    refine hK.out _ _ ?_ (fun hHeld => ?_)
    · first | assumption | (try dsimp only); go_keep
    clear hK K
    try simp only [Act.put, List.getElem_toArray, List.getElem_cons_succ, List.getElem_cons_zero, List.setIfInBounds_toArray, List.set_cons_zero, List.set_cons_succ]
    refine wpAnyH_take (i := 10) (v := ?_) rfl (by kernel_rfl) (by kernel_rfl) (by kernel_rfl) (fun _ _ _ h => h) (Or.inl ⟨by rfl, ?_⟩) (by assumption) ?_
    rotate_left
    · intro w hSw; (try dsimp only at hSw); first | (go_simp; done) | (go_simp; with_reducible rfl)
    try simp only [Act.put, List.getElem_toArray, List.getElem_cons_succ, List.getElem_cons_zero, List.setIfInBounds_toArray, List.set_cons_zero, List.set_cons_succ]
    refine wpAnyH_take (i := 11) (v := ?_) rfl (by kernel_rfl) (by kernel_rfl) (by kernel_rfl) (fun _ _ _ h => h) (Or.inl ⟨by rfl, ?_⟩) (by assumption) ?_
    rotate_left
    · intro w hSw; (try dsimp only at hSw); first | (go_simp; done) | (go_simp; with_reducible rfl)
    try simp only [Act.put, List.getElem_toArray, List.getElem_cons_succ, List.getElem_cons_zero, List.setIfInBounds_toArray, List.set_cons_zero, List.set_cons_succ]
    refine wpAnyH_take (i := 12) (v := ?_) rfl (by kernel_rfl) (by kernel_rfl) (by kernel_rfl) (fun _ _ _ h => h) (Or.inl ⟨by rfl, ?_⟩) (by assumption) ?_
    rotate_left
    · intro w hSw; (try dsimp only at hSw); first | (go_simp; done) | (go_simp; with_reducible rfl)
    try simp only [Act.put, List.getElem_toArray, List.getElem_cons_succ, List.getElem_cons_zero, List.setIfInBounds_toArray, List.set_cons_zero, List.set_cons_succ]
    refine wpAnyH_take (i := 13) (v := ?_) rfl (by kernel_rfl) (by kernel_rfl) (by kernel_rfl) (fun _ _ _ h => h) (Or.inl ⟨by rfl, ?_⟩) (by assumption) ?_
    rotate_left
    · intro w hSw; (try dsimp only at hSw); first | (go_simp; done) | (go_simp; with_reducible rfl)
    try simp only [Act.put, List.getElem_toArray, List.getElem_cons_succ, List.getElem_cons_zero, List.setIfInBounds_toArray, List.set_cons_zero, List.set_cons_succ]
    refine wpAnyH_take (i := 14) (v := ?_) rfl (by kernel_rfl) (by kernel_rfl) (by kernel_rfl) (fun _ _ _ h => h) (Or.inl ⟨by rfl, ?_⟩) (by assumption) ?_
    rotate_left
    · intro w hSw; (try dsimp only at hSw); first | (go_simp; done) | (go_simp; with_reducible rfl)
    try simp only [Act.put, List.getElem_toArray, List.getElem_cons_succ, List.getElem_cons_zero, List.setIfInBounds_toArray, List.set_cons_zero, List.set_cons_succ]
    refine wpAnyH_take (i := 15) (v := ?_) rfl (by kernel_rfl) (by kernel_rfl) (by kernel_rfl) (fun _ _ _ h => h) (Or.inl ⟨by rfl, ?_⟩) (by assumption) ?_
    rotate_left
    · intro w hSw; (try dsimp only at hSw); first | (go_simp; done) | (go_simp; with_reducible rfl)
    try simp only [Act.put, List.getElem_toArray, List.getElem_cons_succ, List.getElem_cons_zero, List.setIfInBounds_toArray, List.set_cons_zero, List.set_cons_succ]
    refine wpAnyH_take (i := 16) (v := ?_) rfl (by kernel_rfl) (by kernel_rfl) (by kernel_rfl) (fun _ _ _ h => h) (Or.inl ⟨by rfl, ?_⟩) (by assumption) ?_
    rotate_left
    · intro w hSw; (try dsimp only at hSw); first | (go_simp; done) | (go_simp; with_reducible rfl)
    try simp only [Act.put, List.getElem_toArray, List.getElem_cons_succ, List.getElem_cons_zero, List.setIfInBounds_toArray, List.set_cons_zero, List.set_cons_succ]
    refine wpAnyH_take (i := 17) (v := ?_) rfl (by kernel_rfl) (by kernel_rfl) (by kernel_rfl) (fun _ _ _ h => h) (Or.inl ⟨by rfl, ?_⟩) (by assumption) ?_
    rotate_left
    · intro w hSw; (try dsimp only at hSw); first | (go_simp; done) | (go_simp; with_reducible rfl)
    try simp only [Act.put, List.getElem_toArray, List.getElem_cons_succ, List.getElem_cons_zero, List.setIfInBounds_toArray, List.set_cons_zero, List.set_cons_succ]
    refine wpAnyH_take (i := 18) (v := undef) rfl (by kernel_rfl) (by kernel_rfl) (by kernel_rfl) (fun _ _ _ h => h) (Or.inr ⟨by rfl, rfl⟩) (by assumption) ?_
    try simp only [Act.put, List.getElem_toArray, List.getElem_cons_succ, List.getElem_cons_zero, List.setIfInBounds_toArray, List.set_cons_zero, List.set_cons_succ]
    refine wpAnyH_take (i := 19) (v := undef) rfl (by kernel_rfl) (by kernel_rfl) (by kernel_rfl) (fun _ _ _ h => h) (Or.inr ⟨by rfl, rfl⟩) (by assumption) ?_
    try simp only [Act.put, List.getElem_toArray, List.getElem_cons_succ, List.getElem_cons_zero, List.setIfInBounds_toArray, List.set_cons_zero, List.set_cons_succ]
    refine wpAnyH_take (i := 20) (v := undef) rfl (by kernel_rfl) (by kernel_rfl) (by kernel_rfl) (fun _ _ _ h => h) (Or.inr ⟨by rfl, rfl⟩) (by assumption) ?_
    try simp only [Act.put, List.getElem_toArray, List.getElem_cons_succ, List.getElem_cons_zero, List.setIfInBounds_toArray, List.set_cons_zero, List.set_cons_succ]
    refine wpAnyH_take (i := 21) (v := undef) rfl (by kernel_rfl) (by kernel_rfl) (by kernel_rfl) (fun _ _ _ h => h) (Or.inr ⟨by rfl, rfl⟩) (by assumption) ?_
    try simp only [Act.put, List.getElem_toArray, List.getElem_cons_succ, List.getElem_cons_zero, List.setIfInBounds_toArray, List.set_cons_zero, List.set_cons_succ]
    refine wpAnyH_take (i := 22) (v := ?_) rfl (by kernel_rfl) (by kernel_rfl) (by kernel_rfl) (fun _ _ _ h => h) (Or.inl ⟨by rfl, ?_⟩) (by assumption) ?_
    rotate_left
    · intro w hSw; (try dsimp only at hSw); first | (go_simp; done) | (go_simp; with_reducible rfl)
    try simp only [Act.put, List.getElem_toArray, List.getElem_cons_succ, List.getElem_cons_zero, List.setIfInBounds_toArray, List.set_cons_zero, List.set_cons_succ]
    refine wpAnyH_done (by kernel_rfl) ?_ _
    all_goals
      go_wp2_with fail
      go_ret
      exact ⟨rfl, HBA.out.trans ((show Below (g + 2) wa _ by assumption).mono (by omega))⟩
  have f2 : ((kk : Int) == 41) = false := beq_eq_false_iff_ne.2 (by omega)
  by_cases hl : (5000 : Int) < y.size
  · clear h41
    go_wp2_with fail
    first | (go_region_held3 (fun w' => w'.cell? ⟨g, 0, none⟩ = some (.string x) ∧ w'.cell? ⟨g, 1, none⟩ = some (.int .u16 kk) ∧ w'.cell? ⟨g, 2, none⟩ = some (.int .u16 kl) ∧ w'.cell? ⟨g, 3, none⟩ = some (.bool kd) ∧ w'.cell? ⟨g + 1, 0, none⟩ = some (.string y) ∧ Below (g + 2) wa w') (go_keep) (first | (go_at_call 39; (with_reducible refine (CIS.out _ (HGW2.out _ ?_) ?_).mono ?_); (simp [*]); (simp [*]); rintro e w5 ⟨rfl, c0, c1, c2, c3, c4, hG5⟩) | (go_at_call 40; (with_reducible refine (CFO.out _ (HGW2.out _ ?_) ?_).mono ?_); (simp [*]); (simp [*]); rintro e w6 ⟨rfl, c0, c1, c2, c3, c4, hG6⟩))) | fail
    all_goals
      go_wp2_with fail
      go_ret
      exact ⟨rfl, HBA.out.trans ((show Below (g + 2) wa _ by assumption).mono (by omega))⟩
  have f3 : decide ((5000 : Int) < y.size) = false := decide_eq_false (by omega)
  have f4 : ((kk : Int) == 41) = false := f2
  have HX5 : Hid (x.size ≤ 1000000) := by
    obtain ⟨L, hL⟩ := isN_some HBN.out
    have h2 := (labels_some hL).2.2
    have h3 : x.data.toList.length = x.size := by rw [Array.length_toList]; rfl
    show _ ≤ _
    omega
  have H41 := Lib.hid h41
  have HXL : Hid (x.data.toList.length ≤ maxLen) := by rw [Array.length_toList]; exact hx
  have HFO : Hid (foldN x.data.toList = x.data.toList) := by
    have h : mk (foldN x.data.toList) = x := HT.out.trans htx
    have h2 := congrArg (fun b : ByteArray => b.data.toList) h
    exact h2
  have HTX := Lib.hid htx
  have HFG := Lib.hid hfg
  clear hl h41 htx f4 hfg
  go_upto_region 3 with fail
  go_region_held3 (fun w' => w'.cell? ⟨g, 0, none⟩ = some (.string x) ∧ w'.cell? ⟨g, 1, none⟩ = some (.int .u16 kk) ∧ w'.cell? ⟨g, 2, none⟩ = some (.int .u16 kl) ∧ w'.cell? ⟨g, 3, none⟩ = some (.bool kd) ∧ w'.cell? ⟨g + 1, 0, none⟩ = some (.string y) ∧ Below (g + 2) wa w') (go_keep) (first | (go_at_call 39; (with_reducible refine (CIS.out _ (HGW2.out _ ?_) ?_).mono ?_); (simp [*]); (simp [*]); rintro e w5 ⟨rfl, c0, c1, c2, c3, c4, hG5⟩) | (go_at_call 40; (with_reducible refine (CFO.out _ (HGW2.out _ ?_) ?_).mono ?_); (simp [*]); (simp [*]); rintro e w6 ⟨rfl, c0, c1, c2, c3, c4, hG6⟩))
  clear CIS CFO HGW HGW2 HTX
  have HK6 : Hid (Below (g + 2) wa w6) := hG6
  have s6 : g + 2 ≤ w6.heap.size := by have h := hG6.size; rw [HSA.out] at h; exact h
  have HMK := Lib.hid (make_is id x kk kl kd w6 HX5.out)
  go_wp2_with fail
  refine HMK.out.mono ?_
  rintro e w7 ⟨Aq, Ax, nx, cx, Zx, he, hmv, hnx, n1⟩
  have he' : e = .returned (.agg #[.int .u16 id, .int .u16 256, .slice Aq 1 1, .slice none 0 0, .slice none 0 0, .slice Ax nx cx]) := he
  subst he'
  clear c0 c1 c2 c3 c4
  have K7 : Hid (Below (g + 2) wa w7) := HK6.out.trans (n1.mono s6)
  have s7 : g + 2 ≤ w7.heap.size := by have h := K7.out.size; rw [HSA.out] at h; exact h
  obtain ⟨b1, hb1⟩ : ∃ b, w7.heap.size = b := ⟨_, rfl⟩
  obtain ⟨w8, hw8⟩ : ∃ v, w7.alloc (.cells #[.int .u16 id, .int .u16 256, .slice Aq 1 1, .slice none 0 0, .slice none 0 0, .slice Ax nx cx] 26) = v := ⟨_, rfl⟩
  have n2 : Below b1 w7 w8 := by rw [← hw8, ← hb1]; exact (Below.refl _ _).alloc (Nat.le_refl _) _
  have HM8 : Hid (w8.heap[b1]? = some (.cells #[.int .u16 id, .int .u16 256, .slice Aq 1 1, .slice none 0 0, .slice none 0 0, .slice Ax nx cx] 26 (0, 0))) := by rw [← hw8, ← hb1]; exact heap_alloc_new w7 _
  have S8 : Hid (w8.heap.size = b1 + 1) := by show _ = _; rw [← hw8, ← hb1]; simp
  rw [hb1] at hmv s7
  have K8 : Hid (Below (g + 2) wa w8) := K7.out.trans (n2.mono s7)
  have HMV : Hid (MsgV w8 b1 (makeM id ⟨x.data.toList, kk, kl, kd⟩) Aq none none Ax 1 0 0 nx 0 0 cx [] [] Zx) := hmv.on n2 (Nat.le_refl _)
  have HW8 := Lib.hid hw8
  clear hmv n1 n2 hw8 hG6 HMK s6
  go_upto_region 6 with fail
  rw [HW8.out]
  clear hb1
  have m0 := cell_of_row _ _ 0 _ _ _ HM8.out
  have m1 := cell_of_row _ _ 1 _ _ _ HM8.out
  have m2 := cell_of_row _ _ 2 _ _ _ HM8.out
  have m3 := cell_of_row _ _ 3 _ _ _ HM8.out
  have m4 := cell_of_row _ _ 4 _ _ _ HM8.out
  have m5 := cell_of_row _ _ 5 _ _ _ HM8.out
  have HAM : Hid (askM (makeM id ⟨x.data.toList, kk, kl, kd⟩) = some ⟨x.data.toList, kk, kl, kd⟩) := ask_make HBN.out HFO.out H41.out
  have HAK := Lib.hid (ask_w (makeM id ⟨x.data.toList, kk, kl, kd⟩) Aq none none Ax 1 0 0 nx 1 0 0 cx b1 [] [] Zx (some ⟨x.data.toList, kk, kl, kd⟩) w8 HMV.out (by have := S8.out; omega) (qm_make hid HXL.out hkk hkl) HAM)
  go_wp2_with fail
  refine HAK.out.mono ?_
  rintro e w9 ⟨hret, n3⟩
  have hret' : e = .returned (.tuple #[.agg #[.string x, .int .u16 kk, .int .u16 kl, .bool kd], .int .i64 0]) := by have h : e = .returned (.tuple #[.agg (kyA (mk x.data.toList) kk kl kd), .int .i64 0]) := hret; rw [mk_data] at h; exact h
  subst hret'
  rw [S8.out] at n3
  have s9 : b1 + 1 ≤ w9.heap.size := by have h := n3.size; rw [S8.out] at h; exact h
  have K9 : Hid (Below (g + 2) wa w9) := K8.out.trans (n3.mono (by omega))
  obtain ⟨b2, hb2⟩ : ∃ b, w9.heap.size = b := ⟨_, rfl⟩
  obtain ⟨w10, hw10⟩ : ∃ v, w9.alloc (.cells #[.string x, .int .u16 kk, .int .u16 kl, .bool kd] 42) = v := ⟨_, rfl⟩
  have n4 : Below b2 w9 w10 := by rw [← hw10, ← hb2]; exact (Below.refl _ _).alloc (Nat.le_refl _) _
  have HX10 : Hid (w10.heap[b2]? = some (.cells #[.string x, .int .u16 kk, .int .u16 kl, .bool kd] 42 (0, 0))) := by rw [← hw10, ← hb2]; exact heap_alloc_new w9 _
  have S10 : Hid (w10.heap.size = b2 + 1) := by show _ = _; rw [← hw10, ← hb2]; simp
  have gb2 : b1 + 1 ≤ b2 := by omega
  have HM10 := Lib.hid ((n4.block b1 (by omega)).trans ((n3.block b1 (Nat.lt_succ_self b1)).trans HM8.out))
  have HW10 := Lib.hid hw10
  have HN10 : Hid (Below (b1 + 1) w8 w10) := n3.trans (n4.mono gb2)
  have K10 : Hid (Below (g + 2) wa w10) := K9.out.trans (n4.mono (by omega))
  have HK10 := Lib.hid ((K10.out.block g (by omega)).trans HX.out)
  have HY10 := Lib.hid ((K10.out.block (g + 1) (by omega)).trans HY.out)
  clear n3 n4 hw10 hret m0 m1 m2 m3 m4 m5 HAK
  go_upto_region 7 with fail
  rw [HW10.out]
  clear hb2
  have m0 := cell_of_row _ _ 0 _ _ _ HM10.out
  have m1 := cell_of_row _ _ 1 _ _ _ HM10.out
  have m2 := cell_of_row _ _ 2 _ _ _ HM10.out
  have m3 := cell_of_row _ _ 3 _ _ _ HM10.out
  have m4 := cell_of_row _ _ 4 _ _ _ HM10.out
  have m5 := cell_of_row _ _ 5 _ _ _ HM10.out
  have x0 := cell_of_row _ _ 0 _ _ _ HX10.out
  have x1 := cell_of_row _ _ 1 _ _ _ HX10.out
  have x2 := cell_of_row _ _ 2 _ _ _ HX10.out
  have x3 := cell_of_row _ _ 3 _ _ _ HX10.out
  have k0 := cell_of_row _ _ 0 _ _ _ HK10.out
  have k1 := cell_of_row _ _ 1 _ _ _ HK10.out
  have k2 := cell_of_row _ _ 2 _ _ _ HK10.out
  have k3 := cell_of_row _ _ 3 _ _ _ HK10.out
  have q0 : (x.toList == x.toList) = true := beq_self_eq_true _
  have q1 : ((kk : Int) == (kk : Int)) = true := beq_self_eq_true _
  have q2 : ((kl : Int) == (kl : Int)) = true := beq_self_eq_true _
  have q3 : ((id : Int) == (id : Int)) = true := beq_self_eq_true _
  have q4 : (kd == kd) = true := beq_self_eq_true _
  obtain ⟨b3, hb3⟩ : ∃ b, w10.heap.size = b := ⟨_, rfl⟩
  go_upto_region 11 with fail
  obtain ⟨f, hf⟩ : ∃ f, fg % 512 = f := ⟨_, rfl⟩
  have hf5 : f < 512 := by rw [← hf]; exact Nat.mod_lt _ (by decide)
  obtain ⟨F, hF⟩ : ∃ F, F = 32768 + f := ⟨_, rfl⟩
  have hFi : (32768 : Int) + (fg : Int) % 512 = (F : Int) := by omega
  have hF6 : F ≤ 65535 := by omega
  rw [hFi]
  obtain ⟨w11, hw11⟩ : ∃ v, w10.alloc (.cells #[.int .u16 id, .int .u16 F, .slice Aq 1 1, .slice none 0 0, .slice none 0 0, .slice Ax nx cx] 26) = v := ⟨_, rfl⟩
  have n5 : Below b3 w10 w11 := by rw [← hw11, ← hb3]; exact (Below.refl _ _).alloc (Nat.le_refl _) _
  have hA11 : w11.heap[b3]? = some (.cells #[.int .u16 id, .int .u16 F, .slice Aq 1 1, .slice none 0 0, .slice none 0 0, .slice Ax nx cx] 26 (0, 0)) := by rw [← hw11, ← hb3]; exact heap_alloc_new w10 _
  have S11 : Hid (w11.heap.size = b3 + 1) := by show _ = _; rw [← hw11, ← hb3]; simp
  have gb3 : b3 = b2 + 1 := by rw [← hb3]; exact S10.out
  have hM11 := (n5.block b1 (by omega)).trans HM10.out
  have hK11 := (n5.block g (by omega)).trans HK10.out
  have hY11 := (n5.block (g + 1) (by omega)).trans HY10.out
  have HV11 : Hid (MsgV w11 b1 (makeM id ⟨x.data.toList, kk, kl, kd⟩) Aq none none Ax 1 0 0 nx 0 0 cx [] [] Zx) := HMV.out.on ((HN10.out.mono (Nat.le_succ _)).trans (n5.mono (by omega))) (Nat.le_refl _)
  have K11 : Hid (Below g w w11) := HBA.out.trans ((K10.out.trans (n5.mono (by omega))).mono (by omega))
  rw [hw11]
  have ky3 := cell_of_row _ _ 3 _ _ _ hY11
  have kx3 := cell_of_row _ _ 3 _ _ _ hK11
  have kf3 := Lib.frozen_of_heap hY11 3
  obtain ⟨w12, hw12⟩ : ∃ v, w11.setCell ⟨g + 1, 3, none⟩ (.bool kd) = v := ⟨_, rfl⟩
  have HA12 : Hid (w12.heap[b3]? = some (.cells #[.int .u16 id, .int .u16 F, .slice Aq 1 1, .slice none 0 0, .slice none 0 0, .slice Ax nx cx] 26 (0, 0))) := by rw [← hw12]; exact (far_heap (by omega)).trans hA11
  have HM12 : Hid (w12.heap[b1]? = some (.cells #[.int .u16 id, .int .u16 256, .slice Aq 1 1, .slice none 0 0, .slice none 0 0, .slice Ax nx cx] 26 (0, 0))) := by rw [← hw12]; exact (far_heap (by omega)).trans hM11
  have HK12 : Hid (w12.heap[g]? = some (.cells (kyA x kk kl kd) 42 (0, 0))) := by rw [← hw12]; exact (far_heap (by omega)).trans hK11
  have HY12 : Hid (w12.heap[g + 1]? = some (.cells (kyA y ok ol kd) 42 (0, 0))) := by rw [← hw12]; exact set_heap hY11
  have S12 : Hid (w12.heap.size = b3 + 1) := by show _ = _; rw [← hw12, size_set]; exact S11.out
  have HV12 : Hid (MsgV w12 b1 (makeM id ⟨x.data.toList, kk, kl, kd⟩) Aq none none Ax 1 0 0 nx 0 0 cx [] [] Zx) := by rw [← hw12]; exact keepB_msg (keepB_set ky3) HV11.out
  have K12 : Hid (Below g w w12) := by rw [← hw12]; exact K11.out.setCell (Nat.le_succ g) _
  have HW12 := Lib.hid hw12
  have HF := Lib.hid hF
  have HGB : Hid (b1 + 1 ≤ b3 ∧ g + 2 ≤ b1) := ⟨by omega, by omega⟩
  clear hF hb3 n5 hA11 hM11 hK11 hY11 hw11 hw12 hf hFi m0 m1 m2 m3 m4 m5 x0 x1 x2 x3 k0 k1 k2 k3 gb3 gb2 s9 s7
  go_upto_region 12 with fail
  rw [HW12.out]
  clear ky3 kx3 kf3
  have k0 := cell_of_row _ _ 0 _ _ _ HK12.out
  have k1 := cell_of_row _ _ 1 _ _ _ HK12.out
  have k2 := cell_of_row _ _ 2 _ _ _ HK12.out
  have k3 := cell_of_row _ _ 3 _ _ _ HK12.out
  have j0 := cell_of_row _ _ 0 _ _ _ HY12.out
  have j1 := cell_of_row _ _ 1 _ _ _ HY12.out
  have j2 := cell_of_row _ _ 2 _ _ _ HY12.out
  have j3 := cell_of_row _ _ 3 _ _ _ HY12.out
  have a0 := cell_of_row _ _ 0 _ _ _ HA12.out
  have a1 := cell_of_row _ _ 1 _ _ _ HA12.out
  have a2 := cell_of_row _ _ 2 _ _ _ HA12.out
  have a3 := cell_of_row _ _ 3 _ _ _ HA12.out
  have a4 := cell_of_row _ _ 4 _ _ _ HA12.out
  have a5 := cell_of_row _ _ 5 _ _ _ HA12.out
  have m0 := cell_of_row _ _ 0 _ _ _ HM12.out
  have m1 := cell_of_row _ _ 1 _ _ _ HM12.out
  have m2 := cell_of_row _ _ 2 _ _ _ HM12.out
  have m3 := cell_of_row _ _ 3 _ _ _ HM12.out
  have m4 := cell_of_row _ _ 4 _ _ _ HM12.out
  have m5 := cell_of_row _ _ 5 _ _ _ HM12.out
  obtain ⟨p1, hp1⟩ : ∃ p, (y.toList == x.toList) = p := ⟨_, rfl⟩
  obtain ⟨p2, hp2⟩ : ∃ p, ((ok : Int) == (kk : Int)) = p := ⟨_, rfl⟩
  obtain ⟨p3, hp3⟩ : ∃ p, ((ol : Int) == (kl : Int)) = p := ⟨_, rfl⟩
  obtain ⟨c2, hc2⟩ : ∃ p, ((no : Int) == (id : Int)) = p := ⟨_, rfl⟩
  have hq2 : decide (id = no) = c2 := by
    rw [← hc2]
    by_cases h : id = no
    · subst h; rw [decide_eq_true rfl]; exact (beq_self_eq_true _).symm
    · rw [decide_eq_false h]; exact (beq_eq_false_iff_ne.2 (by omega)).symm
  obtain ⟨c3, hc3⟩ : ∃ c, (p1 && (p2 && p3)) = c := ⟨_, rfl⟩
  have hq3 : decide (x.data.toList = y.data.toList ∧ kk = ok ∧ kl = ol) = c3 := by
    rw [← hc3, ← hp1, ← hp2, ← hp3]
    by_cases h : x = y
    · subst h
      rw [beq_self_eq_true, Bool.true_and]
      by_cases h2 : kk = ok
      · subst h2
        rw [beq_self_eq_true, Bool.true_and]
        by_cases h3 : kl = ol
        · subst h3; rw [beq_self_eq_true]; exact decide_eq_true ⟨rfl, rfl, rfl⟩
        · rw [decide_eq_false (fun e => h3 e.2.2)]; exact (beq_eq_false_iff_ne.2 (by omega)).symm
      · rw [decide_eq_false (fun e => h2 e.2.1), beq_eq_false_iff_ne.2 (by omega : (ok : Int) ≠ kk), Bool.false_and]
    · rw [decide_eq_false (fun e => h (list_inj e.1)), ne_toList (fun e => h e.symm), Bool.false_and]
  have HVM := fun W (h : Below (b3 + 1) w12 W) => HV12.out.on (h.mono (show b1 ≤ b3 + 1 by have := HGB.out; omega)) (Nat.le_refl b1)
  have hle : ∀ {W : World}, b3 + 1 ≤ W.heap.size → b1 ≤ W.heap.size := fun h => by have := HGB.out; omega
  have hfa := (qm_answer (F := F) (k := ⟨x.data.toList, kk, kl, kd⟩) hid hF6 HXL.out hkk hkl)
  have M1 : ∀ W, Below (b3 + 1) w12 W → b3 + 1 ≤ W.heap.size → Calls Try.prog 27 #[.agg #[.string x, .int .u16 kk, .int .u16 kl, .bool kd], .int .u16 id, .agg #[.int .u16 id, .int .u16 F, .slice Aq 1 1, .slice none 0 0, .slice none 0 0, .slice Ax nx cx]] W fun e w' => e = .returned (.bool true) ∧ Below W.heap.size W w' := fun W hb hs =>
    fits_w x kk kl kd id (answerOf id F ⟨x.data.toList, kk, kl, kd⟩) Aq none none Ax 1 0 0 nx 1 0 0 cx b1 [] [] Zx true W (answer_v (HVM W hb)) (hle hs) hfa (by show _ = _; rw [HF.out, fits_answer HFO.out hf5]; simp)
  have M2 : ∀ W, Below (b3 + 1) w12 W → b3 + 1 ≤ W.heap.size → Calls Try.prog 27 #[.agg #[.string x, .int .u16 kk, .int .u16 kl, .bool kd], .int .u16 no, .agg #[.int .u16 id, .int .u16 F, .slice Aq 1 1, .slice none 0 0, .slice none 0 0, .slice Ax nx cx]] W fun e w' => e = .returned (.bool c2) ∧ Below W.heap.size W w' := fun W hb hs =>
    fits_w x kk kl kd no (answerOf id F ⟨x.data.toList, kk, kl, kd⟩) Aq none none Ax 1 0 0 nx 1 0 0 cx b1 [] [] Zx c2 W (answer_v (HVM W hb)) (hle hs) hfa (by show _ = _; rw [HF.out, fits_answer HFO.out hf5, ← hq2]; simp)
  have M3 : ∀ W, Below (b3 + 1) w12 W → b3 + 1 ≤ W.heap.size → Calls Try.prog 27 #[.agg #[.string y, .int .u16 ok, .int .u16 ol, .bool kd], .int .u16 id, .agg #[.int .u16 id, .int .u16 F, .slice Aq 1 1, .slice none 0 0, .slice none 0 0, .slice Ax nx cx]] W fun e w' => e = .returned (.bool c3) ∧ Below W.heap.size W w' := fun W hb hs =>
    fits_w y ok ol kd id (answerOf id F ⟨x.data.toList, kk, kl, kd⟩) Aq none none Ax 1 0 0 nx 1 0 0 cx b1 [] [] Zx c3 W (answer_v (HVM W hb)) (hle hs) hfa (by show _ = _; rw [HF.out, fits_answer HFO.out hf5, ← hq3]; simp)
  have M4 : ∀ W, Below (b3 + 1) w12 W → b3 + 1 ≤ W.heap.size → Calls Try.prog 27 #[.agg #[.string x, .int .u16 kk, .int .u16 kl, .bool kd], .int .u16 id, .agg #[.int .u16 id, .int .u16 256, .slice Aq 1 1, .slice none 0 0, .slice none 0 0, .slice Ax nx cx]] W fun e w' => e = .returned (.bool false) ∧ Below W.heap.size W w' := fun W hb hs =>
    fits_w x kk kl kd id (makeM id ⟨x.data.toList, kk, kl, kd⟩) Aq none none Ax 1 0 0 nx 1 0 0 cx b1 [] [] Zx false W (HVM W hb) (hle hs) (qm_make hid HXL.out hkk hkl).few fits_query
  have C1 := Lib.hid (fun W hs h => held20 ⟨g, 0, none⟩ ⟨g, 1, none⟩ ⟨g, 2, none⟩ ⟨g, 3, none⟩ ⟨g + 1, 0, none⟩ ⟨g + 1, 1, none⟩ ⟨g + 1, 2, none⟩ ⟨g + 1, 3, none⟩ ⟨b3, 0, none⟩ ⟨b3, 1, none⟩ ⟨b3, 2, none⟩ ⟨b3, 3, none⟩ ⟨b3, 4, none⟩ ⟨b3, 5, none⟩ ⟨b1, 0, none⟩ ⟨b1, 1, none⟩ ⟨b1, 2, none⟩ ⟨b1, 3, none⟩ ⟨b1, 4, none⟩ ⟨b1, 5, none⟩ (.string x) (.int .u16 kk) (.int .u16 kl) (.bool kd) (.string y) (.int .u16 ok) (.int .u16 ol) (.bool kd) (.int .u16 id) (.int .u16 F) (.slice Aq 1 1) (.slice none 0 0) (.slice none 0 0) (.slice Ax nx cx) (.int .u16 id) (.int .u16 256) (.slice Aq 1 1) (.slice none 0 0) (.slice none 0 0) (.slice Ax nx cx) M1 W hs h)
  have C2 := Lib.hid (fun W hs h => held20 ⟨g, 0, none⟩ ⟨g, 1, none⟩ ⟨g, 2, none⟩ ⟨g, 3, none⟩ ⟨g + 1, 0, none⟩ ⟨g + 1, 1, none⟩ ⟨g + 1, 2, none⟩ ⟨g + 1, 3, none⟩ ⟨b3, 0, none⟩ ⟨b3, 1, none⟩ ⟨b3, 2, none⟩ ⟨b3, 3, none⟩ ⟨b3, 4, none⟩ ⟨b3, 5, none⟩ ⟨b1, 0, none⟩ ⟨b1, 1, none⟩ ⟨b1, 2, none⟩ ⟨b1, 3, none⟩ ⟨b1, 4, none⟩ ⟨b1, 5, none⟩ (.string x) (.int .u16 kk) (.int .u16 kl) (.bool kd) (.string y) (.int .u16 ok) (.int .u16 ol) (.bool kd) (.int .u16 id) (.int .u16 F) (.slice Aq 1 1) (.slice none 0 0) (.slice none 0 0) (.slice Ax nx cx) (.int .u16 id) (.int .u16 256) (.slice Aq 1 1) (.slice none 0 0) (.slice none 0 0) (.slice Ax nx cx) M2 W hs h)
  have C3 := Lib.hid (fun W hs h => held20 ⟨g, 0, none⟩ ⟨g, 1, none⟩ ⟨g, 2, none⟩ ⟨g, 3, none⟩ ⟨g + 1, 0, none⟩ ⟨g + 1, 1, none⟩ ⟨g + 1, 2, none⟩ ⟨g + 1, 3, none⟩ ⟨b3, 0, none⟩ ⟨b3, 1, none⟩ ⟨b3, 2, none⟩ ⟨b3, 3, none⟩ ⟨b3, 4, none⟩ ⟨b3, 5, none⟩ ⟨b1, 0, none⟩ ⟨b1, 1, none⟩ ⟨b1, 2, none⟩ ⟨b1, 3, none⟩ ⟨b1, 4, none⟩ ⟨b1, 5, none⟩ (.string x) (.int .u16 kk) (.int .u16 kl) (.bool kd) (.string y) (.int .u16 ok) (.int .u16 ol) (.bool kd) (.int .u16 id) (.int .u16 F) (.slice Aq 1 1) (.slice none 0 0) (.slice none 0 0) (.slice Ax nx cx) (.int .u16 id) (.int .u16 256) (.slice Aq 1 1) (.slice none 0 0) (.slice none 0 0) (.slice Ax nx cx) M3 W hs h)
  have C4 := Lib.hid (fun W hs h => held20 ⟨g, 0, none⟩ ⟨g, 1, none⟩ ⟨g, 2, none⟩ ⟨g, 3, none⟩ ⟨g + 1, 0, none⟩ ⟨g + 1, 1, none⟩ ⟨g + 1, 2, none⟩ ⟨g + 1, 3, none⟩ ⟨b3, 0, none⟩ ⟨b3, 1, none⟩ ⟨b3, 2, none⟩ ⟨b3, 3, none⟩ ⟨b3, 4, none⟩ ⟨b3, 5, none⟩ ⟨b1, 0, none⟩ ⟨b1, 1, none⟩ ⟨b1, 2, none⟩ ⟨b1, 3, none⟩ ⟨b1, 4, none⟩ ⟨b1, 5, none⟩ (.string x) (.int .u16 kk) (.int .u16 kl) (.bool kd) (.string y) (.int .u16 ok) (.int .u16 ol) (.bool kd) (.int .u16 id) (.int .u16 F) (.slice Aq 1 1) (.slice none 0 0) (.slice none 0 0) (.slice Ax nx cx) (.int .u16 id) (.int .u16 256) (.slice Aq 1 1) (.slice none 0 0) (.slice none 0 0) (.slice Ax nx cx) M4 W hs h)
  have HGW : Hid (∀ W : World, W.cell? ⟨b3, 0, none⟩ = some (.int .u16 id) → b3 + 1 ≤ W.heap.size) := fun W h => by have h2 : b3 < W.heap.size := World.block_lt_of_cell? W _ h; omega
  have h0 : Below (b3 + 1) w12 w12.drew := (Below.refl _ _).drew
  have fc2 : (c2 == c2) = true := beq_self_eq_true _
  have HQ := Lib.hid hc2
  clear HVM hle hfa M1 M2 M3 M4 hq2 hq3
  cases p1 with
  | false =>
    obtain rfl : false = c3 := hc3
    go_wp2_with fail
    go_region_held3 (fun w' => w'.cell? ⟨g, 0, none⟩ = some (.string x) ∧ w'.cell? ⟨g, 1, none⟩ = some (.int .u16 kk) ∧ w'.cell? ⟨g, 2, none⟩ = some (.int .u16 kl) ∧ w'.cell? ⟨g, 3, none⟩ = some (.bool kd) ∧ w'.cell? ⟨g + 1, 0, none⟩ = some (.string y) ∧ w'.cell? ⟨g + 1, 1, none⟩ = some (.int .u16 ok) ∧ w'.cell? ⟨g + 1, 2, none⟩ = some (.int .u16 ol) ∧ w'.cell? ⟨g + 1, 3, none⟩ = some (.bool kd) ∧ w'.cell? ⟨b3, 0, none⟩ = some (.int .u16 id) ∧ w'.cell? ⟨b3, 1, none⟩ = some (.int .u16 F) ∧ w'.cell? ⟨b3, 2, none⟩ = some (.slice Aq 1 1) ∧ w'.cell? ⟨b3, 3, none⟩ = some (.slice none 0 0) ∧ w'.cell? ⟨b3, 4, none⟩ = some (.slice none 0 0) ∧ w'.cell? ⟨b3, 5, none⟩ = some (.slice Ax nx cx) ∧ w'.cell? ⟨b1, 0, none⟩ = some (.int .u16 id) ∧ w'.cell? ⟨b1, 1, none⟩ = some (.int .u16 256) ∧ w'.cell? ⟨b1, 2, none⟩ = some (.slice Aq 1 1) ∧ w'.cell? ⟨b1, 3, none⟩ = some (.slice none 0 0) ∧ w'.cell? ⟨b1, 4, none⟩ = some (.slice none 0 0) ∧ w'.cell? ⟨b1, 5, none⟩ = some (.slice Ax nx cx) ∧ Below (b3 + 1) w12 w') (first | assumption | go_keep) (first | (go_at_call 27; (with_reducible refine (C1.out _ (HGW.out _ ?_) ?_).mono ?_); (simp [*]); (first | assumption | (simp [*])); rintro e w13 ⟨rfl, hS⟩) | (go_at_call 27; (with_reducible refine (C2.out _ (HGW.out _ ?_) ?_).mono ?_); (simp [*]); (first | assumption | (simp [*])); rintro e w13 ⟨rfl, hS⟩) | (go_at_call 27; (with_reducible refine (C3.out _ (HGW.out _ ?_) ?_).mono ?_); (simp [*]); (first | assumption | (simp [*])); rintro e w13 ⟨rfl, hS⟩) | (go_at_call 27; (with_reducible refine (C4.out _ (HGW.out _ ?_) ?_).mono ?_); (simp [*]); (first | assumption | (simp [*])); rintro e w13 ⟨rfl, hS⟩))
    all_goals
      go_wp2_with fail
      go_ret
      exact ⟨rfl, K12.out.trans (hS.2.2.2.2.2.2.2.2.2.2.2.2.2.2.2.2.2.2.2.2.mono (by have := HGB.out; omega))⟩
  | true =>
  cases p2 with
  | false =>
    obtain rfl : false = c3 := hc3
    go_wp2_with fail
    go_region_held3 (fun w' => w'.cell? ⟨g, 0, none⟩ = some (.string x) ∧ w'.cell? ⟨g, 1, none⟩ = some (.int .u16 kk) ∧ w'.cell? ⟨g, 2, none⟩ = some (.int .u16 kl) ∧ w'.cell? ⟨g, 3, none⟩ = some (.bool kd) ∧ w'.cell? ⟨g + 1, 0, none⟩ = some (.string y) ∧ w'.cell? ⟨g + 1, 1, none⟩ = some (.int .u16 ok) ∧ w'.cell? ⟨g + 1, 2, none⟩ = some (.int .u16 ol) ∧ w'.cell? ⟨g + 1, 3, none⟩ = some (.bool kd) ∧ w'.cell? ⟨b3, 0, none⟩ = some (.int .u16 id) ∧ w'.cell? ⟨b3, 1, none⟩ = some (.int .u16 F) ∧ w'.cell? ⟨b3, 2, none⟩ = some (.slice Aq 1 1) ∧ w'.cell? ⟨b3, 3, none⟩ = some (.slice none 0 0) ∧ w'.cell? ⟨b3, 4, none⟩ = some (.slice none 0 0) ∧ w'.cell? ⟨b3, 5, none⟩ = some (.slice Ax nx cx) ∧ w'.cell? ⟨b1, 0, none⟩ = some (.int .u16 id) ∧ w'.cell? ⟨b1, 1, none⟩ = some (.int .u16 256) ∧ w'.cell? ⟨b1, 2, none⟩ = some (.slice Aq 1 1) ∧ w'.cell? ⟨b1, 3, none⟩ = some (.slice none 0 0) ∧ w'.cell? ⟨b1, 4, none⟩ = some (.slice none 0 0) ∧ w'.cell? ⟨b1, 5, none⟩ = some (.slice Ax nx cx) ∧ Below (b3 + 1) w12 w') (first | assumption | go_keep) (first | (go_at_call 27; (with_reducible refine (C1.out _ (HGW.out _ ?_) ?_).mono ?_); (simp [*]); (first | assumption | (simp [*])); rintro e w13 ⟨rfl, hS⟩) | (go_at_call 27; (with_reducible refine (C2.out _ (HGW.out _ ?_) ?_).mono ?_); (simp [*]); (first | assumption | (simp [*])); rintro e w13 ⟨rfl, hS⟩) | (go_at_call 27; (with_reducible refine (C3.out _ (HGW.out _ ?_) ?_).mono ?_); (simp [*]); (first | assumption | (simp [*])); rintro e w13 ⟨rfl, hS⟩) | (go_at_call 27; (with_reducible refine (C4.out _ (HGW.out _ ?_) ?_).mono ?_); (simp [*]); (first | assumption | (simp [*])); rintro e w13 ⟨rfl, hS⟩))
    all_goals
      go_wp2_with fail
      go_ret
      exact ⟨rfl, K12.out.trans (hS.2.2.2.2.2.2.2.2.2.2.2.2.2.2.2.2.2.2.2.2.mono (by have := HGB.out; omega))⟩
  | true =>
  cases p3 with
  | false =>
    obtain rfl : false = c3 := hc3
    go_wp2_with fail
    go_region_held3 (fun w' => w'.cell? ⟨g, 0, none⟩ = some (.string x) ∧ w'.cell? ⟨g, 1, none⟩ = some (.int .u16 kk) ∧ w'.cell? ⟨g, 2, none⟩ = some (.int .u16 kl) ∧ w'.cell? ⟨g, 3, none⟩ = some (.bool kd) ∧ w'.cell? ⟨g + 1, 0, none⟩ = some (.string y) ∧ w'.cell? ⟨g + 1, 1, none⟩ = some (.int .u16 ok) ∧ w'.cell? ⟨g + 1, 2, none⟩ = some (.int .u16 ol) ∧ w'.cell? ⟨g + 1, 3, none⟩ = some (.bool kd) ∧ w'.cell? ⟨b3, 0, none⟩ = some (.int .u16 id) ∧ w'.cell? ⟨b3, 1, none⟩ = some (.int .u16 F) ∧ w'.cell? ⟨b3, 2, none⟩ = some (.slice Aq 1 1) ∧ w'.cell? ⟨b3, 3, none⟩ = some (.slice none 0 0) ∧ w'.cell? ⟨b3, 4, none⟩ = some (.slice none 0 0) ∧ w'.cell? ⟨b3, 5, none⟩ = some (.slice Ax nx cx) ∧ w'.cell? ⟨b1, 0, none⟩ = some (.int .u16 id) ∧ w'.cell? ⟨b1, 1, none⟩ = some (.int .u16 256) ∧ w'.cell? ⟨b1, 2, none⟩ = some (.slice Aq 1 1) ∧ w'.cell? ⟨b1, 3, none⟩ = some (.slice none 0 0) ∧ w'.cell? ⟨b1, 4, none⟩ = some (.slice none 0 0) ∧ w'.cell? ⟨b1, 5, none⟩ = some (.slice Ax nx cx) ∧ Below (b3 + 1) w12 w') (first | assumption | go_keep) (first | (go_at_call 27; (with_reducible refine (C1.out _ (HGW.out _ ?_) ?_).mono ?_); (simp [*]); (first | assumption | (simp [*])); rintro e w13 ⟨rfl, hS⟩) | (go_at_call 27; (with_reducible refine (C2.out _ (HGW.out _ ?_) ?_).mono ?_); (simp [*]); (first | assumption | (simp [*])); rintro e w13 ⟨rfl, hS⟩) | (go_at_call 27; (with_reducible refine (C3.out _ (HGW.out _ ?_) ?_).mono ?_); (simp [*]); (first | assumption | (simp [*])); rintro e w13 ⟨rfl, hS⟩) | (go_at_call 27; (with_reducible refine (C4.out _ (HGW.out _ ?_) ?_).mono ?_); (simp [*]); (first | assumption | (simp [*])); rintro e w13 ⟨rfl, hS⟩))
    all_goals
      go_wp2_with fail
      go_ret
      exact ⟨rfl, K12.out.trans (hS.2.2.2.2.2.2.2.2.2.2.2.2.2.2.2.2.2.2.2.2.mono (by have := HGB.out; omega))⟩
  | true =>
    obtain rfl : true = c3 := hc3
    go_wp2_with fail
    go_region_held3 (fun w' => w'.cell? ⟨g, 0, none⟩ = some (.string x) ∧ w'.cell? ⟨g, 1, none⟩ = some (.int .u16 kk) ∧ w'.cell? ⟨g, 2, none⟩ = some (.int .u16 kl) ∧ w'.cell? ⟨g, 3, none⟩ = some (.bool kd) ∧ w'.cell? ⟨g + 1, 0, none⟩ = some (.string y) ∧ w'.cell? ⟨g + 1, 1, none⟩ = some (.int .u16 ok) ∧ w'.cell? ⟨g + 1, 2, none⟩ = some (.int .u16 ol) ∧ w'.cell? ⟨g + 1, 3, none⟩ = some (.bool kd) ∧ w'.cell? ⟨b3, 0, none⟩ = some (.int .u16 id) ∧ w'.cell? ⟨b3, 1, none⟩ = some (.int .u16 F) ∧ w'.cell? ⟨b3, 2, none⟩ = some (.slice Aq 1 1) ∧ w'.cell? ⟨b3, 3, none⟩ = some (.slice none 0 0) ∧ w'.cell? ⟨b3, 4, none⟩ = some (.slice none 0 0) ∧ w'.cell? ⟨b3, 5, none⟩ = some (.slice Ax nx cx) ∧ w'.cell? ⟨b1, 0, none⟩ = some (.int .u16 id) ∧ w'.cell? ⟨b1, 1, none⟩ = some (.int .u16 256) ∧ w'.cell? ⟨b1, 2, none⟩ = some (.slice Aq 1 1) ∧ w'.cell? ⟨b1, 3, none⟩ = some (.slice none 0 0) ∧ w'.cell? ⟨b1, 4, none⟩ = some (.slice none 0 0) ∧ w'.cell? ⟨b1, 5, none⟩ = some (.slice Ax nx cx) ∧ Below (b3 + 1) w12 w') (first | assumption | go_keep) (first | (go_at_call 27; (with_reducible refine (C1.out _ (HGW.out _ ?_) ?_).mono ?_); (simp [*]); (first | assumption | (simp [*])); rintro e w13 ⟨rfl, hS⟩) | (go_at_call 27; (with_reducible refine (C2.out _ (HGW.out _ ?_) ?_).mono ?_); (simp [*]); (first | assumption | (simp [*])); rintro e w13 ⟨rfl, hS⟩) | (go_at_call 27; (with_reducible refine (C3.out _ (HGW.out _ ?_) ?_).mono ?_); (simp [*]); (first | assumption | (simp [*])); rintro e w13 ⟨rfl, hS⟩) | (go_at_call 27; (with_reducible refine (C4.out _ (HGW.out _ ?_) ?_).mono ?_); (simp [*]); (first | assumption | (simp [*])); rintro e w13 ⟨rfl, hS⟩))
    all_goals
      go_wp2_with fail
      go_ret
      exact ⟨rfl, K12.out.trans (hS.2.2.2.2.2.2.2.2.2.2.2.2.2.2.2.2.2.2.2.2.mono (by have := HGB.out; omega))⟩

set_option maxRecDepth 100000 in
theorem lifted (os : Os) (started : os.Started) (H : Type) (enc : TypeId × Value → H) :
    ReturnsInHanded {} Try.checked os 9 .any (Rows.queryBackSpec.pre6 enc Try.prog Try.f9 Rows.queryBackRow.domain false) (Rows.queryBackSpec.post enc Try.prog Try.f9 false true false false) := by
  refine returnsInHanded_of_change (C := Try.checked) own started (by kernel_rfl) Try.func9
    (ChangeSpec.witness6 (enc := enc) (C := Try.checked) false ⟨#[], #[.agg #[.string ByteArray.empty, .int .u16 0, .int .u16 0, .bool false], .agg #[.string ByteArray.empty, .int .u16 0, .int .u16 0, .bool false], .int .u16 0, .int .u16 0, .int .u16 0], []⟩ 8 (by kernel_rfl) (by kernel_rfl) (by kernel_rfl) (by kernel_rfl)) ?_
  intro W base args ds gs before hval0 hW hcnd _
  have hval : ∀ (j : Nat) t v, Try.f9.params[j]? = some t → args[j]? = some v → Value.okWide Try.prog W .any base t v := hval0
  have hW' := hW
  obtain ⟨p, q, hA0, hV, rfl, hfz, hnd⟩ := hW
  have hA : DataW.TrodAll enc Try.prog W 0 (fun _ => true) true Try.f9.params.toList args.toList ds p := hA0
  rw [Try.params9] at hA hval
  obtain ⟨v0, vs0, d0, ds0, p0, q0, hargs, rfl, rfl, h0, r0⟩ := trodAll_cons hA
  obtain ⟨v1, vs1, d1, ds1, p1, q1, rfl, rfl, rfl, h1, r1⟩ := trodAll_cons r0
  obtain ⟨v2, vs2, d2, ds2, p2, q2, rfl, rfl, rfl, h2, r2⟩ := trodAll_cons r1
  obtain ⟨v3, vs3, d3, ds3, p3, q3, rfl, rfl, rfl, h3, r3⟩ := trodAll_cons r2
  obtain ⟨v4, vs4, d4, ds4, p4, q4, rfl, rfl, rfl, h4, r4⟩ := trodAll_cons r3
  obtain ⟨rfl, rfl, rfl⟩ := trodAll_nil r4
  obtain rfl : args = #[v0, v1, v2, v3, v4] := by cases args; simp_all
  obtain ⟨rfl, rfl⟩ := trodVars_none hV
  have k00 := h0
  have lt0 : ∀ x ∈ p0, x.block < W.heap.size := by obtain ⟨m, hm⟩ := k00; exact DataW.trod_lt m _ _ _ hm
  have k10 := h1
  have lt1 : ∀ x ∈ p1, x.block < W.heap.size := by obtain ⟨m, hm⟩ := k10; exact DataW.trod_lt m _ _ _ hm
  obtain ⟨x, kk, kl, kd, hc0⟩ := came_key (hval 0 42 v0 rfl rfl) h0
  obtain ⟨rfl, hx0, hk0, hl0⟩ := hc0
  obtain ⟨y, ok, ol, od, hc1⟩ := came_key (hval 1 42 v1 rfl rfl) h1
  obtain ⟨rfl, hx1, hk1, hl1⟩ := hc1
  obtain ⟨z2, rfl, rfl, rfl, wf2⟩ := open_int Try.underlying22 (hval 2 22 v2 rfl rfl) h2
  have wf20 := wf2
  obtain ⟨m2, rfl, hm2⟩ := wf_u16 wf2
  obtain ⟨z3, rfl, rfl, rfl, wf3⟩ := open_int Try.underlying22 (hval 3 22 v3 rfl rfl) h3
  have wf30 := wf3
  obtain ⟨m3, rfl, hm3⟩ := wf_u16 wf3
  obtain ⟨z4, rfl, rfl, rfl, wf4⟩ := open_int Try.underlying22 (hval 4 22 v4 rfl rfl) h4
  have wf40 := wf4
  obtain ⟨m4, rfl, hm4⟩ := wf_u16 wf4
  clear hA0 hval0
  refine (walk x y kk kl ok ol kd od m2 m3 m4 W hx0 hx1 hk0 hl0 hk1 hl1 hm2 hm3 hm4).mono fun e W' ⟨he, bel⟩ => ?_
  subst he
  exact ⟨_, rfl, _, _, _, [], _, [], hW', trodAll_mk1 (shut_bool Try.underlying4 _), (trodAll_cons_mk (Below.trod laidOut (by kernel_rfl) (of_decide_eq_true (by kernel_rfl)) k00 bel lt0) (trodAll_cons_mk (Below.trod laidOut (by kernel_rfl) (of_decide_eq_true (by kernel_rfl)) k10 bel lt1) (trodAll_cons_mk (shut_int Try.underlying22 wf20) (trodAll_cons_mk (shut_int Try.underlying22 wf30) (trodAll_cons_mk (shut_int Try.underlying22 wf40) trodAll_mk0))))), rfl, bel.frame _, fun h => by cases h⟩

theorem over : Rows.queryBackRow.holds Try.pinned (OpenSpec.ofChange Rows.queryBackSpec) :=
  OpenClaim.holds_of_wide 9 Try.f9 rfl rfl rfl rfl rfl rfl rfl ⟨rfl, rfl, rfl, rfl, rfl⟩ rfl rfl rfl rfl rfl (by kernel_rfl) Try.func9 (by kernel_rfl)
    (of_decide_eq_true (by kernel_rfl)) (by unfold Func.isWrapper; first | (rw [if_pos (by decide +kernel)]; kernel_rfl) | (rw [if_neg (by decide +kernel)]; exact ⟨rfl, rfl⟩))
    (fun os started H enc _ => lifted os started H enc)

theorem proved : Rows.QueryBackSaid := over
#print axioms proved
end Go.Proofs.Ytpmmjmnleoicjaa.queryBack
