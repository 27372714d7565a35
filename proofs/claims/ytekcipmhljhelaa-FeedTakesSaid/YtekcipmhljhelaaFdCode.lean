/- The code of layer 15: New, Add, Held, Down; feeds that go their own ways. For at most 200000 bytes at one time. -/
import Derived.Test.YtekcipmhljhelaaProg
import Derived.Test.YtekcipmhljhelaaBytes
import Derived.Test.YtekcipmhljhelaaFrMath
import Derived.Test.YtekcipmhljhelaaFdMath
import Derived.Test.YtekcipmhljhelaaFdRow
import Derived.Test.YtekcipmhljhelaaFdBld
import Derived.Test.YtekcipmhljhelaaFdFrames
import Derived.WalkKit
import Derived.Lib.Hide
import Derived.Outline
import Derived.IntWalk
import Derived.WalkSpells
import Derived.WalkLawsBesides
import Derived.Laws.Rows
import Derived.Deep.CutRange
namespace Go.Proofs.Ytekcipmhljhelaa
open Go Go.RowKit Bytes Fr Fd

namespace Fd
/-- A feed in block b. -/
def FdAt (w : World) (b : Nat) (S : FSt) : Prop := FdB w b S.held S.want S.down
/-- The bytes of two feeds lie apart. -/
def Aps (w : World) (a b : Nat) : Prop := ∀ k, rowOf w a = some k → rowOf w b ≠ some k
section
variable {w w' : World} {a b : Nat} {S Sa Sb : FSt}
theorem FdAt.lt (h : FdAt w b S) : b < w.heap.size := by obtain ⟨p, v, h⟩ := h; exact h.lt
theorem FdAt.low (h : FdAt w b S) {k : Nat} (hk : rowOf w b = some k) : b ≤ k ∧ k < w.heap.size := by obtain ⟨p, v, h⟩ := h; exact h.vlt (h.row.symm.trans hk)
theorem FdAt.cells (h : FdAt w b S) : ∃ cs, w.heap[b]? = some (.cells cs 47 (0, 0)) := by obtain ⟨p, v, h⟩ := h; exact ⟨_, h.cells⟩
theorem FdAt.kind (h : FdAt w b S) {k : Nat} {c : Array Value} {e : TypeId} {fz : Nat × Nat} (hk : w.heap[k]? = some (.cells c e fz)) (he : e ≠ 5) : rowOf w b ≠ some k := by obtain ⟨p, v, h⟩ := h; exact h.kind hk he
theorem FdAt.below (h : FdAt w b S) (hB : Below w.heap.size w w') : FdAt w' b S := by obtain ⟨p, v, h⟩ := h; exact ⟨p, v, h.below hB⟩
theorem FdAt.row_below (h : FdAt w b S) (hB : Below w.heap.size w w') : rowOf w' b = rowOf w b := rowOf_same (hB.block b h.lt)
theorem Aps.below (h : Aps w a b) (hA : FdAt w a Sa) (hB : FdAt w b Sb) (k : Below w.heap.size w w') : Aps w' a b := fun i hi => by
  rw [hA.row_below k] at hi
  rw [hB.row_below k]
  exact h i hi
theorem Aps.symm (h : Aps w a b) : Aps w b a := fun k hk e => h k e hk
theorem aps_none (h : rowOf w a = none) : Aps w a b := fun k hk => by rw [h] at hk; cases hk
/-- Another feed stands while bytes come to one. -/
theorem FdAt.other (hA : FdAt w a Sa) (hB : FdAt w b Sb) (hk : FdK b w w') (hn : a ≠ b) (hap : Aps w a b) : FdAt w' a Sa ∧ Aps w' a b ∧ rowOf w' a = rowOf w a := by
  have hBk : ∀ {k c e fz}, w.heap[k]? = some (.cells c e fz) → e ≠ 5 → rowOf w b ≠ some k := fun hk he => hB.kind hk he
  obtain ⟨csb, hcb⟩ := hB.cells
  obtain ⟨p, v, h⟩ := hA
  have hba := hk.block a h.lt hn (hBk h.cells (by decide))
  have hra : ∀ k, rowOf w a = some k → k < w.heap.size := fun k hk => (h.vlt (h.row.symm.trans hk)).2
  refine ⟨⟨p, v, h.kept hba (fun k hk2 => hk.block k (hra k hk2) (fun e => h.kind hcb (by decide) (by rw [← e]; exact hk2)) (hap k hk2))⟩, fun k hk2 e => ?_, rowOf_same hba⟩
  rw [rowOf_same hba] at hk2
  rcases hk.row k e with e2 | e2
  · exact hap k hk2 e2
  · have := hra k hk2
    omega
end
/-- A feed stands while a row of frames grows. -/
theorem FdAt.grown2 {w w' : World} {g b n : Nat} {v : Value} {xs : List Value} {S : FSt} (hF : FdAt w b S) (h : w.ownsRow g 40 4 v n xs) (hG : w.grownBy w' v.ownBlock) : FdAt w' b S ∧ rowOf w' b = rowOf w b := by
  obtain ⟨p, u, hV⟩ := hF
  have hne : ∀ k, v.ownBlock = some k → ∃ c fz, w.heap[k]? = some (.cells c 40 fz) := fun k hk => by
    rcases h.2 with ⟨rfl, _⟩ | ⟨k2, cap, cur, rfl, _, hgg, _⟩
    · cases hk
    · injection hk with hk
      have hk : k2 = k := hk
      subst hk
      exact ⟨_, _, hgg⟩
  have hb : w'.heap[b]? = w.heap[b]? := hG.block b hV.lt (fun e => by
    obtain ⟨c, fz, hc⟩ := hne b e.symm
    rw [hV.cells] at hc
    injection hc with hc
    injection hc with _ h2
    exact absurd h2 (by decide))
  refine ⟨⟨p, u, hV.kept hb (fun k hk => hG.block k (hV.vlt (hV.row.symm.trans hk)).2 (fun e => ?_))⟩, rowOf_same hb⟩
  obtain ⟨c, fz, hc⟩ := hne k e.symm
  exact hV.kind hc (by decide) hk
/-- What Add leaves: its frames in a row that is new (or none), the feed. -/
structure AddEnd (b : Nat) (w w' : World) (v : Value) (n : Nat) (gs : List Frm) (S' : FSt) : Prop where
  own : w'.ownsRow w.heap.size 40 4 v n (frCs gs)
  len : gs.length = n
  fd : FdAt w' b S'
  kept : FdK b w w'
theorem all_whole' {l : List UInt8} (h : l.take 24 = pre) : all true l = run (l.drop 24) := by
  unfold all
  rw [if_pos rfl, if_pos h]
theorem rest_le (l : List UInt8) (c h : Nat) : (restL l c h).length ≤ l.length := by
  unfold restL
  split
  · exact Nat.zero_le _
  · rw [List.length_drop]; omega
theorem rest_whole {l : List UInt8} {c h : Nat} (e : (restL l c h).length = l.length) : restL l c h = l := by
  unfold restL at e ⊢
  split at e
  · rw [if_pos ‹_›]
    exact (List.length_eq_zero_iff.1 e.symm).symm
  · rw [if_neg ‹_›]
    rw [List.length_drop] at e
    rcases Nat.eq_zero_or_pos l.length with h0 | h0
    · rw [List.length_eq_zero_iff.1 h0, List.drop_nil]
    · rw [show l.length - h = 0 by omega, List.drop_zero]
theorem own_lowerF {w : World} {g g' n : Nat} {v : Value} {xs : List Value} (h : w.ownsRow g 40 4 v n xs) (hg : g' ≤ g) : w.ownsRow g' 40 4 v n xs := by
  refine ⟨h.1, ?_⟩
  rcases h.2 with hn | ⟨k, cap, cur, rfl, hb, rest⟩
  · exact .inl hn
  · exact .inr ⟨k, cap, cur, rfl, Nat.le_trans hg hb, rest⟩
/-- A row of frames stands while bytes come to a feed. -/
theorem own_feedK {w w' : World} {g b n : Nat} {v : Value} {xs : List Value} {l : List UInt8} {q d : Bool} (h : w.ownsRow g 40 4 v n xs) (hF : FdB w b l q d) (hk : FdK b w w') : w'.ownsRow g 40 4 v n xs := by
  obtain ⟨p, v2, hV⟩ := hF
  refine ⟨h.1, ?_⟩
  rcases h.2 with hn | ⟨k, cap, cur, rfl, hb, hgg, rest⟩
  · exact .inl hn
  · have hne : k ≠ b := fun e => by
      have hc := hV.cells
      rw [e] at hgg
      rw [hc] at hgg
      injection hgg with hgg
      injection hgg with _ h2
      exact absurd h2 (by decide)
    exact .inr ⟨k, cap, cur, rfl, hb, (hk.block k (world_lt hgg) hne (hV.kind hgg (by decide))).trans hgg, rest⟩
def hasP (s p : List UInt8) : Bool := decide (s.take p.length = p)
end Fd

set_option maxHeartbeats 2000000 in
set_option maxRecDepth 100000 in
theorem fnew2_is (q : Bool) (w : World) : Calls Try.prog 8 #[.bool q] w fun e w' => ∃ b, e = .returned (.pointer (some ⟨b, 0, none⟩)) ∧ w.heap.size ≤ b ∧ Hid (FdAt w' b ⟨q, [], false⟩) ∧ Below w.heap.size w w' ∧ rowOf w' b = none := by
  have hb := heap_alloc_new w (.cells #[.pointer none, .slice none 0 0, .bool q, .bool false] 47)
  have hF := Lib.hid (show FdV (w.alloc (.cells #[.pointer none, .slice none 0 0, .bool q, .bool false] 47)) w.heap.size (.pointer none) (.slice none 0 0) [] q false from ⟨.inl rfl, hb, World.ownsRowF_nil _ _ _ _, fun _ => rfl⟩)
  have HB := Lib.hid ((Below.refl _ w).alloc (Nat.le_refl _) (.cells #[.pointer none, .slice none 0 0, .bool q, .bool false] 47))
  clear hb
  go_enter Try.func8, Try.ntmps8
  go_wp2_with fail
  go_ret
  exact ⟨w.heap.size, rfl, Nat.le_refl _, Lib.hid ⟨_, _, hF.out⟩, HB.out, hF.out.row⟩
theorem fnew_is (q : Bool) (w : World) : Calls Try.prog 8 #[.bool q] w fun e w' => ∃ b, e = .returned (.pointer (some ⟨b, 0, none⟩)) ∧ w.heap.size ≤ b ∧ Hid (FdAt w' b ⟨q, [], false⟩) ∧ Below w.heap.size w w' := by
  refine (fnew2_is q w).mono ?_
  rintro e w' ⟨b, h1, h2, h3, h4, _⟩
  exact ⟨b, h1, h2, h3, h4⟩

set_option maxHeartbeats 2000000 in
set_option maxRecDepth 100000 in
theorem fheld_is (b : Nat) (S : FSt) (w : World) (hF : Hid (FdAt w b S)) : Calls Try.prog 11 #[.pointer (some ⟨b, 0, none⟩)] w fun e w' => e = .returned (.int .i64 (S.held.length : Int)) ∧ w = w' := by
  go_enter Try.func11, Try.ntmps11
  go_wp2_with fail
  refine (blen_any b S.held S.want S.down _ hF.out).mono ?_
  rintro e w1 ⟨rfl, rfl⟩
  go_wp2_with fail
  go_ret
  exact ⟨rfl, rfl⟩

set_option maxHeartbeats 2000000 in
set_option maxRecDepth 100000 in
theorem fdown_is (b : Nat) (S : FSt) (w : World) (hF : Hid (FdAt w b S)) : Calls Try.prog 10 #[.pointer (some ⟨b, 0, none⟩)] w fun e w' => e = .returned (.bool S.down) ∧ w = w' := by
  obtain ⟨p, v, h⟩ := hF.out
  have c3 : w.cell? ⟨b, 3, none⟩ = some (.bool S.down) := cell_of_row w b 3 _ _ _ h.cells
  clear h hF
  go_enter Try.func10, Try.ntmps10
  go_wp2_with fail
  go_ret
  exact ⟨rfl, rfl⟩

set_option maxHeartbeats 2000000 in
set_option maxRecDepth 100000 in
theorem pfx_lite (s p : ByteArray) (w : World) : Calls Try.prog 28 #[.string s, .string p] w fun e w' => e = .returned (.bool (hasP s.data.toList p.data.toList)) ∧ w = w' := by
  by_cases hle : p.size ≤ s.size
  · have h1 : (p.size : Int) ≤ (s.size : Int) := by omega
    have h0 : (0 : Int) ≤ (p.size : Int) := by omega
    go_enter Try.func28, Try.ntmps28
    go_wp2_with fail
    go_ret
    refine ⟨?_, rfl⟩
    show Ending.returned (.bool ((s.extract 0 p.size).toList == p.toList)) = _
    congr 2
    unfold hasP
    rw [Bool.eq_iff_iff, decide_eq_true_iff, beq_iff_eq, size_l, ← List.drop_zero (l := List.take p.size s.data.toList), ← extract_list]
    show (s.extract 0 p.size).toList = p.toList ↔ _
    rw [Lib.toList_data, Lib.toList_data]
  · have h1 : ¬ ((p.size : Int) ≤ (s.size : Int)) := by omega
    have hlt : s.size < p.size := by omega
    go_enter Try.func28, Try.ntmps28
    go_wp2_with fail
    go_ret
    refine ⟨?_, rfl⟩
    show Ending.returned (.bool false) = _
    congr 2
    unfold hasP
    symm
    refine decide_eq_false (fun e => ?_)
    have := congrArg List.length e
    rw [List.length_take, size_l, size_l] at this
    omega

set_option maxHeartbeats 2000000 in
set_option maxRecDepth 100000 in
theorem pfx_is (s p : ByteArray) (r : Bool) (w : World) (hr : Hid (hasP s.data.toList p.data.toList = r)) : Calls Try.prog 23 #[.string s, .string p] w fun e w' => e = .returned (.bool r) ∧ w = w' := by
  go_enter Try.func23, Try.ntmps23
  go_wp2_with fail
  refine (pfx_lite s p _).mono ?_
  rintro e w1 ⟨rfl, rfl⟩
  rw [hr.out]
  go_wp2_with fail
  go_ret
  exact ⟨rfl, rfl⟩

set_option maxHeartbeats 2000000 in
set_option maxRecDepth 100000 in
/-- keep: of what it holds only the rest stays. -/
theorem ckeep_is (b : Nat) (l : List UInt8) (q d : Bool) (r : ByteArray) (w : World) (hF : Hid (FdB w b l q d)) (hr : Hid (r.size = l.length → r.data.toList = l)) (hs : r.size ≤ 1000000) :
    Calls Try.prog 18 #[.pointer (some ⟨b, 0, none⟩), .string r] w fun e w' => e = .returned (.tuple #[]) ∧ Hid (FdB w' b r.data.toList q d) ∧ Hid (FdK b w w') := by
  by_cases he : r.size = l.length
  · have e1 := hr.out he
    have hi : ((r.size : Int) == (l.length : Int)) = true := by rw [he]; exact beq_self_eq_true _
    have hK : Hid (FdK b w w) := by obtain ⟨p, v, h⟩ := hF.out; exact Lib.hid (FdK.refl h)
    rw [e1]
    clear hr e1
    go_enter Try.func18, Try.ntmps18
    go_wp2_with fail
    refine (blen_any b l q d _ hF.out).mono ?_
    rintro e w1 ⟨rfl, rfl⟩
    go_wp2_with fail
    refine bodyPost_ret (results_none rfl _ _ _) rfl ?_
    exact ⟨rfl, hF, hK⟩
  · have hi : ((r.size : Int) == (l.length : Int)) = false := beq_eq_false_iff_ne.2 (by omega)
    clear hr
    go_enter Try.func18, Try.ntmps18
    go_wp2_with fail
    refine (blen_any b l q d _ hF.out).mono ?_
    rintro e w1 ⟨rfl, rfl⟩
    go_wp2_with fail
    refine (breset_any b l q d _ hF.out).mono ?_
    rintro e w2 ⟨rfl, hF2, hK2⟩
    have HF2 := Lib.hid hF2
    have HK2 := Lib.hid hK2
    clear hF2 hK2
    go_wp2_with fail
    refine (bstring_any b [] r q d _ HF2.out (by show 0 + r.size ≤ _; omega)).mono ?_
    rintro e w3 ⟨rfl, hF3, hK3⟩
    have HF3 := Lib.hid hF3
    have HK3 := Lib.hid (HK2.out.trans hK3)
    clear hF3 hK3
    go_wp2_with fail
    go_end0
    exact ⟨rfl, HF3, HK3⟩

theorem pre_text : (mk pre) = ⟨#[80, 82, 73, 32, 42, 32, 72, 84, 84, 80, 47, 50, 46, 48, 13, 10, 13, 10, 83, 77, 13, 10, 13, 10]⟩ := rfl
set_option maxHeartbeats 8000000 in
set_option maxRecDepth 100000 in
/-- cut: the frames that are there as a whole, what stays, the code. -/
theorem ccut_is (b : Nat) (l : List UInt8) (q : Bool) (s : ByteArray) (gs : List Frm) (c h : Nat) (w : World) (hF : Hid (FdB w b l q false)) (hs : s.size ≤ 1000000) (hr : Hid (all q s.data.toList = (gs, c, h))) :
    Calls Try.prog 16 #[.pointer (some ⟨b, 0, none⟩), .string s] w fun e w' => ∃ (v : Value) (n : Nat) (r : ByteArray), e = .returned (.tuple #[v, .string r, .int .u32 (c : Int)]) ∧ Hid (w'.ownsRow w.heap.size 40 4 v n (frCs gs)) ∧ Hid (gs.length = n) ∧ Hid (r.data.toList = restL s.data.toList c h) ∧ Hid (FdB w' b l (still q s.data.toList) false) ∧ Hid (FdK b w w') := by
  obtain ⟨p, v, hV⟩ := hF.out
  have c2 : w.cell? ⟨b, 2, none⟩ = some (.bool q) := cell_of_row w b 2 _ _ _ hV.cells
  have HV := Lib.hid hV
  have hsl := Lib.hid (size_l s)
  have hso := Lib.hid hs
  cases q with
  | false =>
    have hrr := hr.out
    rw [all_off] at hrr
    have HC := Lib.hid (fun W : World => cframes_is s gs c h W hs (Lib.hid hrr))
    clear hrr hr hV hF hs
    go_enter Try.func16, Try.ntmps16
    go_wp2_with fail
    refine (HC.out _).mono ?_
    rintro e w1 ⟨v1, n, r, rfl, hO, hn, hR, hB⟩
    have HF := Lib.hid (show FdB w1 b l false false from ⟨_, _, HV.out.below hB⟩)
    have HK := Lib.hid (FdK.of_below HV.out hB)
    clear hB
    go_wp2_with fail
    go_ret3
    exact ⟨v1, n, r, rfl, hO, hn, hR, HF, HK⟩
  | true =>
    by_cases h1 : s.data.toList.take 24 = pre
    · have h24 := len_of_pre h1
      rw [size_l] at h24
      have hrr := hr.out
      rw [all_whole' h1] at hrr
      obtain ⟨t, ht⟩ : ∃ t, s.extract 24 s.size = t := ⟨_, rfl⟩
      have htl : t.data.toList = s.data.toList.drop 24 := by rw [← ht, extract_list, ← size_l, List.take_length]
      have hts : t.size = s.size - 24 := by rw [← size_l, htl, List.length_drop, size_l]
      rw [← htl] at hrr
      have HC := Lib.hid (fun W : World => cframes_is t gs c h W (by omega) (Lib.hid hrr))
      have HP := Lib.hid (fun W : World => pfx_is s (mk pre) true W (Lib.hid (by unfold hasP; rw [mk_list]; exact decide_eq_true h1)))
      have hst : still true s.data.toList = false := by unfold still; rw [Bool.true_and]; exact decide_eq_false (by simp [h1])
      have hset := hV.cell 2 (.bool false) p false false hV.ptr rfl
      have f2 : w.frozen? ⟨b, 2, none⟩ = false := by simp [World.frozen?, hV.cells]
      have k2 : (w.setCell ⟨b, 2, none⟩ (.bool false)).cell? ⟨b, 2, none⟩ = some (.bool false) := cell_of_row _ b 2 _ _ _ hset.1.cells
      have HS := Lib.hid hset
      have i24 : (24 : Int) ≤ (s.size : Int) := by omega
      have HREST : Hid (restL t.data.toList c h = restL s.data.toList c h) := Lib.hid (by
        unfold restL
        split
        · rfl
        · have hh := (run_held t.data.toList).1
          rw [hrr, size_l] at hh
          have hh : h ≤ t.size := hh
          rw [htl, List.drop_drop, List.length_drop, size_l]
          congr 1
          omega)
      rw [pre_text] at HP
      rw [hst]
      clear hrr hr hV hF hs h1 hset htl hst h24 hts
      go_enter Try.func16, Try.ntmps16
      go_wp2_with fail
      refine (HP.out _).mono ?_
      rintro e w1 ⟨rfl, rfl⟩
      go_wp2_with fail
      refine (HC.out _).mono ?_
      rintro e w1 ⟨v1, n, r, rfl, hO, hn, hR, hB⟩
      have HF := Lib.hid (show FdB w1 b l false false from ⟨_, _, HS.out.1.below hB⟩)
      have HK := Lib.hid (HS.out.2.trans (FdK.of_below HS.out.1 hB))
      have HO : Hid (w1.ownsRow w.heap.size 40 4 v1 n (frCs gs)) := Lib.hid (by have := hO.out; simpa using this)
      clear hB hO
      go_wp2_with fail
      go_ret3
      exact ⟨v1, n, r, rfl, HO, hn, Lib.hid (hR.out.trans HREST.out), HF, HK⟩
    · have HP := Lib.hid (fun W : World => pfx_is s (mk pre) false W (Lib.hid (by unfold hasP; rw [mk_list]; exact decide_eq_false h1)))
      have hst : still true s.data.toList = true := by unfold still; rw [Bool.true_and]; exact decide_eq_true h1
      have HK := Lib.hid (FdK.refl hV)
      rw [pre_text] at HP
      rw [hst]
      have hrr := hr.out
      unfold all at hrr
      rw [if_pos rfl, if_neg h1] at hrr
      by_cases h2 : s.data.toList = pre.take s.data.toList.length
      · rw [if_pos h2] at hrr
        injection hrr with e1 e2
        injection e2 with e2 e3
        subst e1 e2 e3
        have HQ := Lib.hid (fun W : World => pfx_is (mk pre) s true W (Lib.hid (by unfold hasP; rw [mk_list]; exact decide_eq_true h2.symm)))
        have HR : Hid (s.data.toList = restL s.data.toList 0 s.data.toList.length) := Lib.hid (by unfold restL; rw [if_neg (by decide), Nat.sub_self, List.drop_zero])
        rw [pre_text] at HQ
        clear hr hV hs h1 hst h2
        go_enter Try.func16, Try.ntmps16
        go_wp2_with fail
        refine (HP.out _).mono ?_
        rintro e w1 ⟨rfl, rfl⟩
        go_wp2_with fail
        refine (HQ.out _).mono ?_
        rintro e w1 ⟨rfl, rfl⟩
        go_wp2_with fail
        go_ret3
        exact ⟨_, 0, s, rfl, Lib.hid ⟨rfl, .inl ⟨rfl, rfl⟩⟩, Lib.hid rfl, HR, hF, HK⟩
      · rw [if_neg h2] at hrr
        injection hrr with e1 e2
        injection e2 with e2 e3
        subst e1 e2 e3
        have HQ := Lib.hid (fun W : World => pfx_is (mk pre) s false W (Lib.hid (by unfold hasP; rw [mk_list]; exact decide_eq_false (fun e => h2 e.symm))))
        have HR : Hid ((⟨#[]⟩ : ByteArray).data.toList = restL s.data.toList 1 0) := Lib.hid (by unfold restL; rw [if_pos (by decide)])
        rw [pre_text] at HQ
        clear hr hV hs h1 hst h2
        go_enter Try.func16, Try.ntmps16
        go_wp2_with fail
        refine (HP.out _).mono ?_
        rintro e w1 ⟨rfl, rfl⟩
        go_wp2_with fail
        refine (HQ.out _).mono ?_
        rintro e w1 ⟨rfl, rfl⟩
        go_wp2_with fail
        go_ret3
        exact ⟨_, 0, ⟨#[]⟩, rfl, Lib.hid ⟨rfl, .inl ⟨rfl, rfl⟩⟩, Lib.hid rfl, HR, hF, HK⟩

set_option maxHeartbeats 8000000 in
set_option maxRecDepth 100000 in
theorem fadd_is (b : Nat) (S S' : FSt) (s : ByteArray) (gs : List Frm) (d : Nat) (w : World) (hF : Hid (FdAt w b S)) (hs : Hid (S.held.length + s.size ≤ 200000)) (ha : Hid (add S s.data.toList = (gs, d, S'))) :
    Calls Try.prog 9 #[.pointer (some ⟨b, 0, none⟩), .string s] w fun e w' => ∃ (v : Value) (n : Nat), e = .returned (.tuple #[v, .int .u32 (d : Int)]) ∧ Hid (AddEnd b w w' v n gs S') := by
  obtain ⟨q, l, dn⟩ := S
  obtain ⟨p, v0, hV⟩ := hF.out
  have hV : FdV w b p v0 l q dn := hV
  have c3 : w.cell? ⟨b, 3, none⟩ = some (.bool dn) := cell_of_row w b 3 _ _ _ hV.cells
  have haa := ha.out
  unfold add at haa
  have HS : Hid (l.length + s.size ≤ 200000) := hs
  clear hs
  cases dn with
  | true =>
    rw [if_pos rfl] at haa
    injection haa with e1 e2
    injection e2 with e2 e3
    subst e1 e2 e3
    have HE : Hid (AddEnd b w w (.slice none 0 0) 0 [] ⟨q, l, true⟩) := Lib.hid ⟨⟨rfl, .inl ⟨rfl, rfl⟩⟩, rfl, hF.out, FdK.refl hV⟩
    clear hV hF ha
    go_enter Try.func9, Try.ntmps9
    go_wp2_with fail
    go_ret2
    exact ⟨.slice none 0 0, rfl, 0, HE⟩
  | false =>
    rw [if_neg (show ¬ (false = true) from by decide)] at haa
    have haa : (if (all q (l ++ s.data.toList)).2.1 ≠ 0 then ((all q (l ++ s.data.toList)).1, (all q (l ++ s.data.toList)).2.1, FSt.mk (still q (l ++ s.data.toList)) [] true) else ((all q (l ++ s.data.toList)).1, 0, FSt.mk (still q (l ++ s.data.toList)) ((l ++ s.data.toList).drop ((l ++ s.data.toList).length - (all q (l ++ s.data.toList)).2.2)) false)) = (gs, d, S') := haa
    obtain ⟨A, hA⟩ : ∃ A, l ++ s.data.toList = A := ⟨_, rfl⟩
    rw [hA] at haa
    have hAl : A.length = l.length + s.size := by rw [← hA, List.length_append, size_l]
    have hAb : A.length ≤ 200000 := by have := HS.out; omega
    obtain ⟨t, ht⟩ : ∃ t, mk A = t := ⟨_, rfl⟩
    have htl : t.data.toList = A := by rw [← ht, mk_list]
    obtain ⟨⟨K, c, h⟩, hall⟩ : ∃ z, all q A = z := ⟨_, rfl⟩
    have hcode := all_code q A
    have hhl := (all_held q A).1
    rw [hall] at haa hcode hhl
    have hhl : h ≤ A.length := hhl
    have hcode : c = 0 ∨ (c ≠ 0 ∧ c ≤ 6 ∧ h = 0) := hcode
    obtain ⟨dn, hdn⟩ : ∃ x, decide (c ≠ 0) = x := ⟨_, rfl⟩
    have hK : gs = K ∧ d = c ∧ S' = ⟨still q A, restL A c h, dn⟩ := by
      unfold restL
      by_cases hc : c = 0
      · subst hc
        rw [if_neg (by simp)] at haa
        injection haa with e1 e2
        injection e2 with e2 e3
        rw [if_neg (by simp)]
        exact ⟨e1.symm, e2.symm, by rw [← e3, ← hdn]; rfl⟩
      · rw [if_pos hc] at haa
        injection haa with e1 e2
        injection e2 with e2 e3
        rw [if_pos hc]
        exact ⟨e1.symm, e2.symm, by rw [← e3, ← hdn, decide_eq_true hc]⟩
    obtain ⟨rfl, rfl, rfl⟩ := hK
    have HBS := Lib.hid (bstring_any b l s q false w hF.out (by have := HS.out; omega))
    have HT := Lib.hid htl
    have HAB := Lib.hid hAb
    have HALL : Hid (all q t.data.toList = (gs, d, h)) := Lib.hid (by rw [htl]; exact hall)
    have hne : ((d : Int) != 0) = dn := by
      rw [← hdn, Bool.eq_iff_iff, bne_iff_ne, decide_eq_true_iff]
      omega
    have HTX := Lib.hid ht
    have HAA := Lib.hid hA
    clear haa hall hcode hhl hdn hV hF ha htl hAl hAb ht hA HS
    go_enter Try.func9, Try.ntmps9
    go_wp2_with fail
    refine HBS.out.mono ?_
    rintro e w1 ⟨rfl, hF1, hK1⟩
    rw [HAA.out] at hF1
    have HF1 := Lib.hid hF1
    have HK1 := Lib.hid hK1
    clear hF1 hK1
    go_wp2_with fail
    refine (btext_any b A t q false _ HF1.out HTX.out (by have := HAB.out; omega)).mono ?_
    rintro e w2 ⟨rfl, hF2, hK2⟩
    have HF2 := Lib.hid hF2
    have HK2 := Lib.hid (HK1.out.trans hK2)
    clear hF2 hK2
    go_wp2_with fail
    refine (ccut_is b A q t gs d h _ HF2 (by have := HAB.out; rw [← size_l, HT.out]; omega) HALL).mono ?_
    rintro e w3 ⟨v3, n, r, rfl, hO3, hn, hR, hF3, hK3⟩
    rw [HT.out] at hR hF3
    have HO3 : Hid (w3.ownsRow w.heap.size 40 4 v3 n (frCs gs)) := Lib.hid (own_lowerF hO3.out HK2.out.size)
    have HK3 := Lib.hid (HK2.out.trans hK3.out)
    have hRs : Hid (r.size = A.length → r.data.toList = A) := Lib.hid (fun e => by
      rw [← size_l, hR.out] at e
      rw [hR.out]
      exact rest_whole e)
    have hrb : r.size ≤ 1000000 := by
      have h1 := rest_le A d h
      rw [← hR.out, size_l] at h1
      have := HAB.out
      omega
    clear hO3 hK3
    go_wp2_with fail
    refine (ckeep_is b A (still q A) false r _ hF3 hRs hrb).mono ?_
    rintro e w4 ⟨rfl, hF4, hK4⟩
    rw [hR.out] at hF4
    obtain ⟨p4, v4, hV4⟩ := hF4.out
    have c4 : w4.cell? ⟨b, 3, none⟩ = some (.bool false) := cell_of_row w4 b 3 _ _ _ hV4.cells
    have f4 : w4.frozen? ⟨b, 3, none⟩ = false := by simp [World.frozen?, hV4.cells]
    have hset := hV4.cell 3 (.bool dn) p4 (still q A) dn hV4.ptr rfl
    have HO4 := Lib.hid (own_feedK HO3.out hF3.out hK4.out)
    have HE : Hid (AddEnd b w (w4.setCell ⟨b, 3, none⟩ (.bool dn)) v3 n gs ⟨still q A, restL A d h, dn⟩) := Lib.hid ⟨own_feedK HO4.out ⟨_, _, hV4⟩ hset.2, hn.out, ⟨_, _, hset.1⟩, (HK3.out.trans hK4.out).trans hset.2⟩
    clear hset hV4 hF4 hK4 HO4
    go_wp2_with fail
    go_ret2
    exact ⟨_, n, rfl, HE⟩
end Go.Proofs.Ytekcipmhljhelaa
