/- The laws' own helpers on lists of texts (Few, Same), and their own look at answers that the document fixes: all stand. No condition. -/
import Derived.Test.YtepbpaaielfpnaaProg
import Derived.Test.YtepbpaaielfpnaaNameRefUnder
import Derived.Test.YtepbpaaielfpnaaNameTextOf
import Derived.Test.YtepbpaaielfpnaaNameRead
import Derived.Test.YtepbpaaielfpnaaNameRefRead
import Derived.WalkKit
import Derived.Lib.Hide
import Derived.Outline
import Derived.IntWalk
import Derived.WalkSpells
import Derived.WalkLawsBesides
import Derived.Deep.QuietTactic
import Derived.BigQuiet
import Derived.Deep.Draws
import Derived.Laws.AppendOwnNone
namespace Go.Proofs.Ytepbpaaielfpnaa
open Go.RowKit Bytes Low Strs NameMath

def FewOk (n : Nat) (w : World) (e : Ending) (w' : World) : Prop := ∃ b : Bool, e = .returned (.bool b) ∧ (b = true → n < 5000) ∧ w = w'
set_option maxHeartbeats 2000000 in
set_option maxRecDepth 100000 in
theorem few_any (A : Option Addr) (c n : Nat) (L : List (List UInt8)) (w : World) (hr : RdS w w.heap.size A L) (hn0 : Hid (L.length = n)) (hn : n ≤ maxLen) :
    Calls Try.prog 9 #[.slice A n c] w (FewOk n w) := by
  have HR := Lib.hid hr; clear hr
  unfold maxLen at hn
  have hmin : ∃ m : Nat, min (n : Int) 5000 = (m : Int) ∧ m ≤ 5000 ∧ (n < 5000 ∨ 5000 ≤ m) := ⟨min n 5000, by omega, by omega, by omega⟩
  obtain ⟨m0, hm0, hm1, hm2⟩ := hmin
  have HM2 := Lib.hid hm2; clear hm2
  go_enter Try.func9, Try.ntmps9
  go_wp2_with fail
  clear hm0
  go_loop [3, 4] (fun v i => ∃ k m : Nat, k ≤ n ∧ i = .int .i64 k ∧ v = .int .i64 m ∧ m ≤ 10000 ∧ Hid (n < 5000 ∨ 5000 ≤ m)) (fun _ i => n - (intOf i).toNat)
  case atStart => exact ⟨0, m0, Nat.zero_le _, rfl, rfl, by omega, HM2⟩
  case round =>
    obtain ⟨k, m, hk, rfl, rfl, hm, hH⟩ := hrel
    by_cases hlt : k < n
    · by_cases hml : (m : Int) < 5000
      · have hkl : k < L.length := by rw [hn0.out]; exact hlt
        obtain ⟨a, rfl, hab, hcell⟩ := HR.out.get hkl
        generalize mk (L.getD k []) = x at *
        have hmin : ∃ y : Nat, min (x.size : Int) 5000 = (y : Int) ∧ y ≤ 5000 := ⟨min x.size 5000, by omega, by omega⟩
        obtain ⟨y, hy, hy1⟩ := hmin
        have hH2 : Hid (n < 5000 ∨ 5000 ≤ m + y) := Lib.hid (by have := hH.out; omega)
        clear hkl
        go_wp2_with fail
        go_round
        case rel => exact ⟨k + 1, m + y, by omega, by go_num, by go_num, by omega, hH2⟩
        case measure => simp [intOf]; omega
      · go_wp2_with fail
        go_ret
        exact ⟨false, rfl, fun h => (by cases h), rfl⟩
    · by_cases hml : (m : Int) < 5000
      · have hn5 : n < 5000 := by have := hH.out; omega
        have hd : decide ((m : Int) < 5000) = true := decide_eq_true hml
        go_wp2_with fail
        go_ret
        exact ⟨true, rfl, fun _ => hn5, rfl⟩
      · have hd : decide ((m : Int) < 5000) = false := decide_eq_false hml
        go_wp2_with fail
        go_ret
        exact ⟨false, rfl, fun h => (by cases h), rfl⟩

theorem list_same {L M : List (List UInt8)} (hl : L.length = M.length) (h : ∀ j, j < L.length → L.getD j [] = M.getD j []) : L = M := by
  apply List.ext_getElem hl
  intro j h1 h2
  have := h j h1
  rw [List.getD_eq_getElem?_getD, List.getD_eq_getElem?_getD, List.getElem?_eq_getElem h1, List.getElem?_eq_getElem h2] at this
  exact this

set_option maxHeartbeats 2000000 in
set_option maxRecDepth 100000 in
theorem lawSame_is (A B : Option Addr) (c1 c2 n m : Nat) (L M : List (List UInt8)) (q : Bool) (w : World) (hr : RdS w w.heap.size A L) (hr2 : RdS w w.heap.size B M) (hn0 : Hid (L.length = n)) (hm0 : Hid (M.length = m)) (hn : n ≤ 1000000) (hq : Hid (decide (L = M) = q)) :
    Calls Try.prog 14 #[.slice A n c1, .slice B m c2] w fun e w' => e = .returned (.bool q) ∧ Below w.heap.size w w' := by
  have HR := Lib.hid hr; clear hr
  have HR2 := Lib.hid hr2; clear hr2
  by_cases hnm : n = m
  · have hnmi : ((n : Int) != (m : Int)) = false := bne_eq_false_iff_eq.2 (by omega)
    have hnm2 : n ≤ m := by omega
    have hnm3 : m ≤ n := by omega
    clear hnm
    generalize hg : w.heap.size = g at *
    have G := Lib.hid hg; clear hg
    go_enter Try.func14, Try.ntmps14
    go_wp2_with fail
    go_loopw [5] (fun i wr => ∃ k : Nat, k ≤ n ∧ i = .int .i64 k ∧ Hid (∀ j, j < k → L.getD j [] = M.getD j []) ∧ Below g w wr) (fun i _ => n - (intOf i).toNat)
    case atStart => exact ⟨0, Nat.zero_le _, rfl, Lib.hid (fun j hj => absurd hj (Nat.not_lt_zero _)), Below.refl _ _⟩
    case round =>
      obtain ⟨k, hk, rfl, hE, hB⟩ := hrel
      by_cases hlt : k < n
      · have hlt2 : k < m := by omega
        have hkl : k < L.length := by rw [hn0.out]; exact hlt
        have hkm : k < M.length := by rw [hm0.out]; exact hlt2
        obtain ⟨a, rfl, hab, hcell⟩ := (HR.out.on hB (Nat.le_refl _)).get hkl
        obtain ⟨b, rfl, hbb, hcell2⟩ := (HR2.out.on hB (Nat.le_refl _)).get hkm
        obtain ⟨z, hz⟩ : ∃ z, decide (L.getD k [] = M.getD k []) = z := ⟨_, rfl⟩
        have hne : (!((mk (L.getD k [])).toList == (mk (M.getD k [])).toList)) = !z := by
          rw [eq_toList, ← hz]
          congr 1
          exact decide_eq_decide.2 ⟨fun h => mk_inj h, fun h => by rw [h]⟩
        cases z with
        | true =>
          have hE2 : Hid (∀ j, j < k + 1 → L.getD j [] = M.getD j []) := fun j hj => by
            rcases Nat.lt_or_ge j k with h | h
            · exact hE.out j h
            · obtain rfl : j = k := by omega
              exact of_decide_eq_true hz
          generalize mk (L.getD k []) = x at *
          generalize mk (M.getD k []) = y at *
          clear hz hkl hkm hE
          go_wp2_with fail
          go_quiet (fail)
          go_wp2_with fail
          go_roundw
          case rel => exact ⟨k + 1, by omega, by go_num, hE2, below_drewN hB _⟩
          case measure => simp [intOf]; omega
        | false =>
          obtain rfl : q = false := by
            rw [← hq.out]
            exact decide_eq_false (fun h => of_decide_eq_false hz (by rw [h]))
          generalize mk (L.getD k []) = x at *
          generalize mk (M.getD k []) = y at *
          clear hz hkl hkm hE hq
          go_wp2_with fail
          go_quiet (fail)
          go_wp2_with fail
          go_ret
          exact ⟨rfl, below_drewN hB _⟩
      · obtain rfl : q = true := by
          rw [← hq.out]
          exact decide_eq_true (list_same (by rw [hn0.out, hm0.out]; omega) (fun j hj => hE.out j (by rw [hn0.out] at hj; omega)))
        clear hE hq
        go_wp2_with fail
        go_ret
        exact ⟨rfl, hB⟩
  · obtain rfl : q = false := by
      rw [← hq.out]
      refine decide_eq_false (fun h => hnm ?_)
      have := congrArg List.length h
      rw [hn0.out, hm0.out] at this
      exact this
    have hnmi : ((n : Int) != (m : Int)) = true := bne_iff_ne.2 (by omega)
    clear hnm hq
    go_enter Try.func14, Try.ntmps14
    go_wp2_with fail
    go_ret
    exact ⟨rfl, Below.refl _ _⟩

theorem make_is (A : Option Addr) (c n : Nat) (L : List (List UInt8)) (t : ByteArray) (E : Nat) (w : World) (hr : RdS w w.heap.size A L) (hn0 : Hid (L.length = n)) (hn : n ≤ 1000000) (ht : Hid (mk (makeL L) = t)) (hE : Hid (makeE L = E)) :
    Calls Try.prog 10 #[.slice A n c] w fun e w' => e = .returned (.tuple #[.string t, .int .i64 E]) ∧ Below w.heap.size w w' := by
  have := make_any A c L w hr (by rw [hn0.out]; exact hn)
  rwa [hn0.out, ht.out, hE.out] at this
theorem refMake_is (A : Option Addr) (c n : Nat) (L : List (List UInt8)) (t : ByteArray) (E : Nat) (w : World) (hr : RdS w w.heap.size A L) (hn0 : Hid (L.length = n)) (hn : n ≤ 1000000) (ht : Hid (mk (makeL L) = t)) (hE : Hid (makeE L = E)) :
    Calls Try.prog 11 #[.slice A n c] w fun e w' => e = .returned (.tuple #[.string t, .int .i64 E]) ∧ Below w.heap.size w w' := by
  have := refMake_any A c L w hr (by rw [hn0.out]; exact hn)
  rwa [hn0.out, ht.out, hE.out] at this
/-- A slice of texts that was just laid. -/
theorem rds_new (w : World) (L : List (List UInt8)) (cs : Array Value) (h : cs.toList = strCs L) : RdS (w.alloc (.cells cs 9)) (w.alloc (.cells cs 9)).heap.size (some ⟨w.heap.size, 0, none⟩) L := fun _ => by
  refine ⟨_, rfl, by simp, fun k hk => ?_⟩
  rw [show ((⟨w.heap.size, 0, none⟩ : Addr).add k) = ⟨w.heap.size, k, none⟩ from by unfold Addr.add; split <;> simp_all]
  rw [Lib.cell_of_heap (heap_alloc_new w _), ← Array.getElem?_toList, h]
  exact strCs_at hk

def wL : List (List UInt8) := [[119, 119, 119], [69, 120]]
def wS : ByteArray := ⟨#[3, 119, 119, 119, 2, 69, 120, 0]⟩
theorem wS_labels : labels wS.data.toList = some wL := labels_name (L := wL) (by decide) (by decide)
theorem zS_labels : labels (⟨#[2, 101, 88, 0]⟩ : ByteArray).data.toList = some [[101, 88]] := labels_name (L := [[101, 88]]) (by decide) (by decide)
theorem aS_labels : labels (⟨#[3, 97, 46, 98, 0]⟩ : ByteArray).data.toList = some [[97, 46, 98]] := labels_name (L := [[97, 46, 98]]) (by decide) (by decide)
theorem aS_read : readE (⟨#[97, 92, 46, 98, 46]⟩ : ByteArray).data.toList = 0 ∧ readL (⟨#[97, 92, 46, 98, 46]⟩ : ByteArray).data.toList = [3, 97, 46, 98, 0] := by
  have h := back_read (isN_of aS_labels)
  rw [textN_of aS_labels] at h
  exact h

set_option maxHeartbeats 2000000 in
set_option maxRecDepth 100000 in
theorem awake_any (w : World) :
    Calls Try.prog 8 #[] w fun e w' => e = .returned (.bool true) ∧ Below w.heap.size w w' := by
  have n0 : Below w.heap.size w w := Below.refl _ _
  have m1 := make_labels wS_labels
  have hE : Hid (makeE wL = 0) := m1.1
  have hT : Hid (mk (makeL wL) = wS) := Lib.hid (by rw [m1.2, mk_data])
  have hrd : Hid (mk (readL (⟨#[97, 92, 46, 98, 46]⟩ : ByteArray).data.toList) = ⟨#[3, 97, 46, 98, 0]⟩) := Lib.hid (by rw [aS_read.2]; rfl)
  have hre : Hid (readE (⟨#[97, 92, 46, 98, 46]⟩ : ByteArray).data.toList = 0) := aS_read.1
  have hN := isN_of wS_labels
  have hI : Hid (isN wS.data.toList = true) := hN
  have hLL : Hid (labL wS.data.toList = wL) := labL_of wS_labels
  have hF : Hid (mk (foldN wS.data.toList) = ⟨#[3, 119, 119, 119, 2, 101, 120, 0]⟩) := Lib.hid (by rw [foldN_yes hN]; rfl)
  have hX : Hid (mk (textN wS.data.toList) = ⟨#[119, 119, 119, 46, 69, 120, 46]⟩) := Lib.hid (by rw [textN_of wS_labels]; rfl)
  have hfl : labels (⟨#[3, 119, 119, 119, 2, 101, 120, 0]⟩ : ByteArray).data.toList = some (lowLs wL) := labels_low wS_labels
  have hS : Hid (sameN wS.data.toList (⟨#[3, 119, 119, 119, 2, 101, 120, 0]⟩ : ByteArray).data.toList = true) := Lib.hid (by rw [sameN_of wS_labels hfl]; decide)
  have hU : Hid (underN wS.data.toList (⟨#[2, 101, 88, 0]⟩ : ByteArray).data.toList = true) := Lib.hid (by rw [underN_of wS_labels zS_labels]; decide)
  have hrds := Lib.hid (rds_new w wL #[.string ⟨#[119, 119, 119]⟩, .string ⟨#[69, 120]⟩] rfl)
  have hws : wS.size ≤ 8 := by decide
  have hwl : (wS.toList == [3, 119, 119, 119, 2, 69, 120, 0]) = true := by decide +kernel
  have HLN : Hid (wL.length = 2) := Lib.hid rfl
  generalize wS = s at *
  generalize wL = L at *
  clear m1 hN hfl
  go_enter Try.func8, Try.ntmps8
  go_wp2_with fail
  refine (make_is _ _ 2 L s 0 _ hrds.out HLN (by omega) hT hE).mono ?_
  rintro e w1 ⟨rfl, hB⟩
  have n1 : Below w.heap.size w w1 := (n0.alloc (Nat.le_refl _) _).trans (hB.mono (by simp))
  have s1 := n1.size
  clear hB n0 hrds
  go_wp2_with fail
  refine (read_is _ _ 0 _ (by decide) hrd hre).mono ?_
  rintro e w2 ⟨rfl, hB⟩
  have n2 := n1.trans (hB.mono s1)
  have s2 := n2.size
  clear hB n1 s1
  go_wp2_with fail
  refine (is_is s true _ (by omega) hI).mono ?_
  rintro e w' ⟨rfl, rfl⟩
  go_wp2_with fail
  refine (labels_any s L _ (by omega) hLL).mono ?_
  rintro e w3 ⟨v, rfl, hO, hB⟩
  obtain ⟨A, c, rfl, _, _, _⟩ := own_rds hO rfl
  have n3 := n2.trans (hB.mono s2)
  have s3 := n3.size
  clear hB n2 s2 hO
  rw [HLN.out]
  go_wp2_with fail
  refine (nameFold_is s _ _ (by omega) hF).mono ?_
  rintro e w4 ⟨rfl, hB⟩
  have n4 := n3.trans (hB.mono s3)
  have s4 := n4.size
  clear hB n3 s3
  go_wp2_with fail
  refine (nameText_is s _ _ (by omega) hX).mono ?_
  rintro e w5 ⟨rfl, hB⟩
  have n5 := n4.trans (hB.mono s4)
  have s5 := n5.size
  clear hB n4 s4
  go_wp2_with fail
  refine (nameFold_is s _ _ (by omega) hF).mono ?_
  rintro e w6 ⟨rfl, hB⟩
  have n6 := n5.trans (hB.mono s5)
  have s6 := n6.size
  clear hB n5 s5
  go_wp2_with fail
  refine (nameSame_is s _ true _ (by omega) (by decide) hS).mono ?_
  rintro e w7 ⟨rfl, hB⟩
  have n7 := n6.trans (hB.mono s6)
  have s7 := n7.size
  clear hB n6 s6
  go_wp2_with fail
  refine (under_is s _ true _ (by omega) (by decide) hU).mono ?_
  rintro e w8 ⟨rfl, hB⟩
  have n8 := n7.trans (hB.mono s7)
  clear hB n7 s7
  go_wp2_with fail
  go_ret
  exact ⟨rfl, n8⟩

/-- A slice of texts that is appended whole: nil, or at an address. -/
def Srcs (w : World) (v : Value) (n : Nat) (L : List (List UInt8)) : Prop :=
  (v = .slice none 0 0 ∧ n = 0 ∧ L = []) ∨ ∃ ad c, v = .slice (some ad) n c ∧ n = L.length ∧ ∀ k, k < L.length → w.cell? (ad.add k) = some (.string (mk (L.getD k [])))
theorem own_src {w : World} {base n : Nat} {e : TypeId} {v : Value} {L : List (List UInt8)} (h : w.ownsRow base e 1 v n (strCs L)) (hn : n = L.length) : Srcs w v n L := by
  rcases h.2 with ⟨rfl, h0⟩ | ⟨g, cap, cur, rfl, _⟩
  · subst h0
    exact Or.inl ⟨rfl, rfl, List.length_eq_zero_iff.1 hn.symm⟩
  · exact Or.inr ⟨_, cap, rfl, hn, fun k hk => h.cells (g := g) rfl k _ (strCs_at hk)⟩
theorem wpList_append_strs {w : World} {ops : Array Oper} {rest : List Oper} {o : Oper} {a : Act} {Q : Exit → Act → World → Prop} (hgd : o.guard = none) (s x : Operand)
    (ho : o.op = .call { callee := .builtin .append, args := #[s, x], argTypes := #[22, 22] })
    (base : Nat) (v : Value) (m : Nat) (xs : List Value) (hs : a.eval s = v) (hown : w.ownsRow base 9 1 v m xs) (n : Nat) (L : List (List UInt8)) (hsrc : Srcs w (a.eval x) n L)
    (hmn : m + n ≤ 100000) (hbase : base ≤ w.heap.size)
    (h : ∀ v' w', w'.ownsRow base 9 1 v' (m + n) (xs ++ strCs L) → w.grownBy w' v.ownBlock → wpList Try.prog ops Q rest (a.put o.dst v') w') : wpList Try.prog ops Q (o :: rest) a w := by
  obtain ⟨i0, hi, hz0, hz1, hz2⟩ := info_parts info9
  rcases hsrc with ⟨hx, rfl, rfl⟩ | ⟨ad, c, hx, hn, hc⟩
  · refine wpList_append_own_none hgd s x 22 ho base 9 i0 1 Try.underlying22 hi v m xs hs hown hx (h v w ?_ (World.grownBy.refl w _))
    simpa [strCs] using hown
  · refine wpList_append_own w hgd s x 22 ho base 9 i0 (.string ⟨#[]⟩) 1 16 Try.underlying22 hi hz0 hz1 hz2 rfl (by decide) v m xs hs hown ad n c (strCs L) hx (by rw [strCs_len]; omega) ?_ ?_ (by unfold maxLen; omega) (by omega) hbase (fun v' w' h1 h2 _ => h v' w' h1 h2)
    · intro j u hj
      have hjl : j < L.length := by
        rcases Nat.lt_or_ge j L.length with h | h
        · exact h
        · rw [List.getElem?_eq_none (by rw [strCs_len]; exact h)] at hj; cases hj
      rw [strCs_at hjl] at hj
      injection hj with hj
      rw [← hj]
      exact hc j hjl
    · intro u hu
      unfold strCs at hu
      obtain ⟨l, _, rfl⟩ := List.mem_map.1 hu
      rfl
theorem srcs_below {w w' : World} {v : Value} {n : Nat} {L : List (List UInt8)} (h : Srcs w v n L) (hb : Below w.heap.size w w') : Srcs w' v n L := by
  rcases h with h | ⟨ad, c, hx, hn, hc⟩
  · exact Or.inl h
  · exact Or.inr ⟨ad, c, hx, hn, fun k hk => (hb.cell (World.block_lt_of_cell? _ _ (hc k hk))).trans (hc k hk)⟩
/-- The slice that a literal of texts is. -/
theorem own_new (w : World) (base : Nat) (L : List (List UInt8)) (cs : Array Value) (n : Nat) (hb : base ≤ w.heap.size) (h : cs.toList = strCs L) (hn : L.length = n) (h5 : n ≤ 1000) :
    (w.alloc (.cells cs 9)).ownsRow base 9 1 (.slice (some ⟨w.heap.size, 0, none⟩) n n) n (strCs L) := by
  have hl : cs.toList.length = n := by rw [h, strCs_len, hn]
  refine ⟨by rw [strCs_len, hn, Nat.mul_one], Or.inr ⟨w.heap.size, n, cs, rfl, hb, heap_alloc_new w _, Nat.le_refl _, by unfold maxLen; omega, by rw [← Array.length_toList, hl, Nat.mul_one], ?_⟩⟩
  rw [h, Nat.mul_one, List.take_of_length_le (by rw [strCs_len]; omega)]
end Go.Proofs.Ytepbpaaielfpnaa
