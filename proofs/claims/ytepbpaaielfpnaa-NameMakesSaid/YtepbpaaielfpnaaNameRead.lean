/- The contracts of name's split and Read. For texts of at most 10^5 bytes. -/
import Derived.Test.YtepbpaaielfpnaaProg
import Derived.Test.YtepbpaaielfpnaaBytes
import Derived.Test.YtepbpaaielfpnaaStrs
import Derived.Test.YtepbpaaielfpnaaNameMath
import Derived.Test.YtepbpaaielfpnaaNameText
import Derived.Test.YtepbpaaielfpnaaNameFirst
import Derived.Test.YtepbpaaielfpnaaNameMake
import Derived.Test.YtepbpaaielfpnaaNameTextOf
import Derived.WalkKit
import Derived.Lib.Hide
import Derived.Outline
import Derived.IntWalk
import Derived.WalkSpells
import Derived.WalkLawsBesides
import Derived.Deep.QuietTactic
import Derived.BigQuiet
import Derived.Deep.Draws
import Derived.Deep.RegionHeld3
import Derived.Deep.AppendLies
import Derived.Deep.DeepCutAuto
namespace Go.Proofs.Ytepbpaaielfpnaa
open Go.RowKit Bytes Strs NameMath

/-- Rows of different kinds lie in different blocks. -/
theorem own_two {w : World} {g1 g2 n m : Nat} {e1 e2 : TypeId} {u v : Value} {xs ys : List Value} (h1 : w.ownsRow g1 e1 1 v n xs) (h2 : w.ownsRow g2 e2 1 u m ys) (he : e1 ≠ e2) : v.ownBlock = none ∨ v.ownBlock ≠ u.ownBlock := by
  cases hv : v.ownBlock with
  | none => exact Or.inl rfl
  | some b =>
    refine Or.inr (fun e => ?_)
    obtain ⟨c1, f1, k1⟩ := ownsRow_kind h1 b hv
    obtain ⟨c2, f2, k2⟩ := ownsRow_kind h2 b e.symm
    rw [k1] at k2
    injection k2 with k2
    injection k2 with _ k2
    exact he k2
/-- A row cut back to nothing. -/
theorem own_cut {w : World} {g n cap : Nat} {e : TypeId} {a : Addr} {xs : List Value} (h : w.ownsRow g e 1 (.slice (some a) n cap) n xs) : w.ownsRow g e 1 (.slice (some a) 0 cap) 0 [] := by
  refine ⟨rfl, ?_⟩
  rcases h.2 with ⟨h0, _⟩ | ⟨b, c, cur, hv, hb, hg, hnc, hc, hs, _⟩
  · cases h0
  · injection hv with e1 e2 e3
    injection e1 with e1
    subst e1 e3
    exact Or.inr ⟨b, cap, cur, rfl, hb, hg, Nat.zero_le _, hc, hs, by simp⟩
theorem toEnd_list (q : ByteArray) (n : Nat) : (q.extract n q.size).data.toList = q.data.toList.drop n := by
  rw [extract_list, List.take_of_length_le (by rw [Lib.size_eq]; exact Nat.le_refl _)]
theorem nil_or {l : List UInt8} {q : ByteArray} (h : q.data.toList = l) : q.size = l.length := by rw [Lib.size_eq, h]

theorem toEnd_size (q : ByteArray) (n : Nat) : (q.extract n q.size).size = q.size - n := by rw [Lib.size_eq, toEnd_list, List.length_drop, ← Lib.size_eq]
theorem own_form {w : World} {g n : Nat} {e : TypeId} {v : Value} {xs : List Value} (h : w.ownsRow g e 1 v n xs) : ∃ A c, v = .slice A n c ∧ (n ≠ 0 → ∃ a, A = some a) := by
  rcases h.2 with ⟨rfl, h0⟩ | ⟨b, c, cur, rfl, _⟩
  · subst h0
    exact ⟨none, 0, rfl, fun h => absurd rfl h⟩
  · exact ⟨_, c, rfl, fun _ => ⟨_, rfl⟩⟩
theorem own_cap {w : World} {g n c : Nat} {e : TypeId} {A : Option Addr} {xs : List Value} (h : w.ownsRow g e 1 (.slice A n c) n xs) : n ≤ c ∧ (A = none ∨ ∃ b, A = some ⟨b, 0, none⟩) := by
  rcases h.2 with ⟨h1, h0⟩ | ⟨b, c', cur, hv, _, _, hnc, _⟩
  · injection h1 with e1 e2 e3
    exact ⟨by omega, Or.inl e1⟩
  · injection hv with e1 e2 e3
    exact ⟨by omega, Or.inr ⟨b, e1⟩⟩

def RetSplit (w : World) (o : Option (List (List UInt8))) (e : Ending) (w' : World) : Prop :=
  ∃ v b, e = .returned (.tuple #[v, .bool b]) ∧ b = o.isSome ∧ (∀ L, o = some L → w'.ownsRow w.heap.size 9 1 v L.length (strCs L)) ∧ Below w.heap.size w w'

set_option maxHeartbeats 4000000 in
set_option maxRecDepth 100000 in
theorem split_any (s : ByteArray) (w : World) (hs : s.size ≤ 100000) :
    Calls Try.prog 34 #[.string s] w (RetSplit w (rd [] [] s.data.toList)) := by
  obtain ⟨o, ho⟩ : ∃ o, rd [] [] s.data.toList = o := ⟨_, rfl⟩
  rw [ho]
  have HO := Lib.hid ho; clear ho
  obtain ⟨i5, hi, hz0, hz1, hz2⟩ := info_parts info5
  have HI := Lib.hid hi; clear hi
  have HZ0 := Lib.hid hz0; clear hz0
  have HZ1 := Lib.hid hz1; clear hz1
  have HZ2 := Lib.hid hz2; clear hz2
  obtain ⟨i9, hi, hz0, hz1, hz2⟩ := info_parts info9
  have KI := Lib.hid hi; clear hi
  have KZ0 := Lib.hid hz0; clear hz0
  have KZ1 := Lib.hid hz1; clear hz1
  have KZ2 := Lib.hid hz2; clear hz2
  generalize hg : w.heap.size = g at *
  have G := Lib.hid hg; clear hg
  go_enter Try.func34, Try.ntmps34
  go_wp2_with fail
  go_loopw [0, 4, 5] (fun t v u wr => ∃ (q : ByteArray) (A : List (List UInt8)) (cur : List UInt8) (m n : Nat), t = .string q ∧ q.size ≤ 100000 ∧ n + q.size ≤ 100000 ∧ m + q.size ≤ 100000 ∧ Hid (A.length = n) ∧ Hid (cur.length = m) ∧ Hid (wr.ownsRow g 9 1 v n (strCs A)) ∧ Hid (wr.ownsRow g 5 1 u m (byteCells cur)) ∧ Hid (rd A cur q.data.toList = o) ∧ Below g w wr) (fun t _ _ _ => match t with | .string q => q.size | _ => 0)
  case atStart => exact ⟨s, [], [], 0, 0, rfl, hs, by omega, by omega, Lib.hid rfl, Lib.hid rfl, Lib.hid (World.ownsRow_nil _ _ _ _), Lib.hid (World.ownsRow_nil _ _ _ _), HO, Below.refl _ _⟩
  case round =>
    obtain ⟨q, A, cur, m, n, rfl, hq, hnq, hmq, hn, hm, hV, hU, hR, hB⟩ := hrel
    by_cases h0 : 0 < q.size
    · have hne : q.toList.isEmpty = false := by
        rw [Lib.toList_data]
        rw [Lib.size_eq] at h0
        cases hd : q.data.toList with
        | nil => rw [hd] at h0; exact absurd h0 (by decide)
        | cons a l => rfl
      have hqne : q.data.toList.length ≠ 0 := by rw [← Lib.size_eq]; omega
      have hx0 := getD_byte h0
      generalize hx1 : q.data.toList.getD 0 0 = x at hx0
      have hx : q[0]'h0 = x := hx0.symm
      have HX := Lib.hid hx1
      have hlx := x.toNat_lt
      have HQNE := Lib.hid hqne
      clear hx0 hx1 hqne
      by_cases h46 : x.toNat = 46
      · have hz : ((x.toNat : Int) == 46) = true := beq_iff_eq.2 (by omega)
        obtain ⟨au, cu, rfl, hcu⟩ := own_form hU.out
        by_cases hm0 : m = 0
        · have hno := rd_void (L := A) HQNE.out (by rw [HX.out]; exact h46) (by rw [hm.out]; exact hm0)
          obtain rfl : none = o := hno.symm.trans hR.out
          have hmz : ((m : Int) == 0) = true := beq_iff_eq.2 (by omega)
          clear hno h46 hm0 hcu
          go_wp2_with fail
          go_ret2
          exact ⟨_, _, rfl, rfl, fun L h => (by cases h), by rw [G.out]; exact hB⟩
        · have hmz : ((m : Int) == 0) = false := beq_eq_false_iff_ne.2 (by omega)
          obtain ⟨au', rfl⟩ := hcu hm0
          obtain ⟨hcapc, hcu1⟩ := own_cap hU.out
          have hcu2 : ¬ cu = 0 := by omega
          have hcu3 : (0 : Int) ≤ (cu : Int) := by omega
          have hR2 : Hid (rd (A ++ [cur]) [] (q.data.toList.drop 1) = o) := (rd_dot (L := A) HQNE.out (by rw [HX.out]; exact h46) (by rw [hm.out]; exact hm0)).symm.trans hR.out
          have hE := convert_own hU.out
          have hmc := Lib.hid (mk_list cur)
          generalize mk cur = y at *
          have hq1 : (1 : Int) ≤ (q.size : Int) := by omega
          clear h46 hm0 hcu
          go_wp2_with (at_builtin; refine wpList_append_own _ rfl _ _ 22 rfl g 9 i9 (.string ⟨#[]⟩) 1 16 Try.underlying22 KI.out KZ0.out KZ1.out KZ2.out rfl (by decide) _ _ _ rfl (hV.out.alloc _) ⟨wr.heap.size, 0, none⟩ 1 1 [.string y] rfl rfl ?c1 ?c2 ?c3 ?c4 ?c5 ?_)
          case c1 =>
            intro j u hj
            match j, hj with
            | 0, hj => simp at hj; subst hj; simp [Addr.add]
          case c2 => intro u hu; simp at hu; subst hu; rfl
          case c3 => unfold maxLen; omega
          case c4 => omega
          case c5 => have := hB.size; have := G.out; simp; omega
          intro v' w1 hown hgrow _
          have hU1 := own_cut ((hU.out.alloc _).kept hgrow (own_two hU.out hV.out (by decide)))
          have RS := own_str (x := y) hV.out hB G.out hown hgrow
          rw [hmc.out] at RS
          have R1 := Lib.hid RS.1
          have R2 := RS.2
          have HU1 := Lib.hid hU1
          have hes := toEnd_size q 1
          have hel := toEnd_list q 1
          have HES := Lib.hid hes
          have HEL := Lib.hid hel
          clear RS hown hgrow hV hU hB hE hU1 hes hel
          go_wp2_with fail
          go_quiet (fail)
          go_wp2_with fail
          go_roundw
          case rel =>
            refine ⟨_, A ++ [cur], [], 0, n + 1, rfl, ?_, ?_, ?_, ?_, Lib.hid rfl, ?_, ?_, ?_, below_drewN R2 _⟩
            · rw [HES.out]; omega
            · rw [HES.out]; omega
            · rw [HES.out]; omega
            · exact Lib.hid (by rw [List.length_append, hn.out]; rfl)
            · exact R1
            · exact HU1
            · rw [HEL.out]; exact hR2
          case measure => simp only [HES.out]; omega
      · have hz : ((x.toNat : Int) == 46) = false := beq_eq_false_iff_ne.2 (by omega)
        obtain ⟨ob, hun⟩ : ∃ ob, un q.data.toList = ob := ⟨_, rfl⟩
        cases ob with
        | none =>
          obtain rfl : none = o := (rd_bad (L := A) (cur := cur) HQNE.out (by rw [HX.out]; exact h46) hun).symm.trans hR.out
          have HUN := Lib.hid hun
          clear hun h46
          go_wp2_with fail
          refine (first_no q _ (by omega) h0 HUN).mono ?_
          rintro e w3 ⟨x', y', rfl, hB3⟩
          go_wp2_with fail
          go_ret2
          exact ⟨_, _, rfl, rfl, fun L h => (by cases h), by rw [G.out]; exact hB.trans (hB3.mono (by have := hB.size; have := G.out; omega))⟩
        | some c =>
          obtain ⟨z, hz4⟩ : ∃ z, (sp c).length = z := ⟨_, rfl⟩
          have hzl := un_len hun
          rw [hz4, ← Lib.size_eq] at hzl
          have hz1 := (sp_len c).1
          rw [hz4] at hz1
          have hR2 : Hid (rd A (cur ++ [c]) (q.data.toList.drop z) = o) := by
            show _ = _
            rw [← hz4]
            exact (rd_byte (L := A) (cur := cur) HQNE.out (by rw [HX.out]; exact h46) hun).symm.trans hR.out
          have HUN := Lib.hid hun
          have HZ := Lib.hid hz4
          have hzi : (z : Int) ≤ (q.size : Int) := by omega
          have hzi0 : (0 : Int) ≤ (z : Int) := by omega
          clear hun h46 hz4
          go_wp2_with fail
          refine (first_some q c z _ (by omega) h0 HUN HZ).mono ?_
          rintro e w3 ⟨rfl, hB3⟩
          have hV3 := Lib.hid (own_below hV.out hB3)
          have hU3 := Lib.hid (own_below hU.out hB3)
          have hB4 := hB.trans (hB3.mono (by have := hB.size; have := G.out; omega))
          have hB4s := hB4.size
          have hbase : g ≤ w3.heap.size := by have := G.out; omega
          have hm63 : m + 1 ≤ maxLen := by unfold maxLen; omega
          have hm47 : (m + 1) * 1 ≤ 140737488355328 := by omega
          clear hV hU hB hB3
          go_wp2_with fail
          go_region_held3 (fun _ => True) (trivial) ((refine step_append_lies _ (by rfl) _ _ _ (by rfl) g 5 i5 _ 1 1 Try.underlying41 HI.out HZ0.out HZ1.out HZ2.out rfl (by omega) _ m (byteCells cur) (by rfl) ((hU3.out.alloc _).drew) ⟨w3.heap.size, 0, none⟩ 1 1 [.int .u8 (c.toNat : Int)] (by rfl) (by rfl) (World.news_of_block (cs := #[.int .u8 (c.toNat : Int)]) (t := 5) (fr := (0, 0)) (heap_alloc_new w3 _)) (by simp [Value.oneCell']) (by omega) hm63 hm47 (by simp; omega) (w3.heap.size + 1) (by simp) ?_; intro gg cap w1 hown1 hgrow hat hlt))
          have hV4 := World.ownsRow.kept (row := u5.ownBlock) (hV3.out.alloc _).drew hgrow (own_two hV3.out hU3.out (by decide))
          have RS := own_step (wr := w3.drew) (x := c) hU3.out.drew hB4.drew G.out rfl hown1 hgrow
          have R1 := Lib.hid RS.1
          have R2 := RS.2
          have HV4 := Lib.hid hV4
          have HES := Lib.hid (toEnd_size q z)
          have HEL := Lib.hid (toEnd_list q z)
          clear RS hown1 hgrow hV3 hU3 hB4 hV4 hat hlt hB4s hbase
          go_wp2_with fail
          go_roundw
          case rel =>
            refine ⟨_, A, cur ++ [c], m + 1, n, rfl, ?_, ?_, ?_, hn, ?_, HV4, R1, ?_, R2⟩
            · rw [HES.out]; omega
            · rw [HES.out]; omega
            · rw [HES.out]; omega
            · exact Lib.hid (by rw [List.length_append, hm.out]; rfl)
            · rw [HEL.out]; exact hR2
          case measure => simp only [HES.out]; omega
    · have hq0 : q.size = 0 := by omega
      have hql : q.data.toList.length = 0 := by rw [← Lib.size_eq]; exact hq0
      have hne : q.toList.isEmpty = true := by
        rw [Lib.toList_data]
        rw [List.length_eq_zero_iff.1 hql]
        rfl
      have hR2 := hR.out
      rw [rd_end hql, hn.out, hm.out] at hR2
      obtain ⟨av, cv, rfl, _⟩ := own_form hV.out
      obtain ⟨au, cu, rfl, _⟩ := own_form hU.out
      by_cases hn0 : n = 0
      · rw [if_neg (fun h => h.2 hn0)] at hR2
        subst hR2
        have hn1 : decide ((0 : Int) < (n : Int)) = false := decide_eq_false (by omega)
        have hn2 : ¬ (0 : Int) < (n : Int) := by omega
        clear hn0 hq0 hql
        go_wp2_with fail
        go_ret2
        exact ⟨_, _, rfl, rfl, fun L h => (by cases h), by rw [G.out]; exact hB⟩
      · have hn1 : decide ((0 : Int) < (n : Int)) = true := decide_eq_true (by omega)
        have hn2 : (0 : Int) < (n : Int) := by omega
        by_cases hm0 : m = 0
        · rw [if_pos ⟨hm0, hn0⟩] at hR2
          subst hR2
          have hmz : ((m : Int) == 0) = true := beq_iff_eq.2 (by omega)
          clear hn0 hq0 hql hm0
          go_wp2_with fail
          go_ret2
          exact ⟨_, _, rfl, rfl, fun L h => (by injection h with h; subst h; rw [G.out, hn.out]; exact hV.out), by rw [G.out]; exact hB⟩
        · rw [if_neg (fun h => hm0 h.1)] at hR2
          subst hR2
          have hmz : ((m : Int) == 0) = false := beq_eq_false_iff_ne.2 (by omega)
          clear hn0 hq0 hql hm0
          go_wp2_with fail
          go_ret2
          exact ⟨_, _, rfl, rfl, fun L h => (by cases h), by rw [G.out]; exact hB⟩

def RetSplitYes (w : World) (L : List (List UInt8)) (e : Ending) (w' : World) : Prop :=
  ∃ v, e = .returned (.tuple #[v, .bool true]) ∧ w'.ownsRow w.heap.size 9 1 v L.length (strCs L) ∧ Below w.heap.size w w'
def RetSplitNo (w : World) (e : Ending) (w' : World) : Prop := ∃ v, e = .returned (.tuple #[v, .bool false]) ∧ Below w.heap.size w w'
theorem split_yes (s : ByteArray) (L : List (List UInt8)) (w : World) (hs : s.size ≤ 100000) (h : Hid (rd [] [] s.data.toList = some L)) :
    Calls Try.prog 34 #[.string s] w (RetSplitYes w L) := by
  have := split_any s w hs
  rw [h.out] at this
  exact this.mono fun _ _ ⟨v, b, he, hb, hO, hB⟩ => ⟨v, by rw [he, hb]; rfl, hO L rfl, hB⟩
theorem split_no (s : ByteArray) (w : World) (hs : s.size ≤ 100000) (h : Hid (rd [] [] s.data.toList = none)) :
    Calls Try.prog 34 #[.string s] w (RetSplitNo w) := by
  have := split_any s w hs
  rw [h.out] at this
  exact this.mono fun _ _ ⟨v, b, he, hb, _, hB⟩ => ⟨v, by rw [he, hb]; rfl, hB⟩

theorem rd_count {L : List (List UInt8)} {cur t : List UInt8} : ∀ {M : List (List UInt8)}, rd L cur t = some M → M.length ≤ L.length + t.length := by
  fun_induction rd L cur t with
  | case1 L cur t h0 h1 => intro M h; injection h with h; subst h; omega
  | case2 => intro M h; cases h
  | case3 => intro M h; cases h
  | case4 L cur t h0 h1 h2 ih =>
    intro M h
    have := ih h
    rw [List.length_append, List.length_drop] at this
    simp only [List.length_cons, List.length_nil] at this
    omega
  | case5 => intro M h; cases h
  | case6 L cur t h0 h1 c hc ih =>
    intro M h
    have := ih h
    rw [List.length_drop] at this
    omega

set_option maxHeartbeats 1000000 in
theorem read_any (s : ByteArray) (w : World) (hs : s.size ≤ 100000) :
    Calls Try.prog 22 #[.string s] w fun e w' => e = .returned (.tuple #[.string (mk (readL s.data.toList)), .int .i64 (readE s.data.toList)]) ∧ Below w.heap.size w w' := by
  by_cases hdot : s.data.toList = [46]
  · have hrt := list_eq s [46]
    rw [decide_eq_true hdot] at hrt
    have hr : readO s.data.toList = some [] := by unfold readO; rw [if_pos hdot]
    rw [readL_of hr, readE_of hr]
    have hM := Lib.hid (make_any none 0 [] w (RdS.void _ _ _) (Nat.zero_le _))
    obtain ⟨r, hrr⟩ : ∃ r, mk (makeL []) = r := ⟨_, rfl⟩
    obtain ⟨E, hE⟩ : ∃ E, makeE [] = E := ⟨_, rfl⟩
    rw [hrr, hE] at hM ⊢
    clear hr hdot hrr hE
    go_enter Try.func22, Try.ntmps22
    go_wp2_with fail
    refine (hM.out).mono ?_
    rintro e w1 ⟨rfl, hB⟩
    go_wp2_with fail
    go_ret2
    exact ⟨rfl, hB⟩
  · have hrt := list_eq s [46]
    rw [decide_eq_false hdot] at hrt
    have hr : readO s.data.toList = rd [] [] s.data.toList := by unfold readO; rw [if_neg hdot]
    cases ho : rd [] [] s.data.toList with
    | none =>
      rw [ho] at hr
      rw [readL_no hr, readE_no hr]
      have HO := Lib.hid ho
      obtain ⟨r, hrr⟩ : ∃ r, mk [] = r := ⟨_, rfl⟩
      have hr0 : r = ⟨#[]⟩ := hrr.symm
      subst hr0
      clear hr hdot ho
      go_enter Try.func22, Try.ntmps22
      go_wp2_with fail
      refine (split_no s _ hs HO).mono ?_
      rintro e w1 ⟨v, rfl, hB⟩
      go_wp2_with fail
      go_ret2
      exact ⟨rfl, hB⟩
    | some L =>
      rw [ho] at hr
      rw [readL_of hr, readE_of hr]
      have hc := rd_count ho
      rw [List.length_nil, ← Lib.size_eq] at hc
      have HO := Lib.hid ho
      have hM := Lib.hid (fun A c w hr => make_any A c L w hr (by omega))
      obtain ⟨r, hrr⟩ : ∃ r, mk (makeL L) = r := ⟨_, rfl⟩
      obtain ⟨E, hE⟩ : ∃ E, makeE L = E := ⟨_, rfl⟩
      rw [hrr, hE] at hM ⊢
      clear hr hdot ho hrr hE
      go_enter Try.func22, Try.ntmps22
      go_wp2_with fail
      refine (split_yes s L _ hs HO).mono ?_
      rintro e w1 ⟨v, rfl, hO, hB⟩
      obtain ⟨A, c, rfl, _, hr, _⟩ := own_rds hO rfl
      have s1 := hB.size
      clear hO
      go_wp2_with fail
      refine (hM.out A c _ hr).mono ?_
      rintro e w2 ⟨rfl, hB2⟩
      go_wp2_with fail
      go_ret2
      exact ⟨rfl, hB.trans (hB2.mono s1)⟩
theorem read_is (s t : ByteArray) (E : Nat) (w : World) (hs : s.size ≤ 100000) (ht : Hid (mk (readL s.data.toList) = t)) (hE : Hid (readE s.data.toList = E)) :
    Calls Try.prog 22 #[.string s] w fun e w' => e = .returned (.tuple #[.string t, .int .i64 E]) ∧ Below w.heap.size w w' := by
  have := read_any s w hs
  rwa [ht.out, hE.out] at this
end Go.Proofs.Ytepbpaaielfpnaa
