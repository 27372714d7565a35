/- Texts of one proof, one behind the other: RecFew, WrFew. -/
import Derived.Test.YtihkmdojakalbaaProg
import Derived.Test.YtihkmdojakalbaaRecAt
import Derived.Test.YtihkmdojakalbaaBytes
import Derived.Test.YtihkmdojakalbaaStrs
import Derived.Test.YtihkmdojakalbaaNums
import Derived.Test.YtihkmdojakalbaaMsgMath
import Derived.Test.YtihkmdojakalbaaNameMath
import Derived.Test.YtihkmdojakalbaaRecMath
import Derived.Test.YtihkmdojakalbaaOwnRow
import Derived.Test.YtihkmdojakalbaaRecRow
import Derived.Test.YtihkmdojakalbaaRecAll
import Derived.Test.YtihkmdojakalbaaWriteBackProofG2
import Derived.WalkKit
import Derived.Lib.Hide
import Derived.Outline
import Derived.IntWalk
import Derived.WalkSpells
import Derived.WalkLawsBesides
import Derived.Lib.MinMax
import Derived.Deep.QuietTactic
import Derived.BigQuiet
import Derived.Deep.Draws
import Derived.Laws.Rows
import Derived.RegionTactic
import Derived.Deep.RegionHeld3

/- The contracts of the laws' own looks at lists of texts and at records: is one small enough to go through it? -/
namespace Go.Proofs.Ytihkmdojakalbaa
open Go.RowKit Bytes Strs Nums NameMath RecMath

def FewTexts (L : List (List UInt8)) (w : World) (e : Ending) (w' : World) : Prop := ∃ b : Bool, e = .returned (.bool b) ∧ (b = true → L.length < 5000 ∧ ∀ j, j < L.length → (L.getD j []).length < 5000) ∧ w = w'
set_option maxHeartbeats 2000000 in
set_option maxRecDepth 100000 in
theorem fewTexts_any (A : Option Addr) (c n : Nat) (L : List (List UInt8)) (w : World) (hr : RdS w w.heap.size A L) (hn0 : Hid (L.length = n)) (hn : n ≤ maxLen) :
    Calls Try.prog 56 #[.slice A n c] w (FewTexts L w) := by
  have HR := Lib.hid hr; clear hr
  unfold maxLen at hn
  have hmin : ∃ m : Nat, min (n : Int) 5000 = (m : Int) ∧ m ≤ 5000 ∧ (n < 5000 ∨ 5000 ≤ m) := ⟨min n 5000, by omega, by omega, by omega⟩
  obtain ⟨m0, hm0, hm1, hm2⟩ := hmin
  have HM2 := Lib.hid hm2; clear hm2
  go_enter Try.func56, Try.ntmps56
  go_wp2_with fail
  clear hm0
  go_loop [3, 4] (fun v i => ∃ k m : Nat, k ≤ n ∧ i = .int .i64 k ∧ v = .int .i64 m ∧ m ≤ 10000 ∧ Hid ((n < 5000 ∨ 5000 ≤ m) ∧ ∀ j, j < k → (L.getD j []).length < 5000 ∨ 5000 ≤ m)) (fun _ i => n - (intOf i).toNat)
  case atStart => exact ⟨0, m0, Nat.zero_le _, rfl, rfl, by omega, Lib.hid ⟨HM2.out, fun j hj => absurd hj (Nat.not_lt_zero _)⟩⟩
  case round =>
    obtain ⟨k, m, hk, rfl, rfl, hm, hH⟩ := hrel
    by_cases hlt : k < n
    · by_cases hml : (m : Int) < 5000
      · have hkl : k < L.length := by rw [hn0.out]; exact hlt
        obtain ⟨a, rfl, hab, hcell⟩ := HR.out.get hkl
        have hsz := mk_size (L.getD k [])
        have hmin : ∃ y : Nat, min ((mk (L.getD k [])).size : Int) 5000 = (y : Int) ∧ y ≤ 5000 ∧ ((L.getD k []).length < 5000 ∨ 5000 ≤ y) := ⟨min (mk (L.getD k [])).size 5000, by omega, by omega, by omega⟩
        obtain ⟨y, hy, hy1, hy2⟩ := hmin
        have hH2 : Hid ((n < 5000 ∨ 5000 ≤ m + y) ∧ ∀ j, j < k + 1 → (L.getD j []).length < 5000 ∨ 5000 ≤ m + y) := by
          refine ⟨by have := hH.out.1; omega, fun j hj => ?_⟩
          rcases Nat.lt_or_ge j k with h | h
          · have := hH.out.2 j h; omega
          · obtain rfl : j = k := by omega
            omega
        generalize mk (L.getD k []) = x at *
        clear hkl hsz hy2 hH
        go_wp2_with fail
        go_round
        case rel => exact ⟨k + 1, m + y, by omega, by go_num, by go_num, by omega, hH2⟩
        case measure => simp [intOf]; omega
      · go_wp2_with fail
        go_ret
        exact ⟨false, rfl, fun h => (by cases h), rfl⟩
    · by_cases hml : (m : Int) < 5000
      · have hok : L.length < 5000 ∧ ∀ j, j < L.length → (L.getD j []).length < 5000 := by
          rw [hn0.out]
          refine ⟨by have := hH.out.1; omega, fun j hj => ?_⟩
          have := hH.out.2 j (by omega)
          omega
        have HOK := Lib.hid hok
        have hd : decide ((m : Int) < 5000) = true := decide_eq_true hml
        clear hok hH
        go_wp2_with fail
        go_ret
        exact ⟨true, rfl, fun _ => HOK.out, rfl⟩
      · have hd : decide ((m : Int) < 5000) = false := decide_eq_false hml
        go_wp2_with fail
        go_ret
        exact ⟨false, rfl, fun h => (by cases h), rfl⟩

/-- A record that came in: no list longer than a machine has room for. -/
def FewRec (R : Rec) (w : World) (e : Ending) (w' : World) : Prop := ∃ b : Bool, e = .returned (.bool b) ∧ (b = true → Small R ∧ R.name.length ≤ 5000) ∧ Below w.heap.size w w'
set_option maxHeartbeats 2000000 in
set_option maxRecDepth 100000 in
theorem few_any (R : Rec) (x : ByteArray) (k l t : Nat) (A1 : Option Addr) (n1 c1 : Nat) (A2 : Option Addr) (n2 c2 : Nat) (A3 : Option Addr) (n3 c3 : Nat) (w : World) (hR : Hid (RecAt w w.heap.size R x k l t A1 n1 A2 n2 A3 n3)) (hu : Hid (∀ k, k < R.nums.length → R.nums.getD k 0 ≤ 4294967295)) (hm1 : n1 ≤ maxLen) (hm2 : n2 ≤ maxLen) (hm3 : n3 ≤ maxLen) :
    Calls Try.prog 30 #[.agg #[.string x, .int .u16 k, .int .u16 l, .int .u32 t, .slice A1 n1 c1, .slice A2 n2 c2, .slice A3 n3 c3]] w (FewRec R w) := by
  have HR2 := Lib.hid (hR.out.box (.cells #[.string x, .int .u16 k, .int .u16 l, .int .u32 t, .slice A1 n1 c1, .slice A2 n2 c2, .slice A3 n3 c3] 49))
  have HB0 : Hid (Below w.heap.size w (w.alloc (.cells #[.string x, .int .u16 k, .int .u16 l, .int .u32 t, .slice A1 n1 c1, .slice A2 n2 c2, .slice A3 n3 c3] 49))) := (Below.refl _ _).alloc (Nat.le_refl _) _
  have hxl := Lib.hid (show x.size = R.name.length by rw [Lib.size_eq, hR.out.name])
  have HM1 := Lib.hid hm1
  have HM3 := Lib.hid hm3
  unfold maxLen at hm1 hm2 hm3
  go_enter Try.func30, Try.ntmps30
  go_wp2_with fail
  refine (fewTexts_any A1 c1 n1 R.names _ HR2.out.rd1 (Lib.hid HR2.out.len1) HM1.out).mono ?_
  rintro e w' ⟨b1, rfl, hb1, rfl⟩
  have HB1 := Lib.hid hb1
  clear hb1
  cases b1 with
  | false =>
    go_wp2_with fail
    go_ret
    exact ⟨false, rfl, fun h => (by cases h), HB0.out⟩
  | true =>
    go_wp2_with fail
    refine (fewTexts_any A3 c3 n3 R.texts _ HR2.out.rd3 (Lib.hid HR2.out.len3) HM3.out).mono ?_
    rintro e w' ⟨b3, rfl, hb3, rfl⟩
    have HB3 := Lib.hid hb3
    clear hb3
    cases b3 with
    | false =>
      go_wp2_with fail
      go_ret
      exact ⟨false, rfl, fun h => (by cases h), HB0.out⟩
    | true =>
      by_cases h2 : (n2 : Int) ≤ 5000
      · by_cases hx : (x.size : Int) ≤ 5000
        · have hok : Small R ∧ R.name.length ≤ 5000 := by
            have h1 := HB1.out (by trivial)
            have h3 := HB3.out (by trivial)
            have hl := hxl.out
            have hn2 := HR2.out.len2
            exact ⟨⟨by omega, by omega, fun k hk => by have := h1.2 k hk; omega, by omega, hu.out, by omega, fun k hk => by have := h3.2 k hk; omega⟩, by omega⟩
          have HOK := Lib.hid hok
          have hd : decide ((x.size : Int) ≤ 5000) = true := decide_eq_true hx
          clear hok
          go_wp2_with fail
          go_ret
          exact ⟨true, rfl, fun _ => HOK.out, HB0.out⟩
        · have hd : decide ((x.size : Int) ≤ 5000) = false := decide_eq_false hx
          go_wp2_with fail
          go_ret
          exact ⟨false, rfl, fun h => (by cases h), HB0.out⟩
      · have hd : decide ((n2 : Int) ≤ 5000) = false := decide_eq_false h2
        go_wp2_with fail
        go_ret
        exact ⟨false, rfl, fun h => (by cases h), HB0.out⟩
end Go.Proofs.Ytihkmdojakalbaa

/- The contracts of the document's Records, and of the laws' own look at messages: is one small enough to go through it? -/
namespace Go.Proofs.Ytihkmdojakalbaa
open Go.RowKit Bytes Strs Nums MsgMath NameMath RecMath WrMath

/-- The same step for a row that is whosever. -/
theorem step_append_recsC {w3 w : World} {ops : Array Oper} {o : Oper} {a : Act} {K : Act → World → Prop} {Q : Exit → Act → World → Prop} {E : Prop} (hgd : o.guard = none) (s x : Operand)
    (ho : o.op = .call { callee := .builtin .append, args := #[s, x], argTypes := #[25, 25] })
    (v : Value) (Z : List RecZ) (hs : a.eval s = v) (hown : AllAt w3 w w3.heap.size v Z) (B : Nat) (A : Option Addr) (m c : Nat) (hx : a.eval x = .slice A m c) (Y : List RecZ) (hY : Y.length = m) (hA : A = none → m = 0 ∧ c = 0) (hsrc : CellsAt w3 B A (recCs Y)) (hB : B ≤ w3.heap.size) (h1 : ∀ u ∈ recCs Y, u.oneCell' = true)
    (hmn : Z.length + m ≤ 1000000) (ZY : List RecZ) (n : Nat) (hZY : Hid (Z ++ Y = ZY)) (hn : ZY.length = n)
    (h : ∀ A c w', AllAt w3 w' w3.heap.size (.slice A n c) ZY → K (a.put o.dst (.slice A n c)) w') : if Region.wanted o (yielded ops a.tmps) = true then Oper.wp Try.prog o a w K Q else E := by
  have hZY2 := hZY.out
  subst hZY2
  subst hn
  subst hY
  have hw : Region.wanted o (yielded ops a.tmps) = true := by simp [Region.wanted, hgd]
  rw [if_pos hw]
  obtain ⟨v', w', hr, h2, h3⟩ := run_append_recsA w o.type w3.heap.size v Z.length (recCs Z) hown.own B A Y.length c (recCs Y) (recCs_len Y) hA (hsrc.on (hown.bl.mono hB) (Nat.le_refl _)) h1 hmn hown.bl.size
  rw [← recCs_app, ← List.length_append] at h2
  have hb : Below w3.heap.size w3 w' := hown.bl.grown h3 hown.bl.size (fun k hk => (hown.own.lt k hk).1)
  unfold Oper.wp
  simp only [execOp, ho, resolve, invoke, builtin, Sem.run_bind, Sem.run_pure, Result.andThen_ok, List.map_toArray, List.map_cons, List.map_nil, hs, hx, hr]
  rcases h2.2 with ⟨rfl, h0⟩ | ⟨b, cap, cur, rfl, hrest⟩
  · rw [h0] at h2
    have := h none 0 w' ⟨by rw [h0]; exact h2, hb⟩
    rw [h0] at this
    exact this
  · exact h _ cap w' ⟨h2, hb⟩
set_option maxHeartbeats 4000000 in
set_option maxRecDepth 100000 in
theorem refRecords_w (M : Msg) (id fl : Nat) (Aq Aa An Ax : Option Addr) (nq na nn nx cq ca cn cx B : Nat) (Za Zn Zx : List RecZ) (w : World) (hv : Hid (MsgV w B M Aq Aa An Ax nq na nn nx ca cn cx Za Zn Zx)) (hB : B ≤ w.heap.size) (hna : na ≤ 1000) (hnn : nn ≤ 1000) (hnx : nx ≤ 1000) :
    Calls Try.prog 29 #[.agg (msgA id fl Aq nq cq Aa na ca An nn cn Ax nx cx)] w fun e w' => ∃ A c, e = .returned (.slice A (na + nn + nx) c) ∧ w'.ownsRow w.heap.size 49 7 (.slice A (na + nn + nx) c) (na + nn + nx) (recCs (Za ++ Zn ++ Zx)) ∧ Below w.heap.size w w' := by
  obtain ⟨b, hb⟩ : ∃ b, w.heap.size = b := ⟨_, rfl⟩
  obtain ⟨w3, hw3⟩ : ∃ w3, w.alloc (.cells (msgA id fl Aq nq cq Aa na ca An nn cn Ax nx cx) 27) = w3 := ⟨_, rfl⟩
  have hbox : w3.heap[b]? = some (.cells (msgA id fl Aq nq cq Aa na ca An nn cn Ax nx cx) 27 (0, 0)) := by rw [← hw3, ← hb]; exact heap_alloc_new w _
  have hb03 : Below b w w3 := by rw [← hw3, ← hb]; exact (Below.refl _ _).alloc (Nat.le_refl _) _
  have hs3 : w3.heap.size = b + 1 := by rw [← hw3, ← hb]; simp
  rw [hb] at hB
  have hr := (hv.out.on (hb03.mono hB) (Nat.le_refl _)).rows
  have HR := Lib.hid hr
  have HS3 := Lib.hid hs3
  have HB03 := Lib.hid hb03
  have HB := Lib.hid hb
  have HA0 := Lib.hid (allAt_none w3)
  obtain ⟨Z2, hZ2⟩ : ∃ Z, Za ++ Zn = Z := ⟨_, rfl⟩
  obtain ⟨Z3, hZ3⟩ : ∃ Z, Z2 ++ Zx = Z := ⟨_, rfl⟩
  obtain ⟨m2, hm2⟩ : ∃ m, na + nn = m := ⟨_, rfl⟩
  obtain ⟨m3, hm3⟩ : ∃ m, m2 + nx = m := ⟨_, rfl⟩
  have hl2 : Z2.length = m2 := by rw [← hZ2, List.length_append, hr.1.2.1, hr.2.1.2.1]; exact hm2
  have hl3 : Z3.length = m3 := by rw [← hZ3, List.length_append, hl2, hr.2.2.2.1]; exact hm3
  have HL2 := Lib.hid hl2
  have HL3 := Lib.hid hl3
  have HZ2 := Lib.hid hZ2
  have HZ3 := Lib.hid hZ3
  have hZ4 : Za ++ Zn ++ Zx = Z3 := by rw [hZ2, hZ3]
  have hm4 : na + nn + nx = m3 := by omega
  have hcp : m2 + nx ≤ 1000000 ∧ na + nn ≤ 1000000 ∧ na ≤ 1000000 := by omega
  have hB3 : B ≤ w3.heap.size := by omega
  have hbl : b < w3.heap.size := by omega
  have HBL := Lib.hid hbl
  have hb3 := cell_of_row _ _ 3 _ _ _ hbox
  have hb4 := cell_of_row _ _ 4 _ _ _ hbox
  have hb5 := cell_of_row _ _ 5 _ _ _ hbox
  rw [hZ4, hm4, hb]
  clear hZ2 hZ3 hm2 hm3 hr hs3 hb03 hl2 hl3 hZ4 hm4 hbox
  go_enter Try.func29, Try.ntmps29
  go_wp2_with fail
  go_region_held3 (fun w' => w'.cell? ⟨b, 3, none⟩ = some (.slice Aa na ca) ∧ w'.cell? ⟨b, 4, none⟩ = some (.slice An nn cn) ∧ w'.cell? ⟨b, 5, none⟩ = some (.slice Ax nx cx)) (go_keep)
    (first
      | (refine step_append_recsC (by rfl) (.tmp 3) (.tmp 5) (by rfl) (.slice (some ⟨w3.heap.size, 0, none⟩) 0 0) [] (by rfl) HA0.out B Aa na ca (by rfl) Za HR.out.1.2.1 HR.out.1.2.2.1 HR.out.1.1 hB3 HR.out.1.2.2.2 (by have := hcp.2.2; simp; omega) Za na rfl HR.out.1.2.1 ?_; intro A1 c1 w5 hA1; have hk3 := (hA1.bl.cell (p := ⟨b, 3, none⟩) HBL.out).trans hb3; have hk4 := (hA1.bl.cell (p := ⟨b, 4, none⟩) HBL.out).trans hb4; have hk5 := (hA1.bl.cell (p := ⟨b, 5, none⟩) HBL.out).trans hb5; have HA1 := Lib.hid hA1; clear hA1)
      | (refine step_append_recsC (by rfl) (.tmp 6) (.tmp 8) (by rfl) (.slice A1 na c1) Za (by rfl) HA1.out B An nn cn (by rfl) Zn HR.out.2.1.2.1 HR.out.2.1.2.2.1 HR.out.2.1.1 hB3 HR.out.2.1.2.2.2 (by rw [HR.out.1.2.1]; exact hcp.2.1) Z2 m2 HZ2 HL2.out ?_; intro A2 c2 w6 hA2; have hk3 := (hA2.bl.cell (p := ⟨b, 3, none⟩) HBL.out).trans hb3; have hk4 := (hA2.bl.cell (p := ⟨b, 4, none⟩) HBL.out).trans hb4; have hk5 := (hA2.bl.cell (p := ⟨b, 5, none⟩) HBL.out).trans hb5; have HA2 := Lib.hid hA2; clear hA2)
      | (refine step_append_recsC (by rfl) (.tmp 9) (.tmp 11) (by rfl) (.slice A2 m2 c2) Z2 (by rfl) HA2.out B Ax nx cx (by rfl) Zx HR.out.2.2.2.1 HR.out.2.2.2.2.1 HR.out.2.2.1 hB3 HR.out.2.2.2.2.2 (by rw [HL2.out]; exact hcp.1) Z3 m3 HZ3 HL3.out ?_; intro A3 c3 w7 hA3; have hk3 := (hA3.bl.cell (p := ⟨b, 3, none⟩) HBL.out).trans hb3; have hk4 := (hA3.bl.cell (p := ⟨b, 4, none⟩) HBL.out).trans hb4; have hk5 := (hA3.bl.cell (p := ⟨b, 5, none⟩) HBL.out).trans hb5; have HA3 := Lib.hid hA3; clear hA3))
  go_wp2_with fail
  go_ret
  have ho := HA3.out.own
  rw [HL3.out] at ho
  exact ⟨A3, c3, rfl, row_low ho (by rw [HS3.out]; exact Nat.le_succ _), HB03.out.trans (HA3.out.bl.mono (by rw [HS3.out]; exact Nat.le_succ _))⟩
/-- A message as one may come in. -/
structure BigM (M : Msg) : Prop where
  id : M.id ≤ 65535
  flags : M.flags ≤ 65535
  nq : M.qs.length ≤ maxLen
  na : M.an.length ≤ maxLen
  nn : M.ns.length ≤ maxLen
  nx : M.ad.length ≤ maxLen
  qs : ∀ q ∈ M.qs, q.name.length ≤ maxLen ∧ q.kind ≤ 65535 ∧ q.cls ≤ 65535
  recs : ∀ R ∈ recsM M, (R.name.length ≤ maxLen ∧ R.names.length ≤ maxLen ∧ R.nums.length ≤ maxLen ∧ R.texts.length ≤ maxLen ∧ R.kind ≤ 65535 ∧ R.cls ≤ 65535 ∧ R.ttl ≤ 4294967295) ∧ ∀ k, k < R.nums.length → R.nums.getD k 0 ≤ 4294967295
/-- The look's answer. -/
def FewEnd (M : Msg) (w : World) (e : Ending) (w' : World) : Prop := ∃ b : Bool, e = .returned (.bool b) ∧ (b = true → FewM M ∧ M.ad.length ≤ 300) ∧ Below w.heap.size w w'
theorem fewEnd_mk {M : Msg} {w w' : World} {g : Nat} (b : Bool) (h : b = true → FewM M ∧ M.ad.length ≤ 300) (hB : Below g w w') (hg : w.heap.size = g) : FewEnd M w (.returned (.bool b)) w' := ⟨b, rfl, h, by rw [hg]; exact hB⟩
set_option maxHeartbeats 8000000 in
set_option maxRecDepth 100000 in
theorem fewM_any (M : Msg) (Aq Aa An Ax : Option Addr) (nq na nn nx cq ca cn cx B : Nat) (Za Zn Zx : List RecZ) (w : World) (hv : Hid (MsgV w B M Aq Aa An Ax nq na nn nx ca cn cx Za Zn Zx)) (hB : B ≤ w.heap.size) (hbig : Hid (BigM M)) :
    Calls Try.prog 14 #[.agg (msgA M.id M.flags Aq nq cq Aa na ca An nn cn Ax nx cx)] w (FewEnd M w) := by
  obtain ⟨id, hid⟩ : ∃ n, M.id = n := ⟨_, rfl⟩
  obtain ⟨fl, hfl⟩ : ∃ n, M.flags = n := ⟨_, rfl⟩
  obtain ⟨g, hg⟩ : ∃ g, w.heap.size = g := ⟨_, rfl⟩
  obtain ⟨wa, hwa⟩ : ∃ wa, w.alloc (.cells (msgA id fl Aq nq cq Aa na ca An nn cn Ax nx cx) 27) = wa := ⟨_, rfl⟩
  have hba : Below g w wa := by rw [← hwa, ← hg]; exact (Below.refl _ _).alloc (Nat.le_refl _) _
  have hbx : wa.heap[g]? = some (.cells (msgA id fl Aq nq cq Aa na ca An nn cn Ax nx cx) 27 (0, 0)) := by rw [← hwa, ← hg]; exact heap_alloc_new w _
  have hsa : wa.heap.size = g + 1 := by rw [← hwa, ← hg]; simp
  rw [hg] at hB
  have hva := hv.out.on (hba.mono hB) (Nat.le_refl _)
  have HG := Lib.hid hg
  have HBA := Lib.hid hba
  have HVA := Lib.hid hva
  have HSA := Lib.hid hsa
  have HBX := Lib.hid hbx
  have hmx : nq ≤ maxLen ∧ na ≤ maxLen ∧ nn ≤ maxLen ∧ nx ≤ maxLen := by
    have := hbig.out.nq; have := hbig.out.na; have := hbig.out.nn; have := hbig.out.nx
    have := hv.out.eq; have := hv.out.ea; have := hv.out.en; have := hv.out.ex
    omega
  unfold maxLen at hmx
  have k0 := cell_of_row _ _ 0 _ _ _ hbx
  have k1 := cell_of_row _ _ 1 _ _ _ hbx
  have k2 := cell_of_row _ _ 2 _ _ _ hbx
  have k3 := cell_of_row _ _ 3 _ _ _ hbx
  have k4 := cell_of_row _ _ 4 _ _ _ hbx
  have k5 := cell_of_row _ _ 5 _ _ _ hbx
  rw [hid, hfl]
  clear hbx hba hva hsa hid hfl
  by_cases h1 : (300 : Int) < nq
  · go_enter Try.func14, Try.ntmps14
    go_wp2_with fail
    go_ret
    exact fewEnd_mk false (fun h => (by cases h)) HBA.out HG.out
  by_cases h2 : (300 : Int) < na
  · go_enter Try.func14, Try.ntmps14
    go_wp2_with fail
    go_ret
    exact fewEnd_mk false (fun h => (by cases h)) HBA.out HG.out
  by_cases h3 : (300 : Int) < nn
  · go_enter Try.func14, Try.ntmps14
    go_wp2_with fail
    go_ret
    exact fewEnd_mk false (fun h => (by cases h)) HBA.out HG.out
  by_cases h4 : (300 : Int) < nx
  · go_enter Try.func14, Try.ntmps14
    go_wp2_with fail
    go_ret
    exact fewEnd_mk false (fun h => (by cases h)) HBA.out HG.out
  have hcnt : nq ≤ 300 ∧ na ≤ 300 ∧ nn ≤ 300 ∧ nx ≤ 300 := by omega
  have HCNT := Lib.hid hcnt
  have HRC := Lib.hid (fun W (hW : Below (g + 1) wa W) (hs : g + 1 ≤ W.heap.size) => refRecords_w M id fl Aq Aa An Ax nq na nn nx cq ca cn cx B Za Zn Zx W (HVA.out.on (hW.mono (by omega)) (Nat.le_refl _)) (by omega) (by omega) (by omega) (by omega))
  go_enter Try.func14, Try.ntmps14
  go_wp2_with fail
  go_loop [3, 4] (fun v i => ∃ j n : Nat, i = .int .i64 j ∧ v = .int .i64 n ∧ j ≤ nq ∧ n ≤ 70000) (fun _ i => nq - (intOf i).toNat)
  case atStart => exact ⟨0, 0, rfl, rfl, Nat.zero_le _, Nat.zero_le _⟩
  case round =>
    obtain ⟨j, n, rfl, rfl, hj, hn⟩ := hrel
    by_cases hlt : j < nq
    · have hjl : j < M.qs.length := by rw [hv.out.eq]; exact hlt
      obtain ⟨b, off, rfl, hbl, p0, p1, p2⟩ := HVA.out.at_.q.qn hjl
      have hqn := (hbig.out.qs _ (List.getElem_mem hjl)).1
      rw [← mk_size] at hqn
      generalize mk (M.qs[j]'hjl).name = x at *
      have hmin : ∃ y : Nat, min (x.size : Int) 60000 = (y : Int) ∧ y ≤ 60000 := ⟨min x.size 60000, by omega, by omega⟩
      obtain ⟨y, hy, hy1⟩ := hmin
      unfold maxLen at hqn
      by_cases hbg : n + y ≤ 70000
      · have hbi : ((n : Int) + y) ≤ 70000 := by omega
        clear p1 p2
        go_wp2_with fail
        go_round
        case rel => exact ⟨j + 1, n + y, by go_num, by go_num, by omega, hbg⟩
        case measure => simp [intOf]; omega
      · have hbi : (70000 : Int) < ((n : Int) + y) := by omega
        clear p1 p2
        go_wp2_with fail
        go_ret
        exact fewEnd_mk false (fun h => (by cases h)) HBA.out HG.out
    · have hjn : ¬ ((j : Int) < (nq : Int)) := by omega
      clear hlt
      go_wp2_with fail
      refine (HRC.out wa (Below.refl _ _) (by rw [HSA.out]; exact Nat.le_refl _)).mono ?_
      rintro e w2 ⟨Ar, cr, rfl, hO, hB2⟩
      have hall := HVA.out.all
      obtain ⟨ZZ, hZZ⟩ : ∃ Z, Za ++ Zn ++ Zx = Z := ⟨_, rfl⟩
      obtain ⟨nz, hnz⟩ : ∃ n, na + nn + nx = n := ⟨_, rfl⟩
      rw [hZZ] at hall hO
      rw [hnz] at hall hO
      obtain ⟨Ar', cr', ev, hcell⟩ := cells_own hO
      injection ev with ev1 _ _
      rw [← ev1] at hcell
      have HCE := Lib.hid hcell
      have HALL := Lib.hid hall
      have HW2 : Hid (Below (g + 1) wa w2) := by have := hB2; rw [HSA.out] at this; exact this
      have hnz2 : nz ≤ 900 := by omega
      obtain ⟨g2, hg2⟩ : ∃ n, w2.heap.size = n := ⟨_, rfl⟩
      have HG2 := Lib.hid hg2
      have HGG2 : Hid (g + 1 ≤ g2) := by have := HW2.out.size; rw [HSA.out, hg2] at this; exact this
      rw [hg2] at HCE
      have HNZ : Hid (na + nn + nx = nz) := hnz
      clear hO hB2 hall hcell hZZ hnz hg2 k0 k1 k2 k3 k4 k5 ev1
      rw [HNZ.out]
      go_wp2_with fail
      go_loopw [3, 6] (fun v i ws => ∃ k n : Nat, i = .int .i64 k ∧ v = .int .i64 n ∧ k ≤ nz ∧ n ≤ 70000 ∧ Hid (Below g2 w2 ws) ∧ Hid (∀ i (hi : i < (recsM M).length), i < k → Small ((recsM M)[i]))) (fun _ i _ => nz - (intOf i).toNat)
      case atStart => exact ⟨0, n, rfl, rfl, Nat.zero_le _, hn, Below.refl _ _, fun i hi h => absurd h (Nat.not_lt_zero _)⟩
      case round =>
        obtain ⟨k, n2, rfl, rfl, hk, hn2, hV, hF⟩ := hrel
        have HGV : Hid (g2 ≤ wr.heap.size) := by have := hV.out.size; rw [HG2.out] at this; exact this
        by_cases hlk : k < nz
        · have hkz : k < ZZ.length := by rw [HALL.out.2.2]; exact hlk
          have hz1 : ZAt wr B ZZ := HALL.out.2.1.on ((HW2.out.mono (by omega)).trans (hV.out.mono (by have := HGG2.out; omega))) (Nat.le_refl _)
          obtain ⟨br, off, B1, e1, B2, e2, B3, e3, rfl, hbr, hat, p0, p1, p2, p3, p4, p5, p6⟩ := recs_get (HCE.out.on hV.out (Nat.le_refl _)) (hz1.on (Below.refl _ _) (show B ≤ g2 by have := HGG2.out; omega)) hkz
          obtain ⟨hkM, hkR⟩ := get_map HALL.out.1 hkz
          have hbg := hbig.out.recs _ (List.getElem_mem hkM)
          rw [← hkR] at hbg
          obtain ⟨RR, hRR⟩ : ∃ R, (ZZ[k]'hkz).1 = R := ⟨_, rfl⟩
          rw [hRR] at hat p0 p1 p2 p3 p4 p5 p6 hbg
          have HKR : Hid (∃ hh : k < (recsM M).length, (recsM M)[k]'hh = RR) := ⟨hkM, by rw [← hkR, hRR]⟩
          obtain ⟨xn, hxn⟩ : ∃ x, mk RR.name = x := ⟨_, rfl⟩
          obtain ⟨rk, hrk⟩ : ∃ n, RR.kind = n := ⟨_, rfl⟩
          obtain ⟨rc, hrc⟩ : ∃ n, RR.cls = n := ⟨_, rfl⟩
          obtain ⟨rt, hrt⟩ : ∃ n, RR.ttl = n := ⟨_, rfl⟩
          obtain ⟨l1, hl1⟩ : ∃ n, RR.names.length = n := ⟨_, rfl⟩
          obtain ⟨l2, hl2⟩ : ∃ n, RR.nums.length = n := ⟨_, rfl⟩
          obtain ⟨l3, hl3⟩ : ∃ n, RR.texts.length = n := ⟨_, rfl⟩
          rw [hxn] at p0
          rw [hrk] at p1
          rw [hrc] at p2
          rw [hrt] at p3
          rw [hl1] at p4
          rw [hl2] at p5
          rw [hl3] at p6
          rw [hxn, hrk, hrc, hrt, hl1, hl2, hl3] at hat
          have HFW := Lib.hid (few_any RR xn rk rc rt B1 l1 e1 B2 l2 e2 B3 l3 e3 wr (hat.on (Below.refl _ _) HGV.out) hbg.2 (by omega) (by omega) (by omega))
          have HRD1 := Lib.hid hat.rd1
          have HRD3 := Lib.hid hat.rd3
          have HXN : Hid (xn.size = RR.name.length) := by rw [← hxn]; exact mk_size _
          have HL1 := Lib.hid hl1
          have HL2 := Lib.hid hl2
          have HL3 := Lib.hid hl3
          have HBR := Lib.hid hbr
          clear hRR hxn hrk hrc hrt hl1 hl2 hl3 hat hkR hkM hz1 hbg
          go_wp2_with fail
          refine HFW.out.mono ?_
          rintro e w5 ⟨bb, rfl, hbb, hB5⟩
          have HV5 : Hid (Below g2 w2 w5) := hV.out.trans (hB5.mono HGV.out)
          have q0 := (hB5.cell (p := ⟨br, off + k * 7, none⟩) (Nat.lt_of_lt_of_le hbr HGV.out)).trans p0
          have q4 := (hB5.cell (p := ⟨br, off + k * 7 + 4, none⟩) (Nat.lt_of_lt_of_le hbr HGV.out)).trans p4
          have q5 := (hB5.cell (p := ⟨br, off + k * 7 + 5, none⟩) (Nat.lt_of_lt_of_le hbr HGV.out)).trans p5
          have q6 := (hB5.cell (p := ⟨br, off + k * 7 + 6, none⟩) (Nat.lt_of_lt_of_le hbr HGV.out)).trans p6
          have HBB := Lib.hid hbb
          have HR1 := Lib.hid (HRD1.out.on (hB5.mono HGV.out) (Nat.le_refl _))
          have HR3 := Lib.hid (HRD3.out.on (hB5.mono HGV.out) (Nat.le_refl _))
          clear hB5 hbb p0 p1 p2 p3 p4 p5 p6 HFW hV HRD1 HRD3 hbr
          cases bb with
          | false =>
            have HE5 : Hid (Below g w w5) := HBA.out.trans ((HW2.out.mono (Nat.le_succ _)).trans (HV5.out.mono (by have := HGG2.out; omega)))
            go_wp2_with fail
            go_ret
            exact fewEnd_mk false (fun h => (by cases h)) HE5.out HG.out
          | true =>
            have hsm := HBB.out rfl
            have HSM := Lib.hid hsm.1
            have hx5 : xn.size ≤ 5000 := by rw [HXN.out]; exact hsm.2
            have hl1b : l1 ≤ 100000 := by rw [← HL1.out]; exact hsm.1.n1
            have hl2b : l2 ≤ 100000 := by rw [← HL2.out]; exact hsm.1.n2
            have hl3b : l3 ≤ 100000 := by rw [← HL3.out]; exact hsm.1.n3
            have HF2 : Hid (∀ i (hi : i < (recsM M).length), i < k + 1 → Small ((recsM M)[i])) := fun i hi h => by
              by_cases h2 : i < k
              · exact hF.out i hi h2
              · obtain rfl : i = k := by omega
                obtain ⟨hh, he⟩ := HKR.out
                rw [he]; exact HSM.out
            clear hsm hF HBB
            go_wp2_with fail
            obtain ⟨wo, rfl⟩ : ∃ wo : World, wo = w5 := ⟨_, rfl⟩
            go_loop [3, 7] (fun v i => ∃ j m : Nat, i = .int .i64 j ∧ v = .int .i64 m ∧ j ≤ l1 ∧ m ≤ 70000 + j * 100000) (fun _ i => l1 - (intOf i).toNat)
            case atStart => exact ⟨0, n2, rfl, rfl, Nat.zero_le _, by omega⟩
            case round =>
              obtain ⟨j1, m1, rfl, rfl, hj1, hm1⟩ := hrel
              by_cases hl1t : j1 < l1
              · have hjl : j1 < RR.names.length := by rw [HL1.out]; exact hl1t
                obtain ⟨a, rfl, hab, hcell⟩ := HR1.out.get hjl
                have hsz := HSM.out.s1 j1 hjl
                rw [← mk_size] at hsz
                generalize mk (RR.names.getD j1 []) = z at *
                have hmi : (m1 : Int) + z.size ≤ 70000 + (j1 + 1) * 100000 := by omega
                have hmb : m1 ≤ 100000000000 := by omega
                clear hjl
                go_wp2_with fail
                go_round
                case rel => exact ⟨j1 + 1, m1 + z.size, by go_num, by go_num, by omega, by omega⟩
                case measure => simp [intOf]; omega
              · have hjn1 : ¬ ((j1 : Int) < (l1 : Int)) := by omega
                have hm1b : m1 ≤ 10000070000 := by
                  have := Nat.mul_le_mul_right 100000 (Nat.le_trans hj1 hl1b)
                  omega
                clear hl1t hm1
                go_wp2_with fail
                go_loop [3, 8] (fun v i => ∃ j m : Nat, i = .int .i64 j ∧ v = .int .i64 m ∧ j ≤ l3 ∧ m ≤ 10000070000 + j * 100000) (fun _ i => l3 - (intOf i).toNat)
                case atStart => exact ⟨0, m1, rfl, rfl, Nat.zero_le _, by omega⟩
                case round =>
                  obtain ⟨j3, m3, rfl, rfl, hj3, hm3⟩ := hrel
                  by_cases hl3t : j3 < l3
                  · have hjl : j3 < RR.texts.length := by rw [HL3.out]; exact hl3t
                    obtain ⟨a, rfl, hab, hcell⟩ := HR3.out.get hjl
                    have hsz := HSM.out.s3 j3 hjl
                    rw [← mk_size] at hsz
                    generalize mk (RR.texts.getD j3 []) = z at *
                    have hmb : m3 ≤ 1000000000000 := by omega
                    clear hjl
                    go_wp2_with fail
                    go_round
                    case rel => exact ⟨j3 + 1, m3 + z.size, by go_num, by go_num, by omega, by omega⟩
                    case measure => simp [intOf]; omega
                  · have hjn3 : ¬ ((j3 : Int) < (l3 : Int)) := by omega
                    have hm3b : m3 ≤ 1000000000000 := by
                      have := Nat.mul_le_mul_right 100000 (Nat.le_trans hj3 hl3b)
                      omega
                    have hs1w : IntKind.i64.wrap ((m3 : Int) + xn.size) = ((m3 + xn.size : Nat) : Int) := by rw [IntKind.wrap_i64]; omega
                    have hs2w : IntKind.i64.wrap (((m3 + xn.size : Nat) : Int) + l2) = ((m3 + xn.size + l2 : Nat) : Int) := by rw [IntKind.wrap_i64]; omega
                    clear hl3t hm3
                    by_cases hbig2 : m3 + xn.size + l2 ≤ 70000
                    · have hbi : ((m3 + xn.size + l2 : Nat) : Int) ≤ 70000 := by omega
                      have HVN : ∀ n, Below g2 w2 (wo.drewN n) := fun n => below_drewN HV5.out n
                      have HVN2 := Lib.hid HVN
                      clear HVN
                      go_wp2_with fail
                      go_quiet (fail)
                      go_wp2_with fail
                      go_roundw
                      case rel =>
                        (repeat apply Exists.intro)
                        first | exact ⟨by go_num, by go_num, by omega, hbig2, HVN2.out _, HF2⟩ | exact ⟨⟨k + 1, m3 + xn.size + l2, by go_num, by go_num, by omega, hbig2, HVN2.out _, HF2⟩, rfl⟩
                      case measure => simp [intOf]; omega
                    · have hbi : (70000 : Int) < ((m3 + xn.size + l2 : Nat) : Int) := by omega
                      have HE5 : Hid (∀ n, Below g w (wo.drewN n)) := fun n => below_drewN (HBA.out.trans ((HW2.out.mono (Nat.le_succ _)).trans (HV5.out.mono (by have := HGG2.out; omega)))) n
                      go_wp2_with fail
                      go_quiet (fail)
                      go_wp2_with fail
                      go_ret
                      exact fewEnd_mk false (fun h => (by cases h)) (HE5.out _) HG.out
        · have hkn : ¬ ((k : Int) < (nz : Int)) := by omega
          have HE5 : Hid (Below g w wr) := HBA.out.trans ((HW2.out.mono (Nat.le_succ _)).trans (hV.out.mono (by have := HGG2.out; omega)))
          have HFM : Hid (FewM M) := by
            have hc := HCNT.out
            have hl := HALL.out.1
            have hl2 : (recsM M).length = nz := by rw [← hl, List.length_map]; exact HALL.out.2.2
            refine ⟨hbig.out.id, hbig.out.flags, by rw [hv.out.eq]; omega, by rw [hv.out.ea]; omega, by rw [hv.out.en]; omega, by rw [hv.out.ex]; omega, hbig.out.qs, fun _ R hR => ?_⟩
            obtain ⟨i, hi, rfl⟩ := List.getElem_of_mem hR
            have hb := (hbig.out.recs _ (List.getElem_mem hi)).1
            exact ⟨hF.out i hi (by omega), hb.2.2.2.2.1, hb.2.2.2.2.2.1, hb.2.2.2.2.2.2⟩
          clear hlk hF hV
          go_wp2_with fail
          go_ret
          exact fewEnd_mk true (fun _ => ⟨HFM.out, by rw [hv.out.ex]; exact HCNT.out.2.2.2⟩) HE5.out HG.out
end Go.Proofs.Ytihkmdojakalbaa
