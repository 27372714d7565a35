/- Texts of one proof, one behind the other: RecFew, WrFew, WrBack, WrBackRec, RefSameAny, WrRound. -/
import Derived.Test.YtpmmjmnleoicjaaProg
import Derived.Test.YtpmmjmnleoicjaaRecAt
import Derived.Test.YtpmmjmnleoicjaaBytes
import Derived.Test.YtpmmjmnleoicjaaStrs
import Derived.Test.YtpmmjmnleoicjaaNums
import Derived.Test.YtpmmjmnleoicjaaMsgMath
import Derived.Test.YtpmmjmnleoicjaaNameMath
import Derived.Test.YtpmmjmnleoicjaaRecMath
import Derived.Test.YtpmmjmnleoicjaaOwnRow
import Derived.Test.YtpmmjmnleoicjaaRecRow
import Derived.Test.YtpmmjmnleoicjaaRecAll
import Derived.Test.YtpmmjmnleoicjaaWriteBytesProofG2
import Derived.Test.YtpmmjmnleoicjaaWriteBytesProofG1
import Derived.Test.YtpmmjmnleoicjaaRecsRow
import Derived.Test.YtpmmjmnleoicjaaRdrAsk
import Derived.Test.YtpmmjmnleoicjaaGrown
import Derived.Test.YtpmmjmnleoicjaaRecRefSame
import Derived.Test.YtpmmjmnleoicjaaRefSameMsg
import Derived.Test.YtpmmjmnleoicjaaRdrRead
import Derived.WalkKit
import Derived.Lib.Hide
import Derived.Outline
import Derived.IntWalk
import Derived.WalkSpells
import Derived.WalkLawsBesides
import Derived.Lib.MinMax
import Derived.Deep.QuietTactic
import Derived.BigQuiet
import Derived.Deep.Draws
import Derived.Laws.Rows
import Derived.RegionTactic
import Derived.Deep.RegionHeld3
import Derived.Deep.RegionWith

/- The contracts of the laws' own looks at lists of texts and at records: is one small enough to go through it? -/
namespace Go.Proofs.Ytpmmjmnleoicjaa
open Go.RowKit Bytes Strs Nums NameMath RecMath

def FewTexts (L : List (List UInt8)) (w : World) (e : Ending) (w' : World) : Prop := ∃ b : Bool, e = .returned (.bool b) ∧ (b = true → L.length < 5000 ∧ ∀ j, j < L.length → (L.getD j []).length < 5000) ∧ w = w'
set_option maxHeartbeats 2000000 in
set_option maxRecDepth 100000 in
theorem fewTexts_any (A : Option Addr) (c n : Nat) (L : List (List UInt8)) (w : World) (hr : RdS w w.heap.size A L) (hn0 : Hid (L.length = n)) (hn : n ≤ maxLen) :
    Calls Try.prog 83 #[.slice A n c] w (FewTexts L w) := by
  have HR := Lib.hid hr; clear hr
  unfold maxLen at hn
  have hmin : ∃ m : Nat, min (n : Int) 5000 = (m : Int) ∧ m ≤ 5000 ∧ (n < 5000 ∨ 5000 ≤ m) := ⟨min n 5000, by omega, by omega, by omega⟩
  obtain ⟨m0, hm0, hm1, hm2⟩ := hmin
  have HM2 := Lib.hid hm2; clear hm2
  go_enter Try.func83, Try.ntmps83
  go_wp2_with fail
  clear hm0
  go_loop [3, 4] (fun v i => ∃ k m : Nat, k ≤ n ∧ i = .int .i64 k ∧ v = .int .i64 m ∧ m ≤ 10000 ∧ Hid ((n < 5000 ∨ 5000 ≤ m) ∧ ∀ j, j < k → (L.getD j []).length < 5000 ∨ 5000 ≤ m)) (fun _ i => n - (intOf i).toNat)
  case atStart => exact ⟨0, m0, Nat.zero_le _, rfl, rfl, by omega, Lib.hid ⟨HM2.out, fun j hj => absurd hj (Nat.not_lt_zero _)⟩⟩
  case round =>
    obtain ⟨k, m, hk, rfl, rfl, hm, hH⟩ := hrel
    by_cases hlt : k < n
    · by_cases hml : (m : Int) < 5000
      · have hkl : k < L.length := by rw [hn0.out]; exact hlt
        obtain ⟨a, rfl, hab, hcell⟩ := HR.out.get hkl
        have hsz := mk_size (L.getD k [])
        have hmin : ∃ y : Nat, min ((mk (L.getD k [])).size : Int) 5000 = (y : Int) ∧ y ≤ 5000 ∧ ((L.getD k []).length < 5000 ∨ 5000 ≤ y) := ⟨min (mk (L.getD k [])).size 5000, by omega, by omega, by omega⟩
        obtain ⟨y, hy, hy1, hy2⟩ := hmin
        have hH2 : Hid ((n < 5000 ∨ 5000 ≤ m + y) ∧ ∀ j, j < k + 1 → (L.getD j []).length < 5000 ∨ 5000 ≤ m + y) := by
          refine ⟨by have := hH.out.1; omega, fun j hj => ?_⟩
          rcases Nat.lt_or_ge j k with h | h
          · have := hH.out.2 j h; omega
          · obtain rfl : j = k := by omega
            omega
        generalize mk (L.getD k []) = x at *
        clear hkl hsz hy2 hH
        go_wp2_with fail
        go_round
        case rel => exact ⟨k + 1, m + y, by omega, by go_num, by go_num, by omega, hH2⟩
        case measure => simp [intOf]; omega
      · go_wp2_with fail
        go_ret
        exact ⟨false, rfl, fun h => (by cases h), rfl⟩
    · by_cases hml : (m : Int) < 5000
      · have hok : L.length < 5000 ∧ ∀ j, j < L.length → (L.getD j []).length < 5000 := by
          rw [hn0.out]
          refine ⟨by have := hH.out.1; omega, fun j hj => ?_⟩
          have := hH.out.2 j (by omega)
          omega
        have HOK := Lib.hid hok
        have hd : decide ((m : Int) < 5000) = true := decide_eq_true hml
        clear hok hH
        go_wp2_with fail
        go_ret
        exact ⟨true, rfl, fun _ => HOK.out, rfl⟩
      · have hd : decide ((m : Int) < 5000) = false := decide_eq_false hml
        go_wp2_with fail
        go_ret
        exact ⟨false, rfl, fun h => (by cases h), rfl⟩

/-- A record that came in: no list longer than a machine has room for. -/
def FewRec (R : Rec) (w : World) (e : Ending) (w' : World) : Prop := ∃ b : Bool, e = .returned (.bool b) ∧ (b = true → Small R ∧ R.name.length ≤ 5000) ∧ Below w.heap.size w w'
set_option maxHeartbeats 2000000 in
set_option maxRecDepth 100000 in
theorem few_any (R : Rec) (x : ByteArray) (k l t : Nat) (A1 : Option Addr) (n1 c1 : Nat) (A2 : Option Addr) (n2 c2 : Nat) (A3 : Option Addr) (n3 c3 : Nat) (w : World) (hR : Hid (RecAt w w.heap.size R x k l t A1 n1 A2 n2 A3 n3)) (hu : Hid (∀ k, k < R.nums.length → R.nums.getD k 0 ≤ 4294967295)) (hm1 : n1 ≤ maxLen) (hm2 : n2 ≤ maxLen) (hm3 : n3 ≤ maxLen) :
    Calls Try.prog 42 #[.agg #[.string x, .int .u16 k, .int .u16 l, .int .u32 t, .slice A1 n1 c1, .slice A2 n2 c2, .slice A3 n3 c3]] w (FewRec R w) := by
  have HR2 := Lib.hid (hR.out.box (.cells #[.string x, .int .u16 k, .int .u16 l, .int .u32 t, .slice A1 n1 c1, .slice A2 n2 c2, .slice A3 n3 c3] 60))
  have HB0 : Hid (Below w.heap.size w (w.alloc (.cells #[.string x, .int .u16 k, .int .u16 l, .int .u32 t, .slice A1 n1 c1, .slice A2 n2 c2, .slice A3 n3 c3] 60))) := (Below.refl _ _).alloc (Nat.le_refl _) _
  have hxl := Lib.hid (show x.size = R.name.length by rw [Lib.size_eq, hR.out.name])
  have HM1 := Lib.hid hm1
  have HM3 := Lib.hid hm3
  unfold maxLen at hm1 hm2 hm3
  go_enter Try.func42, Try.ntmps42
  go_wp2_with fail
  refine (fewTexts_any A1 c1 n1 R.names _ HR2.out.rd1 (Lib.hid HR2.out.len1) HM1.out).mono ?_
  rintro e w' ⟨b1, rfl, hb1, rfl⟩
  have HB1 := Lib.hid hb1
  clear hb1
  cases b1 with
  | false =>
    go_wp2_with fail
    go_ret
    exact ⟨false, rfl, fun h => (by cases h), HB0.out⟩
  | true =>
    go_wp2_with fail
    refine (fewTexts_any A3 c3 n3 R.texts _ HR2.out.rd3 (Lib.hid HR2.out.len3) HM3.out).mono ?_
    rintro e w' ⟨b3, rfl, hb3, rfl⟩
    have HB3 := Lib.hid hb3
    clear hb3
    cases b3 with
    | false =>
      go_wp2_with fail
      go_ret
      exact ⟨false, rfl, fun h => (by cases h), HB0.out⟩
    | true =>
      by_cases h2 : (n2 : Int) ≤ 5000
      · by_cases hx : (x.size : Int) ≤ 5000
        · have hok : Small R ∧ R.name.length ≤ 5000 := by
            have h1 := HB1.out (by trivial)
            have h3 := HB3.out (by trivial)
            have hl := hxl.out
            have hn2 := HR2.out.len2
            exact ⟨⟨by omega, by omega, fun k hk => by have := h1.2 k hk; omega, by omega, hu.out, by omega, fun k hk => by have := h3.2 k hk; omega⟩, by omega⟩
          have HOK := Lib.hid hok
          have hd : decide ((x.size : Int) ≤ 5000) = true := decide_eq_true hx
          clear hok
          go_wp2_with fail
          go_ret
          exact ⟨true, rfl, fun _ => HOK.out, HB0.out⟩
        · have hd : decide ((x.size : Int) ≤ 5000) = false := decide_eq_false hx
          go_wp2_with fail
          go_ret
          exact ⟨false, rfl, fun h => (by cases h), HB0.out⟩
      · have hd : decide ((n2 : Int) ≤ 5000) = false := decide_eq_false h2
        go_wp2_with fail
        go_ret
        exact ⟨false, rfl, fun h => (by cases h), HB0.out⟩
end Go.Proofs.Ytpmmjmnleoicjaa

/- The contracts of the document's Records, and of the laws' own look at messages: is one small enough to go through it? -/
namespace Go.Proofs.Ytpmmjmnleoicjaa
open Go.RowKit Bytes Strs Nums MsgMath NameMath RecMath WrMath

/-- The same step for a row that is whosever. -/
theorem step_append_recsC {w3 w : World} {ops : Array Oper} {o : Oper} {a : Act} {K : Act → World → Prop} {Q : Exit → Act → World → Prop} {E : Prop} (hgd : o.guard = none) (s x : Operand)
    (ho : o.op = .call { callee := .builtin .append, args := #[s, x], argTypes := #[24, 24] })
    (v : Value) (Z : List RecZ) (hs : a.eval s = v) (hown : AllAt w3 w w3.heap.size v Z) (B : Nat) (A : Option Addr) (m c : Nat) (hx : a.eval x = .slice A m c) (Y : List RecZ) (hY : Y.length = m) (hA : A = none → m = 0 ∧ c = 0) (hsrc : CellsAt w3 B A (recCs Y)) (hB : B ≤ w3.heap.size) (h1 : ∀ u ∈ recCs Y, u.oneCell' = true)
    (hmn : Z.length + m ≤ 1000000) (ZY : List RecZ) (n : Nat) (hZY : Hid (Z ++ Y = ZY)) (hn : ZY.length = n)
    (h : ∀ A c w', AllAt w3 w' w3.heap.size (.slice A n c) ZY → K (a.put o.dst (.slice A n c)) w') : if Region.wanted o (yielded ops a.tmps) = true then Oper.wp Try.prog o a w K Q else E := by
  have hZY2 := hZY.out
  subst hZY2
  subst hn
  subst hY
  have hw : Region.wanted o (yielded ops a.tmps) = true := by simp [Region.wanted, hgd]
  rw [if_pos hw]
  obtain ⟨v', w', hr, h2, h3⟩ := run_append_recsA w o.type w3.heap.size v Z.length (recCs Z) hown.own B A Y.length c (recCs Y) (recCs_len Y) hA (hsrc.on (hown.bl.mono hB) (Nat.le_refl _)) h1 hmn hown.bl.size
  rw [← recCs_app, ← List.length_append] at h2
  have hb : Below w3.heap.size w3 w' := hown.bl.grown h3 hown.bl.size (fun k hk => (hown.own.lt k hk).1)
  unfold Oper.wp
  simp only [execOp, ho, resolve, invoke, builtin, Sem.run_bind, Sem.run_pure, Result.andThen_ok, List.map_toArray, List.map_cons, List.map_nil, hs, hx, hr]
  rcases h2.2 with ⟨rfl, h0⟩ | ⟨b, cap, cur, rfl, hrest⟩
  · rw [h0] at h2
    have := h none 0 w' ⟨by rw [h0]; exact h2, hb⟩
    rw [h0] at this
    exact this
  · exact h _ cap w' ⟨h2, hb⟩
set_option maxHeartbeats 4000000 in
set_option maxRecDepth 100000 in
theorem refRecords_w (M : Msg) (id fl : Nat) (Aq Aa An Ax : Option Addr) (nq na nn nx cq ca cn cx B : Nat) (Za Zn Zx : List RecZ) (w : World) (hv : Hid (MsgV w B M Aq Aa An Ax nq na nn nx ca cn cx Za Zn Zx)) (hB : B ≤ w.heap.size) (hna : na ≤ 1000) (hnn : nn ≤ 1000) (hnx : nx ≤ 1000) :
    Calls Try.prog 37 #[.agg (msgA id fl Aq nq cq Aa na ca An nn cn Ax nx cx)] w fun e w' => ∃ A c, e = .returned (.slice A (na + nn + nx) c) ∧ w'.ownsRow w.heap.size 60 7 (.slice A (na + nn + nx) c) (na + nn + nx) (recCs (Za ++ Zn ++ Zx)) ∧ Below w.heap.size w w' := by
  obtain ⟨b, hb⟩ : ∃ b, w.heap.size = b := ⟨_, rfl⟩
  obtain ⟨w3, hw3⟩ : ∃ w3, w.alloc (.cells (msgA id fl Aq nq cq Aa na ca An nn cn Ax nx cx) 26) = w3 := ⟨_, rfl⟩
  have hbox : w3.heap[b]? = some (.cells (msgA id fl Aq nq cq Aa na ca An nn cn Ax nx cx) 26 (0, 0)) := by rw [← hw3, ← hb]; exact heap_alloc_new w _
  have hb03 : Below b w w3 := by rw [← hw3, ← hb]; exact (Below.refl _ _).alloc (Nat.le_refl _) _
  have hs3 : w3.heap.size = b + 1 := by rw [← hw3, ← hb]; simp
  rw [hb] at hB
  have hr := (hv.out.on (hb03.mono hB) (Nat.le_refl _)).rows
  have HR := Lib.hid hr
  have HS3 := Lib.hid hs3
  have HB03 := Lib.hid hb03
  have HB := Lib.hid hb
  have HA0 := Lib.hid (allAt_none w3)
  obtain ⟨Z2, hZ2⟩ : ∃ Z, Za ++ Zn = Z := ⟨_, rfl⟩
  obtain ⟨Z3, hZ3⟩ : ∃ Z, Z2 ++ Zx = Z := ⟨_, rfl⟩
  obtain ⟨m2, hm2⟩ : ∃ m, na + nn = m := ⟨_, rfl⟩
  obtain ⟨m3, hm3⟩ : ∃ m, m2 + nx = m := ⟨_, rfl⟩
  have hl2 : Z2.length = m2 := by rw [← hZ2, List.length_append, hr.1.2.1, hr.2.1.2.1]; exact hm2
  have hl3 : Z3.length = m3 := by rw [← hZ3, List.length_append, hl2, hr.2.2.2.1]; exact hm3
  have HL2 := Lib.hid hl2
  have HL3 := Lib.hid hl3
  have HZ2 := Lib.hid hZ2
  have HZ3 := Lib.hid hZ3
  have hZ4 : Za ++ Zn ++ Zx = Z3 := by rw [hZ2, hZ3]
  have hm4 : na + nn + nx = m3 := by omega
  have hcp : m2 + nx ≤ 1000000 ∧ na + nn ≤ 1000000 ∧ na ≤ 1000000 := by omega
  have hB3 : B ≤ w3.heap.size := by omega
  have hbl : b < w3.heap.size := by omega
  have HBL := Lib.hid hbl
  have hb3 := cell_of_row _ _ 3 _ _ _ hbox
  have hb4 := cell_of_row _ _ 4 _ _ _ hbox
  have hb5 := cell_of_row _ _ 5 _ _ _ hbox
  rw [hZ4, hm4, hb]
  clear hZ2 hZ3 hm2 hm3 hr hs3 hb03 hl2 hl3 hZ4 hm4 hbox
  go_enter Try.func37, Try.ntmps37
  go_wp2_with fail
  go_region_held3 (fun w' => w'.cell? ⟨b, 3, none⟩ = some (.slice Aa na ca) ∧ w'.cell? ⟨b, 4, none⟩ = some (.slice An nn cn) ∧ w'.cell? ⟨b, 5, none⟩ = some (.slice Ax nx cx)) (go_keep)
    (first
      | (refine step_append_recsC (by rfl) (.tmp 3) (.tmp 5) (by rfl) (.slice (some ⟨w3.heap.size, 0, none⟩) 0 0) [] (by rfl) HA0.out B Aa na ca (by rfl) Za HR.out.1.2.1 HR.out.1.2.2.1 HR.out.1.1 hB3 HR.out.1.2.2.2 (by have := hcp.2.2; simp; omega) Za na rfl HR.out.1.2.1 ?_; intro A1 c1 w5 hA1; have hk3 := (hA1.bl.cell (p := ⟨b, 3, none⟩) HBL.out).trans hb3; have hk4 := (hA1.bl.cell (p := ⟨b, 4, none⟩) HBL.out).trans hb4; have hk5 := (hA1.bl.cell (p := ⟨b, 5, none⟩) HBL.out).trans hb5; have HA1 := Lib.hid hA1; clear hA1)
      | (refine step_append_recsC (by rfl) (.tmp 6) (.tmp 8) (by rfl) (.slice A1 na c1) Za (by rfl) HA1.out B An nn cn (by rfl) Zn HR.out.2.1.2.1 HR.out.2.1.2.2.1 HR.out.2.1.1 hB3 HR.out.2.1.2.2.2 (by rw [HR.out.1.2.1]; exact hcp.2.1) Z2 m2 HZ2 HL2.out ?_; intro A2 c2 w6 hA2; have hk3 := (hA2.bl.cell (p := ⟨b, 3, none⟩) HBL.out).trans hb3; have hk4 := (hA2.bl.cell (p := ⟨b, 4, none⟩) HBL.out).trans hb4; have hk5 := (hA2.bl.cell (p := ⟨b, 5, none⟩) HBL.out).trans hb5; have HA2 := Lib.hid hA2; clear hA2)
      | (refine step_append_recsC (by rfl) (.tmp 9) (.tmp 11) (by rfl) (.slice A2 m2 c2) Z2 (by rfl) HA2.out B Ax nx cx (by rfl) Zx HR.out.2.2.2.1 HR.out.2.2.2.2.1 HR.out.2.2.1 hB3 HR.out.2.2.2.2.2 (by rw [HL2.out]; exact hcp.1) Z3 m3 HZ3 HL3.out ?_; intro A3 c3 w7 hA3; have hk3 := (hA3.bl.cell (p := ⟨b, 3, none⟩) HBL.out).trans hb3; have hk4 := (hA3.bl.cell (p := ⟨b, 4, none⟩) HBL.out).trans hb4; have hk5 := (hA3.bl.cell (p := ⟨b, 5, none⟩) HBL.out).trans hb5; have HA3 := Lib.hid hA3; clear hA3))
  go_wp2_with fail
  go_ret
  have ho := HA3.out.own
  rw [HL3.out] at ho
  exact ⟨A3, c3, rfl, row_low ho (by rw [HS3.out]; exact Nat.le_succ _), HB03.out.trans (HA3.out.bl.mono (by rw [HS3.out]; exact Nat.le_succ _))⟩
/-- A message as one may come in. -/
structure BigM (M : Msg) : Prop where
  id : M.id ≤ 65535
  flags : M.flags ≤ 65535
  nq : M.qs.length ≤ maxLen
  na : M.an.length ≤ maxLen
  nn : M.ns.length ≤ maxLen
  nx : M.ad.length ≤ maxLen
  qs : ∀ q ∈ M.qs, q.name.length ≤ maxLen ∧ q.kind ≤ 65535 ∧ q.cls ≤ 65535
  recs : ∀ R ∈ recsM M, (R.name.length ≤ maxLen ∧ R.names.length ≤ maxLen ∧ R.nums.length ≤ maxLen ∧ R.texts.length ≤ maxLen ∧ R.kind ≤ 65535 ∧ R.cls ≤ 65535 ∧ R.ttl ≤ 4294967295) ∧ ∀ k, k < R.nums.length → R.nums.getD k 0 ≤ 4294967295
/-- A message that can be gone through, whatever its names are. -/
structure QM (M : Msg) : Prop where
  few : FewM M
  recs : ∀ R ∈ recsM M, Small R ∧ R.kind ≤ 65535 ∧ R.cls ≤ 65535 ∧ R.ttl ≤ 4294967295
/-- The look's answer. -/
def FewEnd (M : Msg) (w : World) (e : Ending) (w' : World) : Prop := ∃ b : Bool, e = .returned (.bool b) ∧ (b = true → FewM M ∧ M.ad.length ≤ 300 ∧ QM M) ∧ Below w.heap.size w w'
theorem fewEnd_mk {M : Msg} {w w' : World} {g : Nat} (b : Bool) (h : b = true → FewM M ∧ M.ad.length ≤ 300 ∧ QM M) (hB : Below g w w') (hg : w.heap.size = g) : FewEnd M w (.returned (.bool b)) w' := ⟨b, rfl, h, by rw [hg]; exact hB⟩
set_option maxHeartbeats 8000000 in
set_option maxRecDepth 100000 in
theorem fewM_any (M : Msg) (Aq Aa An Ax : Option Addr) (nq na nn nx cq ca cn cx B : Nat) (Za Zn Zx : List RecZ) (w : World) (hv : Hid (MsgV w B M Aq Aa An Ax nq na nn nx ca cn cx Za Zn Zx)) (hB : B ≤ w.heap.size) (hbig : Hid (BigM M)) :
    Calls Try.prog 13 #[.agg (msgA M.id M.flags Aq nq cq Aa na ca An nn cn Ax nx cx)] w (FewEnd M w) := by
  obtain ⟨id, hid⟩ : ∃ n, M.id = n := ⟨_, rfl⟩
  obtain ⟨fl, hfl⟩ : ∃ n, M.flags = n := ⟨_, rfl⟩
  obtain ⟨g, hg⟩ : ∃ g, w.heap.size = g := ⟨_, rfl⟩
  obtain ⟨wa, hwa⟩ : ∃ wa, w.alloc (.cells (msgA id fl Aq nq cq Aa na ca An nn cn Ax nx cx) 26) = wa := ⟨_, rfl⟩
  have hba : Below g w wa := by rw [← hwa, ← hg]; exact (Below.refl _ _).alloc (Nat.le_refl _) _
  have hbx : wa.heap[g]? = some (.cells (msgA id fl Aq nq cq Aa na ca An nn cn Ax nx cx) 26 (0, 0)) := by rw [← hwa, ← hg]; exact heap_alloc_new w _
  have hsa : wa.heap.size = g + 1 := by rw [← hwa, ← hg]; simp
  rw [hg] at hB
  have hva := hv.out.on (hba.mono hB) (Nat.le_refl _)
  have HG := Lib.hid hg
  have HBA := Lib.hid hba
  have HVA := Lib.hid hva
  have HSA := Lib.hid hsa
  have HBX := Lib.hid hbx
  have hmx : nq ≤ maxLen ∧ na ≤ maxLen ∧ nn ≤ maxLen ∧ nx ≤ maxLen := by
    have := hbig.out.nq; have := hbig.out.na; have := hbig.out.nn; have := hbig.out.nx
    have := hv.out.eq; have := hv.out.ea; have := hv.out.en; have := hv.out.ex
    omega
  unfold maxLen at hmx
  have k0 := cell_of_row _ _ 0 _ _ _ hbx
  have k1 := cell_of_row _ _ 1 _ _ _ hbx
  have k2 := cell_of_row _ _ 2 _ _ _ hbx
  have k3 := cell_of_row _ _ 3 _ _ _ hbx
  have k4 := cell_of_row _ _ 4 _ _ _ hbx
  have k5 := cell_of_row _ _ 5 _ _ _ hbx
  rw [hid, hfl]
  clear hbx hba hva hsa hid hfl
  by_cases h1 : (300 : Int) < nq
  · go_enter Try.func13, Try.ntmps13
    go_wp2_with fail
    go_ret
    exact fewEnd_mk false (fun h => (by cases h)) HBA.out HG.out
  by_cases h2 : (300 : Int) < na
  · go_enter Try.func13, Try.ntmps13
    go_wp2_with fail
    go_ret
    exact fewEnd_mk false (fun h => (by cases h)) HBA.out HG.out
  by_cases h3 : (300 : Int) < nn
  · go_enter Try.func13, Try.ntmps13
    go_wp2_with fail
    go_ret
    exact fewEnd_mk false (fun h => (by cases h)) HBA.out HG.out
  by_cases h4 : (300 : Int) < nx
  · go_enter Try.func13, Try.ntmps13
    go_wp2_with fail
    go_ret
    exact fewEnd_mk false (fun h => (by cases h)) HBA.out HG.out
  have hcnt : nq ≤ 300 ∧ na ≤ 300 ∧ nn ≤ 300 ∧ nx ≤ 300 := by omega
  have HCNT := Lib.hid hcnt
  have HRC := Lib.hid (fun W (hW : Below (g + 1) wa W) (hs : g + 1 ≤ W.heap.size) => refRecords_w M id fl Aq Aa An Ax nq na nn nx cq ca cn cx B Za Zn Zx W (HVA.out.on (hW.mono (by omega)) (Nat.le_refl _)) (by omega) (by omega) (by omega) (by omega))
  go_enter Try.func13, Try.ntmps13
  go_wp2_with fail
  go_loop [3, 4] (fun v i => ∃ j n : Nat, i = .int .i64 j ∧ v = .int .i64 n ∧ j ≤ nq ∧ n ≤ 70000) (fun _ i => nq - (intOf i).toNat)
  case atStart => exact ⟨0, 0, rfl, rfl, Nat.zero_le _, Nat.zero_le _⟩
  case round =>
    obtain ⟨j, n, rfl, rfl, hj, hn⟩ := hrel
    by_cases hlt : j < nq
    · have hjl : j < M.qs.length := by rw [hv.out.eq]; exact hlt
      obtain ⟨b, off, rfl, hbl, p0, p1, p2⟩ := HVA.out.at_.q.qn hjl
      have hqn := (hbig.out.qs _ (List.getElem_mem hjl)).1
      rw [← mk_size] at hqn
      generalize mk (M.qs[j]'hjl).name = x at *
      have hmin : ∃ y : Nat, min (x.size : Int) 60000 = (y : Int) ∧ y ≤ 60000 := ⟨min x.size 60000, by omega, by omega⟩
      obtain ⟨y, hy, hy1⟩ := hmin
      unfold maxLen at hqn
      by_cases hbg : n + y ≤ 70000
      · have hbi : ((n : Int) + y) ≤ 70000 := by omega
        clear p1 p2
        go_wp2_with fail
        go_round
        case rel => exact ⟨j + 1, n + y, by go_num, by go_num, by omega, hbg⟩
        case measure => simp [intOf]; omega
      · have hbi : (70000 : Int) < ((n : Int) + y) := by omega
        clear p1 p2
        go_wp2_with fail
        go_ret
        exact fewEnd_mk false (fun h => (by cases h)) HBA.out HG.out
    · have hjn : ¬ ((j : Int) < (nq : Int)) := by omega
      clear hlt
      go_wp2_with fail
      refine (HRC.out wa (Below.refl _ _) (by rw [HSA.out]; exact Nat.le_refl _)).mono ?_
      rintro e w2 ⟨Ar, cr, rfl, hO, hB2⟩
      have hall := HVA.out.all
      obtain ⟨ZZ, hZZ⟩ : ∃ Z, Za ++ Zn ++ Zx = Z := ⟨_, rfl⟩
      obtain ⟨nz, hnz⟩ : ∃ n, na + nn + nx = n := ⟨_, rfl⟩
      rw [hZZ] at hall hO
      rw [hnz] at hall hO
      obtain ⟨Ar', cr', ev, hcell⟩ := cells_own hO
      injection ev with ev1 _ _
      rw [← ev1] at hcell
      have HCE := Lib.hid hcell
      have HALL := Lib.hid hall
      have HW2 : Hid (Below (g + 1) wa w2) := by have := hB2; rw [HSA.out] at this; exact this
      have hnz2 : nz ≤ 900 := by omega
      obtain ⟨g2, hg2⟩ : ∃ n, w2.heap.size = n := ⟨_, rfl⟩
      have HG2 := Lib.hid hg2
      have HGG2 : Hid (g + 1 ≤ g2) := by have := HW2.out.size; rw [HSA.out, hg2] at this; exact this
      rw [hg2] at HCE
      have HNZ : Hid (na + nn + nx = nz) := hnz
      clear hO hB2 hall hcell hZZ hnz hg2 k0 k1 k2 k3 k4 k5 ev1
      rw [HNZ.out]
      go_wp2_with fail
      go_loopw [3, 6] (fun v i ws => ∃ k n : Nat, i = .int .i64 k ∧ v = .int .i64 n ∧ k ≤ nz ∧ n ≤ 70000 ∧ Hid (Below g2 w2 ws) ∧ Hid (∀ i (hi : i < (recsM M).length), i < k → Small ((recsM M)[i]))) (fun _ i _ => nz - (intOf i).toNat)
      case atStart => exact ⟨0, n, rfl, rfl, Nat.zero_le _, hn, Below.refl _ _, fun i hi h => absurd h (Nat.not_lt_zero _)⟩
      case round =>
        obtain ⟨k, n2, rfl, rfl, hk, hn2, hV, hF⟩ := hrel
        have HGV : Hid (g2 ≤ wr.heap.size) := by have := hV.out.size; rw [HG2.out] at this; exact this
        by_cases hlk : k < nz
        · have hkz : k < ZZ.length := by rw [HALL.out.2.2]; exact hlk
          have hz1 : ZAt wr B ZZ := HALL.out.2.1.on ((HW2.out.mono (by omega)).trans (hV.out.mono (by have := HGG2.out; omega))) (Nat.le_refl _)
          obtain ⟨br, off, B1, e1, B2, e2, B3, e3, rfl, hbr, hat, p0, p1, p2, p3, p4, p5, p6⟩ := recs_get (HCE.out.on hV.out (Nat.le_refl _)) (hz1.on (Below.refl _ _) (show B ≤ g2 by have := HGG2.out; omega)) hkz
          obtain ⟨hkM, hkR⟩ := get_map HALL.out.1 hkz
          have hbg := hbig.out.recs _ (List.getElem_mem hkM)
          rw [← hkR] at hbg
          obtain ⟨RR, hRR⟩ : ∃ R, (ZZ[k]'hkz).1 = R := ⟨_, rfl⟩
          rw [hRR] at hat p0 p1 p2 p3 p4 p5 p6 hbg
          have HKR : Hid (∃ hh : k < (recsM M).length, (recsM M)[k]'hh = RR) := ⟨hkM, by rw [← hkR, hRR]⟩
          obtain ⟨xn, hxn⟩ : ∃ x, mk RR.name = x := ⟨_, rfl⟩
          obtain ⟨rk, hrk⟩ : ∃ n, RR.kind = n := ⟨_, rfl⟩
          obtain ⟨rc, hrc⟩ : ∃ n, RR.cls = n := ⟨_, rfl⟩
          obtain ⟨rt, hrt⟩ : ∃ n, RR.ttl = n := ⟨_, rfl⟩
          obtain ⟨l1, hl1⟩ : ∃ n, RR.names.length = n := ⟨_, rfl⟩
          obtain ⟨l2, hl2⟩ : ∃ n, RR.nums.length = n := ⟨_, rfl⟩
          obtain ⟨l3, hl3⟩ : ∃ n, RR.texts.length = n := ⟨_, rfl⟩
          rw [hxn] at p0
          rw [hrk] at p1
          rw [hrc] at p2
          rw [hrt] at p3
          rw [hl1] at p4
          rw [hl2] at p5
          rw [hl3] at p6
          rw [hxn, hrk, hrc, hrt, hl1, hl2, hl3] at hat
          have HFW := Lib.hid (few_any RR xn rk rc rt B1 l1 e1 B2 l2 e2 B3 l3 e3 wr (hat.on (Below.refl _ _) HGV.out) hbg.2 (by omega) (by omega) (by omega))
          have HRD1 := Lib.hid hat.rd1
          have HRD3 := Lib.hid hat.rd3
          have HXN : Hid (xn.size = RR.name.length) := by rw [← hxn]; exact mk_size _
          have HL1 := Lib.hid hl1
          have HL2 := Lib.hid hl2
          have HL3 := Lib.hid hl3
          have HBR := Lib.hid hbr
          clear hRR hxn hrk hrc hrt hl1 hl2 hl3 hat hkR hkM hz1 hbg
          go_wp2_with fail
          refine HFW.out.mono ?_
          rintro e w5 ⟨bb, rfl, hbb, hB5⟩
          have HV5 : Hid (Below g2 w2 w5) := hV.out.trans (hB5.mono HGV.out)
          have q0 := (hB5.cell (p := ⟨br, off + k * 7, none⟩) (Nat.lt_of_lt_of_le hbr HGV.out)).trans p0
          have q4 := (hB5.cell (p := ⟨br, off + k * 7 + 4, none⟩) (Nat.lt_of_lt_of_le hbr HGV.out)).trans p4
          have q5 := (hB5.cell (p := ⟨br, off + k * 7 + 5, none⟩) (Nat.lt_of_lt_of_le hbr HGV.out)).trans p5
          have q6 := (hB5.cell (p := ⟨br, off + k * 7 + 6, none⟩) (Nat.lt_of_lt_of_le hbr HGV.out)).trans p6
          have HBB := Lib.hid hbb
          have HR1 := Lib.hid (HRD1.out.on (hB5.mono HGV.out) (Nat.le_refl _))
          have HR3 := Lib.hid (HRD3.out.on (hB5.mono HGV.out) (Nat.le_refl _))
          clear hB5 hbb p0 p1 p2 p3 p4 p5 p6 HFW hV HRD1 HRD3 hbr
          cases bb with
          | false =>
            have HE5 : Hid (Below g w w5) := HBA.out.trans ((HW2.out.mono (Nat.le_succ _)).trans (HV5.out.mono (by have := HGG2.out; omega)))
            go_wp2_with fail
            go_ret
            exact fewEnd_mk false (fun h => (by cases h)) HE5.out HG.out
          | true =>
            have hsm := HBB.out rfl
            have HSM := Lib.hid hsm.1
            have hx5 : xn.size ≤ 5000 := by rw [HXN.out]; exact hsm.2
            have hl1b : l1 ≤ 100000 := by rw [← HL1.out]; exact hsm.1.n1
            have hl2b : l2 ≤ 100000 := by rw [← HL2.out]; exact hsm.1.n2
            have hl3b : l3 ≤ 100000 := by rw [← HL3.out]; exact hsm.1.n3
            have HF2 : Hid (∀ i (hi : i < (recsM M).length), i < k + 1 → Small ((recsM M)[i])) := fun i hi h => by
              by_cases h2 : i < k
              · exact hF.out i hi h2
              · obtain rfl : i = k := by omega
                obtain ⟨hh, he⟩ := HKR.out
                rw [he]; exact HSM.out
            clear hsm hF HBB
            go_wp2_with fail
            obtain ⟨wo, rfl⟩ : ∃ wo : World, wo = w5 := ⟨_, rfl⟩
            go_loop [3, 7] (fun v i => ∃ j m : Nat, i = .int .i64 j ∧ v = .int .i64 m ∧ j ≤ l1 ∧ m ≤ 70000 + j * 100000) (fun _ i => l1 - (intOf i).toNat)
            case atStart => exact ⟨0, n2, rfl, rfl, Nat.zero_le _, by omega⟩
            case round =>
              obtain ⟨j1, m1, rfl, rfl, hj1, hm1⟩ := hrel
              by_cases hl1t : j1 < l1
              · have hjl : j1 < RR.names.length := by rw [HL1.out]; exact hl1t
                obtain ⟨a, rfl, hab, hcell⟩ := HR1.out.get hjl
                have hsz := HSM.out.s1 j1 hjl
                rw [← mk_size] at hsz
                generalize mk (RR.names.getD j1 []) = z at *
                have hmi : (m1 : Int) + z.size ≤ 70000 + (j1 + 1) * 100000 := by omega
                have hmb : m1 ≤ 100000000000 := by omega
                clear hjl
                go_wp2_with fail
                go_round
                case rel => exact ⟨j1 + 1, m1 + z.size, by go_num, by go_num, by omega, by omega⟩
                case measure => simp [intOf]; omega
              · have hjn1 : ¬ ((j1 : Int) < (l1 : Int)) := by omega
                have hm1b : m1 ≤ 10000070000 := by
                  have := Nat.mul_le_mul_right 100000 (Nat.le_trans hj1 hl1b)
                  omega
                clear hl1t hm1
                go_wp2_with fail
                go_loop [3, 8] (fun v i => ∃ j m : Nat, i = .int .i64 j ∧ v = .int .i64 m ∧ j ≤ l3 ∧ m ≤ 10000070000 + j * 100000) (fun _ i => l3 - (intOf i).toNat)
                case atStart => exact ⟨0, m1, rfl, rfl, Nat.zero_le _, by omega⟩
                case round =>
                  obtain ⟨j3, m3, rfl, rfl, hj3, hm3⟩ := hrel
                  by_cases hl3t : j3 < l3
                  · have hjl : j3 < RR.texts.length := by rw [HL3.out]; exact hl3t
                    obtain ⟨a, rfl, hab, hcell⟩ := HR3.out.get hjl
                    have hsz := HSM.out.s3 j3 hjl
                    rw [← mk_size] at hsz
                    generalize mk (RR.texts.getD j3 []) = z at *
                    have hmb : m3 ≤ 1000000000000 := by omega
                    clear hjl
                    go_wp2_with fail
                    go_round
                    case rel => exact ⟨j3 + 1, m3 + z.size, by go_num, by go_num, by omega, by omega⟩
                    case measure => simp [intOf]; omega
                  · have hjn3 : ¬ ((j3 : Int) < (l3 : Int)) := by omega
                    have hm3b : m3 ≤ 1000000000000 := by
                      have := Nat.mul_le_mul_right 100000 (Nat.le_trans hj3 hl3b)
                      omega
                    have hs1w : IntKind.i64.wrap ((m3 : Int) + xn.size) = ((m3 + xn.size : Nat) : Int) := by rw [IntKind.wrap_i64]; omega
                    have hs2w : IntKind.i64.wrap (((m3 + xn.size : Nat) : Int) + l2) = ((m3 + xn.size + l2 : Nat) : Int) := by rw [IntKind.wrap_i64]; omega
                    clear hl3t hm3
                    by_cases hbig2 : m3 + xn.size + l2 ≤ 70000
                    · have hbi : ((m3 + xn.size + l2 : Nat) : Int) ≤ 70000 := by omega
                      have HVN : ∀ n, Below g2 w2 (wo.drewN n) := fun n => below_drewN HV5.out n
                      have HVN2 := Lib.hid HVN
                      clear HVN
                      go_wp2_with fail
                      go_quiet (fail)
                      go_wp2_with fail
                      go_roundw
                      case rel =>
                        (repeat apply Exists.intro)
                        first | exact ⟨by go_num, by go_num, by omega, hbig2, HVN2.out _, HF2⟩ | exact ⟨⟨k + 1, m3 + xn.size + l2, by go_num, by go_num, by omega, hbig2, HVN2.out _, HF2⟩, rfl⟩
                      case measure => simp [intOf]; omega
                    · have hbi : (70000 : Int) < ((m3 + xn.size + l2 : Nat) : Int) := by omega
                      have HE5 : Hid (∀ n, Below g w (wo.drewN n)) := fun n => below_drewN (HBA.out.trans ((HW2.out.mono (Nat.le_succ _)).trans (HV5.out.mono (by have := HGG2.out; omega)))) n
                      go_wp2_with fail
                      go_quiet (fail)
                      go_wp2_with fail
                      go_ret
                      exact fewEnd_mk false (fun h => (by cases h)) (HE5.out _) HG.out
        · have hkn : ¬ ((k : Int) < (nz : Int)) := by omega
          have HE5 : Hid (Below g w wr) := HBA.out.trans ((HW2.out.mono (Nat.le_succ _)).trans (hV.out.mono (by have := HGG2.out; omega)))
          have HQM : Hid (QM M) := by
            have hc := HCNT.out
            have hl := HALL.out.1
            have hl2 : (recsM M).length = nz := by rw [← hl, List.length_map]; exact HALL.out.2.2
            have hrec : ∀ R ∈ recsM M, Small R ∧ R.kind ≤ 65535 ∧ R.cls ≤ 65535 ∧ R.ttl ≤ 4294967295 := fun R hR => by
              obtain ⟨i, hi, rfl⟩ := List.getElem_of_mem hR
              have hb := (hbig.out.recs _ (List.getElem_mem hi)).1
              exact ⟨hF.out i hi (by omega), hb.2.2.2.2.1, hb.2.2.2.2.2.1, hb.2.2.2.2.2.2⟩
            exact ⟨⟨hbig.out.id, hbig.out.flags, by rw [hv.out.eq]; omega, by rw [hv.out.ea]; omega, by rw [hv.out.en]; omega, by rw [hv.out.ex]; omega, hbig.out.qs, fun _ => hrec⟩, hrec⟩
          clear hlk hF hV
          go_wp2_with fail
          go_ret
          exact fewEnd_mk true (fun _ => ⟨HQM.out.few, by rw [hv.out.ex]; exact HCNT.out.2.2.2, HQM.out⟩) HE5.out HG.out
end Go.Proofs.Ytpmmjmnleoicjaa

/- Names and numbers that were written are read as they were. No program, no condition. -/
namespace Go.Proofs.Ytpmmjmnleoicjaa.WrMath
open Go Bytes NameMath NmMath RecMath MsgMath StMath DatMath

/-- These bytes are the first. -/
def Pre (a L : List UInt8) : Prop := ∃ t, L = a ++ t
theorem Pre.len {a L : List UInt8} (h : Pre a L) : a.length ≤ L.length := by obtain ⟨t, rfl⟩ := h; rw [List.length_append]; omega
theorem Pre.of {a b L : List UInt8} (h : Pre b L) (e : ∃ l, b = a ++ l) : Pre a L := by
  obtain ⟨t, rfl⟩ := h
  obtain ⟨l, rfl⟩ := e
  exact ⟨l ++ t, List.append_assoc _ _ _⟩
theorem Longer.before {s s' : Wr} {n : Nat} {L : List UInt8} (h : Longer s s' n) (hp : Pre s'.1 L) : Pre s.1 L := by
  obtain ⟨l, e, _⟩ := h.pre
  exact hp.of ⟨l, e⟩
section
variable {L a l : List UInt8}
theorem bt_put (h : Pre (a ++ l) L) {k : Nat} (hk : k < l.length) : bt L (a.length + k) = bt l k := by
  obtain ⟨t, rfl⟩ := h
  unfold bt
  rw [List.append_assoc, List.getD_eq_getElem?_getD, List.getElem?_append_right (by omega), Nat.add_sub_cancel_left, List.getElem?_append_left hk, ← List.getD_eq_getElem?_getD]
theorem cut_put (h : Pre (a ++ l) L) {n : Nat} (hn : n = l.length) : cut L a.length n = l := by
  obtain ⟨t, rfl⟩ := h
  subst hn
  unfold cut
  rw [List.append_assoc, List.drop_left, List.take_left]
theorem nu_put {n size : Nat} (h : Pre (a ++ beTail n size) L) (hn : n < 256 ^ size) : nu L a.length size = n := by
  unfold nu
  rw [cut_put h (beTail_length _ _).symm, be_beTail, Nat.mod_eq_of_lt hn]
end
/-- What stands at a place is read so, where a pointer led to it. -/
def Reads (L : List UInt8) (q : Nat) (t : List UInt8) : Prop := ∀ (o : List UInt8) (x : Nat), o.length + t.length ≤ 255 → nm L L.length 2 q q (some x) o = .ok (o ++ t, x)
/-- What is known lies ahead, and is read so. -/
def KOk (L : List UInt8) (n : Nat) (K : Known) : Prop := ∀ y ∈ K, y.2 < n ∧ y.2 < 16384 ∧ Reads L y.2 y.1
theorem KOk.more {L : List UInt8} {n n' : Nat} {K : Known} (h : KOk L n K) (hn : n ≤ n') : KOk L n' K := fun y hy => ⟨by have := (h y hy).1; omega, (h y hy).2⟩
theorem two_bytes {q : Nat} (h : q < 16384) : ∃ b1 b2 : UInt8, beTail (49152 + q) 2 = [b1, b2] ∧ b1.toNat = 192 + q / 256 ∧ b2.toNat = q % 256 := by
  refine ⟨_, _, rfl, ?_, ?_⟩
  · rw [UInt8.toNat_ofNat', Nat.pow_one]; omega
  · rw [UInt8.toNat_ofNat', Nat.pow_zero, Nat.div_one]; omega
theorem take_bt {rest : List UInt8} (h : 1 + bt rest 0 < rest.length) : bt (rest.take (1 + bt rest 0)) 0 = bt rest 0 := by
  match rest, h with
  | c :: r, _ =>
    show bt ((c :: r).take (1 + c.toNat)) 0 = c.toNat
    rw [Nat.add_comm, List.take_succ_cons]
    rfl
theorem name_reads {L : List UInt8} {b : Nat} {out : List UInt8} {K : Known} {rest : List UInt8} : Rests rest → (∀ y ∈ K, rest.length < y.1.length ∨ (y.2 < b ∧ y.2 < 16384 ∧ Reads L y.2 y.1)) → ∀ {E K0 : Nat} {next : Option Nat} {o : List UInt8}, Pre (wName out K rest).1 L → (wName out K rest).1.length ≤ E → E ≤ L.length → o.length + rest.length ≤ 255 →
    ends L E out.length = true ∧ nm L E K0 out.length b next o = .ok (o ++ rest, next.getD (wName out K rest).1.length) := by
  fun_induction wName out K rest with
  | case1 out K rest h =>
    intro hR hK E K0 next o hp hE hE2 ho
    have e : rest = [0] := by
      rcases rests_cases hR with e | ⟨e, _⟩
      · exact e
      · exact absurd h e
    subst e
    simp only at hp hE ⊢
    have hb : bt L out.length = 0 := bt_put hp (k := 0) (by simp)
    have hlt : out.length < E := by have : (out ++ [(0 : UInt8)]).length = out.length + 1 := by simp
                                    omega
    refine ⟨ends_here hlt (by omega) (.inl hb), ?_⟩
    rw [nm_zero hlt hb]
    simp
  | case2 out K rest h q hf =>
    intro hR hK E K0 next o hp hE hE2 ho
    rcases hK _ (fnd_mem hf) with hl | ⟨h1, h2, h3⟩
    · exact absurd hl (Nat.lt_irrefl _)
    · obtain ⟨b1, b2, e, e1, e2⟩ := two_bytes h2
      simp only at h1 h2 h3
      simp only at hp hE ⊢
      rw [e] at hp hE ⊢
      have hlen : (out ++ [b1, b2]).length = out.length + 2 := by simp
      have p0 : bt L out.length = b1.toNat := bt_put hp (k := 0) (by simp)
      have p1 : bt L (out.length + 1) = b2.toNat := bt_put hp (k := 1) (by simp)
      have hpl : place L out.length = q := by unfold place; rw [p0, p1]; omega
      refine ⟨?_, ?_⟩
      · rw [ends_ptr (by omega) (by omega)]; exact decide_eq_true (by omega)
      · rw [nm_back (by omega) (by omega) (by rw [hpl]; exact h1), hpl, h3 o _ ho, hlen]
  | case3 out K rest h hf ih =>
    intro hR hK E K0 next o hp hE hE2 ho
    rcases rests_cases hR with e | ⟨h1, h2, h3, h4⟩
    · rw [e] at h; exact absurd rfl h
    · have hln : (rest.take (1 + bt rest 0)).length = 1 + bt rest 0 := by rw [List.length_take]; omega
      have hld : (rest.drop (1 + bt rest 0)).length = rest.length - (1 + bt rest 0) := List.length_drop
      have hlong := nameW_longer _ h4 (out ++ rest.take (1 + bt rest 0), learn out K rest)
      have hp2 : Pre (out ++ rest.take (1 + bt rest 0)) L := hlong.before hp
      have hll := hlong.len.1
      have hlo : (out ++ rest.take (1 + bt rest 0)).length = out.length + (1 + bt rest 0) := by rw [List.length_append, hln]
      have hll2 : out.length + (1 + bt rest 0) ≤ (wName (out ++ rest.take (1 + bt rest 0)) (learn out K rest) (rest.drop (1 + bt rest 0))).1.length := by rw [← hlo]; exact hll
      have hb : bt L out.length = bt rest 0 := by
        have := bt_put hp2 (k := 0) (by omega)
        rw [take_bt h3] at this
        simpa using this
      have hc : cut L out.length (bt rest 0 + 1) = rest.take (1 + bt rest 0) := cut_put hp2 (by omega)
      obtain ⟨i1, i2⟩ := ih h4 (fun y hy => by
        unfold learn at hy
        have old : y ∈ K → (rest.drop (1 + bt rest 0)).length < y.1.length ∨ (y.2 < b ∧ y.2 < 16384 ∧ Reads L y.2 y.1) := fun hy => by
          rcases hK y hy with hl | hr
          · exact .inl (by omega)
          · exact .inr hr
        split at hy
        · rcases List.mem_append.1 hy with hy | hy
          · exact old hy
          · rw [List.mem_singleton] at hy
            subst hy
            exact .inl (by simp only; omega)
        · exact old hy) (E := E) (K0 := K0) (next := next) (o := o ++ rest.take (1 + bt rest 0)) hp hE hE2 (by rw [List.length_append, hln, hld]; omega)
      rw [hlo] at i1 i2
      refine ⟨?_, ?_⟩
      · rw [ends_more (by omega) (by omega) (by omega), hb, ← i1]
        congr 1
        omega
      · rw [nm_more (by omega) (by omega) (by omega) (by omega), hb, hc, show out.length + 1 + bt rest 0 = out.length + (1 + bt rest 0) by omega, i2, List.append_assoc, List.take_append_drop]
theorem name_known {L : List UInt8} {out : List UInt8} {K : Known} {rest : List UInt8} : Rests rest → KOk L out.length K → Pre (wName out K rest).1 L → KOk L (wName out K rest).1.length (wName out K rest).2 := by
  fun_induction wName out K rest with
  | case1 out K rest h => intro hR hK hp; exact hK.more (by rw [List.length_append]; omega)
  | case2 out K rest h q hf => intro hR hK hp; exact hK.more (by rw [List.length_append]; omega)
  | case3 out K rest h hf ih =>
    intro hR hK hp
    rcases rests_cases hR with e | ⟨h1, h2, h3, h4⟩
    · rw [e] at h; exact absurd rfl h
    · have hln : (rest.take (1 + bt rest 0)).length = 1 + bt rest 0 := by rw [List.length_take]; omega
      refine ih h4 ?_ hp
      have old : KOk L (out ++ rest.take (1 + bt rest 0)).length K := hK.more (by rw [List.length_append]; omega)
      unfold learn
      split
      · next hlt =>
        intro y hy
        rcases List.mem_append.1 hy with hy | hy
        · exact old y hy
        · rw [List.mem_singleton] at hy
          subst hy
          refine ⟨by simp only [List.length_append, hln]; omega, hlt, fun o x ho => ?_⟩
          have hp' : Pre (wName out K rest).1 L := by rw [wName_new h hf]; exact hp
          exact (name_reads hR (fun y hy => .inr (hK y hy)) (E := L.length) (K0 := 2) (next := some x) (o := o) hp' hp'.len (Nat.le_refl _) ho).2
      · exact old
/-- A name that was written. -/
theorem nameW_reads {L n : List UInt8} {s : Wr} (hn : isN n = true) (hK : KOk L s.1.length s.2) (hp : Pre (nameW n s).1 L) : KOk L (nameW n s).1.length (nameW n s).2 ∧ ∀ {E K0 : Nat}, (nameW n s).1.length ≤ E → E ≤ L.length → ends L E s.1.length = true ∧ nm L E K0 s.1.length s.1.length none [] = .ok (n, (nameW n s).1.length) := by
  refine ⟨name_known (rests_of hn) hK hp, fun {E K0} hE hE2 => ?_⟩
  have := name_reads (rests_of hn) (fun y hy => .inr (hK y hy)) (E := E) (K0 := K0) (next := none) (o := []) hp hE hE2 (by have := isN_le hn; simpa using this)
  exact this
theorem qnW_reads {L : List UInt8} {q : Qn} {s : Wr} (hn : isN q.name = true) (h1 : q.kind ≤ 65535) (h2 : q.cls ≤ 65535) (hK : KOk L s.1.length s.2) (hp : Pre (qnW q s).1 L) : KOk L (qnW q s).1.length (qnW q s).2 ∧ qn L s.1.length = .ok (q, (qnW q s).1.length) := by
  have hp2 : Pre (numW q.kind 2 (nameW q.name s)).1 L := (numW_longer _ _ _).before hp
  have hp1 : Pre (nameW q.name s).1 L := (numW_longer _ _ _).before hp2
  obtain ⟨k1, r1⟩ := nameW_reads hn hK hp1
  have l1 : (numW q.kind 2 (nameW q.name s)).1.length = (nameW q.name s).1.length + 2 := by show (_ ++ beTail _ _).length = _; rw [List.length_append, beTail_length]
  have l2 : (qnW q s).1.length = (nameW q.name s).1.length + 4 := by show (_ ++ beTail _ _).length = _; rw [List.length_append, beTail_length, l1]
  have n1 : nu L (nameW q.name s).1.length 2 = q.kind := nu_put hp2 (by omega)
  have n2 : nu L ((nameW q.name s).1.length + 2) 2 = q.cls := by rw [← l1]; exact nu_put hp (by omega)
  have hL := hp.len
  refine ⟨k1.more (by omega), ?_⟩
  rw [qn_ok (r1 (by omega) (Nat.le_refl _)).2 (by omega), n1, n2, l2]
end Go.Proofs.Ytpmmjmnleoicjaa.WrMath

/- Records that were written are read as they were. No program, no condition. -/
namespace Go.Proofs.Ytpmmjmnleoicjaa.WrMath
open Go Bytes NameMath NmMath RecMath MsgMath StMath DatMath

/-- The same bytes behind, and as much known. -/
def Like (s t s' t' : Wr) : Prop := ∃ l K, s' = (s.1 ++ l, K) ∧ t' = (t.1 ++ l, K)
theorem Like.trans {s t s' t' s2 t2 : Wr} (h : Like s t s' t') (k : Like s' t' s2 t2) : Like s t s2 t2 := by
  obtain ⟨l, K, rfl, rfl⟩ := h
  obtain ⟨m, K', rfl, rfl⟩ := k
  exact ⟨l ++ m, K', by rw [List.append_assoc], by rw [List.append_assoc]⟩
theorem Like.len {s t s' t' : Wr} (h : Like s t s' t') (e : s.1.length = t.1.length) : s'.1.length = t'.1.length ∧ s'.2 = t'.2 := by
  obtain ⟨l, K, rfl, rfl⟩ := h
  exact ⟨by simp only [List.length_append]; omega, rfl⟩
theorem put_like {s t : Wr} (l : List UInt8) (h : s.2 = t.2) : Like s t (s.1 ++ l, s.2) (t.1 ++ l, t.2) := ⟨l, s.2, rfl, by rw [h]⟩
theorem nameW_like (n : List UInt8) {s t : Wr} (h : s.1.length = t.1.length) (h2 : s.2 = t.2) : Like s t (nameW n s) (nameW n t) := by
  obtain ⟨out, K⟩ := s
  obtain ⟨out', K'⟩ := t
  simp only at h h2
  subst h2
  unfold nameW
  show Like (out, K) (out', K) (wName out K n) (wName out' K n)
  fun_induction wName out K n generalizing out' with
  | case1 out K rest h0 => rw [wName_root h0]; exact put_like (s := (out, K)) (t := (out', K)) _ rfl
  | case2 out K rest h0 p hf => rw [wName_known h0 hf]; exact put_like (s := (out, K)) (t := (out', K)) _ rfl
  | case3 out K rest h0 hf ih =>
    rw [wName_new h0 hf]
    have hl : learn out K rest = learn out' K rest := by unfold learn; rw [‹out.length = out'.length›]
    rw [← hl]
    obtain ⟨l, K2, e1, e2⟩ := ih (out' ++ rest.take (1 + bt rest 0)) (by simp only [List.length_append]; omega)
    exact ⟨rest.take (1 + bt rest 0) ++ l, K2, by rw [e1, List.append_assoc], by rw [e2, List.append_assoc]⟩
theorem dataW_like (R : Rec) {s t : Wr} (h : s.1.length = t.1.length) (h2 : s.2 = t.2) : Like s t (dataW R s) (dataW R t) := by
  unfold dataW
  split
  · exact nameW_like _ h h2
  · split
    · have a := nameW_like (R.names.getD 0 []) h h2
      have ha := a.len h
      have b := nameW_like (R.names.getD 1 []) ha.1 ha.2
      have hb := b.len ha.1
      exact (a.trans b).trans (put_like _ hb.2)
    · split
      · have a := put_like (s := s) (t := t) (numsL 2 R.nums) h2
        have ha := a.len h
        exact a.trans (nameW_like _ ha.1 ha.2)
      · exact put_like _ h2
/-- Numbers that were written. -/
theorem nums_reads {L : List UInt8} {E size : Nat} : ∀ {N : List Nat} {a : List UInt8}, Pre (a ++ numsL size N) L → (∀ n ∈ N, n < 256 ^ size) → a.length + size * N.length ≤ E → many (numE L E size) N.length a.length = .ok (N, a.length + size * N.length) := by
  intro N
  induction N with
  | nil => intro a _ _ _; simp [many]
  | cons n N ih =>
    intro a hp hn hE
    have e : a ++ numsL size (n :: N) = (a ++ beTail n size) ++ numsL size N := by unfold numsL; simp
    rw [e] at hp
    have hp1 : Pre (a ++ beTail n size) L := hp.of ⟨_, rfl⟩
    rw [List.length_cons, Nat.mul_succ] at hE
    have hl : (a ++ beTail n size).length = a.length + size := by rw [List.length_append, beTail_length]
    have i := ih hp (fun m hm => hn m (by simp [hm])) (by omega)
    rw [hl] at i
    rw [List.length_cons, many, numE_ok (by omega), nu_put hp1 (hn n (by simp))]
    simp only
    rw [i]
    simp only
    rw [Nat.mul_succ, show a.length + size + size * N.length = a.length + (size * N.length + size) by omega]
/-- TXT's texts that were written. -/
theorem txts_reads {L : List UInt8} {E : Nat} : ∀ {T : List (List UInt8)} {a : List UInt8} {o : List (List UInt8)}, Pre (a ++ T.flatMap (textL 16)) L → (∀ x ∈ T, x.length ≤ 255) → E = a.length + bulk 16 T → txtE L E o a.length = .ok (o ++ T, E) := by
  intro T
  induction T with
  | nil => intro a o _ _ hE; rw [bulk_nil] at hE; rw [txtE_end (by omega), List.append_nil, show a.length = E by omega]
  | cons x T ih =>
    intro a o hp hx hE
    have e : a ++ (x :: T).flatMap (textL 16) = (a ++ (UInt8.ofNat x.length :: x)) ++ T.flatMap (textL 16) := by rw [List.flatMap_cons, textL_16, List.append_assoc]
    rw [e] at hp
    have hp1 : Pre (a ++ (UInt8.ofNat x.length :: x)) L := hp.of ⟨_, rfl⟩
    have hp2 : Pre ((a ++ [UInt8.ofNat x.length]) ++ x) L := by rw [List.append_assoc]; exact hp1
    have hxl := hx x (by simp)
    have hE2 : E = a.length + (x.length + 1 + bulk 16 T) := hE
    have hb : bt L a.length = x.length := by
      have := bt_put hp1 (k := 0) (by simp)
      rw [Nat.add_zero] at this
      rw [this]
      show (UInt8.ofNat x.length).toNat = _
      rw [UInt8.toNat_ofNat']
      omega
    have hl2 : (a ++ [UInt8.ofNat x.length]).length = a.length + 1 := by simp
    have hl : (a ++ (UInt8.ofNat x.length :: x)).length = a.length + 1 + x.length := by simp only [List.length_append, List.length_cons]; omega
    have hc := cut_put hp2 (n := x.length) rfl
    rw [hl2] at hc
    have hm : measE L E a.length = .ok (x, a.length + 1 + x.length) := by rw [measE_ok (by omega) (by omega), hb, hc]
    have i := ih (a := a ++ (UInt8.ofNat x.length :: x)) (o := o ++ [x]) hp (fun y hy => hx y (by simp [hy])) (by omega)
    rw [txtE_more (by omega) hm, ← hl, i, List.append_assoc]
    rfl
/-- A name that was written whole. -/
theorem bare_wire {L rest : List UInt8} {E K : Nat} : ∀ {X : List (List UInt8)} {p : Nat} {o : List UInt8}, X.all okLab = true → L.drop p = nameL X ++ rest → p + (nameL X).length ≤ E → o.length + (nameL X).length ≤ 255 →
    ends L E p = true ∧ bare L E K p o = .ok (o ++ nameL X, p + (nameL X).length) := by
  intro X
  induction X with
  | nil =>
    intro p o _ hd hE ho
    obtain ⟨h1, _, _⟩ := bt_drop (c := 0) (t := rest) hd
    have hl : (nameL []).length = 1 := rfl
    have h1' : bt L p = 0 := h1
    refine ⟨ends_here (by omega) (by omega) (.inl h1'), ?_⟩
    rw [bare_zero (by omega) h1]
    rfl
  | cons x X ih =>
    intro p o hA hd hE ho
    rw [List.all_cons, Bool.and_eq_true] at hA
    have hx := okLab_iff.1 hA.1
    have hof := ofNat_len hA.1
    have hn : nameL (x :: X) = UInt8.ofNat x.length :: (x ++ nameL X) := by
      show (UInt8.ofNat x.length :: (x ++ wire X)) ++ [0] = _
      unfold nameL
      rw [List.cons_append, List.append_assoc]
    have hl : (nameL (x :: X)).length = 1 + x.length + (nameL X).length := by rw [hn]; simp only [List.length_cons, List.length_append]; omega
    have h1l : 1 ≤ (nameL X).length := by unfold nameL; simp
    rw [hn, List.cons_append] at hd
    obtain ⟨h1, h2, h3⟩ := bt_drop hd
    rw [hof] at h1
    have hcut : cut L p (x.length + 1) = UInt8.ofNat x.length :: x := by
      unfold cut
      rw [hd, List.take_succ_cons, List.append_assoc, List.take_left' rfl]
    have hdrop : L.drop (p + 1 + x.length) = nameL X ++ rest := by
      rw [← List.drop_drop, h3, List.append_assoc, List.drop_left' rfl]
    obtain ⟨i1, i2⟩ := ih (p := p + 1 + x.length) (o := o ++ UInt8.ofNat x.length :: x) hA.2 hdrop (by omega) (by simp only [List.length_append, List.length_cons]; omega)
    refine ⟨?_, ?_⟩
    · rw [ends_more (by omega) (by omega) (by omega), h1, show p + x.length + 1 = p + 1 + x.length by omega, i1]
    · rw [bare_more (by omega) (by omega) (by omega) (by omega), h1, hcut, i2, hl, hn, show p + 1 + x.length + (nameL X).length = p + (1 + x.length + (nameL X).length) by omega, List.append_assoc, List.cons_append]
theorem many_one {α : Type} {f : Nat → Except Nat (α × Nat)} {p q : Nat} {x : α} (h : f p = .ok (x, q)) : many f 1 p = .ok ([x], q) := by
  rw [many, h]
  rfl
theorem many_two {α : Type} {f : Nat → Except Nat (α × Nat)} {p q r : Nat} {x y : α} (h : f p = .ok (x, q)) (h2 : f q = .ok (y, r)) : many f 2 p = .ok ([x, y], r) := by
  rw [many, h]
  simp only
  rw [many_one h2]
theorem body_not {L : List UInt8} {E k p q r : Nat} {N : List Nat} {X : List (List UInt8)} (hk : k ≠ 6) (h1 : many (numE L E 2) (shB k) p = .ok (N, q)) (h2 : many (nameE L E k) (shA k) q = .ok (X, r)) : bodyE L E k p = endE L E k X N r := by
  unfold bodyE
  rw [if_neg hk, h1]
  simp only
  rw [h2]
theorem end_none {L : List UInt8} {E k : Nat} {N : List Nat} {X : List (List UInt8)} (h : shC k = 0) : endE L E k X N E = .ok ⟨X, N, []⟩ := by
  unfold endE
  rw [if_neg (by omega), if_neg (Nat.lt_irrefl _)]
theorem end_texts {L : List UInt8} {E k r : Nat} {N : List Nat} {X T : List (List UInt8)} (h : 0 < shC k) (h2 : textsE L E k r = .ok (T, E)) : endE L E k X N r = .ok ⟨X, N, T⟩ := by
  unfold endE
  rw [if_pos h, h2]
  simp only
  rw [if_neg (Nat.lt_irrefl _)]
theorem right_all {R : Rec} (h : checkE R = 0) : isN R.name = true ∧ ∀ n ∈ R.names, isN n = true := by
  obtain ⟨h1, _, _⟩ := check_ok h
  unfold namesB at h1
  rw [Bool.and_eq_true] at h1
  refine ⟨by have := h1.1; simpa [badName] using this, fun n hn => ?_⟩
  have h3 : R.names.any badName = false := by simpa using h1.2
  have h4 := List.any_eq_false.1 h3 n hn
  simpa [badName] using h4
theorem nameE_put {L n : List UInt8} {k E : Nat} {s : Wr} (hk : k ≠ 33) (hn : isN n = true) (hK : KOk L s.1.length s.2) (hp : Pre (nameW n s).1 L) (hE : (nameW n s).1.length ≤ E) (hE2 : E ≤ L.length) : nameE L E k s.1.length = .ok (n, (nameW n s).1.length) := by
  obtain ⟨h1, h2⟩ := (nameW_reads hn hK hp).2 (E := E) (K0 := 50) hE hE2
  rw [nameE_nm h1 hk, h2]
theorem body_reads {L : List UInt8} {R : Rec} {z : Wr} (hE : checkE R = 0) (hnum : ∀ n ∈ R.nums, n < 4294967296) (hK : KOk L z.1.length z.2) (hp : Pre (dataW R z).1 L) :
    bodyE L (dataW R z).1.length R.kind z.1.length = .ok ⟨R.names, R.nums, R.texts⟩ ∧ KOk L (dataW R z).1.length (dataW R z).2 := by
  obtain ⟨_, hok, _⟩ := check_ok hE
  obtain ⟨hc, hb, hbt, _⟩ := okB_cnt hok
  obtain ⟨c1, c2, c3⟩ := cnt_of hc
  obtain ⟨_, hN⟩ := right_all hE
  have hL := hp.len
  have hnum2 : R.kind ≠ 6 → ∀ n ∈ R.nums, n < 256 ^ 2 := fun hk n hn => by
    have := List.any_eq_false.1 hb n hn
    unfold badNum at this
    simp only [decide_eq_true_eq, not_and] at this
    rcases Nat.lt_or_ge n 65536 with h | h
    · exact h
    · exact absurd hk (this (by omega))
  obtain ⟨nm0, kk, cl, tt, X, N, T⟩ := R
  simp only at *
  by_cases k1 : kk = 2 ∨ kk = 5 ∨ kk = 12
  · have hA : shA kk = 1 := by unfold shA; rw [if_pos k1]
    have hB : shB kk = 0 := by unfold shB; rw [if_pos k1]
    have hC : shC kk = 0 := by unfold shC; rw [if_pos k1]
    have hT : T = [] := List.length_eq_zero_iff.1 (by rcases c3 with ⟨e, _⟩ | ⟨_, e⟩ <;> omega)
    have hNs : N = [] := List.length_eq_zero_iff.1 (by omega)
    obtain ⟨x, rfl⟩ : ∃ x, X = [x] := List.length_eq_one_iff.1 (by omega)
    subst hT hNs
    have hd : dataW ⟨nm0, kk, cl, tt, [x], [], []⟩ z = nameW x z := by unfold dataW; rw [if_pos k1]; rfl
    rw [hd] at hp hL ⊢
    have hx := hN x (by simp)
    refine ⟨?_, (nameW_reads hx hK hp).1⟩
    rw [body_not (N := []) (q := z.1.length) (X := [x]) (r := (nameW x z).1.length) (by omega) (by rw [hB]; rfl) (by rw [hA]; exact many_one (nameE_put (by omega) hx hK hp (Nat.le_refl _) hL)), end_none hC]
  · by_cases k2 : kk = 6
    · subst k2
      obtain ⟨x, y, rfl⟩ : ∃ x y, X = [x, y] := by
        have c1' : X.length = 2 := c1
        match X, c1' with
        | [x, y], _ => exact ⟨x, y, rfl⟩
      have hT : T = [] := List.length_eq_zero_iff.1 (by rcases c3 with ⟨e, _⟩ | ⟨_, e⟩; · omega
                                                        · exact e)
      subst hT
      have hd : dataW ⟨nm0, 6, cl, tt, [x, y], N, []⟩ z = numsW 4 N (nameW y (nameW x z)) := by unfold dataW; rw [if_neg k1, if_pos rfl]; rfl
      rw [hd] at hp hL ⊢
      have hx := hN x (by simp)
      have hy := hN y (by simp)
      have p2 : Pre (nameW y (nameW x z)).1 L := (numsW_longer _ _ _).before hp
      have p1 : Pre (nameW x z).1 L := (nameW_longer _ (rests_of hy) _).before p2
      have q1 := (nameW_longer _ (rests_of hy) (nameW x z)).len.1
      have q2 := (numsW_longer 4 N (nameW y (nameW x z))).len.1
      have r1 := nameW_reads hx hK p1
      have r2 := nameW_reads hy r1.1 p2
      have hlen : (numsW 4 N (nameW y (nameW x z))).1.length = (nameW y (nameW x z)).1.length + 4 * N.length := by show (_ ++ numsL 4 N).length = _; rw [List.length_append, numsL_len]
      refine ⟨?_, r2.1.more q2⟩
      have m1 : many (nameE L (numsW 4 N (nameW y (nameW x z))).1.length 6) 2 z.1.length = .ok ([x, y], (nameW y (nameW x z)).1.length) :=
        many_two (nameE_put (by omega) hx hK p1 (by omega) hL) (nameE_put (by omega) hy r1.1 p2 (by omega) hL)
      have m2 := nums_reads (E := (numsW 4 N (nameW y (nameW x z))).1.length) hp (fun n hn => by have := hnum n hn; omega) (by omega)
      unfold bodyE
      rw [if_pos rfl, m1]
      simp only
      rw [show (5 : Nat) = N.length from c2.symm, m2]
      simp only
      rw [← hlen, end_none rfl]
    · by_cases k3 : kk = 15
      · subst k3
        obtain ⟨x, rfl⟩ : ∃ x, X = [x] := List.length_eq_one_iff.1 c1
        have hT : T = [] := List.length_eq_zero_iff.1 (by rcases c3 with ⟨e, _⟩ | ⟨_, e⟩; · omega
                                                          · exact e)
        subst hT
        have hd : dataW ⟨nm0, 15, cl, tt, [x], N, []⟩ z = nameW x (numsW 2 N z) := by unfold dataW; rw [if_neg k1, if_neg k2, if_pos rfl]; rfl
        rw [hd] at hp hL ⊢
        have hx := hN x (by simp)
        have p1 : Pre (numsW 2 N z).1 L := (nameW_longer _ (rests_of hx) _).before hp
        have q1 := (nameW_longer _ (rests_of hx) (numsW 2 N z)).len.1
        have hlen : (numsW 2 N z).1.length = z.1.length + 2 * N.length := by show (_ ++ numsL 2 N).length = _; rw [List.length_append, numsL_len]
        have hK1 : KOk L (numsW 2 N z).1.length (numsW 2 N z).2 := hK.more (by omega)
        refine ⟨?_, (nameW_reads hx hK1 hp).1⟩
        have m2 := nums_reads (E := (nameW x (numsW 2 N z)).1.length) p1 (hnum2 (by omega)) (by omega)
        rw [← hlen] at m2
        rw [body_not (k := 15) (by omega) (by rw [show shB 15 = N.length from c2.symm]; exact m2) (X := [x]) (r := (nameW x (numsW 2 N z)).1.length) (many_one (nameE_put (by omega) hx hK1 hp (Nat.le_refl _) hL)), end_none rfl]
      · have hd : dataW ⟨nm0, kk, cl, tt, X, N, T⟩ z = (z.1 ++ plainL ⟨nm0, kk, cl, tt, X, N, T⟩, z.2) := by unfold dataW; rw [if_neg k1, if_neg k2, if_neg k3, plainO_ok hE]
        rw [hd] at hp hL ⊢
        rw [plainL_not k2] at hp hL ⊢
        simp only at hp hL ⊢
        refine ⟨?_, hK.more (by rw [List.length_append]; omega)⟩
        by_cases k4 : kk = 33
        · subst k4
          obtain ⟨x, rfl⟩ : ∃ x, X = [x] := List.length_eq_one_iff.1 c1
          have hT : T = [] := List.length_eq_zero_iff.1 (by rcases c3 with ⟨e, _⟩ | ⟨_, e⟩; · omega
                                                            · exact e)
          subst hT
          have e0 : numsL 2 N ++ ([x].flatten ++ ([] : List (List UInt8)).flatMap (textL 33)) = numsL 2 N ++ x := by simp
          rw [e0] at hp hL ⊢
          have e1 : z.1 ++ (numsL 2 N ++ x) = (z.1 ++ numsL 2 N) ++ x := (List.append_assoc _ _ _).symm
          rw [e1] at hp hL ⊢
          have p1 : Pre (z.1 ++ numsL 2 N) L := hp.of ⟨_, rfl⟩
          have hlen : (z.1 ++ numsL 2 N).length = z.1.length + 2 * N.length := by rw [List.length_append, numsL_len]
          have hlen2 : ((z.1 ++ numsL 2 N) ++ x).length = (z.1 ++ numsL 2 N).length + x.length := List.length_append
          have m2 := nums_reads (E := ((z.1 ++ numsL 2 N) ++ x).length) p1 (hnum2 (by omega)) (by omega)
          rw [← hlen] at m2
          obtain ⟨ls, hls⟩ := isN_some (hN x (by simp))
          obtain ⟨f1, f2, f3⟩ := labels_some hls
          obtain ⟨t, ht⟩ := hp
          have hdr : L.drop (z.1 ++ numsL 2 N).length = nameL ls ++ t := by rw [ht, List.append_assoc, List.drop_left, f1]
          obtain ⟨b1, b2⟩ := bare_wire (E := ((z.1 ++ numsL 2 N) ++ x).length) (K := 50) (o := []) f2 hdr (by rw [f1]; omega) (by rw [f1]; simpa using f3)
          have m3 : nameE L ((z.1 ++ numsL 2 N) ++ x).length 33 (z.1 ++ numsL 2 N).length = .ok (x, ((z.1 ++ numsL 2 N) ++ x).length) := by
            rw [nameE_bare b1 rfl, b2, f1, hlen2]
            rfl
          rw [body_not (k := 33) (by omega) (by rw [show shB 33 = N.length from c2.symm]; exact m2) (many_one m3), end_none rfl]
        · have hA : shA kk = 0 := by unfold shA; rw [if_neg k1, if_neg k2, if_neg k3, if_neg k4]
          have hB : shB kk = 0 := by unfold shB; rw [if_neg k1, if_neg k2, if_neg k3, if_neg k4]
          have hC : shC kk = 1 := by unfold shC; rw [if_neg k1, if_neg k2, if_neg k3, if_neg k4]
          have hX : X = [] := List.length_eq_zero_iff.1 (by omega)
          have hNs : N = [] := List.length_eq_zero_iff.1 (by omega)
          subst hX hNs
          have e0 : numsL 2 [] ++ (([] : List (List UInt8)).flatten ++ T.flatMap (textL kk)) = T.flatMap (textL kk) := by unfold numsL; simp
          rw [e0] at hp hL ⊢
          rw [body_not (N := []) (q := z.1.length) (X := []) (r := z.1.length) k2 (by rw [hB]; rfl) (by rw [hA]; rfl), end_texts (by omega)]
          unfold textsE
          have hlen : (z.1 ++ T.flatMap (textL kk)).length = z.1.length + bulk kk T := by rw [List.length_append, textL_len]
          by_cases k16 : kk = 16
          · subst k16
            have h0 : 0 < T.length := by rcases c3 with ⟨_, e⟩ | ⟨e, _⟩
                                         · exact e
                                         · exact absurd rfl e
            have hbk : 0 < bulk 16 T := by
              match T, h0 with
              | x :: T, _ => show 0 < x.length + 1 + bulk 16 T; omega
            rw [if_neg (by omega), if_neg (by omega), if_pos rfl, if_pos (by omega)]
            exact txts_reads hp (fun x hx => by
              obtain ⟨j, hj, rfl⟩ := List.getElem_of_mem hx
              have := any_short hbt j hj
              rwa [List.getD_eq_getElem?_getD, List.getElem?_eq_getElem hj] at this) hlen
          · obtain ⟨x, rfl⟩ : ∃ x, T = [x] := List.length_eq_one_iff.1 (by
              rcases c3 with ⟨e, _⟩ | ⟨_, e⟩
              · exact absurd e k16
              · omega)
            have e2 : [x].flatMap (textL kk) = x := by simp [textL_not k16]
            rw [e2] at hp hL hlen ⊢
            have hl2 : (z.1 ++ x).length = z.1.length + x.length := List.length_append
            have hbx : badText kk x = false := by simpa using hbt
            unfold badText at hbx
            have hbx2 := of_decide_eq_false hbx
            by_cases a1 : kk = 1
            · have hx4 : x.length = 4 := by omega
              rw [if_pos a1, partE_ok (by omega), cut_put hp hx4.symm, hl2, hx4]
            · by_cases a2 : kk = 28
              · have hx4 : x.length = 16 := by omega
                rw [if_neg a1, if_pos a2, partE_ok (by omega), cut_put hp hx4.symm, hl2, hx4]
              · rw [if_neg a1, if_neg a2, if_neg k16, cut_put hp (by omega)]
/-- A record is its head, the length of its data, and its data, as it is written behind these. -/
theorem recW_is {R : Rec} (h : checkE R = 0) (s : Wr) : ∃ n, recW R s = dataW R (numW n 2 (headW R s)) ∧ (recW R s).1.length = (numW n 2 (headW R s)).1.length + n := by
  obtain ⟨l, _, e1, e2⟩ := recW_parts h s
  have hl : (numW 0 2 (headW R s)).1.length = (numW l.length 2 (headW R s)).1.length := by
    show (_ ++ beTail _ _).length = (_ ++ beTail _ _).length
    rw [List.length_append, List.length_append, beTail_length, beTail_length]
  obtain ⟨m, K, f1, f2⟩ := dataW_like R hl rfl
  rw [f1] at e1
  injection e1 with e1 _
  have e1 := List.append_cancel_left e1
  subst e1
  refine ⟨m.length, ?_, ?_⟩
  · rw [e2, f1, f2]
    show (_ ++ (_ ++ _), _) = ((_ ++ _) ++ _, _)
    rw [List.append_assoc]
  · rw [e2]
    show ((headW R s).1 ++ (beTail m.length 2 ++ m)).length = ((headW R s).1 ++ beTail m.length 2).length + m.length
    simp only [List.length_append]
    omega
/-- What a record that may be written is, beside what its check asks. -/
structure Fits (R : Rec) : Prop where
  ok : checkE R = 0
  kind : R.kind ≤ 65535
  cls : R.cls ≤ 65535
  ttl : R.ttl ≤ 4294967295
  nums : ∀ n ∈ R.nums, n < 4294967296
theorem recW_reads {L : List UInt8} {R : Rec} {s : Wr} (h : Fits R) (h64 : L.length ≤ 65535) (hK : KOk L s.1.length s.2) (hp : Pre (recW R s).1 L) : KOk L (recW R s).1.length (recW R s).2 ∧ recE L s.1.length = .ok (R, (recW R s).1.length) := by
  obtain ⟨n, e, hlen⟩ := recW_is h.ok s
  have hL := hp.len
  have hn : n < 65536 := by omega
  have hp0 := hp
  rw [e] at hp
  have p5 : Pre (numW n 2 (headW R s)).1 L := (dataW_longer h.ok _).before hp
  have p4 : Pre (headW R s).1 L := (numW_longer _ _ _).before p5
  have p3 : Pre (numW R.cls 2 (numW R.kind 2 (nameW R.name s))).1 L := (numW_longer _ _ _).before p4
  have p2 : Pre (numW R.kind 2 (nameW R.name s)).1 L := (numW_longer _ _ _).before p3
  have p1 : Pre (nameW R.name s).1 L := (numW_longer _ _ _).before p2
  obtain ⟨k1, r1⟩ := nameW_reads (right_all h.ok).1 hK p1
  have nl : ∀ (x size : Nat) (t : Wr), (numW x size t).1.length = t.1.length + size := fun x size t => by show (_ ++ beTail _ _).length = _; rw [List.length_append, beTail_length]
  have l2 := nl R.kind 2 (nameW R.name s)
  have l3 := nl R.cls 2 (numW R.kind 2 (nameW R.name s))
  have l4 : (headW R s).1.length = _ := nl R.ttl 4 (numW R.cls 2 (numW R.kind 2 (nameW R.name s)))
  have l5 := nl n 2 (headW R s)
  have n1 : nu L (nameW R.name s).1.length 2 = R.kind := nu_put p2 (by have := h.kind; omega)
  have n2 : nu L ((nameW R.name s).1.length + 2) 2 = R.cls := by rw [← l2]; exact nu_put p3 (by have := h.cls; omega)
  have n3 : nu L ((nameW R.name s).1.length + 4) 4 = R.ttl := by
    rw [show (nameW R.name s).1.length + 4 = (numW R.cls 2 (numW R.kind 2 (nameW R.name s))).1.length by omega]
    exact nu_put p4 (by have := h.ttl; omega)
  have n4 : nu L ((nameW R.name s).1.length + 8) 2 = n := by
    rw [show (nameW R.name s).1.length + 8 = (headW R s).1.length by omega]
    exact nu_put p5 (by omega)
  have hKz : KOk L (numW n 2 (headW R s)).1.length (numW n 2 (headW R s)).2 := k1.more (by omega)
  obtain ⟨b1, b2⟩ := body_reads h.ok h.nums hKz hp
  rw [← e] at b1 b2
  refine ⟨b2, ?_⟩
  have hEnd : (nameW R.name s).1.length + 10 + n = (recW R s).1.length := by omega
  have hz : (nameW R.name s).1.length + 10 = (numW n 2 (headW R s)).1.length := by omega
  rw [recE_ok (r1 (by omega) (Nat.le_refl _)).2, headE_ok (by omega) (by rw [n4]; omega), n1, n2, n3, n4, hEnd, hz, b1]
  unfold lateE
  simp only
  obtain ⟨_, _, hlate⟩ := check_ok h.ok
  unfold lateB at hlate
  rw [if_neg (of_decide_eq_false hlate)]
theorem qns_reads {L : List UInt8} : ∀ {X : List Qn} {s : Wr}, (∀ q ∈ X, isN q.name = true ∧ q.kind ≤ 65535 ∧ q.cls ≤ 65535) → KOk L s.1.length s.2 → Pre (qnsW X s).1 L → KOk L (qnsW X s).1.length (qnsW X s).2 ∧ many (qn L) X.length s.1.length = .ok (X, (qnsW X s).1.length) := by
  intro X
  induction X with
  | nil => intro s _ hK _; exact ⟨hK, rfl⟩
  | cons q X ih =>
    intro s hX hK hp
    rw [qnsW_cons] at hp ⊢
    have hq := hX q (by simp)
    have p1 : Pre (qnW q s).1 L := (qnsW_longer (L := X) (qnW q s) (fun q hq => (hX q (by simp [hq])).1)).before hp
    obtain ⟨k1, r1⟩ := qnW_reads hq.1 hq.2.1 hq.2.2 hK p1
    obtain ⟨k2, r2⟩ := ih (fun q hq => hX q (by simp [hq])) k1 hp
    refine ⟨k2, ?_⟩
    rw [List.length_cons, many, r1]
    simp only
    rw [r2]
theorem recs_reads {L : List UInt8} (h64 : L.length ≤ 65535) : ∀ {X : List Rec} {s : Wr}, (∀ R ∈ X, Fits R) → KOk L s.1.length s.2 → Pre (recsW X s).1 L → KOk L (recsW X s).1.length (recsW X s).2 ∧ many (recE L) X.length s.1.length = .ok (X, (recsW X s).1.length) := by
  intro X
  induction X with
  | nil => intro s _ hK _; exact ⟨hK, rfl⟩
  | cons R X ih =>
    intro s hX hK hp
    rw [recsW_cons] at hp ⊢
    have p1 : Pre (recW R s).1 L := (recsW_longer (L := X) (recW R s) (fun q hq => (hX q (by simp [hq])).ok)).before hp
    obtain ⟨k1, r1⟩ := recW_reads (hX R (by simp)) h64 hK p1
    obtain ⟨k2, r2⟩ := ih (fun q hq => hX q (by simp [hq])) k1 hp
    refine ⟨k2, ?_⟩
    rw [List.length_cons, many, r1]
    simp only
    rw [r2]
/-- The whole message. -/
theorem msgW_reads {M : Msg} (hc : checkM M = 0) (h64 : (msgW M).1.length ≤ 65535) (hid : M.id ≤ 65535) (hfl : M.flags ≤ 65535) (hq : ∀ q ∈ M.qs, q.kind ≤ 65535 ∧ q.cls ≤ 65535) (hr : ∀ R ∈ recsM M, R.kind ≤ 65535 ∧ R.cls ≤ 65535 ∧ R.ttl ≤ 4294967295 ∧ ∀ n ∈ R.nums, n < 4294967296) :
    msg (recE (msgW M).1) (msgW M).1 = .ok M := by
  obtain ⟨hcnt, hqn, hrec⟩ := checkM_ok hc
  obtain ⟨L, hLe⟩ : ∃ L, (msgW M).1 = L := ⟨_, rfl⟩
  rw [hLe] at h64 ⊢
  have hp : Pre (msgW M).1 L := ⟨[], by rw [hLe, List.append_nil]⟩
  have hF : ∀ R ∈ recsM M, Fits R := fun R hR => ⟨hrec R hR, (hr R hR).1, (hr R hR).2.1, (hr R hR).2.2.1, (hr R hR).2.2.2⟩
  have hFa : ∀ R ∈ M.an, Fits R := fun R hR => hF R (by unfold recsM; simp [hR])
  have hFn : ∀ R ∈ M.ns, Fits R := fun R hR => hF R (by unfold recsM; simp [hR])
  have hFx : ∀ R ∈ M.ad, Fits R := fun R hR => hF R (by unfold recsM; simp [hR])
  have hm : msgW M = recsW M.ad (recsW M.ns (recsW M.an (qnsW M.qs (startW M)))) := by unfold msgW recsM; rw [recsW_app, recsW_app]
  rw [hm] at hp
  have p3 : Pre (recsW M.ns (recsW M.an (qnsW M.qs (startW M)))).1 L := (recsW_longer _ (fun R hR => (hFx R hR).ok)).before hp
  have p2 : Pre (recsW M.an (qnsW M.qs (startW M))).1 L := (recsW_longer _ (fun R hR => (hFn R hR).ok)).before p3
  have p1 : Pre (qnsW M.qs (startW M)).1 L := (recsW_longer _ (fun R hR => (hFa R hR).ok)).before p2
  have p0 : Pre (startW M).1 L := (qnsW_longer _ hqn).before p1
  have h12 := (start_inv M).2
  have hK0 : KOk L (startW M).1.length (startW M).2 := fun y hy => by cases hy
  obtain ⟨k1, r1⟩ := qns_reads (fun q hq' => ⟨hqn q hq', (hq q hq').1, (hq q hq').2⟩) hK0 p1
  obtain ⟨k2, r2⟩ := recs_reads h64 hFa k1 p2
  obtain ⟨k3, r3⟩ := recs_reads h64 hFn k2 p3
  obtain ⟨k4, r4⟩ := recs_reads h64 hFx k3 hp
  rw [← hm, hLe] at r4
  rw [h12] at r1
  have s6 : (startW M).1 = (((((beTail M.id 2 ++ beTail M.flags 2) ++ beTail M.qs.length 2) ++ beTail M.an.length 2) ++ beTail M.ns.length 2) ++ beTail M.ad.length 2) := rfl
  rw [s6] at p0
  have t5 := p0
  have t4 : Pre ((((beTail M.id 2 ++ beTail M.flags 2) ++ beTail M.qs.length 2) ++ beTail M.an.length 2) ++ beTail M.ns.length 2) L := p0.of ⟨_, rfl⟩
  have t3 : Pre (((beTail M.id 2 ++ beTail M.flags 2) ++ beTail M.qs.length 2) ++ beTail M.an.length 2) L := t4.of ⟨_, rfl⟩
  have t2 : Pre ((beTail M.id 2 ++ beTail M.flags 2) ++ beTail M.qs.length 2) L := t3.of ⟨_, rfl⟩
  have t1 : Pre (beTail M.id 2 ++ beTail M.flags 2) L := t2.of ⟨_, rfl⟩
  have t0 : Pre ([] ++ beTail M.id 2) L := t1.of ⟨_, rfl⟩
  have u0 : nu L 0 2 = M.id := nu_put t0 (by omega)
  have u1 : nu L 2 2 = M.flags := by have := nu_put t1 (by omega : M.flags < 256 ^ 2); simpa only [beTail_length] using this
  have u2 : nu L 4 2 = M.qs.length := by have := nu_put t2 (by omega : M.qs.length < 256 ^ 2); simpa only [List.length_append, beTail_length] using this
  have u3 : nu L 6 2 = M.an.length := by have := nu_put t3 (by omega : M.an.length < 256 ^ 2); simpa only [List.length_append, beTail_length] using this
  have u4 : nu L 8 2 = M.ns.length := by have := nu_put t4 (by omega : M.ns.length < 256 ^ 2); simpa only [List.length_append, beTail_length] using this
  have u5 : nu L 10 2 = M.ad.length := by have := nu_put t5 (by omega : M.ad.length < 256 ^ 2); simpa only [List.length_append, beTail_length] using this
  have hL12 : 12 ≤ L.length := by have := p0.len; rw [← s6, h12] at this; exact this
  rw [msg_some hL12 (by omega), msg1_ok (by rw [u2]; exact r1), msg2_ok (by rw [u3]; exact r2), msg3_ok (by rw [u4]; exact r3), msg4_ok (by rw [u5]; exact r4) (Nat.le_refl _), u0, u1]
end Go.Proofs.Ytpmmjmnleoicjaa.WrMath

/- The document's Same of any two messages. For rows of at most 1000. -/
namespace Go.Proofs.Ytpmmjmnleoicjaa
open Go.RowKit Bytes Strs Nums MsgMath RecMath WrMath

theorem sameB_iff (R S : Rec) : sameB R S = true ↔ R = S := by
  unfold sameB
  rw [decide_eq_true_iff]
  constructor
  · rintro ⟨h1, h2, h3, h4, h5, h6, h7⟩
    cases R; cases S
    simp only at *
    subst h1 h2 h3 h4 h5 h6 h7
    rfl
  · rintro rfl; exact ⟨rfl, rfl, rfl, rfl, rfl, rfl, rfl⟩
set_option maxHeartbeats 4000000 in
set_option maxRecDepth 100000 in
theorem sameRecs_any (A B : Option Addr) (c1 c2 n m G : Nat) (Za Zb : List RecZ) (q : Bool) (w : World) (hG : w.heap.size = G) (ha : CellsAt w G A (recCs Za)) (hza : ZAt w G Za) (hb : CellsAt w G B (recCs Zb)) (hzb : ZAt w G Zb) (hn : Za.length = n) (hm : Zb.length = m) (hn2 : n ≤ 1000) (hm2 : m ≤ 1000) (hs : ∀ z ∈ Za, Small z.1) (hs2 : ∀ z ∈ Zb, Small z.1) (hq : q = true ↔ Za.map (·.1) = Zb.map (·.1)) :
    Calls Try.prog 53 #[.slice A n c1, .slice B m c2] w fun e w' => e = .returned (.bool q) ∧ Below G w w' := by
  by_cases hnm : n = m
  rotate_left
  · obtain rfl : q = false := by
      cases q with
      | false => rfl
      | true => have := congrArg List.length (hq.1 rfl); rw [List.length_map, List.length_map] at this; omega
    have hne : ((n : Int) != (m : Int)) = true := bne_iff_ne.2 (by omega)
    have HB : Hid (Below G w w) := Below.refl _ _
    clear ha hza hb hzb hs hs2 hq hG
    go_enter Try.func53, Try.ntmps53
    go_wp2_with fail
    go_ret
    exact ⟨rfl, HB.out⟩
  subst hnm
  have HA := Lib.hid ha
  have HZA := Lib.hid hza
  have HB := Lib.hid hb
  have HZB := Lib.hid hzb
  have HQ := Lib.hid hq
  have HN := Lib.hid hn
  have HNB := Lib.hid hm
  have HS := Lib.hid hs
  have HS2 := Lib.hid hs2
  have HG := Lib.hid hG
  clear ha hza hb hzb hq hn hm hs hs2 hG
  go_enter Try.func53, Try.ntmps53
  go_wp2_with fail
  go_loopw [5] (fun i wr => ∃ j : Nat, i = .int .i64 j ∧ j ≤ n ∧ Hid (Below G w wr) ∧ Hid (∀ k (h1 : k < Za.length) (h2 : k < Zb.length), k < j → (Za[k]).1 = (Zb[k]).1)) (fun i _ => n - (intOf i).toNat)
  case atStart => exact ⟨0, rfl, Nat.zero_le _, Below.refl _ _, fun k _ _ h => absurd h (Nat.not_lt_zero _)⟩
  case round =>
    obtain ⟨j, rfl, hj, hV, hE⟩ := hrel
    by_cases hlt : j < n
    · have hja : j < Za.length := by rw [HN.out]; exact hlt
      have hjb : j < Zb.length := by rw [HNB.out]; exact hlt
      obtain ⟨ba, oa, A1, c1', A2, c2', A3, c3', rfl, hba, hat, k0, k1, k2, k3, k4, k5, k6⟩ := recs_get (HA.out.on hV.out (Nat.le_refl _)) (HZA.out.on hV.out (Nat.le_refl _)) hja
      obtain ⟨bb, ob, B1, d1', B2, d2', B3, d3', rfl, hbb, hbt, m0, m1, m2, m3, m4, m5, m6⟩ := recs_get (HB.out.on hV.out (Nat.le_refl _)) (HZB.out.on hV.out (Nat.le_refl _)) hjb
      have hsm := HS.out _ (List.getElem_mem hja)
      have hsm2 := HS2.out _ (List.getElem_mem hjb)
      have HEQ : Hid (∀ R S, (Za[j]).1 = R → (Zb[j]).1 = S → q = true → R = S) := fun R S h1 h2 h => by
        have := congrArg (fun L => L[j]?) (HQ.out.1 h)
        simp only [List.getElem?_map] at this
        rw [List.getElem?_eq_getElem hja, List.getElem?_eq_getElem hjb] at this
        injection this with this
        rw [← h1, ← h2]; exact this
      have HNX : Hid (∀ R S, (Za[j]).1 = R → (Zb[j]).1 = S → R = S → ∀ k (h1 : k < Za.length) (h2 : k < Zb.length), k < j + 1 → (Za[k]).1 = (Zb[k]).1) := fun R S h1 h2 h k a1 a2 hk => by
        by_cases hkj : k < j
        · exact hE.out k a1 a2 hkj
        · obtain rfl : k = j := by omega
          rw [h1, h2]; exact h
      obtain ⟨RR, hRR⟩ : ∃ R, (Za[j]).1 = R := ⟨_, rfl⟩
      obtain ⟨SS, hSS⟩ : ∃ R, (Zb[j]).1 = R := ⟨_, rfl⟩
      rw [hRR] at hat k0 k1 k2 k3 k4 k5 k6 hsm
      rw [hSS] at hbt m0 m1 m2 m3 m4 m5 m6 hsm2
      have HEQ2 := Lib.hid (HEQ.out RR SS hRR hSS)
      have HNX2 := Lib.hid (HNX.out RR SS hRR hSS)
      obtain ⟨xn, hxn⟩ : ∃ x, mk RR.name = x := ⟨_, rfl⟩
      obtain ⟨rk, hrk⟩ : ∃ n, RR.kind = n := ⟨_, rfl⟩
      obtain ⟨rc, hrc⟩ : ∃ n, RR.cls = n := ⟨_, rfl⟩
      obtain ⟨rt, hrt⟩ : ∃ n, RR.ttl = n := ⟨_, rfl⟩
      obtain ⟨l1, hl1⟩ : ∃ n, RR.names.length = n := ⟨_, rfl⟩
      obtain ⟨l2, hl2⟩ : ∃ n, RR.nums.length = n := ⟨_, rfl⟩
      obtain ⟨l3, hl3⟩ : ∃ n, RR.texts.length = n := ⟨_, rfl⟩
      obtain ⟨yn, hyn⟩ : ∃ x, mk SS.name = x := ⟨_, rfl⟩
      obtain ⟨sk, hsk⟩ : ∃ n, SS.kind = n := ⟨_, rfl⟩
      obtain ⟨sc, hsc⟩ : ∃ n, SS.cls = n := ⟨_, rfl⟩
      obtain ⟨st, hst⟩ : ∃ n, SS.ttl = n := ⟨_, rfl⟩
      obtain ⟨s1, hs1⟩ : ∃ n, SS.names.length = n := ⟨_, rfl⟩
      obtain ⟨s2, hs2⟩ : ∃ n, SS.nums.length = n := ⟨_, rfl⟩
      obtain ⟨s3, hs3⟩ : ∃ n, SS.texts.length = n := ⟨_, rfl⟩
      rw [hxn] at k0
      rw [hrk] at k1
      rw [hrc] at k2
      rw [hrt] at k3
      rw [hl1] at k4
      rw [hl2] at k5
      rw [hl3] at k6
      rw [hxn, hrk, hrc, hrt, hl1, hl2, hl3] at hat
      rw [hyn] at m0
      rw [hsk] at m1
      rw [hsc] at m2
      rw [hst] at m3
      rw [hs1] at m4
      rw [hs2] at m5
      rw [hs3] at m6
      rw [hyn, hsk, hsc, hst, hs1, hs2, hs3] at hbt
      have hGs : G ≤ wr.heap.size := by have := hV.out.size; rw [HG.out] at this; exact this
      obtain ⟨z, hz⟩ : ∃ z, sameB RR SS = z := ⟨_, rfl⟩
      have HZ : Hid (z = true ↔ RR = SS) := by show _ ↔ _; rw [← hz]; exact sameB_iff _ _
      have HSM := Lib.hid (refSame_is RR SS xn rk rc rt A1 l1 c1' A2 l2 c2' A3 l3 c3' yn sk sc st B1 s1 d1' B2 s2 d2' B3 s3 d3' z wr.drew (hat.on ((Below.refl _ _).drew) hGs) hsm (hbt.on ((Below.refl _ _).drew) hGs) hsm2 hz)
      have HGS := Lib.hid hGs
      clear hRR hSS hxn hrk hrc hrt hl1 hl2 hl3 hyn hsk hsc hst hs1 hs2 hs3 hat hbt hsm hsm2 hGs hz HEQ HNX hE
      cases z with
      | true =>
        have HE2 := Lib.hid (HNX2.out (HZ.out.1 rfl))
        go_wp2_with fail
        go_region_with (go_at_call 94; refine HSM.out.mono ?_; rintro e wx ⟨rfl, hB⟩; have HV9 := Lib.hid (hV.out.trans ((Below.refl _ _).drew.trans (hB.mono HGS.out))); clear hB)
        all_goals
          clear k0 k1 k2 k3 k4 k5 k6 m0 m1 m2 m3 m4 m5 m6 HSM hV
          go_wp2_with fail
          go_roundw
          case rel => exact ⟨j + 1, by go_num, by omega, HV9, HE2⟩
          case measure => simp [intOf]; omega
      | false =>
        obtain rfl : q = false := by
          cases hqq : q with
          | false => rfl
          | true => exact absurd (HZ.out.2 (HEQ2.out hqq)) (by decide)
        go_wp2_with fail
        go_region_with (go_at_call 94; refine HSM.out.mono ?_; rintro e wx ⟨rfl, hB⟩; have HV9 := Lib.hid (hV.out.trans ((Below.refl _ _).drew.trans (hB.mono HGS.out))); clear hB)
        all_goals
          clear k0 k1 k2 k3 k4 k5 k6 m0 m1 m2 m3 m4 m5 m6 HSM hV
          go_wp2_with fail
          go_ret
          exact ⟨rfl, HV9.out⟩
    · have hjn : ¬ ((j : Int) < (n : Int)) := by omega
      obtain rfl : q = true := HQ.out.2 (by
        apply List.ext_getElem
        · rw [List.length_map, List.length_map, HN.out, HNB.out]
        · intro k h1 h2
          rw [List.getElem_map, List.getElem_map]
          rw [List.length_map] at h1 h2
          exact hE.out k h1 h2 (by have := HN.out; omega))
      clear hlt hE
      go_wp2_with fail
      go_ret
      exact ⟨rfl, hV.out⟩
theorem msg_eq {a b : Msg} (h1 : a.id = b.id) (h2 : a.flags = b.flags) (h3 : a.qs = b.qs) (h4 : a.an = b.an) (h5 : a.ns = b.ns) (h6 : a.ad = b.ad) : a = b := by
  cases a; cases b
  simp only at *
  subst h1 h2 h3 h4 h5 h6
  rfl
/-- Small enough to be held against another. -/
structure SmallM (M : Msg) : Prop where
  nq : M.qs.length ≤ 1000
  na : M.an.length ≤ 1000
  nn : M.ns.length ≤ 1000
  nx : M.ad.length ≤ 1000
  recs : ∀ R ∈ recsM M, Small R
set_option maxHeartbeats 8000000 in
set_option maxRecDepth 100000 in
theorem same_any (M N : Msg) (Aq Aa An Ax Bq Ba Bn Bx : Option Addr) (cq ca cn cx dq da dn dx nq na nn nx mq ma mn mx : Nat) (Za Ya Zn Yn Zx Yx : List RecZ) (q : Bool) (w : World) (hM : Hid (MsgV w w.heap.size M Aq Aa An Ax nq na nn nx ca cn cx Za Zn Zx)) (hN : Hid (MsgV w w.heap.size N Bq Ba Bn Bx mq ma mn mx da dn dx Ya Yn Yx)) (hsM : Hid (SmallM M)) (hsN : Hid (SmallM N)) (hq : Hid (q = true ↔ M = N)) :
    Calls Try.prog 19 #[.agg (msgA M.id M.flags Aq nq cq Aa na ca An nn cn Ax nx cx), .agg (msgA N.id N.flags Bq mq dq Ba ma da Bn mn dn Bx mx dx)] w fun e w' => e = .returned (.bool q) ∧ Below w.heap.size w w' := by
  obtain ⟨id, hid⟩ : ∃ n, M.id = n := ⟨_, rfl⟩
  obtain ⟨fl, hfl⟩ : ∃ n, M.flags = n := ⟨_, rfl⟩
  obtain ⟨jd, hjd⟩ : ∃ n, N.id = n := ⟨_, rfl⟩
  obtain ⟨gl, hgl⟩ : ∃ n, N.flags = n := ⟨_, rfl⟩
  have HST0 := Lib.hid (smSt_start w (msgA id fl Aq nq cq Aa na ca An nn cn Ax nx cx) (msgA jd gl Bq mq dq Ba ma da Bn mn dn Bx mx dx))
  obtain ⟨b, hb⟩ : ∃ b, w.heap.size = b := ⟨_, rfl⟩
  have hM0 := hM.out
  have hN0 := hN.out
  rw [hb] at HST0 hM0 hN0
  rw [hid, hfl, hjd, hgl, hb]
  have rM := hM0.rows
  have rN := hN0.rows
  have sm : ∀ z ∈ Za ++ Zn ++ Zx, Small z.1 := fun z hz => hsM.out.recs _ (by rw [← hM0.all.1]; exact List.mem_map_of_mem hz)
  have sn : ∀ z ∈ Ya ++ Yn ++ Yx, Small z.1 := fun z hz => hsN.out.recs _ (by rw [← hN0.all.1]; exact List.mem_map_of_mem hz)
  have bd : (nq ≤ 1000 ∧ na ≤ 1000 ∧ nn ≤ 1000 ∧ nx ≤ 1000) ∧ mq ≤ 1000 ∧ ma ≤ 1000 ∧ mn ≤ 1000 ∧ mx ≤ 1000 := by
    have := hsM.out.nq; have := hsM.out.na; have := hsM.out.nn; have := hsM.out.nx
    have := hsN.out.nq; have := hsN.out.na; have := hsN.out.nn; have := hsN.out.nx
    have := hM0.eq; have := hM0.ea; have := hM0.en; have := hM0.ex
    have := hN0.eq; have := hN0.ea; have := hN0.en; have := hN0.ex
    omega
  obtain ⟨qa, hqa⟩ : ∃ q : Bool, q = true ↔ Za.map (·.1) = Ya.map (·.1) := by
    by_cases h : Za.map (·.1) = Ya.map (·.1)
    · exact ⟨true, by simp [h]⟩
    · exact ⟨false, by simp [h]⟩
  obtain ⟨qn, hqn⟩ : ∃ q : Bool, q = true ↔ Zn.map (·.1) = Yn.map (·.1) := by
    by_cases h : Zn.map (·.1) = Yn.map (·.1)
    · exact ⟨true, by simp [h]⟩
    · exact ⟨false, by simp [h]⟩
  obtain ⟨qx, hqx⟩ : ∃ q : Bool, q = true ↔ Zx.map (·.1) = Yx.map (·.1) := by
    by_cases h : Zx.map (·.1) = Yx.map (·.1)
    · exact ⟨true, by simp [h]⟩
    · exact ⟨false, by simp [h]⟩
  have RA := Lib.hid (fun W (h : Below b w W) (hs : b ≤ W.heap.size) => sameRecs_any Aa Ba ca da na ma _ Za Ya qa W rfl (rM.1.1.on h hs) (hM0.at_.za.on h hs) (rN.1.1.on h hs) (hN0.at_.za.on h hs) rM.1.2.1 rN.1.2.1 bd.1.2.1 bd.2.2.1 (fun z hz => sm z (by simp [hz])) (fun z hz => sn z (by simp [hz])) hqa)
  have RN := Lib.hid (fun W (h : Below b w W) (hs : b ≤ W.heap.size) => sameRecs_any An Bn cn dn nn mn _ Zn Yn qn W rfl (rM.2.1.1.on h hs) (hM0.at_.zn.on h hs) (rN.2.1.1.on h hs) (hN0.at_.zn.on h hs) rM.2.1.2.1 rN.2.1.2.1 bd.1.2.2.1 bd.2.2.2.1 (fun z hz => sm z (by simp [hz])) (fun z hz => sn z (by simp [hz])) hqn)
  have RX := Lib.hid (fun W (h : Below b w W) (hs : b ≤ W.heap.size) => sameRecs_any Ax Bx cx dx nx mx _ Zx Yx qx W rfl (rM.2.2.1.on h hs) (hM0.at_.zx.on h hs) (rN.2.2.1.on h hs) (hN0.at_.zx.on h hs) rM.2.2.2.1 rN.2.2.2.1 bd.1.2.2.2 bd.2.2.2.2 (fun z hz => sm z (by simp [hz])) (fun z hz => sn z (by simp [hz])) hqx)
  have HQA : Hid (qa = true ↔ M.an = N.an) := by show _ ↔ _; rw [← hM0.at_.ea, ← hN0.at_.ea]; exact hqa
  have HQN : Hid (qn = true ↔ M.ns = N.ns) := by show _ ↔ _; rw [← hM0.at_.en, ← hN0.at_.en]; exact hqn
  have HQX : Hid (qx = true ↔ M.ad = N.ad) := by show _ ↔ _; rw [← hM0.at_.ex, ← hN0.at_.ex]; exact hqx
  have HM := Lib.hid hM0
  have HN := Lib.hid hN0
  have HBD := Lib.hid bd
  have HID := Lib.hid hid
  have HFL := Lib.hid hfl
  have HJD := Lib.hid hjd
  have HGL := Lib.hid hgl
  have HNO : Hid (M ≠ N → q = false) := fun h => by
    cases hqq : q with
    | false => rfl
    | true => exact absurd (hq.out.1 hqq) h
  clear hM0 hN0 rM rN sm sn bd hqa hqn hqx hid hfl hjd hgl
  by_cases c1 : id = jd
  rotate_left
  · have f1 : ((id : Int) != (jd : Int)) = true := bne_iff_ne.2 (by omega)
    obtain rfl := HNO.out (fun e => c1 (by rw [← HID.out, ← HJD.out, e]))
    have HB := Lib.hid HST0.out.bl
    clear hb HST0
    go_enter Try.func19, Try.ntmps19
    go_wp2_with fail
    go_ret
    exact ⟨rfl, HB.out⟩
  by_cases c2 : fl = gl
  rotate_left
  · have f1 : ((fl : Int) != (gl : Int)) = true := bne_iff_ne.2 (by omega)
    obtain rfl := HNO.out (fun e => c2 (by rw [← HFL.out, ← HGL.out, e]))
    subst c1
    have HB := Lib.hid HST0.out.bl
    clear hb HST0
    go_enter Try.func19, Try.ntmps19
    go_wp2_with fail
    go_ret
    exact ⟨rfl, HB.out⟩
  by_cases c3 : nq = mq
  rotate_left
  · have f1 : ((nq : Int) != (mq : Int)) = true := bne_iff_ne.2 (by omega)
    obtain rfl := HNO.out (fun e => c3 (by rw [← HM.out.eq, ← HN.out.eq, e]))
    have HB := Lib.hid HST0.out.bl
    subst c1 c2
    clear hb HST0
    go_enter Try.func19, Try.ntmps19
    go_wp2_with fail
    go_ret
    exact ⟨rfl, HB.out⟩
  subst c1 c2 c3
  have hbw : Hid (w.heap.size = b) := hb
  go_enter Try.func19, Try.ntmps19
  go_wp2_with fail
  clear hb
  generalize (w.alloc (.cells (msgA id fl Aq nq cq Aa na ca An nn cn Ax nx cx) 26)).alloc (.cells (msgA id fl Bq nq dq Ba ma da Bn mn dn Bx mx dx) 26) = w1 at HST0 ⊢
  refine (RA.out _ HST0.out.bl (by have := HST0.out.lt; omega)).mono ?_
  rintro e w2 ⟨rfl, hB⟩
  have HST1 := Lib.hid (HST0.out.below hB)
  clear hB HST0 RA
  cases qa with
  | false =>
    obtain rfl := HNO.out (fun e => absurd (HQA.out.2 (by rw [e])) (by decide))
    go_wp2_with fail
    go_ret
    exact ⟨rfl, HST1.out.bl⟩
  | true =>
  have p4 := cell_of_row _ _ 4 _ _ _ HST1.out.b0
  have q4 := cell_of_row _ _ 4 _ _ _ HST1.out.b1
  go_wp2_with fail
  refine (RN.out _ HST1.out.bl (by have := HST1.out.lt; omega)).mono ?_
  rintro e w3 ⟨rfl, hB⟩
  have HST2 := Lib.hid (HST1.out.below hB)
  clear hB HST1 RN p4 q4
  cases qn with
  | false =>
    obtain rfl := HNO.out (fun e => absurd (HQN.out.2 (by rw [e])) (by decide))
    go_wp2_with fail
    go_ret
    exact ⟨rfl, HST2.out.bl⟩
  | true =>
  have p5 := cell_of_row _ _ 5 _ _ _ HST2.out.b0
  have q5 := cell_of_row _ _ 5 _ _ _ HST2.out.b1
  go_wp2_with fail
  refine (RX.out _ HST2.out.bl (by have := HST2.out.lt; omega)).mono ?_
  rintro e w4 ⟨rfl, hB⟩
  have HST3 := Lib.hid (HST2.out.below hB)
  clear hB HST2 RX p5 q5
  cases qx with
  | false =>
    obtain rfl := HNO.out (fun e => absurd (HQX.out.2 (by rw [e])) (by decide))
    go_wp2_with fail
    go_ret
    exact ⟨rfl, HST3.out.bl⟩
  | true =>
  have p2 := cell_of_row _ _ 2 _ _ _ HST3.out.b0
  have q2 := cell_of_row _ _ 2 _ _ _ HST3.out.b1
  have HM4 := Lib.hid (HM.out.on HST3.out.bl (Nat.le_refl _))
  have HN4 := Lib.hid (HN.out.on HST3.out.bl (Nat.le_refl _))
  have hnq := HBD.out.1.1
  go_wp2_with fail
  go_loopw [5] (fun i wr => ∃ j n : Nat, i = .int .i64 j ∧ j ≤ nq ∧ wr = w4.drewN n ∧ Hid (∀ k (h1 : k < M.qs.length) (h2 : k < N.qs.length), k < j → M.qs[k] = N.qs[k])) (fun i _ => nq - (intOf i).toNat)
  case atStart => exact ⟨0, 0, rfl, Nat.zero_le _, rfl, fun k _ _ h => absurd h (Nat.not_lt_zero _)⟩
  case round =>
    obtain ⟨j, m, rfl, hj, rfl, hE⟩ := hrel
    by_cases hlt : j < nq
    · have hja : j < M.qs.length := by rw [HM4.out.eq]; exact hlt
      have hjb : j < N.qs.length := by rw [HN4.out.eq]; exact hlt
      obtain ⟨ba, oa, rfl, hba, k0, k1, k2⟩ := HM4.out.at_.q.qn hja
      obtain ⟨bb, ob, rfl, hbb, m0, m1, m2⟩ := HN4.out.at_.q.qn hjb
      have HEQ : Hid (∀ Q S, M.qs[j] = Q → N.qs[j] = S → q = true → Q = S) := fun Q S h1 h2 h => by
        have e := hq.out.1 h
        rw [← h1, ← h2]
        simp only [e]
      have HNX : Hid (∀ Q S, M.qs[j] = Q → N.qs[j] = S → Q = S → ∀ k (h1 : k < M.qs.length) (h2 : k < N.qs.length), k < j + 1 → M.qs[k] = N.qs[k]) := fun Q S h1 h2 h k a1 a2 hk => by
        by_cases hkj : k < j
        · exact hE.out k a1 a2 hkj
        · obtain rfl : k = j := by omega
          rw [h1, h2]; exact h
      obtain ⟨QQ, hQQ⟩ : ∃ Q, M.qs[j] = Q := ⟨_, rfl⟩
      obtain ⟨SS, hSS⟩ : ∃ Q, N.qs[j] = Q := ⟨_, rfl⟩
      rw [hQQ] at k0 k1 k2
      rw [hSS] at m0 m1 m2
      have HEQ2 := Lib.hid (HEQ.out QQ SS hQQ hSS)
      have HNX2 := Lib.hid (HNX.out QQ SS hQQ hSS)
      clear HEQ HNX hQQ hSS hE
      by_cases e0 : QQ = SS
      · subst e0
        have HE2 := Lib.hid (HNX2.out rfl)
        obtain ⟨xn, hxn⟩ : ∃ x, mk QQ.name = x := ⟨_, rfl⟩
        obtain ⟨rk, hrk⟩ : ∃ n, QQ.kind = n := ⟨_, rfl⟩
        obtain ⟨rc, hrc⟩ : ∃ n, QQ.cls = n := ⟨_, rfl⟩
        rw [hxn] at k0 m0
        rw [hrk] at k1 m1
        rw [hrc] at k2 m2
        clear hxn hrk hrc
        have hse : (xn.toList == xn.toList) = true := beq_self_eq_true _
        go_wp2_with fail
        go_quiet (fail)
        go_wp2_with fail
        go_roundw
        case rel => exact ⟨j + 1, m + _, by go_num, by omega, rfl, HE2⟩
        case measure => simp [intOf]; omega
      · obtain rfl : q = false := by
          cases hqq : q with
          | false => rfl
          | true => exact absurd (HEQ2.out hqq) e0
        obtain ⟨xn, hxn⟩ : ∃ x, mk QQ.name = x := ⟨_, rfl⟩
        obtain ⟨rk, hrk⟩ : ∃ n, QQ.kind = n := ⟨_, rfl⟩
        obtain ⟨rc, hrc⟩ : ∃ n, QQ.cls = n := ⟨_, rfl⟩
        obtain ⟨yn, hyn⟩ : ∃ x, mk SS.name = x := ⟨_, rfl⟩
        obtain ⟨sk, hsk⟩ : ∃ n, SS.kind = n := ⟨_, rfl⟩
        obtain ⟨sc, hsc⟩ : ∃ n, SS.cls = n := ⟨_, rfl⟩
        have hdf : ¬ (xn = yn ∧ rk = sk ∧ rc = sc) := by
          rintro ⟨a1, a2, a3⟩
          apply e0
          have a1' : QQ.name = SS.name := by
            have := congrArg (fun s : ByteArray => s.data.toList) (hxn.trans (a1.trans hyn.symm))
            simpa only [mk_list] using this
          have a2' : QQ.kind = SS.kind := by rw [hrk, hsk, a2]
          have a3' : QQ.cls = SS.cls := by rw [hrc, hsc, a3]
          cases QQ; cases SS
          simp only at a1' a2' a3'
          subst a1' a2' a3'
          rfl
        rw [hxn] at k0
        rw [hyn] at m0
        rw [hrk] at k1
        rw [hsk] at m1
        rw [hrc] at k2
        rw [hsc] at m2
        have HDF := Lib.hid hdf
        clear hxn hrk hrc hyn hsk hsc hdf e0 HEQ2 HNX2
        by_cases b0 : xn = yn
        · subst b0
          have hse : (xn.toList == xn.toList) = true := beq_self_eq_true _
          by_cases b1 : rk = sk
          · subst b1
            have b2 : rc ≠ sc := fun e => HDF.out ⟨rfl, rfl, e⟩
            have hs2 : ((rc : Int) == (sc : Int)) = false := beq_eq_false_iff_ne.2 (by omega)
            go_wp2_with fail
            go_quiet (fail)
            go_wp2_with fail
            go_ret
            exact ⟨rfl, below_drewN (below_drewN HST3.out.bl _) _⟩
          · have hs2 : ((rk : Int) == (sk : Int)) = false := beq_eq_false_iff_ne.2 (by omega)
            go_wp2_with fail
            go_quiet (fail)
            go_wp2_with fail
            go_ret
            exact ⟨rfl, below_drewN (below_drewN HST3.out.bl _) _⟩
        · have hse : (xn.toList == yn.toList) = false := beq_eq_false_iff_ne.2 (fun e => b0 (by
            apply ByteArray.ext
            apply Array.ext'
            rw [← Lib.toList_data, ← Lib.toList_data, e]))
          go_wp2_with fail
          go_quiet (fail)
          go_wp2_with fail
          go_ret
          exact ⟨rfl, below_drewN (below_drewN HST3.out.bl _) _⟩
    · have hjn : ¬ ((j : Int) < (nq : Int)) := by omega
      obtain rfl : q = true := hq.out.2 (msg_eq (by rw [HID.out, HJD.out]) (by rw [HFL.out, HGL.out]) (by
        apply List.ext_getElem
        · rw [HM4.out.eq, HN4.out.eq]
        · intro k h1 h2
          exact hE.out k h1 h2 (by have := HM4.out.eq; omega)) (HQA.out.1 (by trivial)) (HQN.out.1 (by trivial)) (HQX.out.1 (by trivial)))
      clear hlt hE
      go_wp2_with fail
      go_ret
      exact ⟨rfl, HST3.out.bl.os, HST3.out.bl.tape, HST3.out.bl.output, HST3.out.bl.size, HST3.out.bl.block⟩
end Go.Proofs.Ytpmmjmnleoicjaa

/- What is written and read again: messages that were made, what Write tells, what comes back. No condition. -/
namespace Go.Proofs.Ytpmmjmnleoicjaa.WrRound
open Go Go.RowKit
open Bytes Strs Nums NmMath MsgMath NameMath RecMath DatMath WrMath
theorem row_v {w : World} {g : Nat} {v : Value} {L : List Rec} (h : RowRecs w g v L) : ∃ (Z : List RecZ) (A : Option Addr) (c : Nat), v = .slice A L.length c ∧ CellsAt w w.heap.size A (recCs Z) ∧ ZAt w w.heap.size Z ∧ Z.map (·.1) = L ∧ (A = none → c = 0) := by
  obtain ⟨Z, h1, h2, h3⟩ := h
  obtain ⟨A, c, e, hc⟩ := cells_own h2
  refine ⟨Z, A, c, e, hc, zAt_own h3, h1, fun hA => ?_⟩
  subst hA
  rcases h2.2 with ⟨e2, _⟩ | ⟨b, cap, cur, e2, _⟩
  · rw [e] at e2; injection e2
  · rw [e] at e2; injection e2 with e2; cases e2
/-- A message that was made is one that may be handed on. -/
theorem rows_v {w : World} {g : Nat} {M : Msg} {vq va vn vx : Value} (h : MsgRows w g M vq va vn vx) : ∃ Bq Ba Bn Bx dq da dn dx Ya Yn Yx, vq = .slice Bq M.qs.length dq ∧ va = .slice Ba M.an.length da ∧ vn = .slice Bn M.ns.length dn ∧ vx = .slice Bx M.ad.length dx ∧ MsgV w w.heap.size M Bq Ba Bn Bx M.qs.length M.an.length M.ns.length M.ad.length da dn dx Ya Yn Yx := by
  obtain ⟨Bq, dq, e0, hq⟩ := cells_own h.q
  obtain ⟨Ya, Ba, da, e1, ha, za, ma, na⟩ := row_v h.a
  obtain ⟨Yn, Bn, dn, e2, hn, zn, mn, nn⟩ := row_v h.n
  obtain ⟨Yx, Bx, dx, e3, hx, zx, mx, nx⟩ := row_v h.x
  exact ⟨Bq, Ba, Bn, Bx, dq, da, dn, dx, Ya, Yn, Yx, e0, e1, e2, e3, ⟨⟨hq, ha, hn, hx, za, zn, zx, ma, mn, mx⟩, rfl, rfl, rfl, rfl, na, nn, nx⟩⟩
theorem firstE_3 : ∀ L : List Rec, firstE L ≠ 3
  | [] => by decide
  | R :: L => by
    unfold firstE
    split
    · exact firstE_3 L
    · unfold checkE
      repeat' split
      all_goals omega
theorem checkM_3 (M : Msg) : checkM M ≠ 3 := by
  unfold checkM
  split
  · decide
  · split
    · decide
    · exact firstE_3 _
/-- What Write tells, taken apart. -/
theorem writeM_cases {M : Msg} {o : List UInt8} {code : Nat} (h : writeM M = (o, code)) : (code = 0 ∧ checkM M = 0 ∧ o = (msgW M).1 ∧ o.length ≤ 65535) ∨ (code = 3 ∧ checkM M = 0 ∧ o = [] ∧ 65535 < plainM M) ∨ (code ≠ 0 ∧ code ≠ 3 ∧ checkM M = code ∧ o = []) := by
  unfold writeM at h
  by_cases hc : checkM M = 0
  · rw [if_pos hc] at h
    by_cases hl : 65535 < (msgW M).1.length
    · rw [if_pos hl] at h
      injection h with h1 h2
      subst h1 h2
      exact .inr (.inl ⟨rfl, hc, rfl, by have := (msgW_len hc).1; omega⟩)
    · rw [if_neg hl] at h
      injection h with h1 h2
      subst h1 h2
      exact .inl ⟨rfl, hc, rfl, by omega⟩
  · rw [if_neg hc] at h
    injection h with h1 h2
    subst h1
    exact .inr (.inr ⟨by rw [← h2]; exact hc, by rw [← h2]; exact checkM_3 M, h2, rfl⟩)
/-- What was written is read as it was. -/
theorem rd_back {M : Msg} (hf : FewM M) (hc : checkM M = 0) (hl : (msgW M).1.length ≤ 65535) : rd (recE (msgW M).1) (msgW M).1 = .ok M := by
  obtain ⟨_, hq, _⟩ := checkM_ok hc
  unfold rd
  rw [if_neg (by omega)]
  refine msgW_reads hc hl hf.id hf.flags (fun q hq' => (hf.qs q hq').2) (fun R hR => ?_)
  obtain ⟨hs, h1, h2, h3⟩ := hf.recs hq R hR
  refine ⟨h1, h2, h3, fun n hn => ?_⟩
  obtain ⟨k, hk, rfl⟩ := List.getElem_of_mem hn
  have := hs.u2 k hk
  rw [List.getD_eq_getElem?_getD, List.getElem?_eq_getElem hk] at this
  exact Nat.lt_succ_of_le this
theorem few_small {M : Msg} (hf : FewM M) (hq : ∀ q ∈ M.qs, isN q.name = true) : SmallM M := ⟨hf.nq, hf.na, hf.nn, hf.nx, fun R hR => (hf.recs hq R hR).1⟩
/-- A question that was read: its name, its numbers. -/
theorem qn_small {l : List UInt8} {p q : Nat} {Q : Qn} (h : qn l p = .ok (Q, q)) : Q.kind < 65536 ∧ Q.cls < 65536 := by
  unfold qn at h
  split at h
  · cases h
  · split at h
    · injection h with h
      injection h with h _
      subst h
      exact ⟨nu2_lt _ _, nu2_lt _ _⟩
    · cases h
/-- The numbers of a message that was read. -/
theorem msg_nums {l : List UInt8} {M : Msg} (h : msg (recE l) l = .ok M) : M.id < 65536 ∧ M.flags < 65536 ∧ (∀ Q ∈ M.qs, Q.kind < 65536 ∧ Q.cls < 65536) ∧ ∀ R ∈ recsM M, (∀ x ∈ R.nums, x < 4294967296) ∧ R.kind < 65536 ∧ R.cls < 65536 ∧ R.ttl < 4294967296 := by
  have hr : ∀ R ∈ recsM M, ∃ p q, recE l p = .ok (R, q) := (msg_whole h).2.2.2
  refine ⟨?_, ?_, ?_, fun R hR => by obtain ⟨p, q, e⟩ := hr R hR; exact recE_nums e⟩
  all_goals
    unfold msg at h
    split at h
    · cases h
    split at h
    · cases h
    unfold msg1 at h
    split at h
    · cases h
    unfold msg2 at h
    split at h
    · cases h
    unfold msg3 at h
    split at h
    · cases h
    unfold msg4 at h
    split at h
    · cases h
    split at h
    · cases h
    injection h with h
    subst h
  · exact nu2_lt _ _
  · exact nu2_lt _ _
  · exact many_all (f := qn l) (P := fun Q => Q.kind < 65536 ∧ Q.cls < 65536) (fun _ _ _ h => qn_small h) (by assumption)
theorem firstE_all : ∀ {L : List Rec}, (∀ R ∈ L, checkE R = 0) → firstE L = 0
  | [], _ => rfl
  | R :: L, h => by
    unfold firstE
    rw [if_pos (h R (List.mem_cons_self ..))]
    exact firstE_all (fun S hS => h S (List.mem_cons_of_mem _ hS))
/-- What was read is right. -/
theorem rd_check {l : List UInt8} {M : Msg} (h : rd (recE l) l = .ok M) : checkM M = 0 := by
  obtain ⟨_, _, h3, h4, h5⟩ := msg_right h
  unfold checkM
  rw [if_neg (by omega), if_neg ?_]
  · exact firstE_all fun R hR => (h5 R hR).1
  · have : M.qs.any (fun q => badName q.name) = false := List.any_eq_false.2 fun q hq => by simp [badName, h4 q hq]
    rw [this]
    decide
/-- What was read is a message as may be handed on. -/
theorem rd_big {l : List UInt8} {M : Msg} (h : rd (recE l) l = .ok M) : BigM M := by
  obtain ⟨_, _, h3, h4, h5⟩ := msg_right h
  have hm : msg (recE l) l = .ok M := by
    unfold rd at h
    split at h
    · cases h
    · exact h
  obtain ⟨n1, n2, n3, n4⟩ := msg_nums hm
  have isn : ∀ s : List UInt8, isN s = true → s.length ≤ maxLen := fun s hs => by
    obtain ⟨L, hL⟩ := isN_some hs
    have := (labels_some hL).2.2
    unfold maxLen
    omega
  refine ⟨by omega, by omega, by unfold maxLen; omega, by unfold maxLen; omega, by unfold maxLen; omega, by unfold maxLen; omega, fun Q hQ => ⟨isn _ (h4 Q hQ), by have := (n3 Q hQ).1; omega, by have := (n3 Q hQ).2; omega⟩, fun R hR => ?_⟩
  obtain ⟨r1, r2, r3, r4⟩ := n4 R hR
  have hs := (h5 R hR).2
  have s1 := hs.name
  have s2 := hs.n1
  have s3 := hs.n2
  have s4 := hs.n3
  exact ⟨⟨by unfold maxLen; omega, by unfold maxLen; omega, by unfold maxLen; omega, by unfold maxLen; omega, by omega, by omega, by omega⟩, hs.u2⟩
end Go.Proofs.Ytpmmjmnleoicjaa.WrRound
