/- Texts of one proof, one behind the other: WrAll, WrCheck, WrName, NumRefPut. -/
import Derived.Test.YtihkmdojakalbaaProg
import Derived.Test.YtihkmdojakalbaaBytes
import Derived.Test.YtihkmdojakalbaaWriteSparesProofG1
import Derived.Test.YtihkmdojakalbaaRecMath
import Derived.Test.YtihkmdojakalbaaWriteSparesProofG2
import Derived.Test.YtihkmdojakalbaaWriteSparesProofG5
import Derived.Test.YtihkmdojakalbaaNameMath
import Derived.Test.YtihkmdojakalbaaNameIs
import Derived.Test.YtihkmdojakalbaaRecAt
import Derived.Test.YtihkmdojakalbaaWriteSparesProofG6
import Derived.Test.YtihkmdojakalbaaNumBe
import Derived.WalkKit
import Derived.Lib.Hide
import Derived.Laws.Rows
import Derived.Laws.AppendOwn
import Derived.Laws.AppendOwnNone
import Derived.Lib.AppendZerosOnto
import Derived.Outline
import Derived.IntWalk
import Derived.WalkSpells
import Derived.WalkLawsBesides
import Derived.RegionTactic
import Derived.Deep.QuietTactic
import Derived.BigQuiet
import Derived.Deep.Draws
import Derived.Deep.RegionLaw
import Derived.Deep.CutRange
import Derived.Deep.AppendLies
import Derived.Maps.OwnOps
import Derived.Maps.OwnSet

/- The contracts of slices.Grow (of nil), slices.Concat (of three rows of records), and of the message's records. For rows of at most 100000. -/
namespace Go.Proofs.Ytihkmdojakalbaa
open Go.RowKit Bytes MsgMath RecMath

/-- append, by its run's equation, at the operation. -/
theorem wpList_append_run {P : Program} {w : World} {ops : Array Oper} {rest : List Oper} {o : Oper} {a : Act} {Q : Exit → Act → World → Prop} (hgd : o.guard = none) (s x : Operand) (t u : TypeId) (ho : o.op = .call { callee := .builtin .append, args := #[s, x], argTypes := #[t, u] })
    (v y : Value) (hs : a.eval s = v) (hx : a.eval x = y) (v' : Value) (w' : World) (hrun : (Builtin.append_ #[t, u] o.type #[v, y]).run P w = .ok v' w') (h : wpList P ops Q rest (a.put o.dst v') w') : wpList P ops Q (o :: rest) a w := by
  refine wpList_plain hgd fun K hK => ?_
  unfold Oper.wp execOp
  simp only [ho, resolve, invoke, builtin, Sem.run_bind, Sem.run_pure, Result.andThen_ok, List.map_toArray, List.map_cons, List.map_nil, hs, hx, hrun]
  exact hK _ _ h
set_option maxHeartbeats 2000000 in
set_option maxRecDepth 100000 in
theorem grow_nil (n : Nat) (w : World) (hn : n ≤ 1000000) :
    Calls Try.prog 80 #[.slice none 0 0, .int .i64 n] w fun e w' => ∃ v, e = .returned v ∧ w'.ownsRow w.heap.size 49 7 v 0 [] ∧ Below w.heap.size w w' := by
  by_cases h0 : 0 < n
  · obtain ⟨i0, hi, hz0, hz1, hz2⟩ := info_parts info_rec
    obtain ⟨G, hG⟩ : ∃ G, grownCap w n 0 49 = G := ⟨_, rfl⟩
    have hrun : ∀ ty, (Builtin.append_ #[25, 3] ty #[.slice none 0 0, .int .i64 n]).run Try.prog w = .ok (.slice (some ⟨w.heap.size, 0, none⟩) n G) (w.drew.alloc (.cells (Builtin.zeroCells (Value.agg #[.string ⟨#[]⟩, .int .u16 0, .int .u16 0, .int .u32 0, .slice none 0 0, .slice none 0 0, .slice none 0 0]).cells n ++ Builtin.zeroCells (Value.agg #[.string ⟨#[]⟩, .int .u16 0, .int .u16 0, .int .u32 0, .slice none 0 0, .slice none 0 0, .slice none 0 0]).cells (G - n)) 49)) := fun ty => by
      have h := Lib.run_append_grow_zeros (P := Try.prog) w 25 3 ty 49 i0 _ .i64 .i64 Try.underlying25 Try.underlying3 hi hz0 none 0 0 [] (run_firstCells_none w.drew i0.size 0 0 0) n h0 (by rw [hz1]; decide) (by omega) (by omega) (by rw [hz2]; omega) (by rw [hz2]; exact growslice_fits (by omega) (by omega))
      simp only [Nat.zero_add, hG] at h
      rw [h]
      simp
    have hge : n ≤ G := by rw [← hG]; exact grownCap_ge w n 0 _
    have hmax : G ≤ maxLen := by rw [← hG]; exact grownCap_le_maxLen w n 0 _ (by unfold maxLen; omega)
    have HSZ : Hid ((Builtin.zeroCells (Value.agg #[.string ⟨#[]⟩, .int .u16 0, .int .u16 0, .int .u32 0, .slice none 0 0, .slice none 0 0, .slice none 0 0]).cells n ++ Builtin.zeroCells (Value.agg #[.string ⟨#[]⟩, .int .u16 0, .int .u16 0, .int .u32 0, .slice none 0 0, .slice none 0 0, .slice none 0 0]).cells (G - n)).size = G * 7) := by
      show _ = _
      rw [Array.size_append, size_zeroCells, size_zeroCells, show (Value.agg #[.string ⟨#[]⟩, .int .u16 0, .int .u16 0, .int .u32 0, .slice none 0 0, .slice none 0 0, .slice none 0 0]).cells.size = 7 from rfl]
      omega
    generalize Builtin.zeroCells (Value.agg #[.string ⟨#[]⟩, .int .u16 0, .int .u16 0, .int .u32 0, .slice none 0 0, .slice none 0 0, .slice none 0 0]).cells n ++ Builtin.zeroCells (Value.agg #[.string ⟨#[]⟩, .int .u16 0, .int .u16 0, .int .u32 0, .slice none 0 0, .slice none 0 0, .slice none 0 0]).cells (G - n) = CS at *
    have hG63 : G ≤ 9223372036854775807 := by unfold maxLen at hmax; omega
    have HMX := Lib.hid hmax
    clear hG hi hz0 hz1 hz2 hmax
    go_enter Try.func80, Try.ntmps80
    go_wp2_with (at_builtin; refine wpList_append_run rfl _ _ 25 3 rfl _ _ rfl rfl _ _ (hrun _) ?_)
    go_ret
    exact ⟨_, rfl, ⟨rfl, .inr ⟨w.heap.size, G, CS, rfl, Nat.le_refl _, heap_alloc_new w.drew _, Nat.zero_le _, HMX.out, HSZ.out, by simp⟩⟩, (Below.refl _ _).drew.alloc (Nat.le_refl _) _⟩
  · obtain rfl : n = 0 := by omega
    go_enter Try.func80, Try.ntmps80
    go_wp2_with fail
    go_ret
    exact ⟨_, rfl, World.ownsRow_nil _ _ _ _, Below.refl _ _⟩

set_option maxRecDepth 100000 in
theorem run_append_recsA (w : World) (ty : TypeId) (g : Nat) (v : Value) (m : Nat) (xs : List Value) (hown : w.ownsRow g 49 7 v m xs) (B : Nat) (A : Option Addr) (n c : Nat) (ys : List Value) (hn : ys.length = n * 7) (hA : A = none → n = 0 ∧ c = 0) (hsrc : CellsAt w B A ys) (h1 : ∀ u ∈ ys, u.oneCell' = true) (hmn : m + n ≤ 1000000) (hg : g ≤ w.heap.size) :
    ∃ v' w', (Builtin.append_ #[25, 25] ty #[v, .slice A n c]).run Try.prog w = .ok v' w' ∧ w'.ownsRow g 49 7 v' (m + n) (xs ++ ys) ∧ w.grownBy w' v.ownBlock := by
  obtain ⟨i0, hi, hz0, hz1, hz2⟩ := info_parts info_rec
  cases A with
  | none =>
    obtain ⟨rfl, rfl⟩ := hA rfl
    have hy : ys = [] := List.length_eq_zero_iff.1 (by rw [hn])
    subst hy
    exact ⟨v, w, run_append_owned_none w g 25 ty 49 i0 7 Try.underlying25 hi v m xs hown, by simpa using hown, World.grownBy.refl w _⟩
  | some ad =>
    obtain ⟨v', w', hr, h2, h3, _⟩ := run_append_own (P := Try.prog) w g 25 ty 49 i0 (.agg #[.string ⟨#[]⟩, .int .u16 0, .int .u16 0, .int .u32 0, .slice none 0 0, .slice none 0 0, .slice none 0 0]) 7 96 Try.underlying25 hi hz0 hz1 hz2 rfl (by decide) v m xs hown ad n c ys hn (fun j u hj => by
      obtain ⟨b, off, e, _, hc⟩ := hsrc.get hj
      injection e with e
      subst e
      rw [Go.WideShapes.add_plain]
      exact hc j u hj) h1 (by unfold maxLen; omega) (by omega) hg
    exact ⟨v', w', hr, h2, h3⟩
/-- Three rows of records, one behind the other: what the loop has come to. -/
theorem own_recsA {w w1 : World} {g m : Nat} {v v' : Value} {xs ys : List Value} {n : Nat} (hown : w.ownsRow g 49 7 v m xs) (h2 : w1.ownsRow g 49 7 v' (m + n) (xs ++ ys)) (h3 : w.grownBy w1 v.ownBlock) {w0 : World} (hB : Below g w0 w) (hg : g ≤ w.heap.size) : Below g w0 w1 := by
  have _ := h2
  exact hB.grown h3 hg (fun k hk => (hown.lt k hk).1)
theorem wpList_append_recsA {w : World} {ops : Array Oper} {rest : List Oper} {o : Oper} {a : Act} {Q : Exit → Act → World → Prop} (hgd : o.guard = none) (s x : Operand) (ho : o.op = .call { callee := .builtin .append, args := #[s, x], argTypes := #[25, 25] })
    (g : Nat) (v : Value) (m : Nat) (Z : List RecZ) (hs : a.eval s = v) (hown : w.ownsRow g 49 7 v m (recCs Z)) (B : Nat) (A : Option Addr) (n c : Nat) (Y : List RecZ) (hx : a.eval x = .slice A n c) (hn : Y.length = n) (hA : A = none → n = 0 ∧ c = 0) (hsrc : CellsAt w B A (recCs Y)) (h1 : ∀ u ∈ recCs Y, u.oneCell' = true) (hmn : m + n ≤ 1000000) (hg : g ≤ w.heap.size) (w0 : World) (hB : Below g w0 w) (ZY : List RecZ) (hZY : Hid (Z ++ Y = ZY)) (mn : Nat) (hmn2 : m + n = mn)
    (h : ∀ v' w', w'.ownsRow g 49 7 v' mn (recCs ZY) → Below g w0 w' → wpList Try.prog ops Q rest (a.put o.dst v') w') : wpList Try.prog ops Q (o :: rest) a w := by
  obtain ⟨v', w', hr, h2, h3⟩ := run_append_recsA w o.type g v m _ hown B A n c (recCs Y) (by rw [recCs_len, hn]) hA hsrc h1 hmn hg
  have hZY2 := hZY.out
  subst hZY2
  subst hmn2
  refine wpList_append_run hgd s x _ _ ho v _ hs hx v' w' hr (h v' w' (by rw [recCs_app]; exact h2) (own_recsA hown h2 h3 hB hg))
set_option maxHeartbeats 4000000 in
set_option maxRecDepth 100000 in
theorem concat_any (Aa An Ax : Option Addr) (na nn nx ca cn cx bk B : Nat) (Za Zn Zx : List RecZ) (w : World) (hbk : w.heap[bk]? = some (.cells #[.slice Aa na ca, .slice An nn cn, .slice Ax nx cx] 25 (0, 0))) (hB : B ≤ w.heap.size)
    (ha : Hid (CellsAt w B Aa (recCs Za) ∧ Za.length = na ∧ (Aa = none → na = 0 ∧ ca = 0) ∧ ∀ u ∈ recCs Za, u.oneCell' = true))
    (hn : Hid (CellsAt w B An (recCs Zn) ∧ Zn.length = nn ∧ (An = none → nn = 0 ∧ cn = 0) ∧ ∀ u ∈ recCs Zn, u.oneCell' = true))
    (hx : Hid (CellsAt w B Ax (recCs Zx) ∧ Zx.length = nx ∧ (Ax = none → nx = 0 ∧ cx = 0) ∧ ∀ u ∈ recCs Zx, u.oneCell' = true)) (h1 : na ≤ 100000) (h2 : nn ≤ 100000) (h3 : nx ≤ 100000) :
    Calls Try.prog 62 #[.slice (some ⟨bk, 0, none⟩) 3 3] w fun e w' => ∃ v, e = .returned v ∧ w'.ownsRow w.heap.size 49 7 v (na + nn + nx) (recCs (Za ++ Zn ++ Zx)) ∧ Below w.heap.size w w' := by
  have hbl : bk < w.heap.size := (Array.getElem?_eq_some_iff.1 hbk).1
  have k0 := cell_of_row _ _ 0 _ _ _ hbk
  have k1 := cell_of_row _ _ 1 _ _ _ hbk
  have k2 := cell_of_row _ _ 2 _ _ _ hbk
  have HBK := Lib.hid hbk
  obtain ⟨g, hg⟩ : ∃ g, w.heap.size = g := ⟨_, rfl⟩
  have HG := Lib.hid hg
  have HGN := Lib.hid (grow_nil (na + nn + nx) w (by omega))
  obtain ⟨Z2, hZ2⟩ : ∃ Z, Za ++ Zn = Z := ⟨_, rfl⟩
  obtain ⟨Z3, hZ3⟩ : ∃ Z, Z2 ++ Zx = Z := ⟨_, rfl⟩
  obtain ⟨m2, hm2⟩ : ∃ m, na + nn = m := ⟨_, rfl⟩
  obtain ⟨m3, hm3⟩ : ∃ m, m2 + nx = m := ⟨_, rfl⟩
  have HZ2 := Lib.hid hZ2
  have HZ3 := Lib.hid hZ3
  have HZ4 : Hid (Za ++ Zn ++ Zx = Z3) := by show _ = _; rw [hZ2, hZ3]
  have HM2 := Lib.hid hm2
  have HM3 := Lib.hid hm3
  have HM4 : Hid (na + nn + nx = m3) := by show _ = _; omega
  have hcp : m2 + nx ≤ 1000000 ∧ na + nn ≤ 1000000 := by omega
  rw [HZ4.out, HM4.out]
  rw [HM4.out] at HGN
  clear hZ2 hZ3 hm2 hm3
  rw [hg] at hB hbl HGN ⊢
  clear hbk hg
  go_enter Try.func62, Try.ntmps62
  go_wp2_with fail
  go_loop [3, 11] (fun z i => ∃ k m : Nat, i = .int .i64 k ∧ z = .int .i64 m ∧ ((k = 0 ∧ m = 0) ∨ (k = 1 ∧ na = m) ∨ (k = 2 ∧ m2 = m) ∨ (k = 3 ∧ m3 = m))) (fun _ i => 3 - (intOf i).toNat)
  case atStart => exact ⟨0, 0, rfl, rfl, .inl ⟨rfl, rfl⟩⟩
  case round =>
    obtain ⟨k, m, rfl, rfl, hk⟩ := hrel
    rcases hk with ⟨rfl, rfl⟩ | ⟨rfl, rfl⟩ | ⟨rfl, rfl⟩ | ⟨rfl, rfl⟩
    · go_wp2_with fail
      go_round
      case rel => exact ⟨1, na, by go_num, by go_num, .inr (.inl ⟨rfl, rfl⟩)⟩
      case measure => simp [intOf]
    · go_wp2_with fail
      go_round
      case rel => exact ⟨2, m2, by go_num, by rw [← HM2.out]; go_num, .inr (.inr (.inl ⟨rfl, rfl⟩))⟩
      case measure => simp [intOf]
    · go_wp2_with fail
      go_round
      case rel => exact ⟨3, m3, by go_num, by rw [← HM3.out]; go_num, .inr (.inr (.inr ⟨rfl, rfl⟩))⟩
      case measure => simp [intOf]
    · go_wp2_with fail
      refine HGN.out.mono ?_
      rintro e w1 ⟨v1, rfl, hO, hBB⟩
      have HO := Lib.hid hO
      have HB1 := Lib.hid hBB
      clear hO hBB
      go_wp2_with fail
      go_loopw [6, 27] (fun v i wr => ∃ (k m : Nat) (Z : List RecZ), i = .int .i64 k ∧ ((k = 0 ∧ m = 0 ∧ Z = []) ∨ (k = 1 ∧ na = m ∧ Za = Z) ∨ (k = 2 ∧ m2 = m ∧ Z2 = Z) ∨ (k = 3 ∧ m3 = m ∧ Z3 = Z)) ∧ Hid (wr.ownsRow g 49 7 v m (recCs Z)) ∧ Hid (Below g w wr)) (fun _ i _ => 3 - (intOf i).toNat)
      case atStart => exact ⟨0, 0, [], rfl, .inl ⟨rfl, rfl, rfl⟩, HO, HB1⟩
      case round =>
        obtain ⟨k, m, Z, rfl, hk, hO, hW⟩ := hrel
        have HGR : Hid (g ≤ wr.heap.size) := by have := hW.out.size; rw [HG.out] at this; exact this
        have q0 : wr.cell? ⟨bk, 0, none⟩ = some (.slice Aa na ca) := (hW.out.cell (p := ⟨bk, 0, none⟩) hbl).trans k0
        have q1 : wr.cell? ⟨bk, 1, none⟩ = some (.slice An nn cn) := (hW.out.cell (p := ⟨bk, 1, none⟩) hbl).trans k1
        have q2 : wr.cell? ⟨bk, 2, none⟩ = some (.slice Ax nx cx) := (hW.out.cell (p := ⟨bk, 2, none⟩) hbl).trans k2
        rcases hk with ⟨rfl, rfl, rfl⟩ | ⟨rfl, rfl, rfl⟩ | ⟨rfl, rfl, rfl⟩ | ⟨rfl, rfl, rfl⟩
        · go_wp2_with (at_builtin; refine wpList_append_recsA rfl _ _ rfl g _ 0 [] rfl hO.out B Aa na ca Za rfl ha.out.2.1 ha.out.2.2.1 (ha.out.1.on (hW.out.mono hB) (Nat.le_refl _)) ha.out.2.2.2 (by omega) HGR.out w hW.out Za rfl na (Nat.zero_add _) ?_)
          intro v2 w2 hown hbel
          have E1 := Lib.hid hown
          have E2 := Lib.hid hbel
          clear hown hbel hO hW q0 q1 q2
          go_wp2_with fail
          go_roundw
          case rel => exact ⟨1, _, _, by go_num, .inr (.inl ⟨rfl, rfl, rfl⟩), E1, E2⟩
          case measure => simp [intOf]
        · go_wp2_with (at_builtin; refine wpList_append_recsA rfl _ _ rfl g _ na Za rfl hO.out B An nn cn Zn rfl hn.out.2.1 hn.out.2.2.1 (hn.out.1.on (hW.out.mono hB) (Nat.le_refl _)) hn.out.2.2.2 hcp.2 HGR.out w hW.out Z2 HZ2 m2 HM2.out ?_)
          intro v2 w2 hown hbel
          have E1 := Lib.hid hown
          have E2 := Lib.hid hbel
          clear hown hbel hO hW q0 q1 q2
          go_wp2_with fail
          go_roundw
          case rel => exact ⟨2, _, _, by go_num, .inr (.inr (.inl ⟨rfl, rfl, rfl⟩)), E1, E2⟩
          case measure => simp [intOf]
        · go_wp2_with (at_builtin; refine wpList_append_recsA rfl _ _ rfl g _ m2 Z2 rfl hO.out B Ax nx cx Zx rfl hx.out.2.1 hx.out.2.2.1 (hx.out.1.on (hW.out.mono hB) (Nat.le_refl _)) hx.out.2.2.2 hcp.1 HGR.out w hW.out Z3 HZ3 m3 HM3.out ?_)
          intro v2 w2 hown hbel
          have E1 := Lib.hid hown
          have E2 := Lib.hid hbel
          clear hown hbel hO hW q0 q1 q2
          go_wp2_with fail
          go_roundw
          case rel => exact ⟨3, _, _, by go_num, .inr (.inr (.inr ⟨rfl, rfl, rfl⟩)), E1, E2⟩
          case measure => simp [intOf]
        · go_wp2_with fail
          go_ret
          exact ⟨_, rfl, hO.out, hW.out⟩
end Go.Proofs.Ytihkmdojakalbaa

/- The contracts of dnswrite's records and Check. For messages that can be gone through. -/
namespace Go.Proofs.Ytihkmdojakalbaa
open Go.RowKit Bytes MsgMath NameMath RecMath WrMath

/-- A message that can be gone through. -/
structure FewM (M : Msg) : Prop where
  id : M.id ≤ 65535
  flags : M.flags ≤ 65535
  nq : M.qs.length ≤ 1000
  na : M.an.length ≤ 1000
  nn : M.ns.length ≤ 1000
  nx : M.ad.length ≤ 1000
  qs : ∀ q ∈ M.qs, q.name.length ≤ maxLen ∧ q.kind ≤ 65535 ∧ q.cls ≤ 65535
  recs : (∀ q ∈ M.qs, isN q.name = true) → ∀ R ∈ recsM M, Small R ∧ R.kind ≤ 65535 ∧ R.cls ≤ 65535 ∧ R.ttl ≤ 4294967295
/-- A message as a call is handed it. -/
structure MsgV (w : World) (B : Nat) (M : Msg) (Aq Aa An Ax : Option Addr) (nq na nn nx ca cn cx : Nat) (Za Zn Zx : List RecZ) : Prop where
  at_ : MsgAt w B M Aq Aa An Ax Za Zn Zx
  eq : M.qs.length = nq
  ea : M.an.length = na
  en : M.ns.length = nn
  ex : M.ad.length = nx
  ha : Aa = none → ca = 0
  hn : An = none → cn = 0
  hx : Ax = none → cx = 0
theorem MsgV.on {w w' : World} {B B' : Nat} {M : Msg} {Aq Aa An Ax : Option Addr} {nq na nn nx ca cn cx : Nat} {Za Zn Zx : List RecZ} (h : MsgV w B M Aq Aa An Ax nq na nn nx ca cn cx Za Zn Zx) (hb : Below B w w') (hB : B ≤ B') : MsgV w' B' M Aq Aa An Ax nq na nn nx ca cn cx Za Zn Zx :=
  ⟨h.at_.on hb hB, h.eq, h.ea, h.en, h.ex, h.ha, h.hn, h.hx⟩
theorem nil_cells {w : World} {B : Nat} {A : Option Addr} {Z : List RecZ} {n c : Nat} (h : CellsAt w B A (recCs Z)) (hn : Z.length = n) (hc : A = none → c = 0) : A = none → n = 0 ∧ c = 0 := fun e => by
  refine ⟨?_, hc e⟩
  rcases h with h | ⟨b, off, e2, _⟩
  · have := congrArg List.length h
    rw [recCs_len, List.length_nil] at this
    omega
  · rw [e] at e2; cases e2
theorem MsgV.rows {w : World} {B : Nat} {M : Msg} {Aq Aa An Ax : Option Addr} {nq na nn nx ca cn cx : Nat} {Za Zn Zx : List RecZ} (h : MsgV w B M Aq Aa An Ax nq na nn nx ca cn cx Za Zn Zx) :
    (CellsAt w B Aa (recCs Za) ∧ Za.length = na ∧ (Aa = none → na = 0 ∧ ca = 0) ∧ ∀ u ∈ recCs Za, u.oneCell' = true) ∧ (CellsAt w B An (recCs Zn) ∧ Zn.length = nn ∧ (An = none → nn = 0 ∧ cn = 0) ∧ ∀ u ∈ recCs Zn, u.oneCell' = true) ∧ (CellsAt w B Ax (recCs Zx) ∧ Zx.length = nx ∧ (Ax = none → nx = 0 ∧ cx = 0) ∧ ∀ u ∈ recCs Zx, u.oneCell' = true) := by
  have la : Za.length = na := by rw [← h.ea, ← h.at_.ea, List.length_map]
  have ln : Zn.length = nn := by rw [← h.en, ← h.at_.en, List.length_map]
  have lx : Zx.length = nx := by rw [← h.ex, ← h.at_.ex, List.length_map]
  exact ⟨⟨h.at_.a, la, nil_cells h.at_.a la h.ha, h.at_.za.one⟩, ⟨h.at_.n, ln, nil_cells h.at_.n ln h.hn, h.at_.zn.one⟩, ⟨h.at_.x, lx, nil_cells h.at_.x lx h.hx, h.at_.zx.one⟩⟩
theorem MsgV.all {w : World} {B : Nat} {M : Msg} {Aq Aa An Ax : Option Addr} {nq na nn nx ca cn cx : Nat} {Za Zn Zx : List RecZ} (h : MsgV w B M Aq Aa An Ax nq na nn nx ca cn cx Za Zn Zx) : (Za ++ Zn ++ Zx).map (·.1) = recsM M ∧ ZAt w B (Za ++ Zn ++ Zx) ∧ (Za ++ Zn ++ Zx).length = na + nn + nx := by
  refine ⟨by rw [List.map_append, List.map_append, h.at_.ea, h.at_.en, h.at_.ex]; rfl, (h.at_.za.app h.at_.zn).app h.at_.zx, ?_⟩
  rw [List.length_append, List.length_append, h.rows.1.2.1, h.rows.2.1.2.1, h.rows.2.2.2.1]
abbrev msgA (id fl : Nat) (Aq : Option Addr) (nq cq : Nat) (Aa : Option Addr) (na ca : Nat) (An : Option Addr) (nn cn : Nat) (Ax : Option Addr) (nx cx : Nat) : Array Value := #[.int .u16 id, .int .u16 fl, .slice Aq nq cq, .slice Aa na ca, .slice An nn cn, .slice Ax nx cx]
set_option maxHeartbeats 2000000 in
set_option maxRecDepth 100000 in
theorem records_w (M : Msg) (id fl : Nat) (Aq Aa An Ax : Option Addr) (nq na nn nx cq ca cn cx B : Nat) (Za Zn Zx : List RecZ) (w : World) (hv : Hid (MsgV w B M Aq Aa An Ax nq na nn nx ca cn cx Za Zn Zx)) (hB : B ≤ w.heap.size) (hf : Hid (FewM M)) :
    Calls Try.prog 38 #[.agg (msgA id fl Aq nq cq Aa na ca An nn cn Ax nx cx)] w fun e w' => ∃ v, e = .returned v ∧ w'.ownsRow w.heap.size 49 7 v (na + nn + nx) (recCs (Za ++ Zn ++ Zx)) ∧ Below w.heap.size w w' := by
  obtain ⟨wa, hwa⟩ : ∃ wa, w.alloc (.cells (msgA id fl Aq nq cq Aa na ca An nn cn Ax nx cx) 27) = wa := ⟨_, rfl⟩
  obtain ⟨wb, hwb⟩ : ∃ wb, wa.alloc (.cells #[.slice Aa na ca, .slice An nn cn, .slice Ax nx cx] 25) = wb := ⟨_, rfl⟩
  have hba : Below w.heap.size w wa := by rw [← hwa]; exact (Below.refl _ _).alloc (Nat.le_refl _) _
  have hbb : Below w.heap.size w wb := by rw [← hwb]; exact hba.alloc hba.size _
  have hsz : wa.heap.size = w.heap.size + 1 := by rw [← hwa]; simp
  have hsb : wb.heap.size = w.heap.size + 2 := by rw [← hwb]; simp [hsz]
  have hbk : wb.heap[w.heap.size + 1]? = some (.cells #[.slice Aa na ca, .slice An nn cn, .slice Ax nx cx] 25 (0, 0)) := by rw [← hwb, ← hsz]; exact heap_alloc_new wa _
  have hr := (hv.out.on (hbb.mono hB) (Nat.le_refl _)).rows
  have hc := concat_any Aa An Ax na nn nx ca cn cx (w.heap.size + 1) B Za Zn Zx wb hbk (by omega) hr.1 hr.2.1 hr.2.2 (by have := hf.out.na; have := hv.out.ea; omega) (by have := hf.out.nn; have := hv.out.en; omega) (by have := hf.out.nx; have := hv.out.ex; omega)
  have HC := Lib.hid hc
  have HBB := Lib.hid hbb
  have HSB := Lib.hid hsb
  have hbx : wa.heap[w.heap.size]? = some (.cells (msgA id fl Aq nq cq Aa na ca An nn cn Ax nx cx) 27 (0, 0)) := by rw [← hwa]; exact heap_alloc_new w _
  have k3 := cell_of_row _ _ 3 _ _ _ hbx
  have k4 := cell_of_row _ _ 4 _ _ _ hbx
  have k5 := cell_of_row _ _ 5 _ _ _ hbx
  clear hc hr hbk hba hbb hsb hbx
  go_enter Try.func38, Try.ntmps38
  go_wp2_with fail
  refine HC.out.mono ?_
  rintro e w2 ⟨v, rfl, hO, hB2⟩
  have H2 : Hid (w2.ownsRow w.heap.size 49 7 v (na + nn + nx) (recCs (Za ++ Zn ++ Zx)) ∧ Below w.heap.size w w2) := ⟨row_low hO (by rw [HSB.out]; omega), HBB.out.trans (hB2.mono (by rw [HSB.out]; omega))⟩
  clear hO hB2
  go_wp2_with fail
  go_ret
  exact ⟨_, rfl, H2.out.1, H2.out.2⟩
/-- Of the first questions each has a name that is one. -/
theorem qs_any {L : List Qn} {k : Nat} (hk : k < L.length) (h : badName (L[k]).name = true) : L.any (fun q => badName q.name) = true := List.any_eq_true.2 ⟨_, List.getElem_mem hk, h⟩
theorem qs_all {L : List Qn} (h : ∀ j (hj : j < L.length), isN (L[j]).name = true) : L.any (fun q => badName q.name) = false := by
  rw [List.any_eq_false]
  intro q hq
  obtain ⟨j, hj, rfl⟩ := List.getElem_of_mem hq
  rw [badName, h j hj]
  decide
theorem get_map {Z : List RecZ} {L : List Rec} (h : Z.map (·.1) = L) {k : Nat} (hk : k < Z.length) : ∃ hk' : k < L.length, (Z[k]).1 = L[k]'hk' := by
  subst h
  exact ⟨by rw [List.length_map]; exact hk, by rw [List.getElem_map]⟩
set_option maxRecDepth 100000 in
theorem is_w (s : ByteArray) (q : Bool) (w : World) (hs : s.size ≤ maxLen) (hq : Hid (isN s.data.toList = q)) : Calls Try.prog 37 #[.string s] w fun e w' => e = .returned (.bool q) ∧ w = w' := by
  by_cases h : s.size ≤ 1000000
  · exact is_is s q w h hq
  · have hl : (255 : Int) < s.size := by omega
    have hs2 : (s.size : Int) ≤ 9223372036854775807 := by unfold maxLen at hs; omega
    obtain rfl : q = false := by rw [← hq.out]; exact isN_long (by rw [← Lib.size_eq]; omega)
    clear hq hs h
    go_enter Try.func37, Try.ntmps37
    go_wp2_with fail
    go_ret
    exact ⟨rfl, rfl⟩
set_option maxHeartbeats 4000000 in
set_option maxRecDepth 100000 in
theorem check_w (M : Msg) (id fl : Nat) (Aq Aa An Ax : Option Addr) (nq na nn nx cq ca cn cx B E : Nat) (Za Zn Zx : List RecZ) (w : World) (hv : Hid (MsgV w B M Aq Aa An Ax nq na nn nx ca cn cx Za Zn Zx)) (hB : B ≤ w.heap.size) (hf : Hid (FewM M)) (hE : Hid (checkM M = E)) :
    Calls Try.prog 18 #[.agg (msgA id fl Aq nq cq Aa na ca An nn cn Ax nx cx)] w fun e w' => e = .returned (.int .i64 E) ∧ Below w.heap.size w w' := by
  obtain ⟨g, hg⟩ : ∃ g, w.heap.size = g := ⟨_, rfl⟩
  obtain ⟨wa, hwa⟩ : ∃ wa, w.alloc (.cells (msgA id fl Aq nq cq Aa na ca An nn cn Ax nx cx) 27) = wa := ⟨_, rfl⟩
  have hba : Below g w wa := by rw [← hwa, ← hg]; exact (Below.refl _ _).alloc (Nat.le_refl _) _
  have hbx : wa.heap[g]? = some (.cells (msgA id fl Aq nq cq Aa na ca An nn cn Ax nx cx) 27 (0, 0)) := by rw [← hwa, ← hg]; exact heap_alloc_new w _
  have hsa : wa.heap.size = g + 1 := by rw [← hwa, ← hg]; simp
  have hva := hv.out.on (hba.mono (by omega)) (Nat.le_refl _)
  have HG := Lib.hid hg
  have HBA := Lib.hid hba
  have HVA := Lib.hid hva
  have HSA := Lib.hid hsa
  have HRC := Lib.hid (fun W (hW : Below (g + 1) wa W) (hs : g + 1 ≤ W.heap.size) => records_w M id fl Aq Aa An Ax nq na nn nx cq ca cn cx B Za Zn Zx W (hva.on (hW.mono (by omega)) (Nat.le_refl _)) (by omega) hf)
  have hcnt : nq ≤ 1000 ∧ na ≤ 1000 ∧ nn ≤ 1000 ∧ nx ≤ 1000 := by
    have := hf.out.nq; have := hf.out.na; have := hf.out.nn; have := hf.out.nx
    have := hv.out.eq; have := hv.out.ea; have := hv.out.en; have := hv.out.ex
    omega
  have hsumE : 256 < M.qs.length + M.an.length + M.ns.length + M.ad.length ↔ 256 < nq + na + nn + nx := by rw [hv.out.eq, hv.out.ea, hv.out.en, hv.out.ex]
  have HBX := Lib.hid hbx
  have k0 := cell_of_row _ _ 0 _ _ _ hbx
  have k1 := cell_of_row _ _ 1 _ _ _ hbx
  have k2 := cell_of_row _ _ 2 _ _ _ hbx
  have k3 := cell_of_row _ _ 3 _ _ _ hbx
  have k4 := cell_of_row _ _ 4 _ _ _ hbx
  have k5 := cell_of_row _ _ 5 _ _ _ hbx
  rw [hg]
  clear hbx hba hva hsa
  by_cases hsum : 256 < nq + na + nn + nx
  · have hE6 : E = 6 := by rw [← hE.out]; unfold checkM; rw [if_pos (hsumE.2 hsum)]
    subst hE6
    have hsi : (256 : Int) < (nq : Int) + na + nn + nx := by omega
    clear hsumE
    go_enter Try.func18, Try.ntmps18
    go_wp2_with fail
    go_ret
    exact ⟨rfl, HBA.out⟩
  have hE2 : Hid ((if M.qs.any (fun q => badName q.name) then 40 else firstE (recsM M)) = E) := by show _ = _; rw [← hE.out]; unfold checkM; rw [if_neg (fun h => hsum (hsumE.1 h))]
  have hsi : ¬ ((256 : Int) < (nq : Int) + na + nn + nx) := by omega
  clear hsumE hsum
  go_enter Try.func18, Try.ntmps18
  go_wp2_with fail
  go_loopw [27] (fun i wr => ∃ j : Nat, i = .int .i64 j ∧ j ≤ nq ∧ Hid (Below (g + 1) wa wr) ∧ Hid (∀ i (hi : i < M.qs.length), i < j → isN (M.qs[i]).name = true)) (fun i _ => nq - (intOf i).toNat)
  case atStart => exact ⟨0, rfl, Nat.zero_le _, by (show Below _ _ _; exact Below.refl _ _), fun i hi h => absurd h (Nat.not_lt_zero _)⟩
  case round =>
    obtain ⟨j, rfl, hj, hW, hN⟩ := hrel
    have hgl : g < g + 1 := Nat.lt_succ_self _
    have q2 := (hW.out.cell (p := ⟨g, 2, none⟩) hgl).trans k2
    have HGR : Hid (g + 1 ≤ wr.heap.size) := by have := hW.out.size; rw [HSA.out] at this; exact this
    by_cases hlt : j < nq
    · have hjl : j < M.qs.length := by rw [hv.out.eq]; exact hlt
      obtain ⟨b, off, rfl, hbl, p0, p1, p2⟩ := (HVA.out.at_.q.on (hW.out.mono (by omega)) (Nat.le_refl _)).qn hjl
      have hqn := hf.out.qs _ (List.getElem_mem hjl)
      obtain ⟨QQ, hQQ⟩ : ∃ Q, M.qs[j]'hjl = Q := ⟨_, rfl⟩
      rw [hQQ] at p0 p1 p2 hqn
      obtain ⟨x, hx⟩ : ∃ x, mk QQ.name = x := ⟨_, rfl⟩
      obtain ⟨bb, hbb⟩ : ∃ q, isN QQ.name = q := ⟨_, rfl⟩
      have hxs : x.size ≤ maxLen := by rw [← hx, mk_size]; exact hqn.1
      have hxN : isN x.data.toList = bb := by rw [← hx, mk_list]; exact hbb
      have HIS := Lib.hid (fun w => is_w x bb w hxs hxN)
      rw [hx] at p0
      generalize QQ.kind = qk at *
      generalize QQ.cls = qc at *
      cases bb with
      | true =>
        have HN2 : Hid (∀ i (hi : i < M.qs.length), i < j + 1 → isN (M.qs[i]).name = true) := fun i hi h => by
          by_cases h2 : i < j
          · exact hN.out i hi h2
          · obtain rfl : i = j := by omega
            rw [hQQ]; exact hbb
        clear hx hbb hxN hQQ hqn hN hjl
        go_wp2_with fail
        refine (HIS.out _).mono ?_
        rintro e w2 ⟨rfl, rfl⟩
        have HW2 : Hid (Below (g + 1) wa (wr.alloc (.cells #[.string x, .int .u16 qk, .int .u16 qc] 44))) := hW.out.alloc HGR.out _
        clear hW p0 p1 p2 q2
        go_wp2_with fail
        go_roundw
        case rel => exact ⟨j + 1, by go_num, by omega, HW2, HN2⟩
        case measure => simp [intOf]; omega
      | false =>
        have hE40 : Hid (E = 40) := by
          show _ = _
          rw [← hE2.out, if_pos (qs_any hjl (by rw [hQQ, badName, hbb]; rfl))]
        clear hx hbb hxN hQQ hqn hN hjl
        go_wp2_with fail
        refine (HIS.out _).mono ?_
        rintro e w2 ⟨rfl, rfl⟩
        have HW2 : Hid (Below g w (wr.alloc (.cells #[.string x, .int .u16 qk, .int .u16 qc] 44))) := HBA.out.trans ((hW.out.alloc HGR.out _).mono (Nat.le_succ _))
        clear hW p0 p1 p2 q2
        go_wp2_with fail
        go_ret
        rw [hE40.out]
        exact ⟨rfl, HW2.out⟩
    · have HQA : Hid (∀ q ∈ M.qs, isN q.name = true) := fun q hq => by
        obtain ⟨i, hi, rfl⟩ := List.getElem_of_mem hq
        exact hN.out i hi (by rw [hv.out.eq] at hi; omega)
      have hE3 : Hid (firstE (recsM M) = E) := by
        show _ = _
        rw [← hE2.out, qs_all (fun i hi => hN.out i hi (by rw [hv.out.eq] at hi; omega))]
        rfl
      have q0 := (hW.out.cell (p := ⟨g, 0, none⟩) hgl).trans k0
      have q1 := (hW.out.cell (p := ⟨g, 1, none⟩) hgl).trans k1
      have q3 := (hW.out.cell (p := ⟨g, 3, none⟩) hgl).trans k3
      have q4 := (hW.out.cell (p := ⟨g, 4, none⟩) hgl).trans k4
      have q5 := (hW.out.cell (p := ⟨g, 5, none⟩) hgl).trans k5
      have hjn : ¬ ((j : Int) < (nq : Int)) := by omega
      clear hlt hN hE2
      go_wp2_with fail
      refine (HRC.out wr hW.out HGR.out).mono ?_
      rintro e w2 ⟨v2, rfl, hO, hB2⟩
      have hall := HVA.out.all
      obtain ⟨ZZ, hZZ⟩ : ∃ Z, Za ++ Zn ++ Zx = Z := ⟨_, rfl⟩
      obtain ⟨nz, hnz⟩ : ∃ n, na + nn + nx = n := ⟨_, rfl⟩
      rw [hZZ] at hall hO
      rw [hnz] at hall hO
      obtain ⟨Ar, cr, rfl, hcell⟩ := cells_own hO
      have HCE := Lib.hid hcell
      have HALL := Lib.hid hall
      have HW2 : Hid (Below (g + 1) wa w2) := hW.out.trans (hB2.mono HGR.out)
      have hnz2 : nz ≤ 3000 := by omega
      obtain ⟨g2, hg2⟩ : ∃ n, w2.heap.size = n := ⟨_, rfl⟩
      have HG2 := Lib.hid hg2
      have HGG2 : Hid (g + 1 ≤ g2) := by have := HW2.out.size; rw [HSA.out, hg2] at this; exact this
      rw [hg2] at HCE
      clear hO hB2 hW hall hcell q0 q1 q2 q3 q4 q5 hZZ hnz hg2
      go_wp2_with fail
      go_loopw [39] (fun i ws => ∃ k : Nat, i = .int .i64 k ∧ k ≤ nz ∧ Hid (Below g2 w2 ws) ∧ Hid (firstE ((recsM M).drop k) = E)) (fun i _ => nz - (intOf i).toNat)
      case atStart => exact ⟨0, rfl, Nat.zero_le _, Below.refl _ _, hE3⟩
      case round =>
        obtain ⟨k, rfl, hk, hV, hF⟩ := hrel
        have HGV : Hid (g2 ≤ wr.heap.size) := by have := hV.out.size; rw [HG2.out] at this; exact this
        by_cases hlk : k < nz
        · have hkz : k < ZZ.length := by rw [HALL.out.2.2]; exact hlk
          have hz1 : ZAt wr B ZZ := HALL.out.2.1.on ((HW2.out.mono (by have := hB; omega)).trans (hV.out.mono (by have := HGG2.out; omega))) (Nat.le_refl _)
          obtain ⟨br, off, B1, e1, B2, e2, B3, e3, rfl, hbr, hat, p0, p1, p2, p3, p4, p5, p6⟩ := recs_get (HCE.out.on hV.out (Nat.le_refl _)) (hz1.on (Below.refl _ _) (show B ≤ g2 by have := HGG2.out; omega)) hkz
          obtain ⟨hkM, hkR⟩ := get_map HALL.out.1 hkz
          have hsm := (hf.out.recs HQA.out _ (List.getElem_mem hkM)).1
          have hFk := hF.out
          rw [firstE_drop hkM] at hFk
          rw [← hkR] at hsm hFk
          obtain ⟨RR, hRR⟩ : ∃ R, (ZZ[k]'hkz).1 = R := ⟨_, rfl⟩
          rw [hRR] at hat p0 p1 p2 p3 p4 p5 p6 hsm hFk
          obtain ⟨xn, hxn⟩ : ∃ x, mk RR.name = x := ⟨_, rfl⟩
          obtain ⟨rk, hrk⟩ : ∃ n, RR.kind = n := ⟨_, rfl⟩
          obtain ⟨rc, hrc⟩ : ∃ n, RR.cls = n := ⟨_, rfl⟩
          obtain ⟨rt, hrt⟩ : ∃ n, RR.ttl = n := ⟨_, rfl⟩
          obtain ⟨l1, hl1⟩ : ∃ n, RR.names.length = n := ⟨_, rfl⟩
          obtain ⟨l2, hl2⟩ : ∃ n, RR.nums.length = n := ⟨_, rfl⟩
          obtain ⟨l3, hl3⟩ : ∃ n, RR.texts.length = n := ⟨_, rfl⟩
          obtain ⟨ck, hck⟩ : ∃ n, checkE RR = n := ⟨_, rfl⟩
          rw [hxn] at p0
          rw [hrk] at p1
          rw [hrc] at p2
          rw [hrt] at p3
          rw [hl1] at p4
          rw [hl2] at p5
          rw [hl3] at p6
          rw [hxn, hrk, hrc, hrt, hl1, hl2, hl3] at hat
          rw [hck] at hFk
          have HCK := Lib.hid (fun W (hW : Below wr.heap.size wr W) => check_is RR xn rk rc rt B1 l1 e1 B2 l2 e2 B3 l3 e3 ck W (hat.on (hW.mono HGV.out) (Nat.le_trans HGV.out hW.size)) hsm hck)
          have HB9 : Hid (Below wr.heap.size wr (wr.alloc (.cells #[.string xn, .int .u16 rk, .int .u16 rc, .int .u32 rt, .slice B1 l1 e1, .slice B2 l2 e2, .slice B3 l3 e3] 49))) := (Below.refl _ _).alloc (Nat.le_refl _) _
          clear hRR hxn hrk hrc hrt hl1 hl2 hl3 hat hsm hkR hkM hck hz1
          by_cases hc0 : ck = 0
          · subst hc0
            rw [if_pos rfl] at hFk
            have HFK := Lib.hid hFk
            clear hFk
            go_wp2_with fail
            refine (HCK.out _ HB9.out).mono ?_
            rintro e w5 ⟨rfl, hB5⟩
            have HV5 : Hid (Below g2 w2 w5) := hV.out.trans ((HB9.out.trans (hB5.mono HB9.out.size)).mono HGV.out)
            clear hB5 hV HCK p0 p1 p2 p3 p4 p5 p6 hF HB9
            go_wp2_with fail
            go_roundw
            case rel => exact ⟨k + 1, by go_num, by omega, HV5, HFK⟩
            case measure => simp [intOf]; omega
          · rw [if_neg hc0] at hFk
            subst hFk
            have hcz : ((ck : Int) != 0) = true := bne_iff_ne.2 (by omega)
            clear hF
            go_wp2_with fail
            refine (HCK.out _ HB9.out).mono ?_
            rintro e w5 ⟨rfl, hB5⟩
            have HV5 : Hid (Below g w w5) := HBA.out.trans ((HW2.out.mono (Nat.le_succ _)).trans ((hV.out.trans ((HB9.out.trans (hB5.mono HB9.out.size)).mono HGV.out)).mono (by have := HGG2.out; omega)))
            clear hB5 hV HCK p0 p1 p2 p3 p4 p5 p6 HB9
            go_wp2_with fail
            go_ret
            exact ⟨rfl, HV5.out⟩
        · have hE0 : Hid (E = 0) := by
            show _ = _
            have hl := HALL.out.1
            have hl2 : (recsM M).length = nz := by rw [← hl, List.length_map]; exact HALL.out.2.2
            rw [← hF.out, List.drop_eq_nil_of_le (by omega)]
            rfl
          have HV5 : Hid (Below g w wr) := HBA.out.trans ((HW2.out.mono (Nat.le_succ _)).trans (hV.out.mono (by have := HGG2.out; omega)))
          have hkn : ¬ ((k : Int) < (nz : Int)) := by omega
          clear hlk hF hV
          go_wp2_with fail
          go_ret
          rw [hE0.out]
          exact ⟨rfl, HV5.out⟩
end Go.Proofs.Ytihkmdojakalbaa

/- The contract of the writer's names. For at most 10^9 bytes, names of at most 255. -/
namespace Go.Proofs.Ytihkmdojakalbaa
open Go.RowKit Go.Maps Bytes WrMath NmMath NameMath

theorem strCells_bytes' (s : ByteArray) : Lib.strCells s = Bytes.byteCells s.data.toList := rfl
/-- append of a text's bytes to a row of one's own, and where the row lies then. -/
theorem run_append_text (w : World) (ty : TypeId) (g : Nat) (v : Value) (m : Nat) (l : List UInt8) (hown : w.ownsRow g 5 1 v m (Bytes.byteCells l)) (t : ByteArray) (n : Nat) (hn : t.size = n) (h0 : 0 < n) (hmn : m + n ≤ 2000000000) (hg : g ≤ w.heap.size) :
    ∃ gg cap w', (Builtin.append_ #[71, 9] ty #[v, .string t]).run Try.prog w = .ok (.slice (some ⟨gg, 0, none⟩) (m + n) cap) w' ∧ w'.ownsRow g 5 1 (.slice (some ⟨gg, 0, none⟩) (m + n) cap) (m + n) (Bytes.byteCells (l ++ t.data.toList)) ∧ w.grownBy w' v.ownBlock ∧ (v.ownBlock = some gg ∨ w.heap.size ≤ gg) := by
  obtain ⟨i5, hi, hz0, hz1, hz2⟩ := info_parts info5
  subst hn
  have h63 : m + t.size ≤ maxLen := by unfold maxLen; omega
  obtain ⟨v', w', hr, h2, h3, _⟩ := Lib.run_append_own_string (P := Try.prog) w g 71 9 ty 5 i5 Try.underlying71 Try.underlying9 hi hz0 hz1 hz2 v m (Bytes.byteCells l) hown t h63 (by omega) hg
  rw [strCells_bytes', ← byteCells_cat] at h2
  have hloc : ∃ gg cap, v' = .slice (some ⟨gg, 0, none⟩) (m + t.size) cap ∧ (v.ownBlock = some gg ∨ w.heap.size ≤ gg) := by
    have hxl : (Bytes.byteCells l).length = m := by simpa using hown.1
    rcases hown.2 with ⟨rfl, rfl⟩ | ⟨g0, cap, cur, rfl, hbg, hgg, hnc, hcm, hcs, htake⟩
    · have hr2 := run_append_nil_string (P := Try.prog) w 71 9 ty 5 i5 (.int .u8 0) Try.underlying71 Try.underlying9 hi hz0 t h0 (by omega) (by rw [hz2]; omega)
      rw [hr] at hr2
      injection hr2 with e1 e2
      exact ⟨_, _, by rw [e1, Nat.zero_add], .inr (Nat.le_refl _)⟩
    · by_cases hroom : m + t.size ≤ cap
      · have hcs' : cur.size = cap := by simpa using hcs
        have hr2 := Lib.run_append_room_string (P := Try.prog) w 71 9 ty 5 i5 Try.underlying71 Try.underlying9 hi hz1 g0 m cap cur hgg t hroom (by omega)
        rw [hr] at hr2
        injection hr2 with e1 e2
        exact ⟨_, _, e1, .inl rfl⟩
      · have holds : ∀ j u, (Bytes.byteCells l)[j]? = some u → w.cell? ((⟨g0, 0, none⟩ : Addr).add j) = some u := hown.cells (g := g0) rfl
        have hr2 := Lib.run_append_grow_string (P := Try.prog) w 71 9 ty 5 i5 (.int .u8 0) Try.underlying71 Try.underlying9 hi hz0 ⟨g0, 0, none⟩ m cap (Bytes.byteCells l) (by rw [hz1]; simpa using hxl) holds t (by omega) (by omega) (by rw [hz2]; exact growslice_fits (by omega) (by omega))
        rw [hr] at hr2
        injection hr2 with e1 e2
        exact ⟨_, _, e1, .inr (Nat.le_refl _)⟩
  obtain ⟨gg, cap, rfl, hl⟩ := hloc
  exact ⟨gg, cap, w', hr, h2, h3, hl⟩
/-- The same for any text, the empty one too. -/
theorem run_append_any (w : World) (ty : TypeId) (g : Nat) (v : Value) (m : Nat) (l : List UInt8) (hown : w.ownsRow g 5 1 v m (Bytes.byteCells l)) (t : ByteArray) (n : Nat) (hn : t.size = n) (hmn : m + n ≤ 2000000000) (hg : g ≤ w.heap.size) :
    ∃ A cap w', (Builtin.append_ #[71, 9] ty #[v, .string t]).run Try.prog w = .ok (.slice A (m + n) cap) w' ∧ w'.ownsRow g 5 1 (.slice A (m + n) cap) (m + n) (Bytes.byteCells (l ++ t.data.toList)) ∧ w.grownBy w' v.ownBlock ∧ (v.ownBlock = (Value.slice A (m + n) cap).ownBlock ∨ ∀ b, (Value.slice A (m + n) cap).ownBlock = some b → w.heap.size ≤ b) := by
  by_cases h0 : 0 < n
  · obtain ⟨gg, cap, w', h1, h2, h3, h4⟩ := run_append_text w ty g v m l hown t n hn h0 hmn hg
    exact ⟨_, cap, w', h1, h2, h3, h4.imp id (fun e b hb => by injection hb with hb; simp only at hb; omega)⟩
  · obtain ⟨i5, hi, hz0, hz1, hz2⟩ := info_parts info5
    subst hn
    have hz : t.size = 0 := by omega
    obtain ⟨v', w', hr, h2, h3, h4⟩ := Lib.run_append_own_string (P := Try.prog) w g 71 9 ty 5 i5 Try.underlying71 Try.underlying9 hi hz0 hz1 hz2 v m (Bytes.byteCells l) hown t (by unfold maxLen; omega) (by omega) hg
    rw [strCells_bytes', ← byteCells_cat] at h2
    rcases hown.2 with ⟨rfl, rfl⟩ | ⟨g0, cap, cur, rfl, hbg, hgg, hnc, hcm, hcs, htake⟩
    · have : v' = .slice none 0 0 := h4.2 ⟨rfl, hz⟩
      subst this
      rw [hz] at h2 ⊢
      exact ⟨none, 0, w', hr, h2, h3, .inl rfl⟩
    · have hcs' : cur.size = cap := by simpa using hcs
      have hr2 := Lib.run_append_room_string (P := Try.prog) w 71 9 ty 5 i5 Try.underlying71 Try.underlying9 hi hz1 g0 m cap cur hgg t (by omega) (by omega)
      rw [hr] at hr2
      injection hr2 with e1 e2
      subst e1
      exact ⟨_, _, w', hr, h2, h3, .inl rfl⟩
theorem step_append_any {w : World} {ops : Array Oper} {o : Oper} {a : Act} {K : Act → World → Prop} {Q : Exit → Act → World → Prop} {E : Prop} (hgd : o.guard = none) (s x : Operand)
    (ho : o.op = .call { callee := .builtin .append, args := #[s, x], argTypes := #[71, 9] })
    (g : Nat) (v : Value) (m : Nat) (l : List UInt8) (hs : a.eval s = v) (hown : w.ownsRow g 5 1 v m (Bytes.byteCells l)) (t : ByteArray) (hx : a.eval x = .string t) (n : Nat) (hn : t.size = n) (hmn : m + n ≤ 2000000000) (hg : g ≤ w.heap.size)
    (h : ∀ A cap w', w'.ownsRow g 5 1 (.slice A (m + n) cap) (m + n) (Bytes.byteCells (l ++ t.data.toList)) → w.grownBy w' v.ownBlock → (v.ownBlock = (Value.slice A (m + n) cap).ownBlock ∨ ∀ b, (Value.slice A (m + n) cap).ownBlock = some b → w.heap.size ≤ b) → K (a.put o.dst (.slice A (m + n) cap)) w') : if Region.wanted o (yielded ops a.tmps) = true then Oper.wp Try.prog o a w K Q else E := by
  have hw : Region.wanted o (yielded ops a.tmps) = true := by simp [Region.wanted, hgd]
  rw [if_pos hw]
  obtain ⟨A, cap, w', hr, h2, h3, h4⟩ := run_append_any w o.type g v m l hown t n hn hmn hg
  unfold Oper.wp execOp
  simp only [ho, resolve, invoke, builtin, Sem.run_bind, Sem.run_pure, Result.andThen_ok, List.map_toArray, List.map_cons, List.map_nil, hs, hx, hr]
  exact h A cap w' h2 h3 h4
/-- The same, at a step of a region that draws. -/
theorem step_append_text {w : World} {ops : Array Oper} {o : Oper} {a : Act} {K : Act → World → Prop} {Q : Exit → Act → World → Prop} {E : Prop} (hgd : o.guard = none) (s x : Operand)
    (ho : o.op = .call { callee := .builtin .append, args := #[s, x], argTypes := #[71, 9] })
    (g : Nat) (v : Value) (m : Nat) (l : List UInt8) (hs : a.eval s = v) (hown : w.ownsRow g 5 1 v m (Bytes.byteCells l)) (t : ByteArray) (hx : a.eval x = .string t) (n : Nat) (hn : t.size = n) (h0 : 0 < n) (hmn : m + n ≤ 2000000000) (hg : g ≤ w.heap.size)
    (h : ∀ gg cap w', w'.ownsRow g 5 1 (.slice (some ⟨gg, 0, none⟩) (m + n) cap) (m + n) (Bytes.byteCells (l ++ t.data.toList)) → w.grownBy w' v.ownBlock → (v.ownBlock = some gg ∨ w.heap.size ≤ gg) → K (a.put o.dst (.slice (some ⟨gg, 0, none⟩) (m + n) cap)) w') : if Region.wanted o (yielded ops a.tmps) = true then Oper.wp Try.prog o a w K Q else E := by
  have hw : Region.wanted o (yielded ops a.tmps) = true := by simp [Region.wanted, hgd]
  rw [if_pos hw]
  obtain ⟨gg, cap, w', hr, h2, h3, h4⟩ := run_append_text w o.type g v m l hown t n hn h0 hmn hg
  unfold Oper.wp execOp
  simp only [ho, resolve, invoke, builtin, Sem.run_bind, Sem.run_pure, Result.andThen_ok, List.map_toArray, List.map_cons, List.map_nil, hs, hx, hr]
  exact h gg cap w' h2 h3 h4

theorem mk_cut (s : ByteArray) (k : Nat) : (s.extract 0 k).data.toList = s.data.toList.take k := by rw [extract_list]; rfl
theorem mk_rest (s : ByteArray) (k : Nat) : (s.extract k s.size).data.toList = s.data.toList.drop k := by
  rw [extract_list, List.take_of_length_le (by rw [← Lib.size_eq]; exact Nat.le_refl _)]
/-- A look-up of what is known, at the operation. -/
theorem wpList_lookup_known {w : World} {ops : Array Oper} {rest : List Oper} {o : Oper} {a : Act} {Q : Exit → Act → World → Prop} (hg : o.guard = none) (m x : Operand) (hop : o.op = Op.lookup 70 m x true) (bm : Nat) (K : Known) (hm : a.eval m = .map (some bm)) (hown : MapIs w bm K)
    (y : ByteArray) (hx : a.eval x = .string y) (hy : y.size ≤ maxLen) (p : Nat) (b : Bool) (hf : (fnd K y.data.toList).getD 0 = p) (hb : (fnd K y.data.toList).isSome = b) (hK : wpList Try.prog ops Q rest (a.put o.dst (.tuple #[.int .i64 p, .bool b])) w) : wpList Try.prog ops Q (o :: rest) a w := by
  obtain ⟨n, D, h1, _, h3⟩ := hown
  refine wpList_lookup_own_ok_int w hg m x 70 hop 9 3 .i64 key_law Try.underlying70 Try.underlying3 (zero_int w) bm n D hm h1 (.string y) (.string y.data.toList) hx (WideMaps.keyOf_string_mk Try.underlying9 hy) fun c hat _ => ?_
  rw [(h3 _).2, hf] at hat
  injection hat with hat
  injection hat with _ hat
  rw [(h3 _).1, hb, ← hat]
  exact hK
theorem fnd_lt {K : Known} {N : Nat} (h : ∀ x ∈ K, x.2 < N) {s : List UInt8} {p : Nat} (hf : fnd K s = some p) : p < N := h _ (fnd_mem hf)
set_option maxHeartbeats 4000000 in
set_option maxRecDepth 100000 in
theorem name_any (x : ByteArray) (r bm g : Nat) (s : Wr) (v : Value) (w : World) (h : WrAt w r bm g s v) (hg : g ≤ w.heap.size) (hx : Rests x.data.toList) (hxs : x.size ≤ 255) (hl : s.1.length ≤ 900000000) (hK : Hid (∀ y ∈ s.2, y.2 < 16384)) (hKl : s.2.length ≤ 900000000) :
    Calls Try.prog 58 #[.pointer (some ⟨r, 0, none⟩), .string x] w (WrEnd w r bm g (nameW x.data.toList s) v) := by
  obtain ⟨S, hS⟩ : ∃ S, nameW x.data.toList s = S := ⟨_, rfl⟩
  have HS := Lib.hid hS
  have HW := Lib.hid h
  have HX := Lib.hid hx
  have HG := Lib.hid hg
  have HL0 : Hid (s.1.length + x.size ≤ 900000000 + 255) := by show _ ≤ _; omega
  have HK0 : Hid (s.2.length + x.size ≤ 900000000 + 255) := by show _ ≤ _; omega
  rw [hS]
  clear hS h hx hl hKl
  go_enter Try.func58, Try.ntmps58
  go_wp2_with fail
  go_loopw [1] (fun t wr => ∃ (y : ByteArray) (s' : Wr) (u : Value), t = .string y ∧ y.size ≤ 255 ∧ Hid (WrAt wr r bm g s' u) ∧ Hid (Wrote r bm v w u wr) ∧ Hid (Rests y.data.toList) ∧ Hid (nameW y.data.toList s' = S) ∧ Hid (s'.1.length + y.size ≤ 900000000 + 255) ∧ Hid (s'.2.length + y.size ≤ 900000000 + 255) ∧ Hid (∀ z ∈ s'.2, z.2 < 16384)) (fun t _ => match t with | .string y => y.size | _ => 0)
  case atStart => exact ⟨x, s, v, rfl, hxs, HW, Wrote.refl _ _ _ _, HX, HS, HL0, HK0, hK⟩
  case round =>
    obtain ⟨y, ⟨out, K⟩, u, rfl, hy, hW, hF, hX, hR, hL, hK1, hK2⟩ := hrel
    obtain ⟨A, cp, rfl⟩ := hW.out.slice
    obtain ⟨m, hm⟩ : ∃ m, out.length = m := ⟨_, rfl⟩
    have HM := Lib.hid hm
    simp only at hW hF
    rw [hm] at hW hF
    have c0 := hW.out.c0
    have c1 := hW.out.c1
    have cf := hW.out.fz
    have SZ := Lib.hid (Lib.size_eq y)
    have hmb : m ≤ 900001000 := by have := hL.out; simp only at this; omega
    have hne : 0 < y.size := by
      rcases rests_cases hX.out with e | ⟨_, _, e, _⟩
      · rw [SZ.out, e]; decide
      · rw [SZ.out]; omega
    obtain ⟨c, hc⟩ : ∃ c, y[0]'hne = c := ⟨_, rfl⟩
    have hcb : bt y.data.toList 0 = c.toNat := by unfold bt; rw [getD_byte hne, hc]
    have HCB := Lib.hid hcb
    have hcl := c.toNat_lt
    have HGW : Hid (g ≤ wr.heap.size) := Nat.le_trans HG.out hF.out.size
    clear hm hcb
    by_cases h0 : c.toNat = 0
    · have hyz : Hid (y.data.toList = [0]) := by
        rcases rests_cases hX.out with e | ⟨e, _⟩
        · exact e
        · exact absurd (HCB.out.trans h0) e
      have HS : Hid (S = (out ++ [0], K)) := by
        show _ = _
        rw [← hR.out]
        exact wName_root (HCB.out.trans h0)
      have hz : ((c.toNat : Int) == 0) = true := beq_iff_eq.2 (by omega)
      have hz1 : ((c.toNat : Int) != 0) = false := bne_eq_false_iff_eq.2 (by omega)
      obtain ⟨i5, hi, hz0, hz1', hz2⟩ := info_parts info5
      have HI := Lib.hid hi; clear hi
      have HZ0 := Lib.hid hz0; clear hz0
      have HZ1 := Lib.hid hz1'; clear hz1'
      have HZ2 := Lib.hid hz2; clear hz2
      have HO := Lib.hid (show wr.ownsRow g 5 1 (.slice A m cp) m (Bytes.byteCells out) by have := hW.out.own; simp only at this; rw [HM.out] at this; exact this)
      clear hR hL hK1 hK2 hX
      go_wp2_with (at_builtin; refine wpList_append_lies _ rfl _ _ 71 rfl g 5 i5 (.int .u8 0) 1 1 Try.underlying71 HI.out HZ0.out HZ1.out HZ2.out rfl (by decide) (.slice A m cp) m (Bytes.byteCells out) rfl (HO.out.alloc _) ⟨wr.heap.size, 0, none⟩ 1 1 [.int .u8 0] rfl rfl ?c1 ?c2 (by decide) ?c3 ?c4 ?c5 _ rfl ?_)
      case c1 =>
        intro j u hj
        match j, hj with
        | 0, hj => simp at hj; subst hj; simp [Addr.add]
      case c2 => intro u hu; simp at hu; subst hu; rfl
      case c3 => unfold maxLen; omega
      case c4 => omega
      case c5 => have := HGW.out; simp; omega
      intro gg cap w2 hown hgrow hat _
      have hown2 : w2.ownsRow g 5 1 (.slice (some ⟨gg, 0, none⟩) (m + 1) cap) (out ++ [0]).length (Bytes.byteCells (out ++ [0])) := by
        rw [List.length_append, HM.out, byteCells_cat]
        exact hown
      have hst := hW.out.stored hown2 ((Below.refl _ _).alloc (Nat.le_refl _) _) hgrow (hat.imp id (fun e b hb => by injection hb with hb; simp only at hb; omega))
      have r3 := hst.2.2.1
      have rf := hst.2.2.2
      have HST := Lib.hid hst
      clear hown hown2 hgrow hat hst
      go_wp2_with fail
      go_end0
      rw [HS.out]
      exact ⟨_, rfl, HST.out.1, hF.out.trans HST.out.2.1⟩
    · have hlab : 1 ≤ c.toNat ∧ c.toNat ≤ 63 ∧ 1 + c.toNat < y.size := by
        rcases rests_cases hX.out with e | ⟨_, e2, e3, _⟩
        · exfalso; apply h0; rw [← HCB.out, e]; rfl
        · rw [HCB.out] at e2 e3; rw [SZ.out]; omega
      have HXN : Hid (Rests (y.data.toList.drop (1 + c.toNat))) := by
        rcases rests_cases hX.out with e | ⟨_, _, _, e⟩
        · exfalso; apply h0; rw [← HCB.out, e]; rfl
        · rw [HCB.out] at e; exact e
      have hz : ((c.toNat : Int) == 0) = false := beq_eq_false_iff_ne.2 (by omega)
      have hz1 : ((c.toNat : Int) != 0) = true := bne_iff_ne.2 (by omega)
      have HMAP := Lib.hid hW.out.map
      simp only at HMAP
      have hyM : y.size ≤ maxLen := by unfold maxLen; omega
      cases hf : fnd K y.data.toList with
      | some p =>
        have hpl : p < 16384 := fnd_lt hK2.out hf
        have HS : Hid (S = numW (49152 + p) 2 (out, K)) := by
          show _ = _
          rw [← hR.out]
          exact wName_known (by rw [HCB.out]; exact h0) hf
        have hw1 : IntKind.u32.wrap (p : Int) = (p : Int) := by rw [IntKind.wrap_u32]; omega
        have hw2 : IntKind.u32.wrap (49152 + (p : Int)) = ((49152 + p : Nat) : Int) := by rw [IntKind.wrap_u32]; omega
        have hf1 : (fnd K y.data.toList).getD 0 = p := by rw [hf]; rfl
        have hf2 : (fnd K y.data.toList).isSome = true := by rw [hf]; rfl
        have HN := Lib.hid (number_any (49152 + p) 2 r bm g (out, K) (.slice A m cp) wr hW.out HGW.out (by omega) (by decide) (by decide) (by simp only; rw [HM.out]; omega))
        clear hR hL hK1 hK2 hX HXN
        go_wp2_with (at_lookup; refine wpList_lookup_known rfl _ _ rfl bm K rfl HMAP.out y rfl hyM p true hf1 hf2 ?_)
        refine HN.out.mono ?_
        rintro e w2 ⟨v2, rfl, h2, h3⟩
        have H2 := Lib.hid h2
        have H3 := Lib.hid (hF.out.trans h3)
        clear h2 h3 c0 c1 cf HN hf1 hf2
        go_wp2_with fail
        first | go_end0 | skip
        rw [HS.out]
        exact ⟨_, rfl, H2.out, H3.out⟩
      | none =>
        obtain ⟨q, hq⟩ : ∃ q, 1 + c.toNat = q := ⟨_, rfl⟩
        have HS : Hid (nameW (y.data.toList.drop q) (out ++ y.data.toList.take q, learn out K y.data.toList) = S) := by
          show _ = _
          rw [← hR.out]
          have := wName_new (out := out) (by rw [HCB.out]; exact h0) hf
          rw [HCB.out, hq] at this
          exact this.symm
        rw [hq] at HXN
        have hqw : IntKind.i64.wrap (1 + (c.toNat : Int)) = (q : Int) := by rw [IntKind.wrap_i64]; omega
        have hqy : q < y.size := by omega
        have hq1 : 1 < q ∧ q ≤ 64 := by omega
        have hqi : (q : Int) ≤ y.size := by omega
        have hf1 : (fnd K y.data.toList).getD 0 = 0 := by rw [hf]; rfl
        have hf2 : (fnd K y.data.toList).isSome = false := by rw [hf]; rfl
        have HKL : Hid ((learn out K y.data.toList).length ≤ K.length + 1 ∧ ∀ z ∈ learn out K y.data.toList, z.2 < 16384) := by
          unfold learn
          by_cases hlt : out.length < 16384
          · rw [if_pos hlt]
            refine ⟨by rw [List.length_append]; exact Nat.le_refl _, fun z hz => ?_⟩
            rcases List.mem_append.1 hz with hz | hz
            · exact hK2.out z hz
            · rw [List.mem_singleton] at hz; subst hz; exact hlt
          · rw [if_neg hlt]; exact ⟨Nat.le_succ _, hK2.out⟩
        clear hR hX hq
        go_upto_if 30 with (at_lookup; refine wpList_lookup_known rfl _ _ rfl bm K rfl HMAP.out y rfl hyM 0 false hf1 hf2 ?_)
        go_cut [] from 7 to 58 (fun wx => Hid (WrAt wx r bm g (out, learn out K y.data.toList) (.slice A m cp)) ∧ Hid (Wrote r bm v w (.slice A m cp) wx))
        case first =>
          by_cases hlt : m < 16384
          · have hltd : decide ((m : Int) < 16384) = true := decide_eq_true (by omega)
            have hlti : (m : Int) < 16384 := by omega
            have HLE : Hid (learn out K y.data.toList = K ++ [(y.data.toList, m)]) := by show _ = _; unfold learn; rw [HM.out, if_pos hlt]
            obtain ⟨w5, hrun, hm5, hg5⟩ := (hW.out.drew.map).put (s := y.data.toList) (p := m) hf (by rw [← SZ.out]; exact hyM) (by have := hK1.out; simp only at this; unfold maxLen; simp only; omega) (by omega)
            rw [mk_data] at hrun
            have hst := hW.out.drew.mapped hm5 hg5
            have HST : Hid (WrAt w5 r bm g (out, learn out K y.data.toList) (.slice A m cp) ∧ Wrote r bm v w (.slice A m cp) w5) := by
              rw [HLE.out]
              exact ⟨hst.1, hF.out.trans (hst.2.ahead (Below.refl _ _).drew)⟩
            clear hst hm5 hg5 hL hK1 hK2 hW hF HKL HMAP hf
            go_wp2_with fail
            go_region
            all_goals
              go_wp2_with fail
              go_meet
              exact HST.out
          · have hltd : decide ((m : Int) < 16384) = false := decide_eq_false (by omega)
            have hlti : ¬ ((m : Int) < 16384) := by omega
            have HLE : Hid (learn out K y.data.toList = K) := by show _ = _; unfold learn; rw [HM.out, if_neg hlt]
            have HST : Hid (WrAt wr r bm g (out, learn out K y.data.toList) (.slice A m cp) ∧ Wrote r bm v w (.slice A m cp) wr) := by
              rw [HLE.out]
              exact ⟨hW.out, hF.out⟩
            clear hL hK1 hK2 hW hF HKL HMAP hf
            go_wp2_with fail
            go_meet
            exact HST.out
        case rest =>
          obtain ⟨hW5, hF5⟩ := hcut
          clear c0 c1 cf hW hF HMAP hf hf1 hf2
          have c0 := hW5.out.drew.c0
          have cf := hW5.out.drew.fz
          obtain ⟨K', hK'⟩ : ∃ K', learn out K y.data.toList = K' := ⟨_, rfl⟩
          rw [hK'] at hW5 HKL HS
          clear hK'
          obtain ⟨z, hz9⟩ : ∃ z, y.extract 0 q = z := ⟨_, rfl⟩
          obtain ⟨y2, hy2⟩ : ∃ z, y.extract q y.size = z := ⟨_, rfl⟩
          have HZ : Hid (z.data.toList = y.data.toList.take q) := by rw [← hz9]; exact mk_cut y q
          have HY2 : Hid (y2.data.toList = y.data.toList.drop q) := by rw [← hy2]; exact mk_rest y q
          have hzs : z.size = q := by rw [Lib.size_eq, HZ.out, List.length_take, ← SZ.out]; omega
          have HY2S : Hid (y2.size = y.size - q) := by show _ = _; rw [Lib.size_eq, HY2.out, List.length_drop, ← SZ.out]
          have HGC : Hid (g ≤ wc.drew.heap.size) := Nat.le_trans HG.out hF5.out.size
          have HOC := Lib.hid (show wc.drew.ownsRow g 5 1 (.slice A m cp) m (Bytes.byteCells out) by have := hW5.out.drew.own; simp only at this; rw [HM.out] at this; exact this)
          have HBD : Hid (Below wc.heap.size wc wc.drew) := (Below.refl _ _).drew
          go_upto_region 7 with fail
          go_cut [] from 7 to 58 (fun wx => ∃ u', Hid (WrAt wx r bm g (out ++ y.data.toList.take q, K') u') ∧ Hid (Wrote r bm v w u' wx))
          case first =>
            go_region_law (refine step_append_text (by rfl) (.tmp 49) (.tmp 52) (by rfl) g (.slice A m cp) m out (by rfl) HOC.out z (by rfl) q hzs (by omega) (by omega) HGC.out ?_; intro gg cap w2 hown hgrow hat; have hown2 : w2.ownsRow g 5 1 (.slice (some ⟨gg, 0, none⟩) (m + q) cap) (out ++ y.data.toList.take q).length (Bytes.byteCells (out ++ y.data.toList.take q)) := (by rw [← HZ.out, List.length_append, HM.out, ← Lib.size_eq, hzs]; exact hown); have hst := hW5.out.stored hown2 HBD.out hgrow (hat.imp id (fun e b hb => by injection hb with hb; simp only at hb; have e9 : wc.drew.heap.size = wc.heap.size := rfl; omega)); have r3 := hst.2.2.1; have rf := hst.2.2.2; have HST := Lib.hid hst; clear hown hown2 hgrow hat hst)
            all_goals
              go_wp2_with fail
              go_meet
              exact ⟨_, HST.out.1, hF5.out.trans HST.out.2.1⟩
          case rest =>
            obtain ⟨u', hW7, hF7⟩ := hcut
            clear c0 cf HOC HGC HBD hW5 hF5 hz9
            go_wp2_with fail
            go_roundw
            case rel =>
              (repeat apply Exists.intro)
              first
                | exact ⟨rfl, by have := HY2S.out; omega, hW7, hF7, by rw [HY2.out]; exact HXN, by rw [HY2.out]; exact HS, by (have h1 := hL.out; have h2 := HY2S.out; simp only at h1; show _ ≤ _; simp only; rw [List.length_append, List.length_take, ← SZ.out]; omega), by (have h1 := hK1.out; have h2 := HY2S.out; have h3 := HKL.out.1; simp only at h1; show _ ≤ _; simp only; omega), HKL.out.2⟩
                | exact ⟨⟨rfl, by have := HY2S.out; omega, hW7, hF7, by rw [HY2.out]; exact HXN, by rw [HY2.out]; exact HS, by (have h1 := hL.out; have h2 := HY2S.out; simp only at h1; show _ ≤ _; simp only; rw [List.length_append, List.length_take, ← SZ.out]; omega), by (have h1 := hK1.out; have h2 := HY2S.out; have h3 := HKL.out.1; simp only at h1; show _ ≤ _; simp only; omega), HKL.out.2⟩, rfl⟩
            case measure => have h2 := HY2S.out; simp; omega
end Go.Proofs.Ytihkmdojakalbaa

/- The contract of the document's Put: a text with a number's lowest bytes behind it, big-endian. For texts of at most 10^6 bytes, sizes up to 8. -/
namespace Go.Proofs.Ytihkmdojakalbaa
open Go.RowKit Bytes

theorem ofNat_mod (x : Nat) : ((UInt8.ofNat x).toNat : Int) = (x : Int) % 256 := by
  rw [UInt8.toNat_ofNat']
  have e : (2 : Nat) ^ 8 = 256 := rfl
  omega
set_option maxHeartbeats 2000000 in
theorem refPut_is (s r : ByteArray) (n k : Nat) (w : World) (hs : s.size ≤ 1000000) (hk : k ≤ 8) (hn : n ≤ 18446744073709551615) (hr : Hid (s.data.toList ++ beTail n k = r.data.toList)) :
    Calls Try.prog 35 #[.string s, .int .u64 n, .int .i64 k] w fun e w' => e = .returned (.string r) ∧ Below w.heap.size w w' := by
  generalize hg : w.heap.size = g at *
  have G := Lib.hid hg; clear hg
  go_enter Try.func35, Try.ntmps35
  go_wp2_with fail
  go_loopw [7, 8, 1] (fun v i u wr => ∃ (j x : Nat) (t : ByteArray), j ≤ k ∧ i = .int .i64 j ∧ u = .int .u64 x ∧ v = .string t ∧ t.size ≤ 8 ∧ x ≤ n ∧ Hid (t = mk (beTail n j)) ∧ Hid (x = n / 256 ^ j) ∧ Below g w wr) (fun _ i _ _ => k - (intOf i).toNat)
  case atStart => exact ⟨0, n, _, Nat.zero_le _, rfl, rfl, rfl, by decide, Nat.le_refl _, Lib.hid rfl, Lib.hid (by simp), Below.refl _ _⟩
  case round =>
    obtain ⟨j, x, t, hj, rfl, rfl, rfl, ht, hxn, hT, hX, hB⟩ := hrel
    by_cases hlt : j < k
    · have h8 : (j : Int) < 8 := by omega
      have hc2 : (convert 71 9 (.slice (some ⟨wr.heap.size, 0, none⟩) 1 1)).run Try.prog (wr.alloc (.cells #[.int .u8 ((x : Int) % 256)] 5)) = .ok (.string (mk [UInt8.ofNat x])) (wr.alloc (.cells #[.int .u8 ((x : Int) % 256)] 5)) := conv_new wr [UInt8.ofNat x] _ 1 (by rw [← ofNat_mod]; rfl) rfl
      have hq := mk_size [UInt8.ofNat x]
      have hcat : mk [UInt8.ofNat x] ++ t = mk (beTail n (j + 1)) := by rw [hT.out, mk_cat, hX.out]; rfl
      have hX2 : Hid (x / 256 = n / 256 ^ (j + 1)) := by show _ = _; rw [Nat.pow_succ, ← Nat.div_div_eq_div_mul, ← hX.out]
      have hz : (mk [UInt8.ofNat x] ++ t).size ≤ 8 := by rw [hcat, mk_size, beTail_length]; omega
      generalize mk [UInt8.ofNat x] = q at *
      have hq1 : q.size ≤ 1 := Nat.le_of_eq hq
      have HC := Lib.hid hcat
      clear hq hcat hT hX
      go_wp2_with fail
      go_roundw
      case rel => exact ⟨j + 1, x / 256, _, by omega, by go_num, by go_num, rfl, hz, by omega, HC, hX2, hB.alloc (by have := hB.size; have := G.out; omega) _⟩
      case measure => simp [intOf]; omega
    · obtain rfl : j = k := by omega
      have hr2 : r = s ++ t := list_inj (by rw [← hr.out, cat_list, hT.out, mk_list])
      have HR := Lib.hid hr2
      clear hr2 hT hX hr
      go_wp2_with fail
      go_ret
      exact ⟨by rw [HR.out]; rfl, hB⟩
end Go.Proofs.Ytihkmdojakalbaa
