/- The document's Same of two messages that are alike. For rows of at most 1000. -/
import Derived.Test.YtpmmjmnleoicjaaProg
import Derived.Test.YtpmmjmnleoicjaaBytes
import Derived.Test.YtpmmjmnleoicjaaStrs
import Derived.Test.YtpmmjmnleoicjaaNums
import Derived.Test.YtpmmjmnleoicjaaMsgMath
import Derived.Test.YtpmmjmnleoicjaaRecMath
import Derived.Test.YtpmmjmnleoicjaaRecAt
import Derived.Test.YtpmmjmnleoicjaaRecRow
import Derived.Test.YtpmmjmnleoicjaaRecsRow
import Derived.Test.YtpmmjmnleoicjaaRdrAsk
import Derived.Test.YtpmmjmnleoicjaaGrown
import Derived.Test.YtpmmjmnleoicjaaRecRefSame
import Derived.WalkKit
import Derived.Lib.Hide
import Derived.Outline
import Derived.IntWalk
import Derived.WalkSpells
import Derived.WalkLawsBesides
import Derived.Deep.QuietTactic
import Derived.BigQuiet
import Derived.Deep.Draws
import Derived.Deep.RegionWith
namespace Go.Proofs.Ytpmmjmnleoicjaa
open Go.RowKit Bytes Strs Nums MsgMath RecMath

theorem sameB_self (R : Rec) : sameB R R = true := by simp [sameB]
set_option maxHeartbeats 4000000 in
set_option maxRecDepth 100000 in
theorem records_true (A B : Option Addr) (c1 c2 n : Nat) (Za Zb : List RecZ) (w : World) (ha : RecsAt w w.heap.size A Za) (hb : RecsAt w w.heap.size B Zb) (hm : Za.map (·.1) = Zb.map (·.1)) (hn : Za.length = n) (hn2 : n ≤ 1000) (hs : ∀ z ∈ Za, Small z.1) :
    Calls Try.prog 53 #[.slice A n c1, .slice B n c2] w fun e w' => e = .returned (.bool true) ∧ Below w.heap.size w w' := by
  have hnb : Zb.length = n := by have := congrArg List.length hm; rw [List.length_map, List.length_map] at this; omega
  obtain ⟨G, hG⟩ : ∃ G, w.heap.size = G := ⟨_, rfl⟩
  rw [hG] at ha hb ⊢
  have HA := Lib.hid ha
  have HB := Lib.hid hb
  have HM := Lib.hid hm
  have HN := Lib.hid hn
  have HNB := Lib.hid hnb
  have HS := Lib.hid hs
  have HG := Lib.hid hG
  clear ha hb hm hn hnb hs hG
  go_enter Try.func53, Try.ntmps53
  go_wp2_with fail
  go_loopw [5] (fun i wr => ∃ j : Nat, i = .int .i64 j ∧ j ≤ n ∧ Hid (Below G w wr)) (fun i _ => n - (intOf i).toNat)
  case atStart => exact ⟨0, rfl, Nat.zero_le _, Below.refl _ _⟩
  case round =>
    obtain ⟨j, rfl, hj, hV⟩ := hrel
    by_cases hlt : j < n
    · obtain ⟨ba, A1, c1', A2, c2', A3, c3', rfl, hba, hat, k0, k1, k2, k3, k4, k5, k6⟩ := (HA.out.on hV.out) j (by rw [HN.out]; exact hlt)
      obtain ⟨bb, B1, d1', B2, d2', B3, d3', rfl, hbb, hbt, m0, m1, m2, m3, m4, m5, m6⟩ := (HB.out.on hV.out) j (by rw [HNB.out]; exact hlt)
      have heq : (Zb[j]'(by rw [HNB.out]; exact hlt)).1 = (Za[j]'(by rw [HN.out]; exact hlt)).1 := by
        have := congrArg (fun L => L[j]?) HM.out
        simp only [List.getElem?_map] at this
        rw [List.getElem?_eq_getElem (by rw [HN.out]; exact hlt), List.getElem?_eq_getElem (by rw [HNB.out]; exact hlt)] at this
        injection this with this
        exact this.symm
      have hsm := HS.out _ (List.getElem_mem (by rw [HN.out]; exact hlt : j < Za.length))
      rw [heq] at hbt m0 m1 m2 m3 m4 m5 m6
      obtain ⟨RR, hRR⟩ : ∃ R, (Za[j]'(by rw [HN.out]; exact hlt)).1 = R := ⟨_, rfl⟩
      rw [hRR] at hat hbt k0 k1 k2 k3 k4 k5 k6 m0 m1 m2 m3 m4 m5 m6 hsm
      obtain ⟨xn, hxn⟩ : ∃ x, mk RR.name = x := ⟨_, rfl⟩
      obtain ⟨rk, hrk⟩ : ∃ n, RR.kind = n := ⟨_, rfl⟩
      obtain ⟨rc, hrc⟩ : ∃ n, RR.cls = n := ⟨_, rfl⟩
      obtain ⟨rt, hrt⟩ : ∃ n, RR.ttl = n := ⟨_, rfl⟩
      obtain ⟨l1, hl1⟩ : ∃ n, RR.names.length = n := ⟨_, rfl⟩
      obtain ⟨l2, hl2⟩ : ∃ n, RR.nums.length = n := ⟨_, rfl⟩
      obtain ⟨l3, hl3⟩ : ∃ n, RR.texts.length = n := ⟨_, rfl⟩
      rw [hxn] at k0 m0
      rw [hrk] at k1 m1
      rw [hrc] at k2 m2
      rw [hrt] at k3 m3
      rw [hl1] at k4 m4
      rw [hl2] at k5 m5
      rw [hl3] at k6 m6
      rw [hxn, hrk, hrc, hrt, hl1, hl2, hl3] at hat hbt
      have hGs : G ≤ wr.heap.size := by have := hV.out.size; rw [HG.out] at this; exact this
      have HSM := Lib.hid (refSame_is RR RR xn rk rc rt A1 l1 c1' A2 l2 c2' A3 l3 c3' xn rk rc rt B1 l1 d1' B2 l2 d2' B3 l3 d3' true wr.drew (hat.on ((Below.refl _ _).drew) hGs) hsm (hbt.on ((Below.refl _ _).drew) hGs) hsm (sameB_self RR))
      have HGS := Lib.hid hGs
      clear hRR hxn hrk hrc hrt hl1 hl2 hl3 hat hbt hsm hGs heq
      go_wp2_with fail
      go_region_with (go_at_call 94; refine HSM.out.mono ?_; rintro e wx ⟨rfl, hB⟩; have HV9 := Lib.hid (hV.out.trans ((Below.refl _ _).drew.trans (hB.mono HGS.out))); clear hB)
      all_goals
        clear k0 k1 k2 k3 k4 k5 k6 m0 m1 m2 m3 m4 m5 m6 HSM hV
        go_wp2_with fail
        go_roundw
        case rel => exact ⟨j + 1, by go_num, by omega, HV9⟩
        case measure => simp [intOf]; omega
    · have hjn : ¬ ((j : Int) < (n : Int)) := by omega
      clear hlt
      go_wp2_with fail
      go_ret
      exact ⟨rfl, hV.out⟩
theorem RecsAt.more {w : World} {G G' : Nat} {A : Option Addr} {Z : List RecZ} (h : RecsAt w G A Z) (hG : G ≤ G') : RecsAt w G' A Z := fun k hk => by
  obtain ⟨bq, A1, c1, A2, c2, A3, c3, e, hl, hat, r⟩ := h k hk
  exact ⟨bq, A1, c1, A2, c2, A3, c3, e, by omega, hat.on (Below.refl _ _) hG, r⟩
theorem qnCs_all {L : List Qn} : ∀ {k j : Nat} (h : k < L.length), j < 3 → (qnCs L)[k * 3 + j]? = (qnV (L[k]))[j]? := by
  induction L with
  | nil => intro k j h; cases h
  | cons q L ih =>
    intro k j h hj
    have e : qnCs (q :: L) = qnV q ++ qnCs L := rfl
    have hl : (qnV q).length = 3 := rfl
    rw [e]
    cases k with
    | zero => rw [List.getElem?_append_left (by rw [hl]; omega)]; simp
    | succ k =>
      rw [List.getElem?_append_right (by rw [hl]; omega), hl, show (k + 1) * 3 + j - 3 = k * 3 + j by omega, ih (by simpa using h) hj]
      simp
/-- The questions of a row. -/
def QnFull (w : World) (G : Nat) (A : Option Addr) (L : List Qn) : Prop := ∀ k (h : k < L.length), ∃ bq, A = some ⟨bq, 0, none⟩ ∧ bq < G ∧ w.cell? ⟨bq, k * 3, none⟩ = some (.string (mk (L[k]).name)) ∧ w.cell? ⟨bq, k * 3 + 1, none⟩ = some (.int .u16 (L[k]).kind) ∧ w.cell? ⟨bq, k * 3 + 2, none⟩ = some (.int .u16 (L[k]).cls)
theorem qnFull_of {w : World} {g : Nat} {v : Value} {L : List Qn} (h : w.ownsRow g 62 3 v L.length (qnCs L)) : ∃ A c, v = .slice A L.length c ∧ QnFull w w.heap.size A L := by
  rcases h.2 with ⟨rfl, h0⟩ | ⟨b, cap, cur, rfl, _, _, _⟩
  · exact ⟨none, 0, by rw [h0], fun k hk => by omega⟩
  · have cell : ∀ k (hk : k < L.length) j, j < 3 → ∀ u, (qnV (L[k]))[j]? = some u → w.cell? ⟨b, k * 3 + j, none⟩ = some u := fun k hk j hj u hu => by
      have := h.cells (g := b) rfl (k * 3 + j) u (by rw [qnCs_all hk hj]; exact hu)
      rwa [add_at] at this
    exact ⟨_, cap, rfl, fun k hk => ⟨b, rfl, (h.lt b rfl).2, cell k hk 0 (by decide) _ rfl, cell k hk 1 (by decide) _ rfl, cell k hk 2 (by decide) _ rfl⟩⟩
theorem QnFull.on {w w' : World} {G : Nat} {A : Option Addr} {L : List Qn} (h : QnFull w G A L) (hb : Below G w w') : QnFull w' G A L := fun k hk => by
  obtain ⟨bq, e, hl, k0, k1, k2⟩ := h k hk
  exact ⟨bq, e, hl, (hb.cell (p := ⟨bq, _, none⟩) hl).trans k0, (hb.cell (p := ⟨bq, _, none⟩) hl).trans k1, (hb.cell (p := ⟨bq, _, none⟩) hl).trans k2⟩
/-- Within Same: the two messages in their blocks. -/
structure SmSt (w wr : World) (b : Nat) (ca cb : Array Value) : Prop where
  eb : w.heap.size = b
  lt : b + 1 < wr.heap.size
  b0 : wr.heap[b]? = some (.cells ca 26 (0, 0))
  b1 : wr.heap[b + 1]? = some (.cells cb 26 (0, 0))
  bl : Below b w wr
theorem SmSt.below {w wr w' : World} {b : Nat} {ca cb : Array Value} (h : SmSt w wr b ca cb) (hb : Below wr.heap.size wr w') : SmSt w w' b ca cb :=
  ⟨h.eb, Nat.lt_of_lt_of_le h.lt hb.size, (hb.block b (by have := h.lt; omega)).trans h.b0, (hb.block (b + 1) h.lt).trans h.b1, h.bl.trans (hb.mono (by have := h.lt; omega))⟩
theorem smSt_start (w : World) (ca cb : Array Value) : SmSt w ((w.alloc (.cells ca 26)).alloc (.cells cb 26)) w.heap.size ca cb :=
  ⟨rfl, by simp, old_at (new_at _ _ _ rfl), new_at _ _ _ (by simp), ((Below.refl _ _).alloc (Nat.le_refl _) _).alloc (by simp) _⟩

set_option maxHeartbeats 4000000 in
set_option maxRecDepth 100000 in
theorem same_true (M : Msg) (Aq Aa An Ax Bq Ba Bn Bx : Option Addr) (cq ca cn cx dq da dn dx nq na nn nx : Nat) (Za Ya Zn Yn Zx Yx : List RecZ) (w : World) (hq : QnFull w w.heap.size Aq M.qs) (hq' : QnFull w w.heap.size Bq M.qs) (hqn : M.qs.length = nq)
    (ha : RecsAt w w.heap.size Aa Za) (ha' : RecsAt w w.heap.size Ba Ya) (hea : Za.map (·.1) = Ya.map (·.1)) (hna : Za.length = na) (hsa : ∀ z ∈ Za, Small z.1)
    (hn : RecsAt w w.heap.size An Zn) (hn' : RecsAt w w.heap.size Bn Yn) (hen : Zn.map (·.1) = Yn.map (·.1)) (hnn : Zn.length = nn) (hsn : ∀ z ∈ Zn, Small z.1)
    (hx : RecsAt w w.heap.size Ax Zx) (hx' : RecsAt w w.heap.size Bx Yx) (hex : Zx.map (·.1) = Yx.map (·.1)) (hnx : Zx.length = nx) (hsx : ∀ z ∈ Zx, Small z.1)
    (h1 : nq ≤ 1000) (h2 : na ≤ 1000) (h3 : nn ≤ 1000) (h4 : nx ≤ 1000) :
    Calls Try.prog 19 #[.agg #[.int .u16 M.id, .int .u16 M.flags, .slice Aq nq cq, .slice Aa na ca, .slice An nn cn, .slice Ax nx cx], .agg #[.int .u16 M.id, .int .u16 M.flags, .slice Bq nq dq, .slice Ba na da, .slice Bn nn dn, .slice Bx nx dx]] w fun e w' => e = .returned (.bool true) ∧ Below w.heap.size w w' := by
  have HST0 := Lib.hid (smSt_start w #[.int .u16 M.id, .int .u16 M.flags, .slice Aq nq cq, .slice Aa na ca, .slice An nn cn, .slice Ax nx cx] #[.int .u16 M.id, .int .u16 M.flags, .slice Bq nq dq, .slice Ba na da, .slice Bn nn dn, .slice Bx nx dx])
  obtain ⟨b, hb⟩ : ∃ b, w.heap.size = b := ⟨_, rfl⟩
  rw [hb] at HST0 hq hq' ha ha' hn hn' hx hx' ⊢
  have RA := Lib.hid (fun W (h : Below b w W) (hs : b ≤ W.heap.size) => records_true Aa Ba ca da na Za Ya W ((ha.on h).more hs) ((ha'.on h).more hs) hea hna h2 hsa)
  have RN := Lib.hid (fun W (h : Below b w W) (hs : b ≤ W.heap.size) => records_true An Bn cn dn nn Zn Yn W ((hn.on h).more hs) ((hn'.on h).more hs) hen hnn h3 hsn)
  have RX := Lib.hid (fun W (h : Below b w W) (hs : b ≤ W.heap.size) => records_true Ax Bx cx dx nx Zx Yx W ((hx.on h).more hs) ((hx'.on h).more hs) hex hnx h4 hsx)
  have HQ := Lib.hid hq
  have HQ2 := Lib.hid hq'
  have HQN := Lib.hid hqn
  have hbw : Hid (w.heap.size = b) := hb
  clear hq hq' hqn ha ha' hea hna hsa hn hn' hen hnn hsn hx hx' hex hnx hsx
  go_enter Try.func19, Try.ntmps19
  go_wp2_with fail
  clear hb
  generalize (w.alloc (.cells #[.int .u16 M.id, .int .u16 M.flags, .slice Aq nq cq, .slice Aa na ca, .slice An nn cn, .slice Ax nx cx] 26)).alloc (.cells #[.int .u16 M.id, .int .u16 M.flags, .slice Bq nq dq, .slice Ba na da, .slice Bn nn dn, .slice Bx nx dx] 26) = w1 at HST0 ⊢
  refine (RA.out _ HST0.out.bl (by have := HST0.out.lt; omega)).mono ?_
  rintro e w2 ⟨rfl, hB⟩
  have HST1 := Lib.hid (HST0.out.below hB)
  clear hB HST0 RA
  have p4 := cell_of_row _ _ 4 _ _ _ HST1.out.b0
  have q4 := cell_of_row _ _ 4 _ _ _ HST1.out.b1
  go_wp2_with fail
  refine (RN.out _ HST1.out.bl (by have := HST1.out.lt; omega)).mono ?_
  rintro e w3 ⟨rfl, hB⟩
  have HST2 := Lib.hid (HST1.out.below hB)
  clear hB HST1 RN p4 q4
  have p5 := cell_of_row _ _ 5 _ _ _ HST2.out.b0
  have q5 := cell_of_row _ _ 5 _ _ _ HST2.out.b1
  go_wp2_with fail
  refine (RX.out _ HST2.out.bl (by have := HST2.out.lt; omega)).mono ?_
  rintro e w4 ⟨rfl, hB⟩
  have HST3 := Lib.hid (HST2.out.below hB)
  clear hB HST2 RX p5 q5
  have p2 := cell_of_row _ _ 2 _ _ _ HST3.out.b0
  have q2 := cell_of_row _ _ 2 _ _ _ HST3.out.b1
  go_wp2_with fail
  go_loopw [5] (fun i wr => ∃ j n : Nat, i = .int .i64 j ∧ j ≤ nq ∧ wr = w4.drewN n) (fun i _ => nq - (intOf i).toNat)
  case atStart => exact ⟨0, 0, rfl, Nat.zero_le _, rfl⟩
  case round =>
    obtain ⟨j, m, rfl, hj, rfl⟩ := hrel
    by_cases hlt : j < nq
    · obtain ⟨ba, rfl, hba, k0, k1, k2⟩ := (HQ.out.on HST3.out.bl) j (by rw [HQN.out]; exact hlt)
      obtain ⟨bb, rfl, hbb, m0, m1, m2⟩ := (HQ2.out.on HST3.out.bl) j (by rw [HQN.out]; exact hlt)
      obtain ⟨QQ, hQQ⟩ : ∃ Q, M.qs[j]'(by rw [HQN.out]; exact hlt) = Q := ⟨_, rfl⟩
      rw [hQQ] at k0 k1 k2 m0 m1 m2
      obtain ⟨xn, hxn⟩ : ∃ x, mk QQ.name = x := ⟨_, rfl⟩
      obtain ⟨rk, hrk⟩ : ∃ n, QQ.kind = n := ⟨_, rfl⟩
      obtain ⟨rc, hrc⟩ : ∃ n, QQ.cls = n := ⟨_, rfl⟩
      rw [hxn] at k0 m0
      rw [hrk] at k1 m1
      rw [hrc] at k2 m2
      clear hQQ hxn hrk hrc
      have hse : (xn.toList == xn.toList) = true := beq_self_eq_true _
      go_wp2_with fail
      go_quiet (fail)
      go_wp2_with fail
      go_roundw
      case rel => exact ⟨j + 1, m + _, by go_num, by omega, rfl⟩
      case measure => simp [intOf]; omega
    · have hjn : ¬ ((j : Int) < (nq : Int)) := by omega
      clear hlt
      go_wp2_with fail
      go_ret
      exact ⟨rfl, HST3.out.bl.os, HST3.out.bl.tape, HST3.out.bl.output, HST3.out.bl.size, HST3.out.bl.block⟩
end Go.Proofs.Ytpmmjmnleoicjaa
