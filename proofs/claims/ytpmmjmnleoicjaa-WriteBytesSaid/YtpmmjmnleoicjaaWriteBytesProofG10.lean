/- Texts of one proof, one behind the other: WbCheck, WbName, WbData, WbWrite. -/
import Derived.Test.YtpmmjmnleoicjaaProg
import Derived.Test.YtpmmjmnleoicjaaBytes
import Derived.Test.YtpmmjmnleoicjaaStrs
import Derived.Test.YtpmmjmnleoicjaaNums
import Derived.Test.YtpmmjmnleoicjaaNameMath
import Derived.Test.YtpmmjmnleoicjaaMsgMath
import Derived.Test.YtpmmjmnleoicjaaRecMath
import Derived.Test.YtpmmjmnleoicjaaRecAt
import Derived.Test.YtpmmjmnleoicjaaRecRow
import Derived.Test.YtpmmjmnleoicjaaWriteBytesProofG2
import Derived.Test.YtpmmjmnleoicjaaWriteBytesProofG3
import Derived.Test.YtpmmjmnleoicjaaWriteBytesProofG8
import Derived.Test.YtpmmjmnleoicjaaWriteBytesProofG4
import Derived.Test.YtpmmjmnleoicjaaNumBe
import Derived.Test.YtpmmjmnleoicjaaNmMath
import Derived.Test.YtpmmjmnleoicjaaOwnRow
import Derived.WalkKit
import Derived.Lib.Hide
import Derived.Laws.Rows
import Derived.Outline
import Derived.IntWalk
import Derived.WalkSpells
import Derived.WalkLawsBesides
import Derived.Deep.Heap
import Derived.RegionTactic
import Derived.Deep.Draws
import Derived.Deep.CutRange
import Derived.Deep.CutBlock
import Derived.Deep.Cut
import Derived.Deep.RegionWith

/- The contract of the document's Check of a message. For messages that can be gone through. -/
namespace Go.Proofs.Ytpmmjmnleoicjaa
open Go.RowKit Bytes MsgMath NameMath RecMath WrMath
set_option linter.unusedVariables false
set_option linter.unusedSimpArgs false

set_option maxHeartbeats 4000000 in
set_option maxRecDepth 100000 in
theorem refCheckM_w (M : Msg) (id fl : Nat) (Aq Aa An Ax : Option Addr) (nq na nn nx cq ca cn cx B E : Nat) (Za Zn Zx : List RecZ) (w : World) (hv : Hid (MsgV w B M Aq Aa An Ax nq na nn nx ca cn cx Za Zn Zx)) (hB : B ≤ w.heap.size) (hf : Hid (FewM M)) (hE : Hid (checkM M = E)) :
    Calls Try.prog 18 #[.agg (msgA id fl Aq nq cq Aa na ca An nn cn Ax nx cx)] w fun e w' => e = .returned (.int .i64 E) ∧ Below w.heap.size w w' := by
  obtain ⟨g, hg⟩ : ∃ g, w.heap.size = g := ⟨_, rfl⟩
  obtain ⟨wa, hwa⟩ : ∃ wa, w.alloc (.cells (msgA id fl Aq nq cq Aa na ca An nn cn Ax nx cx) 26) = wa := ⟨_, rfl⟩
  have hba : Below g w wa := by rw [← hwa, ← hg]; exact (Below.refl _ _).alloc (Nat.le_refl _) _
  have hbx : wa.heap[g]? = some (.cells (msgA id fl Aq nq cq Aa na ca An nn cn Ax nx cx) 26 (0, 0)) := by rw [← hwa, ← hg]; exact heap_alloc_new w _
  have hsa : wa.heap.size = g + 1 := by rw [← hwa, ← hg]; simp
  have hva := hv.out.on (hba.mono (by omega)) (Nat.le_refl _)
  have HG := Lib.hid hg
  have HBA := Lib.hid hba
  have HVA := Lib.hid hva
  have HSA := Lib.hid hsa
  have hcnt : nq ≤ 1000 ∧ na ≤ 1000 ∧ nn ≤ 1000 ∧ nx ≤ 1000 := by
    have := hf.out.nq; have := hf.out.na; have := hf.out.nn; have := hf.out.nx
    have := hv.out.eq; have := hv.out.ea; have := hv.out.en; have := hv.out.ex
    omega
  have HRC := Lib.hid (fun W (hW : Below (g + 1) wa W) (hs : g + 1 ≤ W.heap.size) => refRecords_w M id fl Aq Aa An Ax nq na nn nx cq ca cn cx B Za Zn Zx W (hva.on (hW.mono (by omega)) (Nat.le_refl _)) (by omega) hcnt.2.1 hcnt.2.2.1 hcnt.2.2.2)
  have hsumE : 256 < M.qs.length + M.an.length + M.ns.length + M.ad.length ↔ 256 < nq + na + nn + nx := by rw [hv.out.eq, hv.out.ea, hv.out.en, hv.out.ex]
  have HBX := Lib.hid hbx
  have k0 := cell_of_row _ _ 0 _ _ _ hbx
  have k1 := cell_of_row _ _ 1 _ _ _ hbx
  have k2 := cell_of_row _ _ 2 _ _ _ hbx
  have k3 := cell_of_row _ _ 3 _ _ _ hbx
  have k4 := cell_of_row _ _ 4 _ _ _ hbx
  have k5 := cell_of_row _ _ 5 _ _ _ hbx
  rw [hg]
  clear hbx hba hva hsa
  by_cases hsum : 256 < nq + na + nn + nx
  · have hE6 : E = 6 := by rw [← hE.out]; unfold checkM; rw [if_pos (hsumE.2 hsum)]
    subst hE6
    clear hsumE
    have hcs : 256 < nq ∨ (nq ≤ 256 ∧ 256 < na) ∨ (nq ≤ 256 ∧ na ≤ 256 ∧ 256 < nn) ∨ (nq ≤ 256 ∧ na ≤ 256 ∧ nn ≤ 256 ∧ 256 < nx) ∨ (nq ≤ 256 ∧ na ≤ 256 ∧ nn ≤ 256 ∧ nx ≤ 256) := by omega
    rcases hcs with h1 | ⟨h1, h2⟩ | ⟨h1, h2, h3⟩ | ⟨h1, h2, h3, h4⟩ | ⟨h1, h2, h3, h4⟩
    · have g1 : decide (256 < nq) = true := decide_eq_true h1
      have d1 : decide ((256 : Int) < (nq : Int)) = true := decide_eq_true (by omega)
      go_enter Try.func18, Try.ntmps18
      go_wp2_with fail
      go_ret
      exact ⟨rfl, HBA.out⟩
    · have g1 : decide (256 < nq) = false := decide_eq_false (by omega)
      have d1 : decide ((256 : Int) < (nq : Int)) = false := decide_eq_false (by omega)
      have g2 : decide (256 < na) = true := decide_eq_true h2
      have d2 : decide ((256 : Int) < (na : Int)) = true := decide_eq_true (by omega)
      go_enter Try.func18, Try.ntmps18
      go_wp2_with fail
      go_ret
      exact ⟨rfl, HBA.out⟩
    · have g1 : decide (256 < nq) = false := decide_eq_false (by omega)
      have d1 : decide ((256 : Int) < (nq : Int)) = false := decide_eq_false (by omega)
      have g2 : decide (256 < na) = false := decide_eq_false (by omega)
      have d2 : decide ((256 : Int) < (na : Int)) = false := decide_eq_false (by omega)
      have g3 : decide (256 < nn) = true := decide_eq_true h3
      have d3 : decide ((256 : Int) < (nn : Int)) = true := decide_eq_true (by omega)
      go_enter Try.func18, Try.ntmps18
      go_wp2_with fail
      go_ret
      exact ⟨rfl, HBA.out⟩
    · have g1 : decide (256 < nq) = false := decide_eq_false (by omega)
      have d1 : decide ((256 : Int) < (nq : Int)) = false := decide_eq_false (by omega)
      have g2 : decide (256 < na) = false := decide_eq_false (by omega)
      have d2 : decide ((256 : Int) < (na : Int)) = false := decide_eq_false (by omega)
      have g3 : decide (256 < nn) = false := decide_eq_false (by omega)
      have d3 : decide ((256 : Int) < (nn : Int)) = false := decide_eq_false (by omega)
      have g4 : decide (256 < nx) = true := decide_eq_true h4
      have d4 : decide ((256 : Int) < (nx : Int)) = true := decide_eq_true (by omega)
      go_enter Try.func18, Try.ntmps18
      go_wp2_with fail
      go_ret
      exact ⟨rfl, HBA.out⟩
    · have g1 : decide (256 < nq) = false := decide_eq_false (by omega)
      have d1 : decide ((256 : Int) < (nq : Int)) = false := decide_eq_false (by omega)
      have g2 : decide (256 < na) = false := decide_eq_false (by omega)
      have d2 : decide ((256 : Int) < (na : Int)) = false := decide_eq_false (by omega)
      have g3 : decide (256 < nn) = false := decide_eq_false (by omega)
      have d3 : decide ((256 : Int) < (nn : Int)) = false := decide_eq_false (by omega)
      have g4 : decide (256 < nx) = false := decide_eq_false (by omega)
      have d4 : decide ((256 : Int) < (nx : Int)) = false := decide_eq_false (by omega)
      have d5 : decide ((256 : Int) < (nq : Int) + na + nn + nx) = true := decide_eq_true (by omega)
      go_enter Try.func18, Try.ntmps18
      go_wp2_with fail
      go_ret
      exact ⟨rfl, HBA.out⟩
  have hE2 : Hid ((if M.qs.any (fun q => badName q.name) then 40 else firstE (recsM M)) = E) := by show _ = _; rw [← hE.out]; unfold checkM; rw [if_neg (fun h => hsum (hsumE.1 h))]
  have g1 : decide (256 < nq) = false := decide_eq_false (by omega)
  have d1 : decide ((256 : Int) < (nq : Int)) = false := decide_eq_false (by omega)
  have g2 : decide (256 < na) = false := decide_eq_false (by omega)
  have d2 : decide ((256 : Int) < (na : Int)) = false := decide_eq_false (by omega)
  have g3 : decide (256 < nn) = false := decide_eq_false (by omega)
  have d3 : decide ((256 : Int) < (nn : Int)) = false := decide_eq_false (by omega)
  have g4 : decide (256 < nx) = false := decide_eq_false (by omega)
  have d4 : decide ((256 : Int) < (nx : Int)) = false := decide_eq_false (by omega)
  have d5 : decide ((256 : Int) < (nq : Int) + na + nn + nx) = false := decide_eq_false (by omega)
  clear hsumE hsum
  go_enter Try.func18, Try.ntmps18
  go_wp2_with fail
  go_loopw [3] (fun i wr => ∃ j : Nat, i = .int .i64 j ∧ j ≤ nq ∧ Hid (Below (g + 1) wa wr) ∧ Hid (∀ i (hi : i < M.qs.length), i < j → isN (M.qs[i]).name = true)) (fun i _ => nq - (intOf i).toNat)
  case atStart => exact ⟨0, rfl, Nat.zero_le _, by (show Below _ _ _; exact Below.refl _ _), fun i hi h => absurd h (Nat.not_lt_zero _)⟩
  case round =>
    obtain ⟨j, rfl, hj, hW, hN⟩ := hrel
    have hgl : g < g + 1 := Nat.lt_succ_self _
    have q2 := (hW.out.cell (p := ⟨g, 2, none⟩) hgl).trans k2
    have HGR : Hid (g + 1 ≤ wr.heap.size) := by have := hW.out.size; rw [HSA.out] at this; exact this
    by_cases hlt : j < nq
    · have hjl : j < M.qs.length := by rw [hv.out.eq]; exact hlt
      obtain ⟨b, off, rfl, hbl, p0, p1, p2⟩ := (HVA.out.at_.q.on (hW.out.mono (by omega)) (Nat.le_refl _)).qn hjl
      have hqn := hf.out.qs _ (List.getElem_mem hjl)
      obtain ⟨QQ, hQQ⟩ : ∃ Q, M.qs[j]'hjl = Q := ⟨_, rfl⟩
      rw [hQQ] at p0 p1 p2 hqn
      obtain ⟨x, hx⟩ : ∃ x, mk QQ.name = x := ⟨_, rfl⟩
      obtain ⟨bb, hbb⟩ : ∃ q, isN QQ.name = q := ⟨_, rfl⟩
      have hxs : x.size ≤ maxLen := by rw [← hx, mk_size]; exact hqn.1
      have hxN : isN x.data.toList = bb := by rw [← hx, mk_list]; exact hbb
      have HIS := Lib.hid (fun w => refIs_w x bb w hxs hxN)
      rw [hx] at p0
      generalize QQ.kind = qk at *
      generalize QQ.cls = qc at *
      cases bb with
      | true =>
        have HN2 : Hid (∀ i (hi : i < M.qs.length), i < j + 1 → isN (M.qs[i]).name = true) := fun i hi h => by
          by_cases h2 : i < j
          · exact hN.out i hi h2
          · obtain rfl : i = j := by omega
            rw [hQQ]; exact hbb
        clear hx hbb hxN hQQ hqn hN hjl
        go_wp2_with fail
        refine (HIS.out _).mono ?_
        rintro e w2 ⟨rfl, hB2⟩
        have HW2 : Hid (Below (g + 1) wa w2) := hW.out.trans (hB2.mono HGR.out)
        clear hB2
        clear hW p0 p1 p2 q2
        go_wp2_with fail
        go_roundw
        case rel => exact ⟨j + 1, by go_num, by omega, HW2, HN2⟩
        case measure => simp [intOf]; omega
      | false =>
        have hE40 : Hid (E = 40) := by
          show _ = _
          rw [← hE2.out, if_pos (qs_any hjl (by rw [hQQ, badName, hbb]; rfl))]
        clear hx hbb hxN hQQ hqn hN hjl
        go_wp2_with fail
        refine (HIS.out _).mono ?_
        rintro e w2 ⟨rfl, hB2⟩
        have HW2 : Hid (Below g w w2) := HBA.out.trans ((hW.out.trans (hB2.mono HGR.out)).mono (Nat.le_succ _))
        clear hB2
        clear hW p0 p1 p2 q2
        go_wp2_with fail
        go_ret
        rw [hE40.out]
        exact ⟨rfl, HW2.out⟩
    · have HQA : Hid (∀ q ∈ M.qs, isN q.name = true) := fun q hq => by
        obtain ⟨i, hi, rfl⟩ := List.getElem_of_mem hq
        exact hN.out i hi (by rw [hv.out.eq] at hi; omega)
      have hE3 : Hid (firstE (recsM M) = E) := by
        show _ = _
        rw [← hE2.out, qs_all (fun i hi => hN.out i hi (by rw [hv.out.eq] at hi; omega))]
        rfl
      have q0 := (hW.out.cell (p := ⟨g, 0, none⟩) hgl).trans k0
      have q1 := (hW.out.cell (p := ⟨g, 1, none⟩) hgl).trans k1
      have q3 := (hW.out.cell (p := ⟨g, 3, none⟩) hgl).trans k3
      have q4 := (hW.out.cell (p := ⟨g, 4, none⟩) hgl).trans k4
      have q5 := (hW.out.cell (p := ⟨g, 5, none⟩) hgl).trans k5
      have hjn : ¬ ((j : Int) < (nq : Int)) := by omega
      clear hlt hN hE2
      go_wp2_with fail
      refine (HRC.out wr hW.out HGR.out).mono ?_
      rintro e w2 ⟨Ar, cr, he, hO, hB2⟩
      have hall := HVA.out.all
      obtain ⟨ZZ, hZZ⟩ : ∃ Z, Za ++ Zn ++ Zx = Z := ⟨_, rfl⟩
      obtain ⟨nz, hnz⟩ : ∃ n, na + nn + nx = n := ⟨_, rfl⟩
      rw [hZZ] at hall hO
      rw [hnz] at hall hO he
      subst he
      obtain ⟨Ar', cr', ev, hcell⟩ := cells_own hO
      injection ev with ev1 _ _
      rw [← ev1] at hcell
      clear ev1
      have HCE := Lib.hid hcell
      have HALL := Lib.hid hall
      have HW2 : Hid (Below (g + 1) wa w2) := hW.out.trans (hB2.mono HGR.out)
      have hnz2 : nz ≤ 3000 := by omega
      obtain ⟨g2, hg2⟩ : ∃ n, w2.heap.size = n := ⟨_, rfl⟩
      have HG2 := Lib.hid hg2
      have HGG2 : Hid (g + 1 ≤ g2) := by have := HW2.out.size; rw [HSA.out, hg2] at this; exact this
      rw [hg2] at HCE
      clear hO hB2 hW hall hcell q0 q1 q2 q3 q4 q5 hZZ hnz hg2
      go_wp2_with fail
      go_loopw [5] (fun i ws => ∃ k : Nat, i = .int .i64 k ∧ k ≤ nz ∧ Hid (Below g2 w2 ws) ∧ Hid (firstE ((recsM M).drop k) = E)) (fun i _ => nz - (intOf i).toNat)
      case atStart => exact ⟨0, rfl, Nat.zero_le _, Below.refl _ _, hE3⟩
      case round =>
        obtain ⟨k, rfl, hk, hV, hF⟩ := hrel
        have HGV : Hid (g2 ≤ wr.heap.size) := by have := hV.out.size; rw [HG2.out] at this; exact this
        by_cases hlk : k < nz
        · have hkz : k < ZZ.length := by rw [HALL.out.2.2]; exact hlk
          have hz1 : ZAt wr B ZZ := HALL.out.2.1.on ((HW2.out.mono (by have := hB; omega)).trans (hV.out.mono (by have := HGG2.out; omega))) (Nat.le_refl _)
          obtain ⟨br, off, B1, e1, B2, e2, B3, e3, rfl, hbr, hat, p0, p1, p2, p3, p4, p5, p6⟩ := recs_get (HCE.out.on hV.out (Nat.le_refl _)) (hz1.on (Below.refl _ _) (show B ≤ g2 by have := HGG2.out; omega)) hkz
          obtain ⟨hkM, hkR⟩ := get_map HALL.out.1 hkz
          have hsm := (hf.out.recs HQA.out _ (List.getElem_mem hkM)).1
          have hFk := hF.out
          rw [firstE_drop hkM] at hFk
          rw [← hkR] at hsm hFk
          obtain ⟨RR, hRR⟩ : ∃ R, (ZZ[k]'hkz).1 = R := ⟨_, rfl⟩
          rw [hRR] at hat p0 p1 p2 p3 p4 p5 p6 hsm hFk
          obtain ⟨xn, hxn⟩ : ∃ x, mk RR.name = x := ⟨_, rfl⟩
          obtain ⟨rk, hrk⟩ : ∃ n, RR.kind = n := ⟨_, rfl⟩
          obtain ⟨rc, hrc⟩ : ∃ n, RR.cls = n := ⟨_, rfl⟩
          obtain ⟨rt, hrt⟩ : ∃ n, RR.ttl = n := ⟨_, rfl⟩
          obtain ⟨l1, hl1⟩ : ∃ n, RR.names.length = n := ⟨_, rfl⟩
          obtain ⟨l2, hl2⟩ : ∃ n, RR.nums.length = n := ⟨_, rfl⟩
          obtain ⟨l3, hl3⟩ : ∃ n, RR.texts.length = n := ⟨_, rfl⟩
          obtain ⟨ck, hck⟩ : ∃ n, checkE RR = n := ⟨_, rfl⟩
          rw [hxn] at p0
          rw [hrk] at p1
          rw [hrc] at p2
          rw [hrt] at p3
          rw [hl1] at p4
          rw [hl2] at p5
          rw [hl3] at p6
          rw [hxn, hrk, hrc, hrt, hl1, hl2, hl3] at hat
          rw [hck] at hFk
          have HCK := Lib.hid (fun W (hW : Below wr.heap.size wr W) => refCheck_is RR xn rk rc rt B1 l1 e1 B2 l2 e2 B3 l3 e3 ck W (hat.on (hW.mono HGV.out) (Nat.le_trans HGV.out hW.size)) hsm hck)
          have HB9 : Hid (Below wr.heap.size wr wr) := Below.refl _ _
          clear hRR hxn hrk hrc hrt hl1 hl2 hl3 hat hsm hkR hkM hck hz1
          by_cases hc0 : ck = 0
          · subst hc0
            rw [if_pos rfl] at hFk
            have HFK := Lib.hid hFk
            clear hFk
            go_wp2_with fail
            refine (HCK.out _ HB9.out).mono ?_
            rintro e w5 ⟨rfl, hB5⟩
            have HV5 : Hid (Below g2 w2 w5) := hV.out.trans ((HB9.out.trans (hB5.mono HB9.out.size)).mono HGV.out)
            clear hB5 hV HCK p0 p1 p2 p3 p4 p5 p6 hF HB9
            go_wp2_with fail
            go_roundw
            case rel => exact ⟨k + 1, by go_num, by omega, HV5, HFK⟩
            case measure => simp [intOf]; omega
          · rw [if_neg hc0] at hFk
            subst hFk
            have hcz : ((ck : Int) != 0) = true := bne_iff_ne.2 (by omega)
            clear hF
            go_wp2_with fail
            refine (HCK.out _ HB9.out).mono ?_
            rintro e w5 ⟨rfl, hB5⟩
            have HV5 : Hid (Below g w w5) := HBA.out.trans ((HW2.out.mono (Nat.le_succ _)).trans ((hV.out.trans ((HB9.out.trans (hB5.mono HB9.out.size)).mono HGV.out)).mono (by have := HGG2.out; omega)))
            clear hB5 hV HCK p0 p1 p2 p3 p4 p5 p6 HB9
            go_wp2_with fail
            go_ret
            exact ⟨rfl, HV5.out⟩
        · have hE0 : Hid (E = 0) := by
            show _ = _
            have hl := HALL.out.1
            have hl2 : (recsM M).length = nz := by rw [← hl, List.length_map]; exact HALL.out.2.2
            rw [← hF.out, List.drop_eq_nil_of_le (by omega)]
            rfl
          have HV5 : Hid (Below g w wr) := HBA.out.trans ((HW2.out.mono (Nat.le_succ _)).trans (hV.out.mono (by have := HGG2.out; omega)))
          have hkn : ¬ ((k : Int) < (nz : Int)) := by omega
          clear hlk hF hV
          go_wp2_with fail
          go_ret
          rw [hE0.out]
          exact ⟨rfl, HV5.out⟩
end Go.Proofs.Ytpmmjmnleoicjaa

/- The contracts of the document's find and Name of a message that is written. For names that are right, texts of at most 900000 bytes. -/
namespace Go.Proofs.Ytpmmjmnleoicjaa
open Go.RowKit Bytes NmMath WrMath NameMath
set_option linter.unusedVariables false
set_option linter.unusedSimpArgs false

theorem info_rest : (Try.prog.info? 119).map (fun i => (i.zero, i.size, i.bytes)) = some (some (.agg #[.string ⟨#[]⟩, .int .i64 0]), 2, 24) := by kernel_rfl
/-- What is known, as cells. -/
def restV (y : List UInt8 × Nat) : List Value := [.string (mk y.1), .int .i64 y.2]
def restCs (K : Known) : List Value := K.flatMap restV
theorem restCs_snoc (K : Known) (y : List UInt8 × Nat) : restCs (K ++ [y]) = restCs K ++ restV y := by unfold restCs; rw [List.flatMap_append]; simp
theorem restCs_at {K : Known} : ∀ {k j : Nat} (h : k < K.length), j < 2 → (restCs K)[k * 2 + j]? = (restV (K[k]))[j]? := by
  induction K with
  | nil => intro k j h; cases h
  | cons q K ih =>
    intro k j h hj
    have e : restCs (q :: K) = restV q ++ restCs K := rfl
    have hl : (restV q).length = 2 := rfl
    rw [e]
    cases k with
    | zero => rw [List.getElem?_append_left (by rw [hl]; omega)]; simp
    | succ k =>
      rw [List.getElem?_append_right (by rw [hl]; omega), hl, show (k + 1) * 2 + j - 2 = k * 2 + j by omega, ih (by simpa using h) hj]
      simp
theorem rest_get {w : World} {B : Nat} {A : Option Addr} {K : Known} (h : CellsAt w B A (restCs K)) {k : Nat} (hk : k < K.length) : ∃ b off, A = some ⟨b, off, none⟩ ∧ w.cell? ⟨b, off + k * 2, none⟩ = some (.string (mk (K[k]).1)) ∧ w.cell? ⟨b, off + k * 2 + 1, none⟩ = some (.int .i64 (K[k]).2) := by
  have e := fun j (hj : j < 2) => restCs_at (K := K) hk hj
  obtain ⟨b, off, rfl, hl, hc⟩ := h.get (e 0 (by decide))
  exact ⟨b, off, rfl, hc (k * 2) _ (e 0 (by decide)), hc (k * 2 + 1) _ (e 1 (by decide))⟩
/-- The place of a rest, as the document's find tells it. -/
def placeO : Option Nat → Int
  | some p => p
  | none => -1
theorem fnd_drop {K : Known} {k : Nat} (hk : k < K.length) (s : List UInt8) : fnd (K.drop k) s = if (K[k]).1 = s then some (K[k]).2 else fnd (K.drop (k + 1)) s := by
  rw [List.drop_eq_getElem_cons hk]
  rfl
set_option maxHeartbeats 2000000 in
set_option maxRecDepth 100000 in
theorem refFind_is (A : Option Addr) (c n B : Nat) (K : Known) (s : ByteArray) (w : World) (hc : CellsAt w B A (restCs K)) (hn0 : Hid (K.length = n)) (hn : n ≤ 2000000) :
    Calls Try.prog 87 #[.slice A n c, .string s] w fun e w' => e = .returned (.int .i64 (placeO (fnd K s.data.toList))) ∧ w = w' := by
  obtain ⟨q, hq⟩ : ∃ q, fnd K s.data.toList = q := ⟨_, rfl⟩
  rw [hq]
  have HQ := Lib.hid hq
  have HC := Lib.hid hc
  clear hq hc
  go_enter Try.func87, Try.ntmps87
  go_wp2_with fail
  go_loop [5] (fun i => ∃ k : Nat, k ≤ n ∧ i = .int .i64 k ∧ Hid (fnd (K.drop k) s.data.toList = q)) (fun i => n - (intOf i).toNat)
  case atStart => exact ⟨0, Nat.zero_le _, rfl, HQ⟩
  case round =>
    obtain ⟨k, hk, rfl, hF⟩ := hrel
    by_cases hlt : k < n
    · have hkl : k < K.length := by rw [hn0.out]; exact hlt
      obtain ⟨b, off, rfl, p0, p1⟩ := rest_get HC.out hkl
      have hd := fnd_drop hkl s.data.toList
      rw [hF.out] at hd
      obtain ⟨y, hy⟩ : ∃ y, (K[k]'hkl) = y := ⟨_, rfl⟩
      rw [hy] at hd p0 p1
      obtain ⟨l, p⟩ := y
      obtain ⟨x, hx⟩ : ∃ x, mk l = x := ⟨_, rfl⟩
      simp only at hd p0 p1
      rw [hx] at p0
      by_cases he : l = s.data.toList
      · have hq2 : q = some p := by rw [hd, if_pos he]
        have hb : (x.toList == s.toList) = true := by rw [eq_toList]; exact decide_eq_true (by rw [← hx, he]; exact mk_data s)
        have HQ2 := Lib.hid hq2
        clear hy hd hx he hq2 hF hkl
        go_wp2_with fail
        go_ret
        exact ⟨by rw [HQ2.out]; rfl, rfl⟩
      · have hF2 : Hid (fnd (K.drop (k + 1)) s.data.toList = q) := by show _ = _; rw [hd, if_neg he]
        have hb : (x.toList == s.toList) = false := ne_toList (fun e => he (by rw [← e, ← hx, mk_list]))
        clear hy hd hx he hF hkl
        go_wp2_with fail
        go_round
        case rel => exact ⟨k + 1, by omega, by go_num, hF2⟩
        case measure => simp [intOf]; omega
    · have hq2 : Hid (q = none) := by
        show _ = _
        rw [← hF.out, List.drop_of_length_le (by rw [hn0.out]; omega)]
        rfl
      go_wp2_with fail
      go_ret
      exact ⟨by rw [hq2.out]; rfl, rfl⟩
/-- Blocks that aren't of rests stand. -/
def Oth (w w' : World) : Prop := ∀ (i : Nat) (cs : Array Value) (t : TypeId) (fz : Nat × Nat), w.heap[i]? = some (Obj.cells cs t fz) → t ≠ 119 → w'.heap[i]? = some (Obj.cells cs t fz)
theorem Oth.refl (w : World) : Oth w w := fun _ _ _ _ h _ => h
theorem Oth.trans {a b c : World} (h : Oth a b) (k : Oth b c) : Oth a c := fun i cs t fz hi ht => k i cs t fz (h i cs t fz hi ht) ht
theorem heap_lt {w : World} {i : Nat} {o : Obj} (h : w.heap[i]? = some o) : i < w.heap.size := by
  rcases Nat.lt_or_ge i w.heap.size with hlt | hge
  · exact hlt
  · rw [Array.getElem?_eq_none hge] at h; cases h
theorem oth_below {w w' : World} (h : Below w.heap.size w w') : Oth w w' := fun i cs t fz hi _ => (h.block i (heap_lt hi)).trans hi
theorem oth_alloc (w : World) (o : Obj) : Oth w (w.alloc o) := oth_below ((Below.refl _ _).alloc (Nat.le_refl _) o)
theorem oth_grown {w w' : World} {g n : Nat} {v : Value} {xs : List Value} (h : w.ownsRow g 119 2 v n xs) (hg : w.grownBy w' v.ownBlock) : Oth w w' := fun i cs t fz hi ht => by
  refine (hg.block i (heap_lt hi) fun e => ?_).trans hi
  obtain ⟨hl, ⟨h0, _⟩ | ⟨bb, cap, cur, e2, hbb, hh, h2⟩⟩ := h
  · rw [h0] at e; cases e
  · rw [e2] at e
    injection e with e
    subst e
    rw [hi] at hh
    injection hh with hh
    injection hh with _ hh _
    exact ht hh
/-- A name behind some bytes came back, with what is known then. -/
def NameW (S : Wr) (g : Nat) (w : World) (e : Ending) (w' : World) : Prop :=
  ∃ (o : ByteArray) (v : Value), e = .returned (.tuple #[.string o, v]) ∧ o.data.toList = S.1 ∧ w'.ownsRow g 119 2 v S.2.length (restCs S.2) ∧ Below g w w' ∧ Oth w w'
theorem learn_len (out : List UInt8) (K : Known) (r : List UInt8) : (learn out K r).length ≤ K.length + 1 := by
  unfold learn
  split
  · rw [List.length_append]; exact Nat.le_refl _
  · omega
theorem learn_lt {out : List UInt8} {K : Known} {r : List UInt8} (h : ∀ y ∈ K, y.2 < 16384) : ∀ y ∈ learn out K r, y.2 < 16384 := fun y hy => by
  unfold learn at hy
  split at hy
  · next hlt =>
    rcases List.mem_append.1 hy with hy | hy
    · exact h y hy
    · rw [List.mem_singleton] at hy; subst hy; exact hlt
  · exact h y hy
theorem two_of {q : Nat} (h : q < 16384) : ∃ b1 b2 : UInt8, beTail (49152 + q) 2 = [b1, b2] ∧ b1.toNat = 192 + q / 256 ∧ b2.toNat = q % 256 := by
  refine ⟨_, _, rfl, ?_, ?_⟩
  · rw [UInt8.toNat_ofNat', Nat.pow_one]; omega
  · rw [UInt8.toNat_ofNat', Nat.pow_zero, Nat.div_one]; omega
set_option maxHeartbeats 8000000 in
set_option maxRecDepth 100000 in
theorem refNameW_is (x s : ByteArray) (K : Known) (g n : Nat) (v : Value) (S : Wr) (w : World) (hO : Hid (w.ownsRow g 119 2 v n (restCs K))) (hn : Hid (K.length = n)) (hg : Hid (g ≤ w.heap.size)) (hx : Hid (Rests x.data.toList)) (hxs : x.size ≤ 255) (hs : s.size ≤ 900000) (hnb : n ≤ 900000) (hK : Hid (∀ y ∈ K, y.2 < 16384)) (hS : Hid (nameW x.data.toList (s.data.toList, K) = S)) :
    Calls Try.prog 46 #[.string s, v, .string x] w (NameW S g w) := by
  obtain ⟨i0, hi, hz0, hz1, hz2⟩ := info_parts info_rest
  have HI := Lib.hid hi
  have HZ0 := Lib.hid hz0
  have HZ1 := Lib.hid hz1
  have HZ2 := Lib.hid hz2
  have SZ := Lib.hid (Lib.size_eq x)
  have SS := Lib.hid (Lib.size_eq s)
  have HS0 : Hid (wName (s.data.toList ++ x.data.toList.take 0) K (x.data.toList.drop 0) = S) := by
    show _ = _
    rw [List.take_zero, List.append_nil, List.drop_zero]
    exact hS.out
  have HX0 : Hid (Rests (x.data.toList.drop 0)) := hx
  have HB0 : Hid (Below g w w) := Below.refl g w
  have HT0 : Hid (Oth w w) := Oth.refl w
  have HN0 : Hid (w.ownsRow g 119 2 v K.length (restCs K)) := by show World.ownsRow _ _ _ _ _ _ _; rw [hn.out]; exact hO.out
  have HM0 : Hid (K.length ≤ n + 0) := Nat.le_of_eq hn.out
  have hx1 : 1 ≤ x.size := by rw [SZ.out]; exact rests_pos hx.out
  clear hi hz0 hz1 hz2 hx hS hO hn
  unfold NameW
  go_enter Try.func46, Try.ntmps46
  go_wp2_with fail
  go_loopw [1, 8] (fun u i wr => ∃ (k : Nat) (o : Value) (L : Known), k ≤ x.size ∧ u = o ∧ i = .int .i64 k ∧ Hid (wName (s.data.toList ++ x.data.toList.take k) L (x.data.toList.drop k) = S) ∧ Hid (Rests (x.data.toList.drop k)) ∧ Hid (wr.ownsRow g 119 2 o L.length (restCs L)) ∧ Hid (L.length ≤ n + k) ∧ Hid (∀ y ∈ L, y.2 < 16384) ∧ Hid (Below g w wr) ∧ Hid (Oth w wr)) (fun _ i _ => x.size - (intOf i).toNat)
  case atStart => exact ⟨0, _, K, Nat.zero_le _, rfl, rfl, HS0, HX0, HN0, HM0, hK, HB0, HT0⟩
  case round =>
    obtain ⟨k, o, L, hk, rfl, rfl, hR, hX, hO, hM, hL, hB, hT⟩ := hrel
    have HGW : Hid (g ≤ wr.heap.size) := Nat.le_trans hg.out hB.out.size
    obtain ⟨m, hm⟩ : ∃ m, L.length = m := ⟨_, rfl⟩
    have HM := Lib.hid hm
    have hmb : m ≤ 900255 := by have := hM.out; omega
    rw [hm] at hO
    obtain ⟨oA, oc, e0, hcs⟩ := cells_own hO.out
    subst e0
    have HCS := Lib.hid hcs
    have hlen : (x.data.toList.drop k).length = x.size - k := by rw [List.length_drop, ← SZ.out]
    clear hm hcs
    rcases rests_cases hX.out with he | ⟨e1, e2, e3, e4⟩
    · -- the root
      rw [he] at hlen
      have hk1 : k + 1 = x.size := by simp at hlen; omega
      have HO1 : Hid ((s ++ x).data.toList = S.1 ∧ L = S.2) := by
        have h := hR.out
        rw [he, wName_root (by rfl)] at h
        rw [← h]
        refine ⟨?_, rfl⟩
        rw [cat_list, List.append_assoc, ← he, List.take_append_drop]
      have hns : ¬ ((k : Int) < (x.size : Int) - 1) := by omega
      clear he hlen hR hX
      go_wp2_with fail
      go_ret2
      refine ⟨_, _, rfl, HO1.out.1, ?_, hB.out, hT.out⟩
      rw [← HO1.out.2, HM.out]
      exact hO.out
    · rw [hlen] at e3
      have hkx : k < x.size := by omega
      obtain ⟨r, hr⟩ : ∃ r, x.extract k x.size = r := ⟨_, rfl⟩
      have hrl : r.data.toList = x.data.toList.drop k := by rw [← hr, extract_list, List.take_of_length_le (by rw [← SZ.out]; exact Nat.le_refl _)]
      have HRL := Lib.hid hrl
      have HR := Lib.hid hr
      obtain ⟨c, hc⟩ : ∃ c, x[k]'hkx = c := ⟨_, rfl⟩
      have hcb : bt (x.data.toList.drop k) 0 = c.toNat := by unfold bt; rw [drop_cons (show k < x.data.toList.length by rw [← SZ.out]; exact hkx), List.getD_cons_zero, getD_byte hkx, hc]
      have HCB := Lib.hid hcb
      rw [hcb] at e1 e2 e3 e4
      have HRX := Lib.hid e4
      have hlt : (k : Int) < (x.size : Int) - 1 := by omega
      have HF := Lib.hid (refFind_is oA oc m wr.heap.size L r wr HCS.out HM (by omega))
      obtain ⟨F, hF⟩ : ∃ F, fnd L r.data.toList = F := ⟨_, rfl⟩
      rw [hF] at HF
      have HFD := Lib.hid hF
      clear hF hcb e4 hlen hr hrl hX
      cases F with
      | some p =>
        have hpl : p < 16384 := hL.out _ (fnd_mem HFD.out)
        obtain ⟨b1, b2, ht, hb1, hb2⟩ := two_of hpl
        have HS2 : Hid (S.1 = (s.data.toList ++ x.data.toList.take k) ++ [b1, b2] ∧ L = S.2) := by
          have h := hR.out
          rw [wName_known (by rw [HCB.out]; exact e1) (by rw [← HRL.out]; exact HFD.out), ht] at h
          rw [← h]
          exact ⟨rfl, rfl⟩
        obtain ⟨q1, hq1⟩ : ∃ q, p / 256 = q := ⟨_, rfl⟩
        obtain ⟨q2, hq2⟩ : ∃ q, p % 256 = q := ⟨_, rfl⟩
        rw [hq1] at hb1
        rw [hq2] at hb2
        have hpi : placeO (some p) = (p : Int) := rfl
        rw [hpi] at HF
        have hge : (0 : Int) ≤ (p : Int) := by omega
        have fge : decide ((0 : Int) ≤ (p : Int)) = true := decide_eq_true hge
        have hqi1 : (p : Int) / 256 = (q1 : Int) := by omega
        have hqi2 : (p : Int) % 256 = (q2 : Int) := by omega
        have hq1b : q1 ≤ 63 := by omega
        have hq2b : q2 ≤ 255 := by omega
        obtain ⟨t1, ht1⟩ : ∃ t, x.extract 0 k = t := ⟨_, rfl⟩
        have ht1l : t1.data.toList = x.data.toList.take k := by rw [← ht1, extract_list]; rfl
        have hz1 : t1.size = k := by rw [Lib.size_eq, ht1l, List.length_take, ← SZ.out]; omega
        have hc2 : (convert 74 9 (.slice (some ⟨wr.heap.size, 0, none⟩) 2 2)).run Try.prog (wr.alloc (.cells #[.int .u8 (192 + (q1 : Int)), .int .u8 (q2 : Int)] 5)).drew = .ok (.string (mk [b1, b2])) (wr.alloc (.cells #[.int .u8 (192 + (q1 : Int)), .int .u8 (q2 : Int)] 5)).drew := conv_new wr.drew [b1, b2] #[.int .u8 (192 + (q1 : Int)), .int .u8 (q2 : Int)] 2 (by show _ = [Value.int .u8 (b1.toNat : Int), .int .u8 (b2.toNat : Int)]; rw [hb1, hb2]; rfl) rfl
        have hqs := mk_size [b1, b2]
        obtain ⟨t2, ht2⟩ : ∃ t, mk [b1, b2] = t := ⟨_, rfl⟩
        rw [ht2] at hc2 hqs
        have hz2' : t2.size = 2 := hqs
        have HS3 : Hid ((s ++ t1 ++ t2).data.toList = S.1) := by show _ = _; rw [cat_list, cat_list, ht1l, ← ht2, mk_list]; exact HS2.out.1.symm
        have HT1 := Lib.hid ht1
        clear ht hb1 hb2 hq1 hq2 hpi ht1 ht1l ht2 hqs hR
        have hnn : ¬ ((p : Int) < 0) := by omega
        go_wp2_with fail
        rw [HR.out]
        refine HF.out.mono ?_
        rintro e w' ⟨rfl, rfl⟩
        go_wp2_with fail
        go_region
        go_wp2_with fail
        go_ret2
        refine ⟨_, _, rfl, ?_, ?_, ?_, ?_⟩
        · rw [HT1.out]; exact HS3.out
        · rw [← HS2.out.2, HM.out]
          exact (hO.out.alloc _).drew
        · exact (hB.out.alloc HGW.out _).drew
        · exact hT.out.trans (oth_alloc wr _)
      | none =>
        obtain ⟨q, hq⟩ : ∃ q, 1 + c.toNat = q := ⟨_, rfl⟩
        rw [hq] at e3
        have hR2 : wName (s.data.toList ++ x.data.toList.take (k + q)) (learn (s.data.toList ++ x.data.toList.take k) L (x.data.toList.drop k)) (x.data.toList.drop (k + q)) = S := by
          have h := wName_new (out := s.data.toList ++ x.data.toList.take k) (rest := x.data.toList.drop k) (K := L) (by rw [HCB.out]; exact e1) (by rw [← HRL.out]; exact HFD.out)
          rw [HCB.out, hq, List.drop_drop, List.append_assoc, ← List.take_add] at h
          rw [← hR.out, h]
        have HX2 : Hid (Rests (x.data.toList.drop (k + q))) := by
          have h := HRX.out
          rw [hq, List.drop_drop] at h
          exact h
        have hpi : placeO none = -1 := rfl
        rw [hpi] at HF
        have hct := c.toNat_lt
        have hqb : 1 ≤ q ∧ q ≤ 64 := by omega
        have hqi : (k : Int) + (c.toNat : Int) + 1 = ((k + q : Nat) : Int) := by omega
        have hkq : k + q ≤ x.size := by omega
        have hol : (s.data.toList ++ x.data.toList.take k).length = s.size + k := by rw [List.length_append, List.length_take, ← SZ.out, ← SS.out]; omega
        have HLL : Hid ((learn (s.data.toList ++ x.data.toList.take k) L (x.data.toList.drop k)).length ≤ n + (k + q)) := by
          have h1 := learn_len (s.data.toList ++ x.data.toList.take k) L (x.data.toList.drop k)
          have h2 := hM.out
          show _ ≤ _
          omega
        have HLT : Hid (∀ y ∈ learn (s.data.toList ++ x.data.toList.take k) L (x.data.toList.drop k), y.2 < 16384) := learn_lt hL.out
        have HR2 := Lib.hid hR2
        have HQI := Lib.hid hqi
        clear hR hR2 hpi hq hqi
        by_cases hlt2 : s.size + k < 16384
        · have hle : learn (s.data.toList ++ x.data.toList.take k) L (x.data.toList.drop k) = L ++ [(x.data.toList.drop k, s.size + k)] := by
            unfold learn
            rw [hol, if_pos hlt2]
          have HLE := Lib.hid hle
          have hi2 : (s.size : Int) + (k : Int) < 16384 := by omega
          clear hle hol
          go_wp2_with fail
          rw [HR.out]
          refine HF.out.mono ?_
          rintro e w' ⟨rfl, rfl⟩
          go_wp2_with (at_builtin; refine wpList_append_own _ rfl _ _ 80 rfl g 119 i0 (.agg #[.string ⟨#[]⟩, .int .i64 0]) 2 24 Try.underlying80 HI.out HZ0.out HZ1.out HZ2.out rfl (by decide) _ _ _ rfl (hO.out.alloc _) ⟨wr.heap.size, 0, none⟩ 1 1 [.string r, .int .i64 ((s.size : Int) + (k : Int))] rfl rfl ?CAa ?CAb ?CAc ?CAd ?CAe ?_)
          case CAa =>
            intro j u hj
            match j, hj with
            | 0, hj => simp at hj; subst hj; simp [Addr.add]
            | 1, hj => simp at hj; subst hj; simp [Addr.add]
          case CAb =>
            intro u hu
            simp at hu
            rcases hu with rfl | rfl <;> rfl
          case CAc => unfold maxLen; omega
          case CAd => omega
          case CAe => have := HGW.out; simp; omega
          intro v' w9 hown hgrow _
          have E1 : Hid (w9.ownsRow g 119 2 v' (learn (s.data.toList ++ x.data.toList.take k) L (x.data.toList.drop k)).length (restCs (learn (s.data.toList ++ x.data.toList.take k) L (x.data.toList.drop k)))) := by
            show World.ownsRow _ _ _ _ _ _ _
            rw [HLE.out, restCs_snoc, List.length_append, HM.out]
            unfold restV
            rw [show mk (x.data.toList.drop k) = r by rw [← HRL.out]; exact mk_data r]
            exact hown
          have E3 : Hid (Below g w w9) := (hB.out.alloc (by have := HGW.out; omega) _).grown hgrow (by have := HGW.out; simp; omega) (fun k hk => (hO.out.lt k hk).1)
          have E4 : Hid (Oth w w9) := hT.out.trans ((oth_alloc wr _).trans (oth_grown (hO.out.alloc _) hgrow))
          clear hown hgrow
          go_wp2_with fail
          go_roundw
          case rel => exact ⟨k + q, v', _, hkq, rfl, by rw [← HQI.out], HR2, HX2, E1, HLL, HLT, E3, E4⟩
          case measure => have := HQI.out; simp [intOf]; omega
        · have hle : learn (s.data.toList ++ x.data.toList.take k) L (x.data.toList.drop k) = L := by
            unfold learn
            rw [hol, if_neg hlt2]
          have E1 : Hid (wr.ownsRow g 119 2 (.slice oA m oc) (learn (s.data.toList ++ x.data.toList.take k) L (x.data.toList.drop k)).length (restCs (learn (s.data.toList ++ x.data.toList.take k) L (x.data.toList.drop k)))) := by
            show World.ownsRow _ _ _ _ _ _ _
            rw [hle, HM.out]
            exact hO.out
          have hi2 : ¬ ((s.size : Int) + (k : Int) < 16384) := by omega
          clear hle hol
          go_wp2_with fail
          rw [HR.out]
          refine HF.out.mono ?_
          rintro e w' ⟨rfl, rfl⟩
          go_wp2_with fail
          go_roundw
          case rel => exact ⟨k + q, _, _, hkq, rfl, by rw [← HQI.out], HR2, HX2, E1, HLL, HLT, hB, hT⟩
          case measure => have := HQI.out; simp [intOf]; omega
end Go.Proofs.Ytpmmjmnleoicjaa

/- The contracts of the document's numbers and data of a record that is written. For records that are right, texts of at most 800000 bytes. -/
namespace Go.Proofs.Ytpmmjmnleoicjaa
open Go.RowKit Bytes Strs Nums WrMath NameMath RecMath
set_option linter.unusedVariables false
set_option linter.unusedSimpArgs false

def intCs (L : List Nat) : List Value := L.map fun (x : Nat) => Value.int .i64 ((x : Nat) : Int)
theorem two_len : ∀ {L : List (List UInt8)}, L.length = 2 → ∃ a b, L = [a, b]
  | [a, b], _ => ⟨a, b, rfl⟩
set_option maxHeartbeats 2000000 in
set_option maxRecDepth 100000 in
theorem refNumbers_is (A : Option Addr) (c n B : Nat) (L : List Nat) (s : ByteArray) (S : List UInt8) (w : World) (hc : CellsAt w B A (intCs L)) (hB : B ≤ w.heap.size) (hn0 : Hid (L.length = n)) (hn : n ≤ 10) (hs : s.size ≤ 900000) (hL : Hid (∀ x ∈ L, x ≤ 1000000000)) (hS : Hid (s.data.toList ++ numsL 2 L = S)) :
    Calls Try.prog 45 #[.string s, .slice A n c] w fun e w' => ∃ o : ByteArray, e = .returned (.string o) ∧ o.data.toList = S ∧ Below w.heap.size w w' := by
  have HC := Lib.hid hc
  have HS0 : Hid (s.data.toList ++ numsL 2 (L.drop 0) = S) := hS
  obtain ⟨g, hg⟩ : ∃ g, w.heap.size = g := ⟨_, rfl⟩
  rw [hg]
  rw [hg] at hB
  have HG := Lib.hid hg
  have HB0 : Hid (Below g w w) := Below.refl g w
  clear hc hS hg
  go_enter Try.func45, Try.ntmps45
  go_wp2_with fail
  go_loopw [0, 5] (fun u i wr => ∃ (k : Nat) (t : ByteArray), k ≤ n ∧ i = .int .i64 k ∧ u = .string t ∧ t.size ≤ 900000 + 2 * k ∧ Hid (t.data.toList ++ numsL 2 (L.drop k) = S) ∧ Hid (Below g w wr)) (fun _ i _ => n - (intOf i).toNat)
  case atStart => exact ⟨0, s, Nat.zero_le _, rfl, rfl, by omega, HS0, HB0⟩
  case round =>
    obtain ⟨k, t, hk, rfl, rfl, ht, hF, hV⟩ := hrel
    by_cases hlt : k < n
    · have hkl : k < L.length := by rw [hn0.out]; exact hlt
      have hat : (intCs L)[k]? = some (.int .i64 ((L.getD k 0 : Nat) : Int)) := by
        unfold intCs
        rw [List.getElem?_map, List.getElem?_eq_getElem hkl, List.getD_eq_getElem?_getD, List.getElem?_eq_getElem hkl]
        rfl
      obtain ⟨b, off, rfl, hbl, hcs⟩ := (HC.out.on (hV.out.mono hB) (Nat.le_refl _)).get hat
      have p0 := hcs k _ hat
      have hF2 := hF.out
      rw [numsL_drop 2 hkl, ← List.append_assoc] at hF2
      have hxl : L.getD k 0 ≤ 1000000000 := by
        rw [List.getD_eq_getElem?_getD, List.getElem?_eq_getElem hkl]
        exact hL.out _ (List.getElem_mem hkl)
      obtain ⟨x, hx⟩ : ∃ x, L.getD k 0 = x := ⟨_, rfl⟩
      rw [hx] at hF2 p0 hxl
      obtain ⟨r, hr⟩ : ∃ r, mk (t.data.toList ++ beTail x 2) = r := ⟨_, rfl⟩
      have hrl : t.data.toList ++ beTail x 2 = r.data.toList := by rw [← hr, mk_list]
      have hrs : r.size ≤ 900000 + 2 * (k + 1) := by rw [Lib.size_eq, ← hrl, List.length_append, ← Lib.size_eq, beTail_length]; omega
      rw [hrl] at hF2
      have HF2 := Lib.hid hF2
      have HP := Lib.hid (refPut_is t r x 2 wr (by omega) (by decide) (by omega) hrl)
      have HSW : Hid (g ≤ wr.heap.size) := by have h := hV.out.size; rw [HG.out] at h; exact h
      clear hcs hat hF2 hx hr hrl hkl hF
      go_wp2_with fail
      refine HP.out.mono ?_
      rintro e w' ⟨rfl, hB2⟩
      have HV2 : Hid (Below g w w') := hV.out.trans (hB2.mono HSW.out)
      clear hB2 HP p0
      go_wp2_with fail
      go_roundw
      case rel => exact ⟨k + 1, r, by omega, by go_num, rfl, hrs, HF2, HV2⟩
      case measure => simp [intOf]; omega
    · have hE : Hid (t.data.toList = S) := by
        show _ = _
        have h := hF.out
        rw [List.drop_of_length_le (by rw [hn0.out]; omega)] at h
        simpa [numsL] using h
      clear hF
      go_wp2_with fail
      go_ret
      exact ⟨_, rfl, hE.out, hV.out⟩
def namesW (L : List (List UInt8)) (s : Wr) : Wr := L.foldl (fun s n => nameW n s) s
theorem namesW_drop {L : List (List UInt8)} {k : Nat} (hk : k < L.length) (s : Wr) : namesW (L.drop k) s = namesW (L.drop (k + 1)) (nameW (L.getD k []) s) := by
  rw [List.drop_eq_getElem_cons hk, List.getD_eq_getElem?_getD, List.getElem?_eq_getElem hk]
  rfl
theorem numsW_drop {L : List Nat} {k : Nat} (hk : k < L.length) (size : Nat) (s : Wr) : numsW size (L.drop k) s = numsW size (L.drop (k + 1)) (numW (L.getD k 0) size s) := by
  rw [List.drop_eq_getElem_cons hk, List.getD_eq_getElem?_getD, List.getElem?_eq_getElem hk, numsW_cons]
  rfl
def midW (R : Rec) (s : Wr) : Wr := if R.kind = 15 then numsW 2 R.nums s else s
def endW (R : Rec) (s : Wr) : Wr := if R.kind = 6 then numsW 4 R.nums s else s
theorem dataW_parts {R : Rec} (h : checkE R = 0) (hk : R.kind = 2 ∨ R.kind = 5 ∨ R.kind = 12 ∨ R.kind = 6 ∨ R.kind = 15) (s : Wr) : dataW R s = endW R (namesW R.names (midW R s)) := by
  obtain ⟨h1, h2, _⟩ := right_counts h
  unfold dataW endW midW
  rcases hk with e | e | e | e | e
  all_goals rw [e] at h1 h2 ⊢
  · obtain ⟨a, ha⟩ := List.length_eq_one_iff.1 h1; rw [ha]; rfl
  · obtain ⟨a, ha⟩ := List.length_eq_one_iff.1 h1; rw [ha]; rfl
  · obtain ⟨a, ha⟩ := List.length_eq_one_iff.1 h1; rw [ha]; rfl
  · obtain ⟨a, b, ha⟩ := two_len h1; rw [ha]; rfl
  · obtain ⟨a, ha⟩ := List.length_eq_one_iff.1 h1; rw [ha]; rfl
theorem inv_name {n : List UInt8} {s : Wr} (hn : Rests n) (h : Inv s) (hl : n.length ≤ 255) : Inv (nameW n s) ∧ (nameW n s).1.length ≤ s.1.length + 255 := by
  have hL := nameW_longer n hn s
  exact ⟨hL.inv h, by have := hL.len; omega⟩
theorem inv_num {s : Wr} (h : Inv s) (n size : Nat) : Inv (numW n size s) := (numW_longer n size s).inv h
set_option maxHeartbeats 8000000 in
set_option maxRecDepth 100000 in
theorem refData_2 (R : Rec) (x : ByteArray) (l t : Nat) (A1 : Option Addr) (n1 c1 : Nat) (A2 : Option Addr) (n2 c2 : Nat) (A3 : Option Addr) (n3 c3 : Nat) (s : ByteArray) (K : Known) (g n B : Nat) (v : Value) (S : Wr) (w : World) (hR : Hid (RecAt w B R x 2 l t A1 n1 A2 n2 A3 n3)) (hB : Hid (B ≤ g)) (hS : Hid (Small R)) (hE : Hid (checkE R = 0)) (hO : Hid (w.ownsRow g 119 2 v n (restCs K))) (hn : Hid (K.length = n)) (hg : Hid (g ≤ w.heap.size)) (hs : s.size ≤ 800000) (hI : Hid (Inv (s.data.toList, K))) (hD : Hid (dataW R (s.data.toList, K) = S)) :
    Calls Try.prog 48 #[.string s, v, .agg #[.string x, .int .u16 2, .int .u16 l, .int .u32 t, .slice A1 n1 c1, .slice A2 n2 c2, .slice A3 n3 c3]] w (NameW S g w) := by
  obtain ⟨d, hd⟩ : ∃ d, w.heap.size = d := ⟨_, rfl⟩
  obtain ⟨w1, hw1⟩ : ∃ u, w.alloc (.cells #[.string x, .int .u16 2, .int .u16 l, .int .u32 t, .slice A1 n1 c1, .slice A2 n2 c2, .slice A3 n3 c3] 60) = u := ⟨_, rfl⟩
  have HBX : Hid (w1.heap[d]? = some (.cells #[.string x, .int .u16 2, .int .u16 l, .int .u32 t, .slice A1 n1 c1, .slice A2 n2 c2, .slice A3 n3 c3] 60 (0, 0))) := by show _ = _; rw [← hw1, ← hd]; exact heap_alloc_new w _
  have hb1 : Below d w w1 := by rw [← hw1, ← hd]; exact (Below.refl _ _).alloc (Nat.le_refl _) _
  have hgd : g ≤ d := by have := hg.out; omega
  have HGD := Lib.hid hgd
  have HV1 : Hid (Below g w w1) := hb1.mono hgd
  have HT1 : Hid (Oth w w1) := by show Oth _ _; rw [← hw1]; exact oth_alloc w _
  have HO1 : Hid (w1.ownsRow g 119 2 v K.length (restCs K)) := by show World.ownsRow _ _ _ _ _ _ _; rw [← hw1, hn.out]; exact hO.out.alloc _
  have HRC : Hid (RecAt w1 B R x 2 l t A1 n1 A2 n2 A3 n3) := hR.out.on (HV1.out.mono hB.out) (Nat.le_refl _)
  have HS1 : Hid (w1.heap.size = d + 1) := by show _ = _; rw [← hw1, ← hd]; simp
  have HNM : Hid (∀ k, k < n1 → Rests (R.names.getD k []) ∧ (R.names.getD k []).length ≤ 255) := fun k hk => (right_names hE.out).2.2 k (by rw [hR.out.len1]; exact hk)
  have HW1 := Lib.hid hw1
  have hct := right_counts hE.out
  rw [hR.out.len1, hR.out.len2, hR.out.kind] at hct
  obtain rfl : n1 = 1 := hct.1
  obtain rfl : n2 = 0 := hct.2.1
  have HDP : Hid (endW R (namesW R.names (midW R (s.data.toList, K))) = S) := by show _ = _; rw [← dataW_parts hE.out (by rw [hR.out.kind]; decide)]; exact hD.out
  clear hct hb1 hw1 hgd hO hD
  unfold NameW
  go_enter Try.func48, Try.ntmps48
  go_upto_region 1 with fail
  rw [HW1.out]
  clear hd
  have z1 := cell_of_row _ _ 1 _ _ _ HBX.out
  have hmid : midW R (s.data.toList, K) = (s.data.toList, K) := by
    unfold midW
    rw [if_neg (by rw [HRC.out.kind]; decide)]
  have HI0 := hI
  have HES := HDP
  rw [hmid] at HES
  obtain ⟨S1, hS1⟩ : ∃ S1, namesW (R.names.drop 0) (s.data.toList, K) = S1 := ⟨_, rfl⟩
  have HN0 := Lib.hid hS1
  rw [show namesW R.names (s.data.toList, K) = S1 from hS1] at HES
  have HQS : s.size ≤ 800010 + 255 * 0 := by omega
  have HVW0 := HV1
  have HTW0 : Hid (Oth w1 w1) := Oth.refl _
  have HOW0 := HO1
  have HES0 : Hid (S1 = S) := by have h := HES.out; unfold endW at h; rw [if_neg (by rw [HRC.out.kind]; decide)] at h; exact h
  clear hmid hS1 HDP HES
  have HES := HES0
  go_wp2_with fail
  go_loopw [0, 1, 8] (fun u v i wr => ∃ (k : Nat) (q : ByteArray) (L : Known) (o : Value), k ≤ 1 ∧ i = .int .i64 k ∧ u = .string q ∧ v = o ∧ q.size ≤ 800010 + 255 * k ∧ Hid (namesW (R.names.drop k) (q.data.toList, L) = S1) ∧ Hid (Inv (q.data.toList, L)) ∧ Hid (wr.ownsRow g 119 2 o L.length (restCs L)) ∧ Hid (Below g w wr) ∧ Hid (Oth w1 wr)) (fun _ _ i _ => 1 - (intOf i).toNat)
  case atStart => exact ⟨0, _, K, _, by decide, rfl, rfl, rfl, HQS, HN0, HI0, HOW0, HVW0, HTW0⟩
  case round =>
    obtain ⟨k, q, L, o, hk, rfl, rfl, rfl, hq, hF, hI2, hO2, hV, hT⟩ := hrel
    obtain ⟨oA, oc, e0, _⟩ := cells_own hO2.out
    subst e0
    have HGW : Hid (g ≤ wr.heap.size) := Nat.le_trans hg.out hV.out.size
    have hbx := hT.out _ _ _ _ HBX.out (by decide)
    have y1 := cell_of_row _ _ 1 _ _ _ hbx
    have y4 := cell_of_row _ _ 4 _ _ _ hbx
    have y5 := cell_of_row _ _ 5 _ _ _ hbx
    clear hbx
    by_cases hlt : k < 1
    · have hkl : k < R.names.length := by rw [HRC.out.len1]; exact hlt
      obtain ⟨a, rfl, hab, hcell⟩ := (hR.out.rd1.on (hV.out.mono hB.out) (Nat.le_refl _)).get hkl
      obtain ⟨hr1, hr2⟩ := HNM.out k hlt
      have hF2 := hF.out
      rw [namesW_drop hkl] at hF2
      obtain ⟨y, hy⟩ : ∃ y, mk (R.names.getD k []) = y := ⟨_, rfl⟩
      have hyl : R.names.getD k [] = y.data.toList := by rw [← hy, mk_list]
      rw [hy] at hcell
      rw [hyl] at hF2 hr1 hr2
      have hys : y.size ≤ 255 := by rw [Lib.size_eq]; exact hr2
      have hin := inv_name hr1 hI2.out hr2
      obtain ⟨T, hT2⟩ : ∃ T, nameW y.data.toList (q.data.toList, L) = T := ⟨_, rfl⟩
      rw [hT2] at hF2 hin
      have hLn : L.length ≤ q.size := by have h := hI2.out.2; rw [← Lib.size_eq] at h; exact h
      have HCA := Lib.hid (refNameW_is y q L g L.length (.slice oA L.length oc) T wr hO2 rfl HGW.out hr1 hys (by omega) (by omega) hI2.out.1 hT2)
      have HF2 := Lib.hid hF2
      have HIN := Lib.hid hin
      have HQZ := Lib.hid (Lib.size_eq q)
      clear hF2 hin hT2 hy hyl hr1 hr2 hLn hkl hF
      go_wp2_with fail
      refine HCA.out.mono ?_
      rintro e w5 ⟨o', v', rfl, ho', hown', hbel', hoth'⟩
      have HT3 : Hid ((o'.data.toList, T.2) = T) := by show _ = _; rw [ho']
      have hos : o'.size ≤ 800010 + 255 * (k + 1) := by
        have h := HIN.out.2
        rw [← ho'] at h
        rw [← Lib.size_eq, ← Lib.size_eq] at h
        omega
      have E1 : Hid (namesW (R.names.drop (k + 1)) (o'.data.toList, T.2) = S1) := by show _ = _; rw [HT3.out]; exact HF2.out
      have E2 : Hid (Inv (o'.data.toList, T.2)) := by show Inv _; rw [HT3.out]; exact HIN.out.1
      have E3 : Hid (w5.ownsRow g 119 2 v' T.2.length (restCs T.2)) := hown'
      have E4 : Hid (Below g w w5) := hV.out.trans hbel'
      have E5 : Hid (Oth w1 w5) := hT.out.trans hoth'
      clear ho' hown' hbel' hoth' y1 y4 y5 hcell HCA
      go_wp2_with fail
      go_roundw
      case rel => exact ⟨k + 1, o', T.2, v', by omega, by go_num, rfl, rfl, hos, E1, E2, E3, E4, E5⟩
      case measure => simp [intOf]; omega
    · have hke : ¬ ((k : Int) < (1 : Int)) := by omega
      have HF3 : Hid ((q.data.toList, L) = S1) := by
        show _ = _
        have h := hF.out
        rw [List.drop_of_length_le (by rw [HRC.out.len1]; omega)] at h
        exact h
      clear hF
      go_wp2_with fail
      go_loop [0, 9] (fun u i => u = .string q ∧ i = .int .i64 0) (fun _ _ => 0)
      case atStart => exact ⟨rfl, rfl⟩
      case round =>
        obtain ⟨rfl, rfl⟩ := hrel
        go_wp2_with fail
        go_ret2
        refine ⟨q, _, rfl, ?_, ?_, hV.out, HT1.out.trans hT.out⟩
        · have h := HES.out; rw [← HF3.out] at h; rw [← h]
        · have h := HES.out; rw [← HF3.out] at h; rw [← h]; exact hO2.out
set_option maxHeartbeats 8000000 in
set_option maxRecDepth 100000 in
theorem refData_5 (R : Rec) (x : ByteArray) (l t : Nat) (A1 : Option Addr) (n1 c1 : Nat) (A2 : Option Addr) (n2 c2 : Nat) (A3 : Option Addr) (n3 c3 : Nat) (s : ByteArray) (K : Known) (g n B : Nat) (v : Value) (S : Wr) (w : World) (hR : Hid (RecAt w B R x 5 l t A1 n1 A2 n2 A3 n3)) (hB : Hid (B ≤ g)) (hS : Hid (Small R)) (hE : Hid (checkE R = 0)) (hO : Hid (w.ownsRow g 119 2 v n (restCs K))) (hn : Hid (K.length = n)) (hg : Hid (g ≤ w.heap.size)) (hs : s.size ≤ 800000) (hI : Hid (Inv (s.data.toList, K))) (hD : Hid (dataW R (s.data.toList, K) = S)) :
    Calls Try.prog 48 #[.string s, v, .agg #[.string x, .int .u16 5, .int .u16 l, .int .u32 t, .slice A1 n1 c1, .slice A2 n2 c2, .slice A3 n3 c3]] w (NameW S g w) := by
  obtain ⟨d, hd⟩ : ∃ d, w.heap.size = d := ⟨_, rfl⟩
  obtain ⟨w1, hw1⟩ : ∃ u, w.alloc (.cells #[.string x, .int .u16 5, .int .u16 l, .int .u32 t, .slice A1 n1 c1, .slice A2 n2 c2, .slice A3 n3 c3] 60) = u := ⟨_, rfl⟩
  have HBX : Hid (w1.heap[d]? = some (.cells #[.string x, .int .u16 5, .int .u16 l, .int .u32 t, .slice A1 n1 c1, .slice A2 n2 c2, .slice A3 n3 c3] 60 (0, 0))) := by show _ = _; rw [← hw1, ← hd]; exact heap_alloc_new w _
  have hb1 : Below d w w1 := by rw [← hw1, ← hd]; exact (Below.refl _ _).alloc (Nat.le_refl _) _
  have hgd : g ≤ d := by have := hg.out; omega
  have HGD := Lib.hid hgd
  have HV1 : Hid (Below g w w1) := hb1.mono hgd
  have HT1 : Hid (Oth w w1) := by show Oth _ _; rw [← hw1]; exact oth_alloc w _
  have HO1 : Hid (w1.ownsRow g 119 2 v K.length (restCs K)) := by show World.ownsRow _ _ _ _ _ _ _; rw [← hw1, hn.out]; exact hO.out.alloc _
  have HRC : Hid (RecAt w1 B R x 5 l t A1 n1 A2 n2 A3 n3) := hR.out.on (HV1.out.mono hB.out) (Nat.le_refl _)
  have HS1 : Hid (w1.heap.size = d + 1) := by show _ = _; rw [← hw1, ← hd]; simp
  have HNM : Hid (∀ k, k < n1 → Rests (R.names.getD k []) ∧ (R.names.getD k []).length ≤ 255) := fun k hk => (right_names hE.out).2.2 k (by rw [hR.out.len1]; exact hk)
  have HW1 := Lib.hid hw1
  have hct := right_counts hE.out
  rw [hR.out.len1, hR.out.len2, hR.out.kind] at hct
  obtain rfl : n1 = 1 := hct.1
  obtain rfl : n2 = 0 := hct.2.1
  have HDP : Hid (endW R (namesW R.names (midW R (s.data.toList, K))) = S) := by show _ = _; rw [← dataW_parts hE.out (by rw [hR.out.kind]; decide)]; exact hD.out
  clear hct hb1 hw1 hgd hO hD
  unfold NameW
  go_enter Try.func48, Try.ntmps48
  go_upto_region 1 with fail
  rw [HW1.out]
  clear hd
  have z1 := cell_of_row _ _ 1 _ _ _ HBX.out
  have hmid : midW R (s.data.toList, K) = (s.data.toList, K) := by
    unfold midW
    rw [if_neg (by rw [HRC.out.kind]; decide)]
  have HI0 := hI
  have HES := HDP
  rw [hmid] at HES
  obtain ⟨S1, hS1⟩ : ∃ S1, namesW (R.names.drop 0) (s.data.toList, K) = S1 := ⟨_, rfl⟩
  have HN0 := Lib.hid hS1
  rw [show namesW R.names (s.data.toList, K) = S1 from hS1] at HES
  have HQS : s.size ≤ 800010 + 255 * 0 := by omega
  have HVW0 := HV1
  have HTW0 : Hid (Oth w1 w1) := Oth.refl _
  have HOW0 := HO1
  have HES0 : Hid (S1 = S) := by have h := HES.out; unfold endW at h; rw [if_neg (by rw [HRC.out.kind]; decide)] at h; exact h
  clear hmid hS1 HDP HES
  have HES := HES0
  go_wp2_with fail
  go_loopw [0, 1, 8] (fun u v i wr => ∃ (k : Nat) (q : ByteArray) (L : Known) (o : Value), k ≤ 1 ∧ i = .int .i64 k ∧ u = .string q ∧ v = o ∧ q.size ≤ 800010 + 255 * k ∧ Hid (namesW (R.names.drop k) (q.data.toList, L) = S1) ∧ Hid (Inv (q.data.toList, L)) ∧ Hid (wr.ownsRow g 119 2 o L.length (restCs L)) ∧ Hid (Below g w wr) ∧ Hid (Oth w1 wr)) (fun _ _ i _ => 1 - (intOf i).toNat)
  case atStart => exact ⟨0, _, K, _, by decide, rfl, rfl, rfl, HQS, HN0, HI0, HOW0, HVW0, HTW0⟩
  case round =>
    obtain ⟨k, q, L, o, hk, rfl, rfl, rfl, hq, hF, hI2, hO2, hV, hT⟩ := hrel
    obtain ⟨oA, oc, e0, _⟩ := cells_own hO2.out
    subst e0
    have HGW : Hid (g ≤ wr.heap.size) := Nat.le_trans hg.out hV.out.size
    have hbx := hT.out _ _ _ _ HBX.out (by decide)
    have y1 := cell_of_row _ _ 1 _ _ _ hbx
    have y4 := cell_of_row _ _ 4 _ _ _ hbx
    have y5 := cell_of_row _ _ 5 _ _ _ hbx
    clear hbx
    by_cases hlt : k < 1
    · have hkl : k < R.names.length := by rw [HRC.out.len1]; exact hlt
      obtain ⟨a, rfl, hab, hcell⟩ := (hR.out.rd1.on (hV.out.mono hB.out) (Nat.le_refl _)).get hkl
      obtain ⟨hr1, hr2⟩ := HNM.out k hlt
      have hF2 := hF.out
      rw [namesW_drop hkl] at hF2
      obtain ⟨y, hy⟩ : ∃ y, mk (R.names.getD k []) = y := ⟨_, rfl⟩
      have hyl : R.names.getD k [] = y.data.toList := by rw [← hy, mk_list]
      rw [hy] at hcell
      rw [hyl] at hF2 hr1 hr2
      have hys : y.size ≤ 255 := by rw [Lib.size_eq]; exact hr2
      have hin := inv_name hr1 hI2.out hr2
      obtain ⟨T, hT2⟩ : ∃ T, nameW y.data.toList (q.data.toList, L) = T := ⟨_, rfl⟩
      rw [hT2] at hF2 hin
      have hLn : L.length ≤ q.size := by have h := hI2.out.2; rw [← Lib.size_eq] at h; exact h
      have HCA := Lib.hid (refNameW_is y q L g L.length (.slice oA L.length oc) T wr hO2 rfl HGW.out hr1 hys (by omega) (by omega) hI2.out.1 hT2)
      have HF2 := Lib.hid hF2
      have HIN := Lib.hid hin
      have HQZ := Lib.hid (Lib.size_eq q)
      clear hF2 hin hT2 hy hyl hr1 hr2 hLn hkl hF
      go_wp2_with fail
      refine HCA.out.mono ?_
      rintro e w5 ⟨o', v', rfl, ho', hown', hbel', hoth'⟩
      have HT3 : Hid ((o'.data.toList, T.2) = T) := by show _ = _; rw [ho']
      have hos : o'.size ≤ 800010 + 255 * (k + 1) := by
        have h := HIN.out.2
        rw [← ho'] at h
        rw [← Lib.size_eq, ← Lib.size_eq] at h
        omega
      have E1 : Hid (namesW (R.names.drop (k + 1)) (o'.data.toList, T.2) = S1) := by show _ = _; rw [HT3.out]; exact HF2.out
      have E2 : Hid (Inv (o'.data.toList, T.2)) := by show Inv _; rw [HT3.out]; exact HIN.out.1
      have E3 : Hid (w5.ownsRow g 119 2 v' T.2.length (restCs T.2)) := hown'
      have E4 : Hid (Below g w w5) := hV.out.trans hbel'
      have E5 : Hid (Oth w1 w5) := hT.out.trans hoth'
      clear ho' hown' hbel' hoth' y1 y4 y5 hcell HCA
      go_wp2_with fail
      go_roundw
      case rel => exact ⟨k + 1, o', T.2, v', by omega, by go_num, rfl, rfl, hos, E1, E2, E3, E4, E5⟩
      case measure => simp [intOf]; omega
    · have hke : ¬ ((k : Int) < (1 : Int)) := by omega
      have HF3 : Hid ((q.data.toList, L) = S1) := by
        show _ = _
        have h := hF.out
        rw [List.drop_of_length_le (by rw [HRC.out.len1]; omega)] at h
        exact h
      clear hF
      go_wp2_with fail
      go_loop [0, 9] (fun u i => u = .string q ∧ i = .int .i64 0) (fun _ _ => 0)
      case atStart => exact ⟨rfl, rfl⟩
      case round =>
        obtain ⟨rfl, rfl⟩ := hrel
        go_wp2_with fail
        go_ret2
        refine ⟨q, _, rfl, ?_, ?_, hV.out, HT1.out.trans hT.out⟩
        · have h := HES.out; rw [← HF3.out] at h; rw [← h]
        · have h := HES.out; rw [← HF3.out] at h; rw [← h]; exact hO2.out
set_option maxHeartbeats 8000000 in
set_option maxRecDepth 100000 in
theorem refData_12 (R : Rec) (x : ByteArray) (l t : Nat) (A1 : Option Addr) (n1 c1 : Nat) (A2 : Option Addr) (n2 c2 : Nat) (A3 : Option Addr) (n3 c3 : Nat) (s : ByteArray) (K : Known) (g n B : Nat) (v : Value) (S : Wr) (w : World) (hR : Hid (RecAt w B R x 12 l t A1 n1 A2 n2 A3 n3)) (hB : Hid (B ≤ g)) (hS : Hid (Small R)) (hE : Hid (checkE R = 0)) (hO : Hid (w.ownsRow g 119 2 v n (restCs K))) (hn : Hid (K.length = n)) (hg : Hid (g ≤ w.heap.size)) (hs : s.size ≤ 800000) (hI : Hid (Inv (s.data.toList, K))) (hD : Hid (dataW R (s.data.toList, K) = S)) :
    Calls Try.prog 48 #[.string s, v, .agg #[.string x, .int .u16 12, .int .u16 l, .int .u32 t, .slice A1 n1 c1, .slice A2 n2 c2, .slice A3 n3 c3]] w (NameW S g w) := by
  obtain ⟨d, hd⟩ : ∃ d, w.heap.size = d := ⟨_, rfl⟩
  obtain ⟨w1, hw1⟩ : ∃ u, w.alloc (.cells #[.string x, .int .u16 12, .int .u16 l, .int .u32 t, .slice A1 n1 c1, .slice A2 n2 c2, .slice A3 n3 c3] 60) = u := ⟨_, rfl⟩
  have HBX : Hid (w1.heap[d]? = some (.cells #[.string x, .int .u16 12, .int .u16 l, .int .u32 t, .slice A1 n1 c1, .slice A2 n2 c2, .slice A3 n3 c3] 60 (0, 0))) := by show _ = _; rw [← hw1, ← hd]; exact heap_alloc_new w _
  have hb1 : Below d w w1 := by rw [← hw1, ← hd]; exact (Below.refl _ _).alloc (Nat.le_refl _) _
  have hgd : g ≤ d := by have := hg.out; omega
  have HGD := Lib.hid hgd
  have HV1 : Hid (Below g w w1) := hb1.mono hgd
  have HT1 : Hid (Oth w w1) := by show Oth _ _; rw [← hw1]; exact oth_alloc w _
  have HO1 : Hid (w1.ownsRow g 119 2 v K.length (restCs K)) := by show World.ownsRow _ _ _ _ _ _ _; rw [← hw1, hn.out]; exact hO.out.alloc _
  have HRC : Hid (RecAt w1 B R x 12 l t A1 n1 A2 n2 A3 n3) := hR.out.on (HV1.out.mono hB.out) (Nat.le_refl _)
  have HS1 : Hid (w1.heap.size = d + 1) := by show _ = _; rw [← hw1, ← hd]; simp
  have HNM : Hid (∀ k, k < n1 → Rests (R.names.getD k []) ∧ (R.names.getD k []).length ≤ 255) := fun k hk => (right_names hE.out).2.2 k (by rw [hR.out.len1]; exact hk)
  have HW1 := Lib.hid hw1
  have hct := right_counts hE.out
  rw [hR.out.len1, hR.out.len2, hR.out.kind] at hct
  obtain rfl : n1 = 1 := hct.1
  obtain rfl : n2 = 0 := hct.2.1
  have HDP : Hid (endW R (namesW R.names (midW R (s.data.toList, K))) = S) := by show _ = _; rw [← dataW_parts hE.out (by rw [hR.out.kind]; decide)]; exact hD.out
  clear hct hb1 hw1 hgd hO hD
  unfold NameW
  go_enter Try.func48, Try.ntmps48
  go_upto_region 1 with fail
  rw [HW1.out]
  clear hd
  have z1 := cell_of_row _ _ 1 _ _ _ HBX.out
  have hmid : midW R (s.data.toList, K) = (s.data.toList, K) := by
    unfold midW
    rw [if_neg (by rw [HRC.out.kind]; decide)]
  have HI0 := hI
  have HES := HDP
  rw [hmid] at HES
  obtain ⟨S1, hS1⟩ : ∃ S1, namesW (R.names.drop 0) (s.data.toList, K) = S1 := ⟨_, rfl⟩
  have HN0 := Lib.hid hS1
  rw [show namesW R.names (s.data.toList, K) = S1 from hS1] at HES
  have HQS : s.size ≤ 800010 + 255 * 0 := by omega
  have HVW0 := HV1
  have HTW0 : Hid (Oth w1 w1) := Oth.refl _
  have HOW0 := HO1
  have HES0 : Hid (S1 = S) := by have h := HES.out; unfold endW at h; rw [if_neg (by rw [HRC.out.kind]; decide)] at h; exact h
  clear hmid hS1 HDP HES
  have HES := HES0
  go_wp2_with fail
  go_loopw [0, 1, 8] (fun u v i wr => ∃ (k : Nat) (q : ByteArray) (L : Known) (o : Value), k ≤ 1 ∧ i = .int .i64 k ∧ u = .string q ∧ v = o ∧ q.size ≤ 800010 + 255 * k ∧ Hid (namesW (R.names.drop k) (q.data.toList, L) = S1) ∧ Hid (Inv (q.data.toList, L)) ∧ Hid (wr.ownsRow g 119 2 o L.length (restCs L)) ∧ Hid (Below g w wr) ∧ Hid (Oth w1 wr)) (fun _ _ i _ => 1 - (intOf i).toNat)
  case atStart => exact ⟨0, _, K, _, by decide, rfl, rfl, rfl, HQS, HN0, HI0, HOW0, HVW0, HTW0⟩
  case round =>
    obtain ⟨k, q, L, o, hk, rfl, rfl, rfl, hq, hF, hI2, hO2, hV, hT⟩ := hrel
    obtain ⟨oA, oc, e0, _⟩ := cells_own hO2.out
    subst e0
    have HGW : Hid (g ≤ wr.heap.size) := Nat.le_trans hg.out hV.out.size
    have hbx := hT.out _ _ _ _ HBX.out (by decide)
    have y1 := cell_of_row _ _ 1 _ _ _ hbx
    have y4 := cell_of_row _ _ 4 _ _ _ hbx
    have y5 := cell_of_row _ _ 5 _ _ _ hbx
    clear hbx
    by_cases hlt : k < 1
    · have hkl : k < R.names.length := by rw [HRC.out.len1]; exact hlt
      obtain ⟨a, rfl, hab, hcell⟩ := (hR.out.rd1.on (hV.out.mono hB.out) (Nat.le_refl _)).get hkl
      obtain ⟨hr1, hr2⟩ := HNM.out k hlt
      have hF2 := hF.out
      rw [namesW_drop hkl] at hF2
      obtain ⟨y, hy⟩ : ∃ y, mk (R.names.getD k []) = y := ⟨_, rfl⟩
      have hyl : R.names.getD k [] = y.data.toList := by rw [← hy, mk_list]
      rw [hy] at hcell
      rw [hyl] at hF2 hr1 hr2
      have hys : y.size ≤ 255 := by rw [Lib.size_eq]; exact hr2
      have hin := inv_name hr1 hI2.out hr2
      obtain ⟨T, hT2⟩ : ∃ T, nameW y.data.toList (q.data.toList, L) = T := ⟨_, rfl⟩
      rw [hT2] at hF2 hin
      have hLn : L.length ≤ q.size := by have h := hI2.out.2; rw [← Lib.size_eq] at h; exact h
      have HCA := Lib.hid (refNameW_is y q L g L.length (.slice oA L.length oc) T wr hO2 rfl HGW.out hr1 hys (by omega) (by omega) hI2.out.1 hT2)
      have HF2 := Lib.hid hF2
      have HIN := Lib.hid hin
      have HQZ := Lib.hid (Lib.size_eq q)
      clear hF2 hin hT2 hy hyl hr1 hr2 hLn hkl hF
      go_wp2_with fail
      refine HCA.out.mono ?_
      rintro e w5 ⟨o', v', rfl, ho', hown', hbel', hoth'⟩
      have HT3 : Hid ((o'.data.toList, T.2) = T) := by show _ = _; rw [ho']
      have hos : o'.size ≤ 800010 + 255 * (k + 1) := by
        have h := HIN.out.2
        rw [← ho'] at h
        rw [← Lib.size_eq, ← Lib.size_eq] at h
        omega
      have E1 : Hid (namesW (R.names.drop (k + 1)) (o'.data.toList, T.2) = S1) := by show _ = _; rw [HT3.out]; exact HF2.out
      have E2 : Hid (Inv (o'.data.toList, T.2)) := by show Inv _; rw [HT3.out]; exact HIN.out.1
      have E3 : Hid (w5.ownsRow g 119 2 v' T.2.length (restCs T.2)) := hown'
      have E4 : Hid (Below g w w5) := hV.out.trans hbel'
      have E5 : Hid (Oth w1 w5) := hT.out.trans hoth'
      clear ho' hown' hbel' hoth' y1 y4 y5 hcell HCA
      go_wp2_with fail
      go_roundw
      case rel => exact ⟨k + 1, o', T.2, v', by omega, by go_num, rfl, rfl, hos, E1, E2, E3, E4, E5⟩
      case measure => simp [intOf]; omega
    · have hke : ¬ ((k : Int) < (1 : Int)) := by omega
      have HF3 : Hid ((q.data.toList, L) = S1) := by
        show _ = _
        have h := hF.out
        rw [List.drop_of_length_le (by rw [HRC.out.len1]; omega)] at h
        exact h
      clear hF
      go_wp2_with fail
      go_loop [0, 9] (fun u i => u = .string q ∧ i = .int .i64 0) (fun _ _ => 0)
      case atStart => exact ⟨rfl, rfl⟩
      case round =>
        obtain ⟨rfl, rfl⟩ := hrel
        go_wp2_with fail
        go_ret2
        refine ⟨q, _, rfl, ?_, ?_, hV.out, HT1.out.trans hT.out⟩
        · have h := HES.out; rw [← HF3.out] at h; rw [← h]
        · have h := HES.out; rw [← HF3.out] at h; rw [← h]; exact hO2.out
set_option maxHeartbeats 8000000 in
set_option maxRecDepth 100000 in
theorem refData_6 (R : Rec) (x : ByteArray) (l t : Nat) (A1 : Option Addr) (n1 c1 : Nat) (A2 : Option Addr) (n2 c2 : Nat) (A3 : Option Addr) (n3 c3 : Nat) (s : ByteArray) (K : Known) (g n B : Nat) (v : Value) (S : Wr) (w : World) (hR : Hid (RecAt w B R x 6 l t A1 n1 A2 n2 A3 n3)) (hB : Hid (B ≤ g)) (hS : Hid (Small R)) (hE : Hid (checkE R = 0)) (hO : Hid (w.ownsRow g 119 2 v n (restCs K))) (hn : Hid (K.length = n)) (hg : Hid (g ≤ w.heap.size)) (hs : s.size ≤ 800000) (hI : Hid (Inv (s.data.toList, K))) (hD : Hid (dataW R (s.data.toList, K) = S)) :
    Calls Try.prog 48 #[.string s, v, .agg #[.string x, .int .u16 6, .int .u16 l, .int .u32 t, .slice A1 n1 c1, .slice A2 n2 c2, .slice A3 n3 c3]] w (NameW S g w) := by
  obtain ⟨d, hd⟩ : ∃ d, w.heap.size = d := ⟨_, rfl⟩
  obtain ⟨w1, hw1⟩ : ∃ u, w.alloc (.cells #[.string x, .int .u16 6, .int .u16 l, .int .u32 t, .slice A1 n1 c1, .slice A2 n2 c2, .slice A3 n3 c3] 60) = u := ⟨_, rfl⟩
  have HBX : Hid (w1.heap[d]? = some (.cells #[.string x, .int .u16 6, .int .u16 l, .int .u32 t, .slice A1 n1 c1, .slice A2 n2 c2, .slice A3 n3 c3] 60 (0, 0))) := by show _ = _; rw [← hw1, ← hd]; exact heap_alloc_new w _
  have hb1 : Below d w w1 := by rw [← hw1, ← hd]; exact (Below.refl _ _).alloc (Nat.le_refl _) _
  have hgd : g ≤ d := by have := hg.out; omega
  have HGD := Lib.hid hgd
  have HV1 : Hid (Below g w w1) := hb1.mono hgd
  have HT1 : Hid (Oth w w1) := by show Oth _ _; rw [← hw1]; exact oth_alloc w _
  have HO1 : Hid (w1.ownsRow g 119 2 v K.length (restCs K)) := by show World.ownsRow _ _ _ _ _ _ _; rw [← hw1, hn.out]; exact hO.out.alloc _
  have HRC : Hid (RecAt w1 B R x 6 l t A1 n1 A2 n2 A3 n3) := hR.out.on (HV1.out.mono hB.out) (Nat.le_refl _)
  have HS1 : Hid (w1.heap.size = d + 1) := by show _ = _; rw [← hw1, ← hd]; simp
  have HNM : Hid (∀ k, k < n1 → Rests (R.names.getD k []) ∧ (R.names.getD k []).length ≤ 255) := fun k hk => (right_names hE.out).2.2 k (by rw [hR.out.len1]; exact hk)
  have HW1 := Lib.hid hw1
  have hct := right_counts hE.out
  rw [hR.out.len1, hR.out.len2, hR.out.kind] at hct
  obtain rfl : n1 = 2 := hct.1
  obtain rfl : n2 = 5 := hct.2.1
  have HDP : Hid (endW R (namesW R.names (midW R (s.data.toList, K))) = S) := by show _ = _; rw [← dataW_parts hE.out (by rw [hR.out.kind]; decide)]; exact hD.out
  clear hct hb1 hw1 hgd hO hD
  unfold NameW
  go_enter Try.func48, Try.ntmps48
  go_upto_region 1 with fail
  rw [HW1.out]
  clear hd
  have z1 := cell_of_row _ _ 1 _ _ _ HBX.out
  have hmid : midW R (s.data.toList, K) = (s.data.toList, K) := by
    unfold midW
    rw [if_neg (by rw [HRC.out.kind]; decide)]
  have HI0 := hI
  have HES := HDP
  rw [hmid] at HES
  obtain ⟨S1, hS1⟩ : ∃ S1, namesW (R.names.drop 0) (s.data.toList, K) = S1 := ⟨_, rfl⟩
  have HN0 := Lib.hid hS1
  rw [show namesW R.names (s.data.toList, K) = S1 from hS1] at HES
  have HQS : s.size ≤ 800010 + 255 * 0 := by omega
  have HVW0 := HV1
  have HTW0 : Hid (Oth w1 w1) := Oth.refl _
  have HOW0 := HO1
  have HES0 : Hid (numsW 4 R.nums S1 = S) := by have h := HES.out; unfold endW at h; rw [if_pos HRC.out.kind] at h; exact h
  clear hmid hS1 HDP HES
  have HES := HES0
  go_wp2_with fail
  go_loopw [0, 1, 8] (fun u v i wr => ∃ (k : Nat) (q : ByteArray) (L : Known) (o : Value), k ≤ 2 ∧ i = .int .i64 k ∧ u = .string q ∧ v = o ∧ q.size ≤ 800010 + 255 * k ∧ Hid (namesW (R.names.drop k) (q.data.toList, L) = S1) ∧ Hid (Inv (q.data.toList, L)) ∧ Hid (wr.ownsRow g 119 2 o L.length (restCs L)) ∧ Hid (Below g w wr) ∧ Hid (Oth w1 wr)) (fun _ _ i _ => 2 - (intOf i).toNat)
  case atStart => exact ⟨0, _, K, _, by decide, rfl, rfl, rfl, HQS, HN0, HI0, HOW0, HVW0, HTW0⟩
  case round =>
    obtain ⟨k, q, L, o, hk, rfl, rfl, rfl, hq, hF, hI2, hO2, hV, hT⟩ := hrel
    obtain ⟨oA, oc, e0, _⟩ := cells_own hO2.out
    subst e0
    have HGW : Hid (g ≤ wr.heap.size) := Nat.le_trans hg.out hV.out.size
    have hbx := hT.out _ _ _ _ HBX.out (by decide)
    have y1 := cell_of_row _ _ 1 _ _ _ hbx
    have y4 := cell_of_row _ _ 4 _ _ _ hbx
    have y5 := cell_of_row _ _ 5 _ _ _ hbx
    clear hbx
    by_cases hlt : k < 2
    · have hkl : k < R.names.length := by rw [HRC.out.len1]; exact hlt
      obtain ⟨a, rfl, hab, hcell⟩ := (hR.out.rd1.on (hV.out.mono hB.out) (Nat.le_refl _)).get hkl
      obtain ⟨hr1, hr2⟩ := HNM.out k hlt
      have hF2 := hF.out
      rw [namesW_drop hkl] at hF2
      obtain ⟨y, hy⟩ : ∃ y, mk (R.names.getD k []) = y := ⟨_, rfl⟩
      have hyl : R.names.getD k [] = y.data.toList := by rw [← hy, mk_list]
      rw [hy] at hcell
      rw [hyl] at hF2 hr1 hr2
      have hys : y.size ≤ 255 := by rw [Lib.size_eq]; exact hr2
      have hin := inv_name hr1 hI2.out hr2
      obtain ⟨T, hT2⟩ : ∃ T, nameW y.data.toList (q.data.toList, L) = T := ⟨_, rfl⟩
      rw [hT2] at hF2 hin
      have hLn : L.length ≤ q.size := by have h := hI2.out.2; rw [← Lib.size_eq] at h; exact h
      have HCA := Lib.hid (refNameW_is y q L g L.length (.slice oA L.length oc) T wr hO2 rfl HGW.out hr1 hys (by omega) (by omega) hI2.out.1 hT2)
      have HF2 := Lib.hid hF2
      have HIN := Lib.hid hin
      have HQZ := Lib.hid (Lib.size_eq q)
      clear hF2 hin hT2 hy hyl hr1 hr2 hLn hkl hF
      go_wp2_with fail
      refine HCA.out.mono ?_
      rintro e w5 ⟨o', v', rfl, ho', hown', hbel', hoth'⟩
      have HT3 : Hid ((o'.data.toList, T.2) = T) := by show _ = _; rw [ho']
      have hos : o'.size ≤ 800010 + 255 * (k + 1) := by
        have h := HIN.out.2
        rw [← ho'] at h
        rw [← Lib.size_eq, ← Lib.size_eq] at h
        omega
      have E1 : Hid (namesW (R.names.drop (k + 1)) (o'.data.toList, T.2) = S1) := by show _ = _; rw [HT3.out]; exact HF2.out
      have E2 : Hid (Inv (o'.data.toList, T.2)) := by show Inv _; rw [HT3.out]; exact HIN.out.1
      have E3 : Hid (w5.ownsRow g 119 2 v' T.2.length (restCs T.2)) := hown'
      have E4 : Hid (Below g w w5) := hV.out.trans hbel'
      have E5 : Hid (Oth w1 w5) := hT.out.trans hoth'
      clear ho' hown' hbel' hoth' y1 y4 y5 hcell HCA
      go_wp2_with fail
      go_roundw
      case rel => exact ⟨k + 1, o', T.2, v', by omega, by go_num, rfl, rfl, hos, E1, E2, E3, E4, E5⟩
      case measure => simp [intOf]; omega
    · have hke : ¬ ((k : Int) < (2 : Int)) := by omega
      have HF3 : Hid ((q.data.toList, L) = S1) := by
        show _ = _
        have h := hF.out
        rw [List.drop_of_length_le (by rw [HRC.out.len1]; omega)] at h
        exact h
      clear hF
      have HE0 : Hid (numsW 4 (R.nums.drop 0) (q.data.toList, L) = S) := by show _ = _; rw [HF3.out]; exact HES.out
      have HLQ : Hid (L = S.2) := by have h := HES.out; rw [← HF3.out] at h; show _ = _; rw [← h]; rfl
      obtain ⟨wo, rfl⟩ : ∃ wo : World, wo = wr := ⟨_, rfl⟩
      have hqz : q.size ≤ 800600 + 4 * 0 := by omega
      go_wp2_with fail
      clear y1 y4 y5
      go_loopw [0, 9] (fun u i wr => ∃ (k : Nat) (z : ByteArray), k ≤ 5 ∧ i = .int .i64 k ∧ u = .string z ∧ z.size ≤ 800600 + 4 * k ∧ Hid (numsW 4 (R.nums.drop k) (z.data.toList, L) = S) ∧ Hid (wr.ownsRow g 119 2 (.slice oA L.length oc) L.length (restCs L)) ∧ Hid (Below g w wr) ∧ Hid (Oth w1 wr)) (fun _ i _ => 5 - (intOf i).toNat)
      case atStart => exact ⟨0, q, by decide, rfl, rfl, hqz, HE0, hO2, hV, hT⟩
      case round =>
        obtain ⟨k2, z, hk2, rfl, rfl, hz, hF, hO3, hV3, hT3⟩ := hrel
        have HGW3 : Hid (g ≤ wr.heap.size) := Nat.le_trans hg.out hV3.out.size
        have hbx := hT3.out _ _ _ _ HBX.out (by decide)
        have y1 := cell_of_row _ _ 1 _ _ _ hbx
        have y5 := cell_of_row _ _ 5 _ _ _ hbx
        clear hbx
        by_cases hlt2 : k2 < 5
        · have hkl : k2 < R.nums.length := by rw [HRC.out.len2]; exact hlt2
          obtain ⟨a, rfl, hab, hcell⟩ := (hR.out.rd2.on (hV3.out.mono hB.out) (Nat.le_refl _)).get hkl
          have hub := hS.out.u2 k2 hkl
          have hF2 := hF.out
          rw [numsW_drop hkl] at hF2
          obtain ⟨m, hm⟩ : ∃ m, R.nums.getD k2 0 = m := ⟨_, rfl⟩
          rw [hm] at hcell hub hF2
          obtain ⟨r, hr⟩ : ∃ r, mk (z.data.toList ++ beTail m 4) = r := ⟨_, rfl⟩
          have hrl : z.data.toList ++ beTail m 4 = r.data.toList := by rw [← hr, mk_list]
          have hrs : r.size ≤ 800600 + 4 * (k2 + 1) := by rw [Lib.size_eq, ← hrl, List.length_append, ← Lib.size_eq, beTail_length]; omega
          have HP := Lib.hid (refPut_is z r m 4 wr (by omega) (by decide) (by omega) hrl)
          have HF2 : Hid (numsW 4 (R.nums.drop (k2 + 1)) (r.data.toList, L) = S) := by show _ = _; rw [← hrl]; exact hF2
          have hlk : decide (k2 < 5) = true := decide_eq_true hlt2
          clear hF hF2 hm hr hrl hkl
          go_wp2_with fail
          refine HP.out.mono ?_
          rintro e w5 ⟨rfl, hB5⟩
          have E3 : Hid (w5.ownsRow g 119 2 (.slice oA L.length oc) L.length (restCs L)) := row_below hO3.out hB5
          have E4 : Hid (Below g w w5) := hV3.out.trans (hB5.mono HGW3.out)
          have E5 : Hid (Oth w1 w5) := hT3.out.trans (oth_below hB5)
          clear hB5 HP hcell y1 y5 hlk
          go_wp2_with fail
          go_roundw
          case rel => exact ⟨k2 + 1, r, by omega, by go_num, rfl, hrs, HF2, E3, E4, E5⟩
          case measure => simp [intOf]; omega
        · have hlk : decide (k2 < 5) = false := decide_eq_false hlt2
          have hki : ¬ ((k2 : Int) < 5) := by omega
          have HF4 : Hid ((z.data.toList, L) = S) := by
            show _ = _
            have h := hF.out
            rw [List.drop_of_length_le (by rw [HRC.out.len2]; omega), numsW_nil] at h
            exact h
          clear hF
          go_wp2_with fail
          go_ret2
          refine ⟨z, _, rfl, ?_, ?_, hV3.out, HT1.out.trans hT3.out⟩
          · rw [← HF4.out]
          · rw [← HF4.out]; exact hO3.out
set_option maxHeartbeats 8000000 in
set_option maxRecDepth 100000 in
theorem refData_15 (R : Rec) (x : ByteArray) (l t : Nat) (A1 : Option Addr) (n1 c1 : Nat) (A2 : Option Addr) (n2 c2 : Nat) (A3 : Option Addr) (n3 c3 : Nat) (s : ByteArray) (K : Known) (g n B : Nat) (v : Value) (S : Wr) (w : World) (hR : Hid (RecAt w B R x 15 l t A1 n1 A2 n2 A3 n3)) (hB : Hid (B ≤ g)) (hS : Hid (Small R)) (hE : Hid (checkE R = 0)) (hO : Hid (w.ownsRow g 119 2 v n (restCs K))) (hn : Hid (K.length = n)) (hg : Hid (g ≤ w.heap.size)) (hs : s.size ≤ 800000) (hI : Hid (Inv (s.data.toList, K))) (hD : Hid (dataW R (s.data.toList, K) = S)) :
    Calls Try.prog 48 #[.string s, v, .agg #[.string x, .int .u16 15, .int .u16 l, .int .u32 t, .slice A1 n1 c1, .slice A2 n2 c2, .slice A3 n3 c3]] w (NameW S g w) := by
  obtain ⟨d, hd⟩ : ∃ d, w.heap.size = d := ⟨_, rfl⟩
  obtain ⟨w1, hw1⟩ : ∃ u, w.alloc (.cells #[.string x, .int .u16 15, .int .u16 l, .int .u32 t, .slice A1 n1 c1, .slice A2 n2 c2, .slice A3 n3 c3] 60) = u := ⟨_, rfl⟩
  have HBX : Hid (w1.heap[d]? = some (.cells #[.string x, .int .u16 15, .int .u16 l, .int .u32 t, .slice A1 n1 c1, .slice A2 n2 c2, .slice A3 n3 c3] 60 (0, 0))) := by show _ = _; rw [← hw1, ← hd]; exact heap_alloc_new w _
  have hb1 : Below d w w1 := by rw [← hw1, ← hd]; exact (Below.refl _ _).alloc (Nat.le_refl _) _
  have hgd : g ≤ d := by have := hg.out; omega
  have HGD := Lib.hid hgd
  have HV1 : Hid (Below g w w1) := hb1.mono hgd
  have HT1 : Hid (Oth w w1) := by show Oth _ _; rw [← hw1]; exact oth_alloc w _
  have HO1 : Hid (w1.ownsRow g 119 2 v K.length (restCs K)) := by show World.ownsRow _ _ _ _ _ _ _; rw [← hw1, hn.out]; exact hO.out.alloc _
  have HRC : Hid (RecAt w1 B R x 15 l t A1 n1 A2 n2 A3 n3) := hR.out.on (HV1.out.mono hB.out) (Nat.le_refl _)
  have HS1 : Hid (w1.heap.size = d + 1) := by show _ = _; rw [← hw1, ← hd]; simp
  have HNM : Hid (∀ k, k < n1 → Rests (R.names.getD k []) ∧ (R.names.getD k []).length ≤ 255) := fun k hk => (right_names hE.out).2.2 k (by rw [hR.out.len1]; exact hk)
  have HW1 := Lib.hid hw1
  have hct := right_counts hE.out
  rw [hR.out.len1, hR.out.len2, hR.out.kind] at hct
  obtain rfl : n1 = 1 := hct.1
  obtain rfl : n2 = 1 := hct.2.1
  have HDP : Hid (endW R (namesW R.names (midW R (s.data.toList, K))) = S) := by show _ = _; rw [← dataW_parts hE.out (by rw [hR.out.kind]; decide)]; exact hD.out
  clear hct hb1 hw1 hgd hO hD
  unfold NameW
  go_enter Try.func48, Try.ntmps48
  go_upto_region 1 with fail
  rw [HW1.out]
  clear hd
  have z1 := cell_of_row _ _ 1 _ _ _ HBX.out
  have y5 := cell_of_row _ _ 5 _ _ _ HBX.out
  obtain ⟨a, rfl, hab, hcell⟩ := HRC.out.rd2.get (k := 0) (by rw [HRC.out.len2]; decide)
  have hub := hS.out.u2 0 (by rw [HRC.out.len2]; decide)
  obtain ⟨m, hm⟩ : ∃ m, R.nums.getD 0 0 = m := ⟨_, rfl⟩
  rw [hm] at hcell hub
  have hcell0 : w1.cell? a = some (.int .u32 (m : Int)) := by simpa [Addr.add] using hcell
  obtain ⟨r, hr⟩ : ∃ r, mk (s.data.toList ++ beTail m 2) = r := ⟨_, rfl⟩
  have hrl : s.data.toList ++ beTail m 2 = r.data.toList := by rw [← hr, mk_list]
  have hrs : r.size ≤ 800010 + 255 * 0 := by rw [Lib.size_eq, ← hrl, List.length_append, ← Lib.size_eq, beTail_length]; omega
  have HP := Lib.hid (refPut_is s r m 2 w1 (by omega) (by decide) (by omega) hrl)
  have hmid : midW R (s.data.toList, K) = (r.data.toList, K) := by
    unfold midW
    rw [if_pos HRC.out.kind]
    obtain ⟨y, hy⟩ := List.length_eq_one_iff.1 HRC.out.len2
    rw [hy] at hm ⊢
    rw [numsW_cons, numsW_nil, ← hrl]
    simp at hm
    rw [hm]
    rfl
  have HI0 : Hid (Inv (r.data.toList, K)) := by
    have h := inv_num hI.out m 2
    show Inv _
    rw [← hrl]
    exact h
  have HES := HDP
  rw [hmid] at HES
  obtain ⟨S1, hS1⟩ : ∃ S1, namesW (R.names.drop 0) (r.data.toList, K) = S1 := ⟨_, rfl⟩
  have HN0 := Lib.hid hS1
  rw [show namesW R.names (r.data.toList, K) = S1 from hS1] at HES
  have HQS := hrs
  have HES0 : Hid (S1 = S) := by have h := HES.out; unfold endW at h; rw [if_neg (by rw [HRC.out.kind]; decide)] at h; exact h
  clear hmid hm hr hrl hS1 HDP hrs HES
  have HES := HES0
  go_wp2_with fail
  refine HP.out.mono ?_
  rintro e w2 ⟨rfl, hB2⟩
  have HVW0 : Hid (Below g w w2) := HV1.out.trans (hB2.mono (by rw [HS1.out]; have := HGD.out; omega))
  have HTW0 : Hid (Oth w1 w2) := oth_below hB2
  have HOW0 : Hid (w2.ownsRow g 119 2 v K.length (restCs K)) := row_below HO1.out hB2
  clear hB2 HP hcell hcell0 z1 y5
  go_wp2_with fail
  go_loopw [0, 1, 8] (fun u v i wr => ∃ (k : Nat) (q : ByteArray) (L : Known) (o : Value), k ≤ 1 ∧ i = .int .i64 k ∧ u = .string q ∧ v = o ∧ q.size ≤ 800010 + 255 * k ∧ Hid (namesW (R.names.drop k) (q.data.toList, L) = S1) ∧ Hid (Inv (q.data.toList, L)) ∧ Hid (wr.ownsRow g 119 2 o L.length (restCs L)) ∧ Hid (Below g w wr) ∧ Hid (Oth w1 wr)) (fun _ _ i _ => 1 - (intOf i).toNat)
  case atStart => exact ⟨0, _, K, _, by decide, rfl, rfl, rfl, HQS, HN0, HI0, HOW0, HVW0, HTW0⟩
  case round =>
    obtain ⟨k, q, L, o, hk, rfl, rfl, rfl, hq, hF, hI2, hO2, hV, hT⟩ := hrel
    obtain ⟨oA, oc, e0, _⟩ := cells_own hO2.out
    subst e0
    have HGW : Hid (g ≤ wr.heap.size) := Nat.le_trans hg.out hV.out.size
    have hbx := hT.out _ _ _ _ HBX.out (by decide)
    have y1 := cell_of_row _ _ 1 _ _ _ hbx
    have y4 := cell_of_row _ _ 4 _ _ _ hbx
    have y5 := cell_of_row _ _ 5 _ _ _ hbx
    clear hbx
    by_cases hlt : k < 1
    · have hkl : k < R.names.length := by rw [HRC.out.len1]; exact hlt
      obtain ⟨a, rfl, hab, hcell⟩ := (hR.out.rd1.on (hV.out.mono hB.out) (Nat.le_refl _)).get hkl
      obtain ⟨hr1, hr2⟩ := HNM.out k hlt
      have hF2 := hF.out
      rw [namesW_drop hkl] at hF2
      obtain ⟨y, hy⟩ : ∃ y, mk (R.names.getD k []) = y := ⟨_, rfl⟩
      have hyl : R.names.getD k [] = y.data.toList := by rw [← hy, mk_list]
      rw [hy] at hcell
      rw [hyl] at hF2 hr1 hr2
      have hys : y.size ≤ 255 := by rw [Lib.size_eq]; exact hr2
      have hin := inv_name hr1 hI2.out hr2
      obtain ⟨T, hT2⟩ : ∃ T, nameW y.data.toList (q.data.toList, L) = T := ⟨_, rfl⟩
      rw [hT2] at hF2 hin
      have hLn : L.length ≤ q.size := by have h := hI2.out.2; rw [← Lib.size_eq] at h; exact h
      have HCA := Lib.hid (refNameW_is y q L g L.length (.slice oA L.length oc) T wr hO2 rfl HGW.out hr1 hys (by omega) (by omega) hI2.out.1 hT2)
      have HF2 := Lib.hid hF2
      have HIN := Lib.hid hin
      have HQZ := Lib.hid (Lib.size_eq q)
      clear hF2 hin hT2 hy hyl hr1 hr2 hLn hkl hF
      go_wp2_with fail
      refine HCA.out.mono ?_
      rintro e w5 ⟨o', v', rfl, ho', hown', hbel', hoth'⟩
      have HT3 : Hid ((o'.data.toList, T.2) = T) := by show _ = _; rw [ho']
      have hos : o'.size ≤ 800010 + 255 * (k + 1) := by
        have h := HIN.out.2
        rw [← ho'] at h
        rw [← Lib.size_eq, ← Lib.size_eq] at h
        omega
      have E1 : Hid (namesW (R.names.drop (k + 1)) (o'.data.toList, T.2) = S1) := by show _ = _; rw [HT3.out]; exact HF2.out
      have E2 : Hid (Inv (o'.data.toList, T.2)) := by show Inv _; rw [HT3.out]; exact HIN.out.1
      have E3 : Hid (w5.ownsRow g 119 2 v' T.2.length (restCs T.2)) := hown'
      have E4 : Hid (Below g w w5) := hV.out.trans hbel'
      have E5 : Hid (Oth w1 w5) := hT.out.trans hoth'
      clear ho' hown' hbel' hoth' y1 y4 y5 hcell HCA
      go_wp2_with fail
      go_roundw
      case rel => exact ⟨k + 1, o', T.2, v', by omega, by go_num, rfl, rfl, hos, E1, E2, E3, E4, E5⟩
      case measure => simp [intOf]; omega
    · have hke : ¬ ((k : Int) < (1 : Int)) := by omega
      have HF3 : Hid ((q.data.toList, L) = S1) := by
        show _ = _
        have h := hF.out
        rw [List.drop_of_length_le (by rw [HRC.out.len1]; omega)] at h
        exact h
      clear hF
      go_wp2_with fail
      go_loop [0, 9] (fun u i => u = .string q ∧ i = .int .i64 0) (fun _ _ => 0)
      case atStart => exact ⟨rfl, rfl⟩
      case round =>
        obtain ⟨rfl, rfl⟩ := hrel
        go_wp2_with fail
        go_ret2
        refine ⟨q, _, rfl, ?_, ?_, hV.out, HT1.out.trans hT.out⟩
        · have h := HES.out; rw [← HF3.out] at h; rw [← h]
        · have h := HES.out; rw [← HF3.out] at h; rw [← h]; exact hO2.out
set_option maxHeartbeats 8000000 in
set_option maxRecDepth 100000 in
theorem refData_other (R : Rec) (x : ByteArray) (k l t : Nat) (A1 : Option Addr) (n1 c1 : Nat) (A2 : Option Addr) (n2 c2 : Nat) (A3 : Option Addr) (n3 c3 : Nat) (s : ByteArray) (K : Known) (g n B : Nat) (v : Value) (S : Wr) (w : World) (hkk : k ≠ 2 ∧ k ≠ 5 ∧ k ≠ 12 ∧ k ≠ 6 ∧ k ≠ 15) (hR : Hid (RecAt w B R x k l t A1 n1 A2 n2 A3 n3)) (hB : Hid (B ≤ g)) (hS : Hid (Small R)) (hE : Hid (checkE R = 0)) (hO : Hid (w.ownsRow g 119 2 v n (restCs K))) (hn : Hid (K.length = n)) (hg : Hid (g ≤ w.heap.size)) (hs : s.size ≤ 800000) (hI : Hid (Inv (s.data.toList, K))) (hD : Hid (dataW R (s.data.toList, K) = S)) :
    Calls Try.prog 48 #[.string s, v, .agg #[.string x, .int .u16 k, .int .u16 l, .int .u32 t, .slice A1 n1 c1, .slice A2 n2 c2, .slice A3 n3 c3]] w (NameW S g w) := by
  obtain ⟨d, hd⟩ : ∃ d, w.heap.size = d := ⟨_, rfl⟩
  obtain ⟨w1, hw1⟩ : ∃ u, w.alloc (.cells #[.string x, .int .u16 k, .int .u16 l, .int .u32 t, .slice A1 n1 c1, .slice A2 n2 c2, .slice A3 n3 c3] 60) = u := ⟨_, rfl⟩
  have HBX : Hid (w1.heap[d]? = some (.cells #[.string x, .int .u16 k, .int .u16 l, .int .u32 t, .slice A1 n1 c1, .slice A2 n2 c2, .slice A3 n3 c3] 60 (0, 0))) := by show _ = _; rw [← hw1, ← hd]; exact heap_alloc_new w _
  have hb1 : Below d w w1 := by rw [← hw1, ← hd]; exact (Below.refl _ _).alloc (Nat.le_refl _) _
  have hgd : g ≤ d := by have := hg.out; omega
  have HGD := Lib.hid hgd
  have HV1 : Hid (Below g w w1) := hb1.mono hgd
  have HT1 : Hid (Oth w w1) := by show Oth _ _; rw [← hw1]; exact oth_alloc w _
  have HO1 : Hid (w1.ownsRow g 119 2 v K.length (restCs K)) := by show World.ownsRow _ _ _ _ _ _ _; rw [← hw1, hn.out]; exact hO.out.alloc _
  have HRC : Hid (RecAt w1 B R x k l t A1 n1 A2 n2 A3 n3) := hR.out.on (HV1.out.mono hB.out) (Nat.le_refl _)
  have HS1 : Hid (w1.heap.size = d + 1) := by show _ = _; rw [← hw1, ← hd]; simp
  have HNM : Hid (∀ k, k < n1 → Rests (R.names.getD k []) ∧ (R.names.getD k []).length ≤ 255) := fun k hk => (right_names hE.out).2.2 k (by rw [hR.out.len1]; exact hk)
  have HW1 := Lib.hid hw1
  have hDL := hD.out
  unfold dataW at hDL
  rw [if_neg (by rw [hR.out.kind]; omega), if_neg (by rw [hR.out.kind]; omega), if_neg (by rw [hR.out.kind]; omega)] at hDL
  obtain ⟨p, hp⟩ : ∃ p, mk (plainO R) = p := ⟨_, rfl⟩
  have HPD : Hid ((s ++ p).data.toList = S.1 ∧ K = S.2) := by rw [← hDL, ← hp]; exact ⟨by rw [cat_list, mk_list], rfl⟩
  have hps : p.size ≤ 300000 := by rw [← hp, mk_size, plainO_ok hE.out]; exact plain_bound hE.out
  have HPL := Lib.hid (refPlainO_is R x k l t A1 n1 c1 A2 n2 c2 A3 n3 c3 p w1 (HRC.out.on (Below.refl _ _) (by rw [HS1.out]; have := hB.out; have := HGD.out; omega)) hS hp)
  have f2 : ((k : Int) != 2) = true := bne_iff_ne.2 (by omega)
  have f5 : ((k : Int) != 5) = true := bne_iff_ne.2 (by omega)
  have f12 : ((k : Int) != 12) = true := bne_iff_ne.2 (by omega)
  have f6 : ((k : Int) != 6) = true := bne_iff_ne.2 (by omega)
  have f15 : ((k : Int) != 15) = true := bne_iff_ne.2 (by omega)
  have HKR : Hid (K.length = n) := hn
  clear hb1 hw1 hgd hO hD hDL hp hkk
  unfold NameW
  go_enter Try.func48, Try.ntmps48
  go_upto_region 1 with fail
  rw [HW1.out]
  clear hd
  have z0 := cell_of_row _ _ 0 _ _ _ HBX.out
  have z1 := cell_of_row _ _ 1 _ _ _ HBX.out
  have z2 := cell_of_row _ _ 2 _ _ _ HBX.out
  have z3 := cell_of_row _ _ 3 _ _ _ HBX.out
  have z4 := cell_of_row _ _ 4 _ _ _ HBX.out
  have z5 := cell_of_row _ _ 5 _ _ _ HBX.out
  have z6 := cell_of_row _ _ 6 _ _ _ HBX.out
  go_wp2_with fail
  refine HPL.out.mono ?_
  rintro e w2 ⟨rfl, hB2⟩
  have HVW : Hid (Below g w w2) := HV1.out.trans (hB2.mono (by rw [HS1.out]; have := HGD.out; omega))
  have HTW : Hid (Oth w w2) := HT1.out.trans (oth_below hB2)
  have HOW : Hid (w2.ownsRow g 119 2 v K.length (restCs K)) := row_below HO1.out hB2
  clear hB2 HPL z0 z1 z2 z3 z4 z5 z6
  go_wp2_with fail
  go_ret2
  refine ⟨_, _, rfl, HPD.out.1, ?_, HVW.out, HTW.out⟩
  rw [← HPD.out.2]
  exact HOW.out
theorem refData_is (R : Rec) (x : ByteArray) (k l t : Nat) (A1 : Option Addr) (n1 c1 : Nat) (A2 : Option Addr) (n2 c2 : Nat) (A3 : Option Addr) (n3 c3 : Nat) (s : ByteArray) (K : Known) (g n B : Nat) (v : Value) (S : Wr) (w : World) (hR : Hid (RecAt w B R x k l t A1 n1 A2 n2 A3 n3)) (hB : Hid (B ≤ g)) (hS : Hid (Small R)) (hE : Hid (checkE R = 0)) (hO : Hid (w.ownsRow g 119 2 v n (restCs K))) (hn : Hid (K.length = n)) (hg : Hid (g ≤ w.heap.size)) (hs : s.size ≤ 800000) (hI : Hid (Inv (s.data.toList, K))) (hD : Hid (dataW R (s.data.toList, K) = S)) :
    Calls Try.prog 48 #[.string s, v, .agg #[.string x, .int .u16 k, .int .u16 l, .int .u32 t, .slice A1 n1 c1, .slice A2 n2 c2, .slice A3 n3 c3]] w (NameW S g w) := by
  by_cases h2 : k = 2
  · subst h2; exact refData_2 R x l t A1 n1 c1 A2 n2 c2 A3 n3 c3 s K g n B v S w hR hB hS hE hO hn hg hs hI hD
  · by_cases h5 : k = 5
    · subst h5; exact refData_5 R x l t A1 n1 c1 A2 n2 c2 A3 n3 c3 s K g n B v S w hR hB hS hE hO hn hg hs hI hD
    · by_cases h12 : k = 12
      · subst h12; exact refData_12 R x l t A1 n1 c1 A2 n2 c2 A3 n3 c3 s K g n B v S w hR hB hS hE hO hn hg hs hI hD
      · by_cases h6 : k = 6
        · subst h6; exact refData_6 R x l t A1 n1 c1 A2 n2 c2 A3 n3 c3 s K g n B v S w hR hB hS hE hO hn hg hs hI hD
        · by_cases h15 : k = 15
          · subst h15; exact refData_15 R x l t A1 n1 c1 A2 n2 c2 A3 n3 c3 s K g n B v S w hR hB hS hE hO hn hg hs hI hD
          · exact refData_other R x k l t A1 n1 c1 A2 n2 c2 A3 n3 c3 s K g n B v S w ⟨h2, h5, h12, h6, h15⟩ hR hB hS hE hO hn hg hs hI hD
end Go.Proofs.Ytpmmjmnleoicjaa

/- The contract of the document's Write. For messages that can be gone through. -/
namespace Go.Proofs.Ytpmmjmnleoicjaa
open Go.RowKit Bytes Strs Nums MsgMath NameMath RecMath WrMath
set_option linter.unusedVariables false
set_option linter.unusedSimpArgs false

/-- Cells that were laid as a block of their own. -/
theorem cells_laid {w : World} {r : Nat} {cs : Array Value} {t : TypeId} {fz : Nat × Nat} (h : w.heap[r]? = some (.cells cs t fz)) : CellsAt w (r + 1) (some ⟨r, 0, none⟩) cs.toList :=
  .inr ⟨r, 0, rfl, Nat.lt_succ_self _, fun j u hu => by
    rw [Nat.zero_add]
    rw [Lib.cell_of_heap h]
    simpa using hu⟩
/-- A row of other things stands where rests alone were written. -/
theorem own_oth {w w' : World} {base n k : Nat} {e : TypeId} {v : Value} {xs : List Value} (h : w.ownsRow base e k v n xs) (ho : Oth w w') (hne : e ≠ 119) : w'.ownsRow base e k v n xs := by
  obtain ⟨hl, h | ⟨bb, cap, cur, e1, hbb, hh, h2⟩⟩ := h
  · exact ⟨hl, .inl h⟩
  · exact ⟨hl, .inr ⟨bb, cap, cur, e1, hbb, ho _ _ _ _ hh hne, h2⟩⟩
/-- The row of what comes next is as long as a message has numbers at its head. -/
theorem start_is (M : Msg) : startW M = (([] : List UInt8) ++ numsL 2 [M.id, M.flags, M.qs.length, M.an.length, M.ns.length, M.ad.length], []) := by
  have h : numsW 2 [M.id, M.flags, M.qs.length, M.an.length, M.ns.length, M.ad.length] ([], []) = startW M := by
    rw [numsW_cons, numsW_cons, numsW_cons, numsW_cons, numsW_cons, numsW_cons, numsW_nil]
    rfl
  rw [← h]
  rfl
theorem qnW_is (q : Qn) (s : Wr) : qnW q s = ((nameW q.name s).1 ++ numsL 2 [q.kind, q.cls], (nameW q.name s).2) := by
  have h : numsW 2 [q.kind, q.cls] (nameW q.name s) = qnW q s := by
    rw [numsW_cons, numsW_cons, numsW_nil]
    rfl
  rw [← h]
  rfl
theorem headW_is (R : Rec) (s : Wr) : headW R s = (((nameW R.name s).1 ++ numsL 2 [R.kind, R.cls]) ++ beTail R.ttl 4, (nameW R.name s).2) := by
  have h : numW R.ttl 4 (numsW 2 [R.kind, R.cls] (nameW R.name s)) = headW R s := by
    rw [numsW_cons, numsW_cons, numsW_nil]
    rfl
  rw [← h]
  rfl
/-- A record of a row of one's own, with the block in which it lies. -/
theorem recs_getO {w : World} {base B n c : Nat} {A : Option Addr} {Z : List RecZ} (h : w.ownsRow base 60 7 (.slice A n c) n (recCs Z)) (hz : ZAt w B Z) {k : Nat} (hk : k < Z.length) : ∃ b A1 c1 A2 c2 A3 c3, A = some ⟨b, 0, none⟩ ∧ base ≤ b ∧ (∃ cs fz, w.heap[b]? = some (Obj.cells cs 60 fz)) ∧ RecAt w B (Z[k]).1 (mk (Z[k]).1.name) (Z[k]).1.kind (Z[k]).1.cls (Z[k]).1.ttl A1 (Z[k]).1.names.length A2 (Z[k]).1.nums.length A3 (Z[k]).1.texts.length ∧
    w.cell? ⟨b, k * 7, none⟩ = some (.string (mk (Z[k]).1.name)) ∧ w.cell? ⟨b, k * 7 + 1, none⟩ = some (.int .u16 (Z[k]).1.kind) ∧ w.cell? ⟨b, k * 7 + 2, none⟩ = some (.int .u16 (Z[k]).1.cls) ∧ w.cell? ⟨b, k * 7 + 3, none⟩ = some (.int .u32 (Z[k]).1.ttl) ∧ w.cell? ⟨b, k * 7 + 4, none⟩ = some (.slice A1 (Z[k]).1.names.length c1) ∧ w.cell? ⟨b, k * 7 + 5, none⟩ = some (.slice A2 (Z[k]).1.nums.length c2) ∧ w.cell? ⟨b, k * 7 + 6, none⟩ = some (.slice A3 (Z[k]).1.texts.length c3) := by
  have e := fun j (hj : j < 7) => recCs_at (Z := Z) hk hj
  obtain ⟨A1, c1, A2, c2, A3, c3, e1, e2, e3, hat⟩ := hz (Z[k]) (List.getElem_mem hk)
  have h' := h
  obtain ⟨hl, ⟨h0, hn0⟩ | ⟨bb, cap, cur, ev, hbb, hh, h2⟩⟩ := h
  · have := (List.getElem?_eq_some_iff.1 (e 0 (by decide))).1
    rw [hl, hn0] at this
    omega
  · injection ev with ev _ _
    subst ev
    have hc := fun (j : Nat) (u : Value) (hu : (recCs Z)[j]? = some u) => by
      have := h'.cells (g := bb) rfl j u hu
      rwa [add_at, ← Nat.zero_add j] at this
    have hc' : ∀ (j : Nat) (u : Value), (recCs Z)[j]? = some u → w.cell? ⟨bb, j, none⟩ = some u := fun j u hu => by have := hc j u hu; rwa [Nat.zero_add] at this
    exact ⟨bb, A1, c1, A2, c2, A3, c3, rfl, hbb, ⟨_, _, hh⟩, hat, hc' (k * 7) _ (e 0 (by decide)), hc' (k * 7 + 1) _ (e 1 (by decide)), hc' (k * 7 + 2) _ (e 2 (by decide)), hc' (k * 7 + 3) _ (e 3 (by decide)), hc' (k * 7 + 4) _ ((e 4 (by decide)).trans (by rw [e1]; rfl)), hc' (k * 7 + 5) _ ((e 5 (by decide)).trans (by rw [e2]; rfl)), hc' (k * 7 + 6) _ ((e 6 (by decide)).trans (by rw [e3]; rfl))⟩
/-- A cell of a block of records stands where rests alone were written. -/
theorem cell_oth {w w' : World} {b i : Nat} {v : Value} (h : w.cell? ⟨b, i, none⟩ = some v) (hb : ∃ cs fz, w.heap[b]? = some (Obj.cells cs 60 fz)) (ho : Oth w w') : w'.cell? ⟨b, i, none⟩ = some v := by
  obtain ⟨cs, fz, hb⟩ := hb
  have e : w'.heap[b]? = w.heap[b]? := (ho _ _ _ _ hb (by decide)).trans hb.symm
  exact (World.cell?_of_block (w := w) e).trans h
/-- One record, as the document writes it. -/
theorem rec_step {R : Rec} {s : Wr} (h : checkE R = 0) {r t : List UInt8} {K D : Known} (hr : headW R s = (r, K)) (hd : dataW R (r ++ [0, 0], K) = (t, D)) : ∃ n, t.length = r.length + 2 + n ∧ n ≤ 300000 ∧ recW R s = (r ++ beTail n 2 ++ t.drop (r.length + 2), D) := by
  obtain ⟨l, h1, h2, h3⟩ := recW_parts h s
  have e : numW 0 2 (headW R s) = (r ++ [0, 0], K) := by rw [hr]; rfl
  rw [e] at h2
  rw [e, hr] at h3
  rw [hd] at h2 h3
  injection h2 with h2 _
  refine ⟨l.length, ?_, Nat.le_trans h1 (plain_bound h), ?_⟩
  · rw [h2, List.length_append, List.length_append]; rfl
  · rw [h3, h2]
    show (r ++ (beTail l.length 2 ++ l), D) = (r ++ beTail l.length 2 ++ List.drop (r.length + 2) ((r ++ [0, 0]) ++ l), D)
    rw [show r.length + 2 = (r ++ [0, 0]).length by rw [List.length_append]; rfl, List.drop_left, List.append_assoc]
/-- Write came back. -/
def WriteRet (M : Msg) (g : Nat) (w : World) (e : Ending) (w' : World) : Prop := ∃ (o : ByteArray) (c : Nat), e = .returned (.tuple #[.string o, .int .i64 c]) ∧ writeM M = (o.data.toList, c) ∧ Below g w w'
theorem writeM_long {M : Msg} (hc : checkM M = 0) (hl : 65535 < (msgW M).1.length) : writeM M = ([], 3) := by
  unfold writeM
  rw [if_pos hc, if_pos hl]
theorem writeM_good {M : Msg} (hc : checkM M = 0) (hl : ¬ 65535 < (msgW M).1.length) : writeM M = ((msgW M).1, 0) := by
  unfold writeM
  rw [if_pos hc, if_neg hl]
theorem writeM_bad {M : Msg} {E : Nat} (hc : checkM M = E) (h : E ≠ 0) : writeM M = ([], E) := by
  unfold writeM
  rw [if_neg (by rw [hc]; exact h), hc]
set_option maxHeartbeats 8000000 in
set_option maxRecDepth 100000 in
theorem refWrite_w (M : Msg) (Aq Aa An Ax : Option Addr) (nq na nn nx cq ca cn cx B : Nat) (Za Zn Zx : List RecZ) (w : World) (hv : Hid (MsgV w B M Aq Aa An Ax nq na nn nx ca cn cx Za Zn Zx)) (hB : B ≤ w.heap.size) (hf : Hid (FewM M)) :
    Calls Try.prog 16 #[.agg (msgA M.id M.flags Aq nq cq Aa na ca An nn cn Ax nx cx)] w (WriteRet M w.heap.size w) := by
  obtain ⟨id, hid⟩ : ∃ n, M.id = n := ⟨_, rfl⟩
  obtain ⟨fl, hfl⟩ : ∃ n, M.flags = n := ⟨_, rfl⟩
  obtain ⟨g, hg⟩ : ∃ g, w.heap.size = g := ⟨_, rfl⟩
  obtain ⟨wa, hwa⟩ : ∃ wa, w.alloc (.cells (msgA id fl Aq nq cq Aa na ca An nn cn Ax nx cx) 26) = wa := ⟨_, rfl⟩
  have HBA : Hid (Below g w wa) := by rw [← hwa, ← hg]; exact (Below.refl _ _).alloc (Nat.le_refl _) _
  have HBX : Hid (wa.heap[g]? = some (.cells (msgA id fl Aq nq cq Aa na ca An nn cn Ax nx cx) 26 (0, 0))) := by rw [← hwa, ← hg]; exact heap_alloc_new w _
  have HSA : Hid (wa.heap.size = g + 1) := by show _ = _; rw [← hwa, ← hg]; simp
  have hbg : B ≤ g := by omega
  have HV := hv.out.on (HBA.out.mono hbg) (Nat.le_refl B)
  have HV' := Lib.hid HV
  obtain ⟨E, hE⟩ : ∃ E, checkM M = E := ⟨_, rfl⟩
  have HE := Lib.hid hE
  have HCH := Lib.hid (refCheckM_w M id fl Aq Aa An Ax nq na nn nx cq ca cn cx B E Za Zn Zx wa HV (by rw [HSA.out]; omega) hf hE)
  have hfb : id ≤ 65535 ∧ fl ≤ 65535 := by rw [← hid, ← hfl]; exact ⟨hf.out.id, hf.out.flags⟩
  have hcnt : nq ≤ 1000 ∧ na ≤ 1000 ∧ nn ≤ 1000 ∧ nx ≤ 1000 := by
    have := hf.out.nq; have := hf.out.na; have := hf.out.nn; have := hf.out.nx
    have := hv.out.eq; have := hv.out.ea; have := hv.out.en; have := hv.out.ex
    omega
  have hfb1 := hfb.1
  have hfb2 := hfb.2
  have hc1 := hcnt.1
  have hc2 := hcnt.2.1
  have hc3 := hcnt.2.2.1
  have hc4 := hcnt.2.2.2
  have HID := Lib.hid hid
  have HFL := Lib.hid hfl
  have k0 := cell_of_row _ _ 0 _ _ _ HBX.out
  have k1 := cell_of_row _ _ 1 _ _ _ HBX.out
  have k2 := cell_of_row _ _ 2 _ _ _ HBX.out
  have k3 := cell_of_row _ _ 3 _ _ _ HBX.out
  have k4 := cell_of_row _ _ 4 _ _ _ HBX.out
  have k5 := cell_of_row _ _ 5 _ _ _ HBX.out
  rw [hid, hfl, hg]
  unfold WriteRet
  clear hid hfl hE HV hB hfb hcnt
  go_enter Try.func16, Try.ntmps16
  go_wp2_with fail
  refine HCH.out.mono ?_
  rintro e w1 ⟨rfl, hB1⟩
  have HB1 : Hid (Below (g + 1) wa w1) := by have h := hB1; rw [HSA.out] at h; exact h
  have HW1 : Hid (Below g w w1) := HBA.out.trans (HB1.out.mono (Nat.le_succ _))
  have hx1 := (HB1.out.block g (Nat.lt_succ_self g)).trans HBX.out
  have HX1 := Lib.hid hx1
  have HS1 : Hid (g + 1 ≤ w1.heap.size) := by have h := HB1.out.size; rw [HSA.out] at h; exact h
  clear hB1 HCH k0 k1 k2 k3 k4 k5 hwa hg
  by_cases hE0 : E = 0
  · subst hE0
    have hok := checkM_ok HE.out
    have HOK := Lib.hid hok
    have k0 := cell_of_row _ _ 0 _ _ _ hx1
    have k1 := cell_of_row _ _ 1 _ _ _ hx1
    have k2 := cell_of_row _ _ 2 _ _ _ hx1
    have k3 := cell_of_row _ _ 3 _ _ _ hx1
    have k4 := cell_of_row _ _ 4 _ _ _ hx1
    have k5 := cell_of_row _ _ 5 _ _ _ hx1
    obtain ⟨h, hh⟩ : ∃ n, w1.heap.size = n := ⟨_, rfl⟩
    obtain ⟨w2, hw2⟩ : ∃ u, w1.alloc (.cells #[.int .i64 id, .int .i64 fl, .int .i64 nq, .int .i64 na, .int .i64 nn, .int .i64 nx] 3) = u := ⟨_, rfl⟩
    have hx2 : w2.heap[h]? = some (.cells #[.int .i64 id, .int .i64 fl, .int .i64 nq, .int .i64 na, .int .i64 nn, .int .i64 nx] 3 (0, 0)) := by rw [← hw2, ← hh]; exact heap_alloc_new w1 _
    have hs2 : w2.heap.size = h + 1 := by rw [← hw2, ← hh]; simp
    have HNS := Lib.hid (refNumbers_is (some ⟨h, 0, none⟩) 6 6 (h + 1) [id, fl, nq, na, nn, nx] ⟨#[]⟩ (([] : List UInt8) ++ numsL 2 [id, fl, nq, na, nn, nx]) w2 (cells_laid hx2) (by omega) (Lib.hid rfl) (by decide) (by decide) (by intro x hx; simp at hx; rcases hx with rfl | rfl | rfl | rfl | rfl | rfl <;> omega) (Lib.hid rfl))
    have HB2 : Hid (Below (g + 1) wa w2) := by show Below _ _ _; rw [← hw2]; exact HB1.out.alloc (by have := HS1.out; omega) _
    have HHG : Hid (g + 1 ≤ h) := by have := HS1.out; show _ ≤ _; omega
    have HS2 := Lib.hid hs2
    have HHH := Lib.hid hh
    have HW2 := Lib.hid hw2
    clear hx2 hs2 hw2 hok hx1
    have fz : ((0 : Int) != 0) = false := rfl
    go_upto_region 4 with fail
    go_wp2_with fail
    rw [HW2.out]
    refine HNS.out.mono ?_
    rintro e w3 ⟨s3, rfl, hs3, hB3⟩
    have hB3' := hB3
    have HB3 : Hid (Below (g + 1) wa w3) := HB2.out.trans (hB3.mono (by have := HS2.out; have := HHG.out; omega))
    clear hB3 hB3' HNS hh k0 k1 k2 k3 k4 k5
    obtain ⟨b, hb⟩ : ∃ n, w3.heap.size = n := ⟨_, rfl⟩
    have HBB := Lib.hid hb
    have HGB : Hid (g + 1 ≤ b) := by have h := HB3.out.size; rw [HSA.out, hb] at h; exact h
    have hst := start_is M
    rw [HID.out, HFL.out, hv.out.eq, hv.out.ea, hv.out.en, hv.out.ex] at hst
    have hs3' : (s3.data.toList, ([] : Known)) = startW M := by rw [hs3, hst]
    obtain ⟨S1, hS1⟩ : ∃ S, qnsW M.qs (startW M) = S := ⟨_, rfl⟩
    have HQ0 : Hid (qnsW (M.qs.drop 0) (s3.data.toList, []) = S1) := by show _ = _; rw [hs3']; exact hS1
    have HI0 : Hid (Inv (s3.data.toList, [])) := by show Inv _; rw [hs3']; exact (start_inv M).1
    have hq0 : s3.size ≤ 12 + 259 * 0 := by rw [Lib.size_eq, show s3.data.toList = (startW M).1 by rw [← hs3'], (start_inv M).2]; decide
    have HO0 : Hid (w3.ownsRow b 119 2 (.slice none 0 0) ([] : Known).length (restCs [])) := World.ownsRow_nil _ _ _ _
    have HV0 : Hid (Below b w3 w3) := Below.refl _ _
    have HT0 : Hid (Oth w3 w3) := Oth.refl _
    have HMW : Hid (recsW (recsM M) S1 = msgW M) := by show _ = _; rw [← hS1]; rfl
    have hnq : nq ≤ 256 := by have h := HOK.out.1; have := hv.out.eq; omega
    clear hst hs3 hs3' hS1 hb
    go_wp2_with fail
    go_loopw [5, 6, 7] (fun u v i wr => ∃ (k : Nat) (q : ByteArray) (L : Known) (o : Value), k ≤ nq ∧ i = .int .i64 k ∧ u = .string q ∧ v = o ∧ q.size ≤ 12 + 259 * k ∧ Hid (qnsW (M.qs.drop k) (q.data.toList, L) = S1) ∧ Hid (Inv (q.data.toList, L)) ∧ Hid (wr.ownsRow b 119 2 o L.length (restCs L)) ∧ Hid (Below b w3 wr)) (fun _ _ i _ => nq - (intOf i).toNat)
    case atStart => exact ⟨0, _, [], _, Nat.zero_le _, rfl, rfl, rfl, hq0, HQ0, HI0, HO0, HV0⟩
    case round =>
      obtain ⟨k, q, L, o, hk, rfl, rfl, rfl, hq, hF, hI2, hO2, hV⟩ := hrel
      obtain ⟨oA, oc, e0, _⟩ := cells_own hO2.out
      subst e0
      have HBW : Hid (b ≤ wr.heap.size) := by have h := hV.out.size; rw [HBB.out] at h; exact h
      have HWR : Hid (Below (g + 1) wa wr) := HB3.out.trans (hV.out.mono HGB.out)
      have hbx := (HWR.out.block g (Nat.lt_succ_self g) |>.trans HBX.out)
      have k2 := cell_of_row _ _ 2 _ _ _ hbx
      have hLn : L.length ≤ q.size := by have h := hI2.out.2; rw [← Lib.size_eq] at h; exact h
      by_cases hlt : k < nq
      · have hkl : k < M.qs.length := by rw [hv.out.eq]; exact hlt
        have hWB : Below B w wr := (HBA.out.mono hbg).trans (HWR.out.mono (by omega))
        obtain ⟨bq, off, rfl, hbl, p0, p1, p2⟩ := (hv.out.at_.q.on hWB (Nat.le_refl _)).qn hkl
        have hqq := hf.out.qs _ (List.getElem_mem hkl)
        have hqn := HOK.out.2.1 _ (List.getElem_mem hkl)
        have hF2 := hF.out
        rw [qnsW_drop hkl] at hF2
        obtain ⟨Q, hQ⟩ : ∃ Q, M.qs[k]'hkl = Q := ⟨_, rfl⟩
        rw [hQ] at p0 p1 p2 hqq hqn hF2
        rw [qnW_is] at hF2
        obtain ⟨y, hy⟩ : ∃ y, mk Q.name = y := ⟨_, rfl⟩
        have hyl : Q.name = y.data.toList := by rw [← hy, mk_list]
        obtain ⟨qk, hqk⟩ : ∃ n, Q.kind = n := ⟨_, rfl⟩
        obtain ⟨qc, hqc⟩ : ∃ n, Q.cls = n := ⟨_, rfl⟩
        rw [hy] at p0
        rw [hqk] at p1
        rw [hqc] at p2
        rw [hyl] at hF2 hqn
        rw [hqk, hqc] at hF2 hqq
        have hr1 := rests_of hqn
        have hr2 := isN_le hqn
        have hys : y.size ≤ 255 := by rw [Lib.size_eq]; exact hr2
        have hin := inv_name hr1 hI2.out hr2
        obtain ⟨T, hT2⟩ : ∃ T, nameW y.data.toList (q.data.toList, L) = T := ⟨_, rfl⟩
        rw [hT2] at hF2 hin
        have HCA := Lib.hid (refNameW_is y q L b L.length (.slice oA L.length oc) T wr hO2 rfl HBW.out hr1 hys (by omega) (by omega) hI2.out.1 hT2)
        have HF2 := Lib.hid hF2
        have HIN := Lib.hid hin
        have HQZ := Lib.hid (Lib.size_eq q)
        have hbqr : bq < b := by have := HGB.out; omega
        have hqk2 : qk ≤ 65535 := hqq.2.1
        have hqc2 : qc ≤ 65535 := hqq.2.2
        clear hF2 hin hT2 hy hyl hr1 hr2 hLn hkl hF hqq hqn hQ hqk hqc hWB hbx
        go_wp2_with fail
        refine HCA.out.mono ?_
        rintro e w5 ⟨o', v', rfl, ho', hown', hbel', hoth'⟩
        have HT3 : Hid ((o'.data.toList, T.2) = T) := by show _ = _; rw [ho']
        have hos : o'.size ≤ 12 + 259 * k + 255 := by
          have h := HIN.out.2
          rw [← ho'] at h
          rw [← Lib.size_eq, ← Lib.size_eq] at h
          omega
        have E3 : Hid (w5.ownsRow b 119 2 v' T.2.length (restCs T.2)) := hown'
        have E4 : Hid (Below b w3 w5) := hV.out.trans hbel'
        have HB5 : Hid (b ≤ w5.heap.size) := by have h := E4.out.size; rw [HBB.out] at h; exact h
        have g0 := (hbel'.cell (p := ⟨bq, off + k * 3, none⟩) hbqr).trans p0
        have g1 := (hbel'.cell (p := ⟨bq, off + k * 3 + 1, none⟩) hbqr).trans p1
        have g2 := (hbel'.cell (p := ⟨bq, off + k * 3 + 2, none⟩) hbqr).trans p2
        have HWR5 : Hid (Below (g + 1) wa w5) := HB3.out.trans (E4.out.mono HGB.out)
        have hbx5 := (HWR5.out.block g (Nat.lt_succ_self g) |>.trans HBX.out)
        have k5q := cell_of_row _ _ 2 _ _ _ hbx5
        obtain ⟨wd, hwd⟩ : ∃ u, (w5.alloc (.cells #[.int .i64 qk, .int .i64 qc] 3)).drew = u := ⟨_, rfl⟩
        have hdx : wd.heap[w5.heap.size]? = some (.cells #[.int .i64 qk, .int .i64 qc] 3 (0, 0)) := by rw [← hwd]; exact heap_alloc_new w5 _
        have CN := Lib.hid (refNumbers_is (some ⟨w5.heap.size, 0, none⟩) 2 2 (w5.heap.size + 1) [qk, qc] o' _ wd (cells_laid hdx) (heap_lt hdx) (Lib.hid rfl) (by decide) (by omega) (by intro x hx; simp at hx; rcases hx with rfl | rfl <;> omega) (Lib.hid rfl))
        have E3d : Hid (wd.ownsRow b 119 2 v' T.2.length (restCs T.2)) := by rw [← hwd]; exact E3.out.alloc _
        have E4d : Hid (Below b w3 wd) := by rw [← hwd]; exact (E4.out.alloc HB5.out _).drew
        have HSD : Hid (b ≤ wd.heap.size) := by have h := E4d.out.size; rw [HBB.out] at h; exact h
        have HWD := Lib.hid hwd
        have HF3 : Hid (∀ z : ByteArray, z.data.toList = o'.data.toList ++ numsL 2 [qk, qc] → qnsW (M.qs.drop (k + 1)) (z.data.toList, T.2) = S1 ∧ Inv (z.data.toList, T.2) ∧ z.size ≤ 12 + 259 * (k + 1)) := fun z hz => by
          refine ⟨?_, ?_, ?_⟩
          · rw [hz, ho']; exact HF2.out
          · rw [hz, ho']
            exact (put_longer (numsL 2 [qk, qc]) T).inv HIN.out.1
          · rw [Lib.size_eq, hz, List.length_append, ← Lib.size_eq, numsL_len]
            simp only [List.length_cons, List.length_nil]
            omega
        have hwk : IntKind.i64.wrap (qk : Int) = (qk : Int) := by rw [IntKind.wrap_i64]; omega
        have hwc : IntKind.i64.wrap (qc : Int) = (qc : Int) := by rw [IntKind.wrap_i64]; omega
        clear ho' hown' hbel' hoth' k2 p0 p1 p2 HCA hbx5 hdx hwd
        go_wp2_with fail
        go_region_with (go_at_call 45; rw [HWD.out]; refine CN.out.mono ?_; rintro e wx ⟨z, rfl, hz, hbz⟩; have HZ3 := Lib.hid (HF3.out z hz); have E5 : Hid (wx.ownsRow b 119 2 v' T.2.length (restCs T.2)) := row_below E3d.out hbz; have E6 : Hid (Below b w3 wx) := E4d.out.trans (hbz.mono HSD.out); clear hz hbz)
        all_goals
          clear hwk hwc CN HF3 g0 g1 g2 k5q
          go_wp2_with fail
          go_roundw
          case rel =>
            (repeat apply Exists.intro)
            first | exact ⟨by omega, by go_num, rfl, rfl, HZ3.out.2.2, HZ3.out.1, HZ3.out.2.1, E5, E6⟩ | exact ⟨⟨k + 1, z, T.2, v', by omega, by go_num, rfl, rfl, HZ3.out.2.2, HZ3.out.1, HZ3.out.2.1, E5, E6⟩, rfl⟩
          case measure => simp [intOf]; omega
      · have hke : ¬ ((k : Int) < (nq : Int)) := by omega
        have HF3 : Hid (recsW ((recsM M).drop 0) (q.data.toList, L) = msgW M) := by
          show _ = _
          have h := hF.out
          rw [List.drop_of_length_le (by rw [hv.out.eq]; omega)] at h
          have h2 : (q.data.toList, L) = S1 := h
          rw [h2]
          exact HMW.out
        have k0 := cell_of_row _ _ 0 _ _ _ hbx
        have k1 := cell_of_row _ _ 1 _ _ _ hbx
        have k3 := cell_of_row _ _ 3 _ _ _ hbx
        have k4 := cell_of_row _ _ 4 _ _ _ hbx
        have k5 := cell_of_row _ _ 5 _ _ _ hbx
        have HWR0 : Hid (Below B w wr) := (HBA.out.mono hbg).trans (HWR.out.mono (by omega))
        have HRC := Lib.hid (refRecords_w M id fl Aq Aa An Ax nq na nn nx cq ca cn cx B Za Zn Zx wr (hv.out.on HWR0.out (Nat.le_refl _)) (by have := HBW.out; have := HGB.out; omega) hc2 hc3 hc4)
        have hq70 : q.size ≤ 70000 := by omega
        obtain ⟨wo, rfl⟩ : ∃ wo : World, wo = wr := ⟨_, rfl⟩
        clear hF hbx hLn hq hlt HWR0
        go_wp2_with fail
        refine HRC.out.mono ?_
        rintro e w5 ⟨Ar, cr, he, hO, hB2⟩
        have hall := hv.out.all
        obtain ⟨ZZ, hZZ⟩ : ∃ Z, Za ++ Zn ++ Zx = Z := ⟨_, rfl⟩
        obtain ⟨nz, hnz⟩ : ∃ n, na + nn + nx = n := ⟨_, rfl⟩
        rw [hZZ] at hall hO
        rw [hnz] at hall hO he
        subst he
        have hnz2 : nz ≤ 3000 := by omega
        have HALL := Lib.hid hall
        have HRW : Hid (w5.ownsRow b 60 7 (.slice Ar nz cr) nz (recCs ZZ)) := row_low hO HBW.out
        have HV5 : Hid (Below b w3 w5) := hV.out.trans (hB2.mono HBW.out)
        have HO5 : Hid (w5.ownsRow b 119 2 (.slice oA L.length oc) L.length (restCs L)) := row_below hO2.out hB2
        have HT5 : Hid (Oth w5 w5) := Oth.refl _
        clear hO hB2 hall hZZ hnz k0 k1 k2 k3 k4 k5 hke HRC
        go_wp2_with fail
        go_loopw [5, 6, 9] (fun u v i wr => ∃ (k : Nat) (q : ByteArray) (L : Known) (o : Value), k ≤ nz ∧ i = .int .i64 k ∧ u = .string q ∧ v = o ∧ q.size ≤ 70000 ∧ Hid (recsW ((recsM M).drop k) (q.data.toList, L) = msgW M) ∧ Hid (Inv (q.data.toList, L)) ∧ Hid (wr.ownsRow b 119 2 o L.length (restCs L)) ∧ Hid (Below b w3 wr) ∧ Hid (Oth w5 wr)) (fun _ _ i _ => nz - (intOf i).toNat)
        case atStart => exact ⟨0, _, L, _, Nat.zero_le _, rfl, rfl, rfl, hq70, HF3, hI2, HO5, HV5, HT5⟩
        case round =>
          clear hq70 HF3 hI2 HO5 HV5 HT5 hO2 hV HWR HBW
          obtain ⟨k, q, L, o, hk, rfl, rfl, rfl, hq, hF, hI2, hO2, hV, hT⟩ := hrel
          obtain ⟨oA, oc, e0, _⟩ := cells_own hO2.out
          subst e0
          have HBW : Hid (b ≤ wr.heap.size) := by have h := hV.out.size; rw [HBB.out] at h; exact h
          have hLn : L.length ≤ q.size := by have h := hI2.out.2; rw [← Lib.size_eq] at h; exact h
          by_cases hlt : k < nz
          · have hkz : k < ZZ.length := by rw [HALL.out.2.2]; exact hlt
            have hrow : wr.ownsRow b 60 7 (.slice Ar nz cr) nz (recCs ZZ) := own_oth HRW.out hT.out (by decide)
            have hWB : Below B w wr := (HBA.out.mono hbg).trans ((HB3.out.trans (hV.out.mono HGB.out)).mono (by omega))
            obtain ⟨br, B1, e1, B2, e2, B3, e3, rfl, hbr, hblk, hat, p0, p1, p2, p3, p4, p5, p6⟩ := recs_getO hrow (HALL.out.2.1.on hWB (Nat.le_refl _)) hkz
            obtain ⟨hkM, hkR⟩ := get_map HALL.out.1 hkz
            have hck := HOK.out.2.2 _ (List.getElem_mem hkM)
            have hsm := hf.out.recs HOK.out.2.1 _ (List.getElem_mem hkM)
            have hF2 := hF.out
            rw [recsW_drop hkM] at hF2
            rw [← hkR] at hck hsm hF2
            obtain ⟨RR, hRR⟩ : ∃ R, (ZZ[k]'hkz).1 = R := ⟨_, rfl⟩
            rw [hRR] at hat p0 p1 p2 p3 p4 p5 p6 hck hsm hF2
            obtain ⟨y, hxn⟩ : ∃ x, mk RR.name = x := ⟨_, rfl⟩
            obtain ⟨rk, hrk⟩ : ∃ n, RR.kind = n := ⟨_, rfl⟩
            obtain ⟨rc, hrc⟩ : ∃ n, RR.cls = n := ⟨_, rfl⟩
            obtain ⟨rt, hrt⟩ : ∃ n, RR.ttl = n := ⟨_, rfl⟩
            obtain ⟨l1, hl1⟩ : ∃ n, RR.names.length = n := ⟨_, rfl⟩
            obtain ⟨l2, hl2⟩ : ∃ n, RR.nums.length = n := ⟨_, rfl⟩
            obtain ⟨l3, hl3⟩ : ∃ n, RR.texts.length = n := ⟨_, rfl⟩
            rw [hxn] at p0
            rw [hrk] at p1
            rw [hrc] at p2
            rw [hrt] at p3
            rw [hl1] at p4
            rw [hl2] at p5
            rw [hl3] at p6
            rw [hxn, hrk, hrc, hrt, hl1, hl2, hl3] at hat
            rw [hrk, hrc, hrt] at hsm
            have hyl : RR.name = y.data.toList := by rw [← hxn, mk_list]
            obtain ⟨hr1, hr2, _⟩ := right_names hck
            rw [hyl] at hr1 hr2
            have hys : y.size ≤ 255 := by rw [Lib.size_eq]; exact hr2
            have hin := inv_name hr1 hI2.out hr2
            obtain ⟨T, hT2⟩ : ∃ T, nameW y.data.toList (q.data.toList, L) = T := ⟨_, rfl⟩
            have hhd := headW_is RR (q.data.toList, L)
            rw [hyl, hT2, hrk, hrc, hrt] at hhd
            rw [hT2] at hin
            have HCA := Lib.hid (refNameW_is y q L b L.length (.slice oA L.length oc) T wr hO2 rfl HBW.out hr1 hys (by omega) (by omega) hI2.out.1 hT2)
            have HF2 := Lib.hid hF2
            have HIN := Lib.hid hin
            have HHD := Lib.hid hhd
            have HAT := Lib.hid hat
            have HCK := Lib.hid hck
            have HSM := Lib.hid hsm.1
            have HBLK := Lib.hid hblk
            have HQZ := Lib.hid (Lib.size_eq q)
            have hrk2 : rk ≤ 65535 := hsm.2.1
            have hrc2 : rc ≤ 65535 := hsm.2.2.1
            have hrt2 : rt ≤ 4294967295 := hsm.2.2.2
            have P0 := Lib.hid p0
            have P1 := Lib.hid p1
            have P2 := Lib.hid p2
            have P3 := Lib.hid p3
            have P4 := Lib.hid p4
            have P5 := Lib.hid p5
            have P6 := Lib.hid p6
            have HRL : Hid (recW RR (q.data.toList, L) = recW RR (q.data.toList, L)) := rfl
            clear hF2 hin hT2 hyl hr1 hr2 hLn hkM hkR hF hck hsm hRR hxn hrk hrc hrt hl1 hl2 hl3 hat hblk hhd hrow hWB p1 p2 p3 p4 p5 p6
            go_wp2_with fail
            refine HCA.out.mono ?_
            rintro e w6 ⟨o', v', rfl, ho', hown', hbel', hoth'⟩
            have hos : o'.size ≤ 70255 := by
              have h := HIN.out.2
              rw [← ho'] at h
              rw [← Lib.size_eq, ← Lib.size_eq] at h
              omega
            have HO' := Lib.hid ho'
            have E3 : Hid (w6.ownsRow b 119 2 v' T.2.length (restCs T.2)) := hown'
            have E4 : Hid (Below b wr w6) := hbel'
            have E5 : Hid (Oth wr w6) := hoth'
            have HB6 : Hid (b ≤ w6.heap.size) := Nat.le_trans HBW.out E4.out.size
            have g1 := cell_oth P1.out HBLK.out E5.out
            have g2 := cell_oth P2.out HBLK.out E5.out
            obtain ⟨wd, hwd⟩ : ∃ u, (w6.alloc (.cells #[.int .i64 rk, .int .i64 rc] 3)).drew = u := ⟨_, rfl⟩
            have hdx : wd.heap[w6.heap.size]? = some (.cells #[.int .i64 rk, .int .i64 rc] 3 (0, 0)) := by rw [← hwd]; exact heap_alloc_new w6 _
            have CN := Lib.hid (refNumbers_is (some ⟨w6.heap.size, 0, none⟩) 2 2 (w6.heap.size + 1) [rk, rc] o' _ wd (cells_laid hdx) (heap_lt hdx) (Lib.hid rfl) (by decide) (by omega) (by intro x hx; simp at hx; rcases hx with rfl | rfl <;> omega) (Lib.hid rfl))
            have E3d : Hid (wd.ownsRow b 119 2 v' T.2.length (restCs T.2)) := by rw [← hwd]; exact E3.out.alloc _
            have E4d : Hid (Below b wr wd) := by rw [← hwd]; exact (E4.out.alloc HB6.out _).drew
            have E5d : Hid (Oth wr wd) := by rw [← hwd]; exact E5.out.trans (oth_alloc w6 _)
            have HSD : Hid (b ≤ wd.heap.size) := Nat.le_trans HBW.out E4d.out.size
            have HWD := Lib.hid hwd
            have hwk : IntKind.i64.wrap (rk : Int) = (rk : Int) := by rw [IntKind.wrap_i64]; omega
            have hwc : IntKind.i64.wrap (rc : Int) = (rc : Int) := by rw [IntKind.wrap_i64]; omega
            clear ho' hown' hbel' hoth' p0 HCA hdx hwd hO2
            go_wp2_with fail
            go_region_with (go_at_call 45; rw [HWD.out]; refine CN.out.mono ?_; rintro e w7 ⟨z, rfl, hz, hbz⟩; have HZ3 := Lib.hid hz; have F3 : Hid (w7.ownsRow b 119 2 v' T.2.length (restCs T.2)) := row_below E3d.out hbz; have F4 : Hid (Below b wr w7) := E4d.out.trans (hbz.mono HSD.out); have F5 : Hid (Oth wr w7) := E5d.out.trans (oth_below hbz); clear hz hbz)
            all_goals
              clear hwk hwc CN g1 g2 E3 E4 E5 E3d E4d E5d HWD
              have g3 := cell_oth P3.out HBLK.out F5.out
              have hzs : z.size ≤ 70259 := by rw [Lib.size_eq, HZ3.out, List.length_append, ← Lib.size_eq, numsL_len]; simp only [List.length_cons, List.length_nil]; omega
              obtain ⟨r, hr⟩ : ∃ r, mk (z.data.toList ++ beTail rt 4) = r := ⟨_, rfl⟩
              have hrl : z.data.toList ++ beTail rt 4 = r.data.toList := by rw [← hr, mk_list]
              have hrs : r.size ≤ 70263 := by rw [Lib.size_eq, ← hrl, List.length_append, ← Lib.size_eq, beTail_length]; omega
              have HP := Lib.hid (refPut_is z r rt 4 w7 (by omega) (by decide) (by omega) hrl)
              have HHR : Hid (headW RR (q.data.toList, L) = (r.data.toList, T.2)) := by show _ = _; rw [HHD.out, ← hrl, HZ3.out, HO'.out]
              have HB7 : Hid (b ≤ w7.heap.size) := Nat.le_trans HBW.out F4.out.size
              clear hr hrl hos
              go_wp2_with fail
              refine HP.out.mono ?_
              rintro e w8 ⟨rfl, hb8⟩
              have G3 : Hid (w8.ownsRow b 119 2 v' T.2.length (restCs T.2)) := row_below F3.out hb8
              have G4 : Hid (Below b wr w8) := F4.out.trans (hb8.mono HB7.out)
              have G5 : Hid (Oth wr w8) := F5.out.trans (oth_below hb8)
              have HB8 : Hid (b ≤ w8.heap.size) := Nat.le_trans HBW.out G4.out.size
              have u0 := cell_oth P0.out HBLK.out G5.out
              have u1 := cell_oth P1.out HBLK.out G5.out
              have u2 := cell_oth P2.out HBLK.out G5.out
              have u3 := cell_oth P3.out HBLK.out G5.out
              have u4 := cell_oth P4.out HBLK.out G5.out
              have u5 := cell_oth P5.out HBLK.out G5.out
              have u6 := cell_oth P6.out HBLK.out G5.out
              have hz00 : (r ++ ⟨#[0, 0]⟩).data.toList = r.data.toList ++ [0, 0] := by rw [cat_list]
              have hzz : (r ++ ⟨#[0, 0]⟩).size ≤ 800000 := by rw [Lib.size_eq, hz00, List.length_append, ← Lib.size_eq]; simp only [List.length_cons, List.length_nil]; omega
              obtain ⟨D, hD⟩ : ∃ D, dataW RR ((r ++ ⟨#[0, 0]⟩).data.toList, T.2) = D := ⟨_, rfl⟩
              have hinv : Inv ((r ++ ⟨#[0, 0]⟩).data.toList, T.2) := by
                have h := inv_num ((headW_longer HCK.out (q.data.toList, L)).inv hI2.out) 0 2
                rw [HHR.out] at h
                rw [hz00]
                exact h
              have HDA := Lib.hid (refData_is RR y rk rc rt B1 l1 e1 B2 l2 e2 B3 l3 e3 (r ++ ⟨#[0, 0]⟩) T.2 b T.2.length B v' D w8 (HAT.out.on (G4.out.mono (by have := HGB.out; omega)) (Nat.le_refl _)) (by show _ ≤ _; have := HGB.out; omega) HSM HCK G3 rfl HB8 hzz (Lib.hid hinv) (Lib.hid hD))
              rw [hz00] at hD
              have HD := Lib.hid hD
              clear hb8 HP F3 F4 F5 hD hz00 hzz hinv g3
              go_wp2_with fail
              refine HDA.out.mono ?_
              rintro e w9 ⟨t, v2, rfl, ht, hown9, hbel9, hoth9⟩
              have hD2 : dataW RR (r.data.toList ++ [0, 0], T.2) = (t.data.toList, D.2) := by rw [HD.out, ht]
              obtain ⟨n, hn1, hn2, hn3⟩ := rec_step HCK.out HHR.out hD2
              rw [← Lib.size_eq, ← Lib.size_eq] at hn1
              rw [← Lib.size_eq] at hn3
              have I3 : Hid (w9.ownsRow b 119 2 v2 D.2.length (restCs D.2)) := hown9
              have I4 : Hid (Below b w3 w9) := hV.out.trans (G4.out.trans hbel9)
              have I5 : Hid (Oth w5 w9) := hT.out.trans (G5.out.trans hoth9)
              have HB9 : Hid (b ≤ w9.drew.heap.size) := Nat.le_trans HB8.out hbel9.size
              have HN3 := Lib.hid hn3
              obtain ⟨PP, hPP⟩ : ∃ P, mk (r.data.toList ++ beTail n 2) = P := ⟨_, rfl⟩
              have hPl : r.data.toList ++ beTail n 2 = PP.data.toList := by rw [← hPP, mk_list]
              have hPs : PP.size = r.size + 2 := by rw [Lib.size_eq, ← hPl, List.length_append, ← Lib.size_eq, beTail_length]
              have HPP := Lib.hid (refPut_is r PP n 2 w9.drew (by omega) (by decide) (by omega) hPl)
              obtain ⟨t2, ht2⟩ : ∃ t2, t.extract (r.size + 2) t.size = t2 := ⟨_, rfl⟩
              have ht2l : t2.data.toList = t.data.toList.drop (r.size + 2) := by rw [← ht2, extract_list, List.take_of_length_le (by rw [← Lib.size_eq]; exact Nat.le_refl _)]
              have ht2s : t2.size = n := by rw [Lib.size_eq, ht2l, List.length_drop, ← Lib.size_eq]; omega
              obtain ⟨s9, hs9⟩ : ∃ s, PP ++ t2 = s := ⟨_, rfl⟩
              have hs9l : s9.data.toList = r.data.toList ++ beTail n 2 ++ t.data.toList.drop (r.size + 2) := by rw [← hs9, cat_list, ht2l, hPl]
              have HRC2 : Hid (recW RR (q.data.toList, L) = (s9.data.toList, D.2)) := by show _ = _; rw [HN3.out, hs9l]
              have hs9s : s9.size = r.size + 2 + n := by rw [← hs9, ByteArray.size_append, hPs, ht2s]
              have HT2 := Lib.hid ht2
              have HS9 := Lib.hid hs9
              have hnn : (t.size : Int) - (r.size : Int) - 2 = (n : Int) := by omega
              have hwn : IntKind.u64.wrap (n : Int) = (n : Int) := by rw [IntKind.wrap_u64]; omega
              have hwr : IntKind.i64.wrap ((r.size : Int) + 2) = ((r.size + 2 : Nat) : Int) := by rw [IntKind.wrap_i64]; omega
              have hle2 : ((r.size + 2 : Nat) : Int) ≤ (t.size : Int) := by omega
              have HN1 := Lib.hid hn1
              clear hn1 ht hown9 hbel9 hoth9 hD2 hn3 hPP hPl ht2 ht2l hs9 hs9l u0 u1 u2 u3 u4 u5 u6 HDA G3 G4 G5 P0 P1 P2 P3 P4 P5 P6 hV hT
              go_wp2_with fail
              go_region_with (go_at_call 47; refine HPP.out.mono ?_; rintro e wx ⟨rfl, hbx⟩; have J3 : Hid (wx.ownsRow b 119 2 v2 D.2.length (restCs D.2)) := row_below (W := w9.drew) I3.out hbx; have J4 : Hid (Below b w3 wx) := I4.out.drew.trans (hbx.mono HB9.out); have J5 : Hid (Oth w5 wx) := Oth.trans (b := w9.drew) I5.out (oth_below hbx); clear hbx)
              all_goals
                clear hnn hwn hwr hle2 HPP I3 I4 I5
                rw [HT2.out, HS9.out]
                have HVX : Hid (Below g w wx) := HBA.out.trans ((HB3.out.mono (Nat.le_succ _)).trans (J4.out.mono (by have := HGB.out; omega)))
                by_cases hbig : 65535 < s9.size
                · have HOUT : Hid (writeM M = ([], 3)) := by
                    refine writeM_long HE.out ?_
                    rw [← HF2.out, HRC2.out]
                    have h := (recsW_longer (L := (recsM M).drop (k + 1)) (s9.data.toList, D.2) (fun R hR => HOK.out.2.2 R (List.mem_of_mem_drop hR))).len.1
                    rw [Lib.size_eq] at hbig
                    exact Nat.lt_of_lt_of_le hbig h
                  have hbi : (65535 : Int) < (s9.size : Int) := by omega
                  go_wp2_with fail
                  go_ret2
                  exact ⟨⟨#[]⟩, 3, rfl, HOUT.out, HVX.out⟩
                · have hbi : ¬ ((65535 : Int) < (s9.size : Int)) := by omega
                  have hq9 : s9.size ≤ 70000 := by omega
                  have K1 : Hid (recsW ((recsM M).drop (k + 1)) (s9.data.toList, D.2) = msgW M) := by show _ = _; rw [← HRC2.out]; exact HF2.out
                  have K2 : Hid (Inv (s9.data.toList, D.2)) := by show Inv _; rw [← HRC2.out]; exact (recW_longer HCK.out _).inv hI2.out
                  clear hbig hs9s
                  go_wp2_with fail
                  go_roundw
                  case rel =>
                    (repeat apply Exists.intro)
                    first | exact ⟨by omega, by go_num, rfl, rfl, hq9, K1, K2, J3, J4, J5⟩ | exact ⟨⟨k + 1, s9, D.2, v2, by omega, by go_num, rfl, rfl, hq9, K1, K2, J3, J4, J5⟩, rfl⟩
                  case measure => simp [intOf]; omega
          · have hke : ¬ ((k : Int) < (nz : Int)) := by omega
            have HMQ : Hid (q.data.toList = (msgW M).1) := by
              show _ = _
              have h := hF.out
              rw [List.drop_of_length_le (by rw [← HALL.out.1, List.length_map, HALL.out.2.2]; omega)] at h
              rw [← h]
              rfl
            have HQZ := Lib.hid (Lib.size_eq q)
            have HVV : Hid (Below g w wr) := HBA.out.trans ((HB3.out.mono (Nat.le_succ _)).trans (hV.out.mono (by have := HGB.out; omega)))
            clear hF hLn
            by_cases hbig : 65535 < q.size
            · have HOUT := Lib.hid (writeM_long HE.out (by rw [← HMQ.out, ← HQZ.out]; exact hbig))
              have hbi : (65535 : Int) < (q.size : Int) := by omega
              go_wp2_with fail
              go_ret2
              exact ⟨⟨#[]⟩, 3, rfl, HOUT.out, HVV.out⟩
            · have HOUT := Lib.hid (writeM_good HE.out (by rw [← HMQ.out, ← HQZ.out]; exact hbig))
              rw [← HMQ.out] at HOUT
              have hbi : ¬ ((65535 : Int) < (q.size : Int)) := by omega
              go_wp2_with fail
              go_ret2
              exact ⟨q, 0, rfl, HOUT.out, HVV.out⟩
  · have HOUT := Lib.hid (writeM_bad HE.out hE0)
    have hez : ((E : Int) != 0) = true := bne_iff_ne.2 (by omega)
    go_wp2_with fail
    go_ret2
    exact ⟨⟨#[]⟩, E, rfl, HOUT.out, HW1.out⟩
end Go.Proofs.Ytpmmjmnleoicjaa
