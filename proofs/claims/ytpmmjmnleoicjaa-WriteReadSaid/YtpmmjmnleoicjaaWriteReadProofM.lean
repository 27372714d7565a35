/- Proves WriteRead: what was read of any bytes can be written, and is read again as it was. No condition. -/
import Derived.Test.YtpmmjmnleoicjaaRows
import Derived.Test.YtpmmjmnleoicjaaWriteReadProofG6
import Derived.Test.YtpmmjmnleoicjaaWriteReadProofG1
import Derived.Test.YtpmmjmnleoicjaaWriteReadProofG5
import Derived.Test.YtpmmjmnleoicjaaWriteReadProofG3
import Derived.Test.YtpmmjmnleoicjaaWriteReadProofG9
import Derived.WalkKit
import Derived.ProofKit
import Derived.OpenShut
import Derived.ShutString
import Derived.Below
namespace Go.Proofs.Ytpmmjmnleoicjaa.writeRead
open Go.ChangeShapes Go.WideShapes Go.ChangeAt Go.RowKit
open Go.ChangeMaps (open_string shut_string)
set_option linter.unusedVariables false      -- a walk need not use every 'w<i>' (that an integer argument fits its kind)

theorem own : ownKnob Try.prog.godebug = none := by kernel_rfl

open Bytes Strs Nums NmMath MsgMath NameMath RecMath DatMath WrMath WrRound
theorem read_is (s : ByteArray) (R : Except Nat Msg) (w : World) (hs : s.size ≤ 1000000) (hR : Hid (rd (recE s.data.toList) s.data.toList = R)) : Calls Try.prog 20 #[.string s] w (ReadRet w R) :=
  read_any s _ R w hs (fun _ _ r => recReads s r hs) hR

set_option maxHeartbeats 8000000 in
set_option maxRecDepth 100000 in

theorem walk (a0 : ByteArray) (w0 : a0.size ≤ maxLen) (w : World) :
    Calls Try.prog 4 #[.string a0] w fun e w' => e = .returned (.bool true) ∧ Below w.heap.size w w' := by
  have n0 : Below w.heap.size w w := Below.refl _ _
  by_cases h1 : (3000 : Int) < a0.size
  · go_enter Try.func4, Try.ntmps4
    go_wp2_with fail
    refine (awakeW_any _).mono ?_
    rintro e w1 ⟨rfl, hB⟩
    go_wp2_with fail
    go_ret
    exact ⟨rfl, hB⟩
  have hi1 : (a0.size : Int) ≤ 3000 := by omega
  obtain ⟨R, hR⟩ : ∃ R, rd (recE a0.data.toList) a0.data.toList = R := ⟨_, rfl⟩
  have HR := Lib.hid (fun w => read_is a0 R w (by omega) hR)
  cases R with
  | error x =>
    have hx0 := rd_ne hR
    have hx : ((x : Int) != 0) = true := bne_iff_ne.2 (by omega)
    clear hR hx0 n0
    go_enter Try.func4, Try.ntmps4
    go_wp2_with fail
    refine (awakeW_any _).mono ?_
    rintro e w1 ⟨rfl, n1⟩
    have N1 := Lib.hid n1; clear n1
    go_wp2_with fail
    refine (HR.out _).mono ?_
    rintro e w2 ⟨rfl, n2⟩
    have N2 := Lib.hid (N1.out.trans (n2.mono N1.out.size)); clear n2 N1
    have N3 : Hid (Below w.heap.size w (w2.alloc (.cells #[.int .u16 0, .int .u16 0, .slice none 0 0, .slice none 0 0, .slice none 0 0, .slice none 0 0] 26))) := N2.out.alloc N2.out.size _
    go_wp2_with fail
    go_ret
    exact ⟨rfl, N3.out⟩
  | ok M =>
    have HBG := Lib.hid (rd_big hR)
    have HCK := Lib.hid (rd_check hR)
    have HQN := Lib.hid (checkM_ok HCK.out).2.1
    obtain ⟨g, hg⟩ : ∃ g, w.heap.size = g := ⟨_, rfl⟩
    have HG := Lib.hid hg
    rw [hg]
    clear hR n0 hg
    go_enter Try.func4, Try.ntmps4
    go_wp2_with fail
    refine (awakeW_any _).mono ?_
    rintro e w1 ⟨rfl, n1⟩
    have E1 : Hid (Below g w w1) := by have h := n1; rw [HG.out] at h; exact h
    have S1 : Hid (g ≤ w1.heap.size) := by have h := n1.size; rw [HG.out] at h; exact h
    clear n1
    go_wp2_with fail
    refine (HR.out _).mono ?_
    rintro e w2 ⟨vq, va, vn, vx, rfl, hMR, n2⟩
    obtain ⟨Aq, Aa, An, Ax, cq, ca, cn, cx, Za, Zn, Zx, rfl, rfl, rfl, rfl, hmv⟩ := rows_v hMR
    have E2 : Hid (Below g w w2) := E1.out.trans (n2.mono S1.out)
    have S2 : Hid (g ≤ w2.heap.size) := Nat.le_trans S1.out n2.size
    obtain ⟨b, hb⟩ : ∃ b, w2.heap.size = b := ⟨_, rfl⟩
    have HB := Lib.hid hb
    obtain ⟨w3, hw3⟩ : ∃ w3, w2.alloc (.cells #[.int .u16 M.id, .int .u16 M.flags, .slice Aq M.qs.length cq, .slice Aa M.an.length ca, .slice An M.ns.length cn, .slice Ax M.ad.length cx] 26) = w3 := ⟨_, rfl⟩
    have hB3 : Below b w2 w3 := by rw [← hw3, ← hb]; exact (Below.refl _ _).alloc (Nat.le_refl _) _
    have HX : Hid (w3.heap[b]? = some (.cells #[.int .u16 M.id, .int .u16 M.flags, .slice Aq M.qs.length cq, .slice Aa M.an.length ca, .slice An M.ns.length cn, .slice Ax M.ad.length cx] 26 (0, 0))) := by rw [← hw3, ← hb]; exact heap_alloc_new w2 _
    have S3 : Hid (w3.heap.size = b + 1) := by show _ = _; rw [← hw3, ← hb]; simp
    have SB : Hid (g ≤ b) := by rw [← hb]; exact S2.out
    have E3 : Hid (Below g w w3) := E2.out.trans (hB3.mono SB.out)
    rw [hb] at hmv
    have HM : Hid (MsgV w3 b M Aq Aa An Ax M.qs.length M.an.length M.ns.length M.ad.length ca cn cx Za Zn Zx) := hmv.on hB3 (Nat.le_refl _)
    have HW3 := Lib.hid hw3
    clear hmv hMR n2 hB3 hw3
    go_upto_region 6 with fail
    rw [HW3.out]
    clear hb
    have k0 := cell_of_row _ _ 0 _ _ _ HX.out
    have k1 := cell_of_row _ _ 1 _ _ _ HX.out
    have k2 := cell_of_row _ _ 2 _ _ _ HX.out
    have k3 := cell_of_row _ _ 3 _ _ _ HX.out
    have k4 := cell_of_row _ _ 4 _ _ _ HX.out
    have k5 := cell_of_row _ _ 5 _ _ _ HX.out
    go_wp2_with fail
    refine (fewM_any M Aq Aa An Ax _ _ _ _ cq ca cn cx b Za Zn Zx w3 HM.out (by have := S3.out; omega) HBG.out).mono ?_
    rintro e w4 ⟨bb, rfl, hbb, n4⟩
    have K4 : Hid (Below (b + 1) w3 w4) := by have h := n4; rw [S3.out] at h; exact h
    have E4 : Hid (Below g w w4) := E3.out.trans (K4.out.mono (by have := SB.out; omega))
    have HBB := Lib.hid hbb
    clear hbb n4 k0 k1 k2 k3 k4 k5
    cases bb with
    | false =>
      go_wp2_with fail
      go_ret
      exact ⟨rfl, E4.out⟩
    | true =>
    have HF := Lib.hid (HBB.out rfl).1
    obtain ⟨⟨o, code⟩, hwm⟩ : ∃ S, writeM M = S := ⟨_, rfl⟩
    obtain ⟨out, hout⟩ : ∃ s, mk o = s := ⟨_, rfl⟩
    have ho : o = out.data.toList := by rw [← hout, mk_list]
    subst ho
    have HWC := Lib.hid (writeM_cases hwm)
    have HWM := Lib.hid hwm
    have hx4 := (K4.out.block b (Nat.lt_succ_self b)).trans HX.out
    have S4 : Hid (b + 1 ≤ w4.heap.size) := by have h := K4.out.size; rw [S3.out] at h; exact h
    have k0 := cell_of_row _ _ 0 _ _ _ hx4
    have k1 := cell_of_row _ _ 1 _ _ _ hx4
    have k2 := cell_of_row _ _ 2 _ _ _ hx4
    have k3 := cell_of_row _ _ 3 _ _ _ hx4
    have k4 := cell_of_row _ _ 4 _ _ _ hx4
    have k5 := cell_of_row _ _ 5 _ _ _ hx4
    clear HBB hout hwm hx4
    go_wp2_with fail
    refine (write_w M Aq Aa An Ax _ _ _ _ cq ca cn cx b code out Za Zn Zx w4 (HM.out.on (K4.out.mono (Nat.le_succ _)) (Nat.le_refl _)) (by have := S4.out; omega) HF.out HWM.out).mono ?_
    rintro e w5 ⟨rfl, n5⟩
    have K5 : Hid (Below (b + 1) w3 w5) := K4.out.trans (n5.mono S4.out)
    have E5 : Hid (Below g w w5) := E3.out.trans (K5.out.mono (by have := SB.out; omega))
    have S5 : Hid (b + 1 ≤ w5.heap.size) := Nat.le_trans S4.out n5.size
    clear n5 k0 k1 k2 k3 k4 k5
    rcases HWC.out with ⟨h0, hc, ho, hl⟩ | ⟨h3, hc, ho, hl⟩ | ⟨h0, h3, hc, ho⟩
    · subst h0
      have hbk := rd_back HF.out hc (by rw [← ho]; exact hl)
      rw [← ho] at hbk
      have hsz : out.size ≤ 65535 := by rw [Lib.size_eq]; exact hl
      have HRD := Lib.hid (read_is out (.ok M) w5 (by omega) hbk)
      clear hbk ho hl hc hsz HWC
      go_wp2_with fail
      refine HRD.out.mono ?_
      rintro e w6 ⟨vq, va, vn, vx, rfl, hMR, n6⟩
      obtain ⟨Bq, Ba, Bn, Bx, dq, da, dn, dx, Ya, Yn, Yx, rfl, rfl, rfl, rfl, hmv⟩ := rows_v hMR
      have K6 : Hid (Below (b + 1) w3 w6) := K5.out.trans (n6.mono S5.out)
      have S6 : Hid (b + 1 ≤ w6.heap.size) := Nat.le_trans S5.out n6.size
      obtain ⟨c, hc⟩ : ∃ c, w6.heap.size = c := ⟨_, rfl⟩
      obtain ⟨w7, hw7⟩ : ∃ w7, w6.alloc (.cells #[.int .u16 M.id, .int .u16 M.flags, .slice Bq M.qs.length dq, .slice Ba M.an.length da, .slice Bn M.ns.length dn, .slice Bx M.ad.length dx] 26) = w7 := ⟨_, rfl⟩
      have hB7 : Below c w6 w7 := by rw [← hw7, ← hc]; exact (Below.refl _ _).alloc (Nat.le_refl _) _
      have HY : Hid (w7.heap[c]? = some (.cells #[.int .u16 M.id, .int .u16 M.flags, .slice Bq M.qs.length dq, .slice Ba M.an.length da, .slice Bn M.ns.length dn, .slice Bx M.ad.length dx] 26 (0, 0))) := by rw [← hw7, ← hc]; exact heap_alloc_new w6 _
      have S7 : Hid (w7.heap.size = c + 1) := by show _ = _; rw [← hw7, ← hc]; simp
      have SC : Hid (b + 1 ≤ c) := by rw [← hc]; exact S6.out
      have K7 : Hid (Below (b + 1) w3 w7) := K6.out.trans (hB7.mono SC.out)
      rw [hc] at hmv
      have HN : Hid (MsgV w7 c M Bq Ba Bn Bx M.qs.length M.an.length M.ns.length M.ad.length da dn dx Ya Yn Yx) := hmv.on hB7 (Nat.le_refl _)
      have HW7 := Lib.hid hw7
      clear hmv hMR n6 hB7 hw7
      go_upto_region 12 with fail
      rw [HW7.out]
      clear hc
      have m0 := cell_of_row _ _ 0 _ _ _ HY.out
      have m1 := cell_of_row _ _ 1 _ _ _ HY.out
      have m2 := cell_of_row _ _ 2 _ _ _ HY.out
      have m3 := cell_of_row _ _ 3 _ _ _ HY.out
      have m4 := cell_of_row _ _ 4 _ _ _ HY.out
      have m5 := cell_of_row _ _ 5 _ _ _ HY.out
      go_wp2_with fail
      refine (write_w M Bq Ba Bn Bx _ _ _ _ dq da dn dx c 0 out Ya Yn Yx w7 HN.out (by have := S7.out; omega) HF.out HWM.out).mono ?_
      rintro e w8 ⟨rfl, n8⟩
      have L8 : Hid (Below (c + 1) w7 w8) := by have h := n8; rw [S7.out] at h; exact h
      have K8 : Hid (Below (b + 1) w3 w8) := K7.out.trans (L8.out.mono (by have := SC.out; omega))
      have S8 : Hid (c + 1 ≤ w8.heap.size) := by have h := L8.out.size; rw [S7.out] at h; exact h
      have E8 : Hid (Below g w w8) := E3.out.trans (K8.out.mono (by have := SB.out; omega))
      have hx8 := (K8.out.block b (Nat.lt_succ_self b)).trans HX.out
      have hy8 := (L8.out.block c (Nat.lt_succ_self c)).trans HY.out
      have HSA := Lib.hid (same_any M M Bq Ba Bn Bx Aq Aa An Ax dq da dn dx cq ca cn cx _ _ _ _ _ _ _ _ Ya Za Yn Zn Yx Zx true w8 (HN.out.on (L8.out.mono (Nat.le_succ _)) (by have := S8.out; omega)) (HM.out.on (K8.out.mono (Nat.le_succ _)) (by have := S8.out; have := SC.out; omega)) (few_small HF.out HQN.out) (few_small HF.out HQN.out) (by show _ ↔ _; simp))
      have fz : (out.toList == out.toList) = true := beq_self_eq_true _
      have p0 := cell_of_row _ _ 0 _ _ _ hy8
      have p1 := cell_of_row _ _ 1 _ _ _ hy8
      have p2 := cell_of_row _ _ 2 _ _ _ hy8
      have p3 := cell_of_row _ _ 3 _ _ _ hy8
      have p4 := cell_of_row _ _ 4 _ _ _ hy8
      have p5 := cell_of_row _ _ 5 _ _ _ hy8
      have k0 := cell_of_row _ _ 0 _ _ _ hx8
      have k1 := cell_of_row _ _ 1 _ _ _ hx8
      have k2 := cell_of_row _ _ 2 _ _ _ hx8
      have k3 := cell_of_row _ _ 3 _ _ _ hx8
      have k4 := cell_of_row _ _ 4 _ _ _ hx8
      have k5 := cell_of_row _ _ 5 _ _ _ hx8
      clear n8 m0 m1 m2 m3 m4 m5 hx8 hy8
      go_wp2_with fail
      refine HSA.out.mono ?_
      rintro e w9 ⟨rfl, n9⟩
      have E9 : Hid (Below g w w9) := E8.out.trans (n9.mono (by have := S8.out; have := SC.out; have := SB.out; omega))
      clear n9 p0 p1 p2 p3 p4 p5 k0 k1 k2 k3 k4 k5
      go_wp2_with fail
      go_ret
      exact ⟨rfl, E9.out⟩
    · subst h3
      obtain ⟨P, hP⟩ : ∃ P, plainM M = P := ⟨_, rfl⟩
      have hPi : (65535 : Int) < (P : Int) := by rw [hP] at hl; omega
      have HPM := Lib.hid (refPlainM_w M Aq Aa An Ax _ _ _ _ cq ca cn cx b Za Zn Zx P w5 (HM.out.on (K5.out.mono (Nat.le_succ _)) (Nat.le_refl _)) (by have := S5.out; omega) HF.out HQN.out hP)
      have hx5 := (K5.out.block b (Nat.lt_succ_self b)).trans HX.out
      have k0 := cell_of_row _ _ 0 _ _ _ hx5
      have k1 := cell_of_row _ _ 1 _ _ _ hx5
      have k2 := cell_of_row _ _ 2 _ _ _ hx5
      have k3 := cell_of_row _ _ 3 _ _ _ hx5
      have k4 := cell_of_row _ _ 4 _ _ _ hx5
      have k5 := cell_of_row _ _ 5 _ _ _ hx5
      clear hP hl ho hc HWC hx5
      go_wp2_with fail
      refine HPM.out.mono ?_
      rintro e w6 ⟨rfl, n6⟩
      have E6 : Hid (Below g w w6) := E5.out.trans (n6.mono (by have := S5.out; have := SB.out; omega))
      clear n6 k0 k1 k2 k3 k4 k5
      go_wp2_with fail
      go_ret
      exact ⟨rfl, E6.out⟩
    · exact absurd (HCK.out.symm.trans hc).symm h0

set_option maxRecDepth 100000 in
theorem lifted (os : Os) (started : os.Started) (H : Type) (enc : TypeId × Value → H) :
    ReturnsInHanded {} Try.checked os 4 .any (Rows.writeReadSpec.pre6 enc Try.prog Try.f4 Rows.writeReadRow.domain false) (Rows.writeReadSpec.post enc Try.prog Try.f4 false true false false) := by
  refine returnsInHanded_of_change (C := Try.checked) own started (by kernel_rfl) Try.func4
    (ChangeSpec.witness6 (enc := enc) (C := Try.checked) false ⟨#[], #[.string ByteArray.empty], []⟩ 8 (by kernel_rfl) (by kernel_rfl) (by kernel_rfl) (by kernel_rfl)) ?_
  intro W base args ds gs before hval0 hW hcnd _
  have hval : ∀ (j : Nat) t v, Try.f4.params[j]? = some t → args[j]? = some v → Value.okWide Try.prog W .any base t v := hval0
  have hW' := hW
  obtain ⟨p, q, hA0, hV, rfl, hfz, hnd⟩ := hW
  have hA : DataW.TrodAll enc Try.prog W 0 (fun _ => true) true Try.f4.params.toList args.toList ds p := hA0
  rw [Try.params4] at hA hval
  obtain ⟨v0, vs0, d0, ds0, p0, q0, hargs, rfl, rfl, h0, r0⟩ := trodAll_cons hA
  obtain ⟨rfl, rfl, rfl⟩ := trodAll_nil r0
  obtain rfl : args = #[v0] := by cases args; simp_all
  obtain ⟨rfl, rfl⟩ := trodVars_none hV
  obtain ⟨a0, rfl, rfl, rfl, w0⟩ := open_string Try.underlying9 (hval 0 9 v0 rfl rfl) h0
  clear hA0 hval0
  simp only [List.append_nil] at hW'
  refine (walk a0 w0 W).mono fun e W' ⟨he, hg⟩ => ?_
  subst he
  exact ⟨_, rfl, _, _, _, [], [], [], hW', (trodAll_cons_mk (shut_bool Try.underlying4 _) trodAll_mk0), (trodAll_cons_mk (shut_string Try.underlying9 w0) trodAll_mk0), rfl, hg.frame _, fun h => by cases h⟩

theorem over : Rows.writeReadRow.holds Try.pinned (OpenSpec.ofChange Rows.writeReadSpec) :=
  OpenClaim.holds_of_wide 4 Try.f4 rfl rfl rfl rfl rfl rfl rfl ⟨rfl, rfl, rfl, rfl, rfl⟩ rfl rfl rfl rfl rfl (by kernel_rfl) Try.func4 (by kernel_rfl)
    (of_decide_eq_true (by kernel_rfl)) (by unfold Func.isWrapper; first | (rw [if_pos (by decide +kernel)]; kernel_rfl) | (rw [if_neg (by decide +kernel)]; exact ⟨rfl, rfl⟩))
    (fun os started H enc _ => lifted os started H enc)

theorem proved : Rows.WriteReadSaid :=
  over
#print axioms proved
end Go.Proofs.Ytpmmjmnleoicjaa.writeRead
