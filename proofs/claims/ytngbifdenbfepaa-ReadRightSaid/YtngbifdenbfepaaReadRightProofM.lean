/- Proves ReadRight: whatever bytes a message is read of, all its names are names, all its records are right, and it has no more of them than may be. No condition. -/
import Derived.Test.YtngbifdenbfepaaRows
import Derived.Test.YtngbifdenbfepaaReadRightProofG5
import Derived.Test.YtngbifdenbfepaaReadRightProofG6
import Derived.Test.YtngbifdenbfepaaReadRightProofG10
import Derived.Test.YtngbifdenbfepaaReadRightProofG11
import Derived.Test.YtngbifdenbfepaaReadRightProofG13
import Derived.Test.YtngbifdenbfepaaReadRightProofG14
import Derived.WalkKit
import Derived.ProofKit
import Derived.OpenShut
import Derived.ShutString
import Derived.Deep.RegionHeld3
import Derived.Deep.Draws
import Derived.Below
namespace Go.Proofs.Ytngbifdenbfepaa.readRight
open Go.ChangeShapes Go.WideShapes Go.ChangeAt Go.RowKit
open Go.ChangeMaps (open_string shut_string)
set_option linter.unusedVariables false      -- a walk need not use every 'w<i>' (that an integer argument fits its kind)

theorem own : ownKnob Try.prog.godebug = none := by kernel_rfl

open Bytes NameMath NmMath MsgMath RecMath DatMath
theorem add_at (b k : Nat) : (⟨b, 0, none⟩ : Addr).add k = ⟨b, k, none⟩ := by
  by_cases h : k = 0
  · subst h; rfl
  · simp [Addr.add, h]
theorem qnCs_at {L : List Qn} : ∀ {k : Nat} (h : k < L.length), (qnCs L)[k * 3]? = some (.string (mk (L[k]).name)) := by
  induction L with
  | nil => intro k h; cases h
  | cons q L ih =>
    intro k h
    have e : qnCs (q :: L) = qnV q ++ qnCs L := rfl
    have hl : (qnV q).length = 3 := rfl
    rw [e]
    cases k with
    | zero => rfl
    | succ k =>
      rw [List.getElem?_append_right (by rw [hl]; omega), hl, show (k + 1) * 3 - 3 = k * 3 by omega, ih (by simpa using h)]
      simp
/-- The names of a row of questions. -/
def QnsAt (w : World) (G : Nat) (A : Option Addr) (L : List Qn) : Prop := ∀ k (h : k < L.length), ∃ bq, A = some ⟨bq, 0, none⟩ ∧ bq < G ∧ w.cell? ⟨bq, k * 3, none⟩ = some (.string (mk (L[k]).name))
theorem qns_of {w : World} {g : Nat} {v : Value} {L : List Qn} (h : w.ownsRow g 41 3 v L.length (qnCs L)) : ∃ A c, v = .slice A L.length c ∧ QnsAt w w.heap.size A L := by
  rcases h.2 with ⟨rfl, h0⟩ | ⟨b, cap, cur, rfl, _, _, _⟩
  · exact ⟨none, 0, by rw [h0], fun k hk => by omega⟩
  · refine ⟨_, cap, rfl, fun k hk => ⟨b, rfl, (h.lt b rfl).2, ?_⟩⟩
    have := h.cells (g := b) rfl (k * 3) _ (qnCs_at hk)
    rwa [add_at] at this
theorem QnsAt.on {w w' : World} {G : Nat} {A : Option Addr} {L : List Qn} (h : QnsAt w G A L) (hb : Below G w w') : QnsAt w' G A L := fun k hk => by
  obtain ⟨bq, e, hl, hc⟩ := h k hk
  exact ⟨bq, e, hl, (hb.cell (p := ⟨bq, k * 3, none⟩) hl).trans hc⟩
/-- The records of a row. -/
def RecsAt (w : World) (G : Nat) (A : Option Addr) (Z : List RecZ) : Prop := ∀ k (h : k < Z.length), ∃ bq A1 c1 A2 c2 A3 c3, A = some ⟨bq, 0, none⟩ ∧ bq < G ∧ RecAt w G (Z[k]).1 (mk (Z[k]).1.name) (Z[k]).1.kind (Z[k]).1.cls (Z[k]).1.ttl A1 (Z[k]).1.names.length A2 (Z[k]).1.nums.length A3 (Z[k]).1.texts.length ∧
  w.cell? ⟨bq, k * 7, none⟩ = some (.string (mk (Z[k]).1.name)) ∧ w.cell? ⟨bq, k * 7 + 1, none⟩ = some (.int .u16 (Z[k]).1.kind) ∧ w.cell? ⟨bq, k * 7 + 2, none⟩ = some (.int .u16 (Z[k]).1.cls) ∧ w.cell? ⟨bq, k * 7 + 3, none⟩ = some (.int .u32 (Z[k]).1.ttl) ∧ w.cell? ⟨bq, k * 7 + 4, none⟩ = some (.slice A1 (Z[k]).1.names.length c1) ∧ w.cell? ⟨bq, k * 7 + 5, none⟩ = some (.slice A2 (Z[k]).1.nums.length c2) ∧ w.cell? ⟨bq, k * 7 + 6, none⟩ = some (.slice A3 (Z[k]).1.texts.length c3)
theorem recs_of {w : World} {g g2 : Nat} {v : Value} {Z : List RecZ} (h : w.ownsRow g 47 7 v Z.length (recCs Z)) (hz : ∀ z ∈ Z, RecIn w g2 z.1 z.2.1 z.2.2.1 z.2.2.2) : ∃ A c, v = .slice A Z.length c ∧ RecsAt w w.heap.size A Z := by
  rcases h.2 with ⟨rfl, h0⟩ | ⟨b, cap, cur, rfl, _, _, _⟩
  · exact ⟨none, 0, by rw [h0], fun k hk => by omega⟩
  · refine ⟨_, cap, rfl, fun k hk => ?_⟩
    obtain ⟨A1, c1, A2, c2, A3, c3, e1, e2, e3, hat⟩ := (hz (Z[k]) (List.getElem_mem hk)).at_
    have cell : ∀ j, j < 7 → ∀ u, (recV (Z[k]).1 (Z[k]).2.1 (Z[k]).2.2.1 (Z[k]).2.2.2)[j]? = some u → w.cell? ⟨b, k * 7 + j, none⟩ = some u := fun j hj u hu => by
      have := h.cells (g := b) rfl (k * 7 + j) u (by rw [recCs_at hk hj]; exact hu)
      rwa [add_at] at this
    exact ⟨b, A1, c1, A2, c2, A3, c3, rfl, (h.lt b rfl).2, hat, cell 0 (by decide) _ rfl, cell 1 (by decide) _ rfl, cell 2 (by decide) _ rfl, cell 3 (by decide) _ rfl, cell 4 (by decide) _ (by rw [← e1]; rfl), cell 5 (by decide) _ (by rw [← e2]; rfl), cell 6 (by decide) _ (by rw [← e3]; rfl)⟩
theorem RecsAt.on {w w' : World} {G : Nat} {A : Option Addr} {Z : List RecZ} (h : RecsAt w G A Z) (hb : Below G w w') : RecsAt w' G A Z := fun k hk => by
  obtain ⟨bq, A1, c1, A2, c2, A3, c3, e, hl, hat, k0, k1, k2, k3, k4, k5, k6⟩ := h k hk
  exact ⟨bq, A1, c1, A2, c2, A3, c3, e, hl, hat.on hb (Nat.le_refl _), (hb.cell (p := ⟨bq, _, none⟩) hl).trans k0, (hb.cell (p := ⟨bq, _, none⟩) hl).trans k1, (hb.cell (p := ⟨bq, _, none⟩) hl).trans k2, (hb.cell (p := ⟨bq, _, none⟩) hl).trans k3, (hb.cell (p := ⟨bq, _, none⟩) hl).trans k4, (hb.cell (p := ⟨bq, _, none⟩) hl).trans k5, (hb.cell (p := ⟨bq, _, none⟩) hl).trans k6⟩
theorem read_is (s : ByteArray) (R : Except Nat Msg) (w : World) (hs : s.size ≤ 1000000) (hR : Hid (rd (recE s.data.toList) s.data.toList = R)) : Calls Try.prog 11 #[.string s] w (ReadRet w R) :=
  read_any s _ R w hs (fun _ _ r => recReads s r hs) hR

set_option maxHeartbeats 4000000 in
set_option maxRecDepth 100000 in

theorem walk (a0 : ByteArray) (w0 : a0.size ≤ maxLen) (w : World) :
    Calls Try.prog 5 #[.string a0] w fun e w' => e = .returned (.bool true) ∧ Below w.heap.size w w' := by
  have n0 : Below w.heap.size w w := Below.refl _ _
  by_cases h1 : (70000 : Int) < a0.size
  · go_enter Try.func5, Try.ntmps5
    go_wp2_with fail
    refine (awake_any _).mono ?_
    rintro e w1 ⟨rfl, hB⟩
    go_wp2_with fail
    go_ret
    exact ⟨rfl, hB⟩
  have hi1 : (a0.size : Int) ≤ 70000 := by omega
  obtain ⟨R, hR⟩ : ∃ R, rd (recE a0.data.toList) a0.data.toList = R := ⟨_, rfl⟩
  have HR := Lib.hid (fun w => read_is a0 R w (by omega) hR)
  have HSN := Lib.hid same_none
  cases R with
  | error x =>
    have hx0 := rd_ne hR
    have hx : ((x : Int) != 0) = true := bne_iff_ne.2 (by omega)
    clear hR hx0 n0
    go_enter Try.func5, Try.ntmps5
    go_wp2_with fail
    refine (awake_any _).mono ?_
    rintro e w1 ⟨rfl, n1⟩
    have N1 := Lib.hid n1; clear n1
    go_wp2_with fail
    refine (HR.out _).mono ?_
    rintro e w2 ⟨rfl, n2⟩
    have N2 := Lib.hid (N1.out.trans (n2.mono N1.out.size)); clear n2 N1
    have N3 : Hid (Below w.heap.size w (w2.alloc (.cells #[.int .u16 0, .int .u16 0, .slice none 0 0, .slice none 0 0, .slice none 0 0, .slice none 0 0] 33))) := N2.out.alloc N2.out.size _
    go_wp2_with fail
    generalize w2.alloc (.cells #[.int .u16 0, .int .u16 0, .slice none 0 0, .slice none 0 0, .slice none 0 0, .slice none 0 0] 33) = w3 at N3 ⊢
    refine (HSN.out _).mono ?_
    rintro e w4 ⟨rfl, n4⟩
    have N4 := Lib.hid (N3.out.trans (n4.mono N3.out.size)); clear n4
    go_wp2_with fail
    go_ret
    exact ⟨rfl, N4.out⟩
  | ok M =>
    obtain ⟨hl1, hl2, hcount, hqs, hrecs⟩ := msg_right hR
    rw [← Lib.size_eq] at hl1 hl2
    have hi2 : (12 : Int) ≤ a0.size := by omega
    have hi3 : (a0.size : Int) ≤ 65535 := by omega
    clear hR n0
    go_enter Try.func5, Try.ntmps5
    go_wp2_with fail
    refine (awake_any _).mono ?_
    rintro e w1 ⟨rfl, n1⟩
    have N1 := Lib.hid n1; clear n1
    go_wp2_with fail
    refine (HR.out _).mono ?_
    rintro e w2 ⟨vq, va, vn, vx, rfl, hMR, n2⟩
    have N2 := Lib.hid (N1.out.trans (n2.mono N1.out.size)); clear n2 N1
    obtain ⟨⟨q1, q2, q3, rfl⟩, ⟨d1, d2, d3, rfl⟩, ⟨m1, m2, m3, rfl⟩, ⟨x1, x2, x3, rfl⟩⟩ := hMR.slices
    obtain ⟨b, hb⟩ : ∃ b, w2.heap.size = b := ⟨_, rfl⟩
    have hbox : (w2.alloc (.cells #[.int .u16 M.id, .int .u16 M.flags, .slice q1 q2 q3, .slice d1 d2 d3, .slice m1 m2 m3, .slice x1 x2 x3] 33)).heap[b]? = some (.cells #[.int .u16 M.id, .int .u16 M.flags, .slice q1 q2 q3, .slice d1 d2 d3, .slice m1 m2 m3, .slice x1 x2 x3] 33 (0, 0)) := by rw [← hb]; exact heap_alloc_new w2 _
    have hboxl : (w2.alloc (.cells #[.int .u16 M.id, .int .u16 M.flags, .slice q1 q2 q3, .slice d1 d2 d3, .slice m1 m2 m3, .slice x1 x2 x3] 33)).heap.size = b + 1 := by simp [hb]
    have HB := Lib.hid hbox
    have HBL := Lib.hid hboxl
    have N3 : Hid (Below w.heap.size w (w2.alloc (.cells #[.int .u16 M.id, .int .u16 M.flags, .slice q1 q2 q3, .slice d1 d2 d3, .slice m1 m2 m3, .slice x1 x2 x3] 33))) := N2.out.alloc N2.out.size _
    have HM := Lib.hid (hMR.below ((Below.refl _ _).alloc (Nat.le_refl _) (.cells #[.int .u16 M.id, .int .u16 M.flags, .slice q1 q2 q3, .slice d1 d2 d3, .slice m1 m2 m3, .slice x1 x2 x3] 33)))
    clear N2 hMR hbox hboxl
    go_wp2_with fail
    clear hb
    generalize w2.alloc (.cells #[.int .u16 M.id, .int .u16 M.flags, .slice q1 q2 q3, .slice d1 d2 d3, .slice m1 m2 m3, .slice x1 x2 x3] 33) = w3 at N3 HB HBL HM ⊢
    have hMa := HM.out.a
    have hMn := HM.out.n
    have hMq := HM.out.q
    have hMx := HM.out.x
    obtain ⟨Za, ea, oa, ia⟩ := hMa
    obtain ⟨Zn, en, on, ie⟩ := hMn
    obtain ⟨Zx, ex, ox, ix⟩ := hMx
    have la : Za.length = M.an.length := by rw [← ea, List.length_map]
    have ln : Zn.length = M.ns.length := by rw [← en, List.length_map]
    have lx : Zx.length = M.ad.length := by rw [← ex, List.length_map]
    rw [← la] at oa
    rw [← ln] at on
    rw [← lx] at ox
    obtain ⟨t1, ht1⟩ : ∃ t, Za.length = t := ⟨_, rfl⟩
    obtain ⟨t2, ht2⟩ : ∃ t, (Za ++ Zn).length = t := ⟨_, rfl⟩
    obtain ⟨t3, ht3⟩ : ∃ t, (Za ++ Zn ++ Zx).length = t := ⟨_, rfl⟩
    have hcap : t3 ≤ 256 ∧ t2 ≤ 256 ∧ t1 ≤ 256 ∧ M.qs.length + t3 ≤ 256 := by
      rw [List.length_append] at ht2
      rw [List.length_append, List.length_append] at ht3
      omega
    have HOA := Lib.hid oa
    have HON := Lib.hid on
    have HOX := Lib.hid ox
    have H1A := Lib.hid (recCs_one ia)
    have H1N := Lib.hid (recCs_one ie)
    have H1X := Lib.hid (recCs_one ix)
    have HT1 := Lib.hid ht1
    have HT2 := Lib.hid ht2
    have HT3 := Lib.hid ht3
    have HA0 := Lib.hid (allAt_none w3)
    have HZ : Hid (∀ z ∈ Za ++ Zn ++ Zx, RecIn w3 w1.heap.size z.1 z.2.1 z.2.2.1 z.2.2.2 ∧ checkE z.1 = 0 ∧ Small z.1) := fun z hz => by
      have hin : RecIn w3 w1.heap.size z.1 z.2.1 z.2.2.1 z.2.2.2 := by
        rcases List.mem_append.1 hz with hz | hz
        · rcases List.mem_append.1 hz with hz | hz
          · exact ia z hz
          · exact ie z hz
        · exact ix z hz
      refine ⟨hin, hrecs z.1 ?_⟩
      have : z.1 ∈ (Za ++ Zn ++ Zx).map (·.1) := List.mem_map.2 ⟨z, hz, rfl⟩
      rw [List.map_append, List.map_append, ea, en, ex] at this
      exact this
    have HQS := Lib.hid hqs
    have hb3 : w3.cell? ⟨b, 3, none⟩ = some (.slice d1 d2 d3) := cell_of_row _ _ 3 _ _ _ HB.out
    have hb4 : w3.cell? ⟨b, 4, none⟩ = some (.slice m1 m2 m3) := cell_of_row _ _ 4 _ _ _ HB.out
    have hb5 : w3.cell? ⟨b, 5, none⟩ = some (.slice x1 x2 x3) := cell_of_row _ _ 5 _ _ _ HB.out
    have hcap1 : t1 ≤ 256 := hcap.2.2.1
    have hcap2 : t2 ≤ 256 := hcap.2.1
    have hcap3 : t3 ≤ 256 := hcap.1
    have hcapq : (M.qs.length : Int) + t3 ≤ 256 := by have := hcap.2.2.2; omega
    have hlx : Hid (Zn.length ≤ t2 ∧ Zx.length ≤ t3 ∧ Za.length = t1) := by
      rw [List.length_append] at ht2
      rw [List.length_append, List.length_append] at ht3
      exact ⟨by omega, by omega, ht1⟩
    clear ea en ex oa on ox ia ie ix la ln lx ht1 ht2 ht3 hcap hqs hrecs hcount HM
    have hbl : b < w3.heap.size := by rw [HBL.out]; omega
    go_region_held3 (fun w' => w'.cell? ⟨b, 3, none⟩ = some (.slice d1 d2 d3) ∧ w'.cell? ⟨b, 4, none⟩ = some (.slice m1 m2 m3) ∧ w'.cell? ⟨b, 5, none⟩ = some (.slice x1 x2 x3)) (go_keep)
      (first
        | (refine step_append_recs (by rfl) _ _ (by rfl) (.slice (some ⟨w3.heap.size, 0, none⟩) 0 0) [] (by rfl) HA0.out _ (.slice d1 d2 d3) (by rfl) Za HOA.out H1A.out (by have := hlx.out; simp; omega) Za t1 (by rfl) HT1.out ?_; intro A1 c1 w5 hA1; have hk3 := (hA1.bl.cell (p := ⟨b, 3, none⟩) hbl).trans hb3; have hk4 := (hA1.bl.cell (p := ⟨b, 4, none⟩) hbl).trans hb4; have hk5 := (hA1.bl.cell (p := ⟨b, 5, none⟩) hbl).trans hb5; have HA1 := Lib.hid hA1; clear hA1)
        | (refine step_append_recs (by rfl) _ _ (by rfl) (.slice A1 t1 c1) Za (by rfl) HA1.out _ (.slice m1 m2 m3) (by rfl) Zn HON.out H1N.out (by have := hlx.out; omega) (Za ++ Zn) t2 (by rfl) HT2.out ?_; intro A2 c2 w6 hA2; have hk3 := (hA2.bl.cell (p := ⟨b, 3, none⟩) hbl).trans hb3; have hk4 := (hA2.bl.cell (p := ⟨b, 4, none⟩) hbl).trans hb4; have hk5 := (hA2.bl.cell (p := ⟨b, 5, none⟩) hbl).trans hb5; have HA2 := Lib.hid hA2; clear hA2)
        | (refine step_append_recs (by rfl) _ _ (by rfl) (.slice A2 t2 c2) (Za ++ Zn) (by rfl) HA2.out _ (.slice x1 x2 x3) (by rfl) Zx HOX.out H1X.out (by have := hlx.out; rw [HT2.out]; omega) (Za ++ Zn ++ Zx) t3 (by rfl) HT3.out ?_; intro A3 c3 w7 hA3; have hk3 := (hA3.bl.cell (p := ⟨b, 3, none⟩) hbl).trans hb3; have hk4 := (hA3.bl.cell (p := ⟨b, 4, none⟩) hbl).trans hb4; have hk5 := (hA3.bl.cell (p := ⟨b, 5, none⟩) hbl).trans hb5; have HA3 := Lib.hid hA3; clear hA3))
    have hb7 : w7.heap[b]? = some (.cells #[.int .u16 M.id, .int .u16 M.flags, .slice q1 q2 q3, .slice d1 d2 d3, .slice m1 m2 m3, .slice x1 x2 x3] 33 (0, 0)) := (HA3.out.bl.block b hbl).trans HB.out
    obtain ⟨Aq, cq, eq, hq7⟩ := qns_of (row_below hMq HA3.out.bl)
    injection eq with eq1 eq2 eq3
    rw [← eq1] at hq7
    have hnq : M.qs.length = q2 := eq2.symm
    rw [hnq] at hcapq
    have hz7 : ∀ z ∈ Za ++ Zn ++ Zx, RecIn w7 w1.heap.size z.1 z.2.1 z.2.2.1 z.2.2.2 := fun z hz => (HZ.out z hz).1.below HA3.out.bl
    obtain ⟨Ar, cr, er, hr7⟩ := recs_of HA3.out.own hz7
    injection er with er1 er2 er3
    rw [← er1] at hr7
    obtain ⟨G, hG⟩ : ∃ G, w7.heap.size = G := ⟨_, rfl⟩
    have hbG : b < G := by have := HA3.out.bl.size; omega
    rw [hG] at hq7 hr7
    have HQ7 := Lib.hid hq7
    have HR7 := Lib.hid hr7
    have N7 : Hid (Below w.heap.size w w7) := N3.out.trans (HA3.out.bl.mono N3.out.size)
    have HB7 := Lib.hid hb7
    have HNQ := Lib.hid hnq
    have HG7 := Lib.hid hG
    have hb2 : w7.cell? ⟨b, 2, none⟩ = some (.slice q1 q2 q3) := cell_of_row _ _ 2 _ _ _ hb7
    clear eq1 eq2 eq3 er1 er3 hMq hb7 hq7 hr7 hz7 hnq hG hb3 hb4 hb5 hk3 hk4 hk5 HA0 HA1 HA2 HOA HON HOX H1A H1N H1X er2
    have hcapn : ¬ ((256 : Int) < (q2 : Int) + t3) := by omega
    have hnq2 : q2 ≤ 256 := by omega
    go_wp2_with fail
    go_loopw [6] (fun i wr => ∃ j : Nat, i = .int .i64 j ∧ j ≤ q2 ∧ Hid (Below G w7 wr)) (fun i _ => q2 - (intOf i).toNat)
    case atStart => exact ⟨0, rfl, Nat.zero_le _, Below.refl _ _⟩
    case round =>
      obtain ⟨j, rfl, hj, hW⟩ := hrel
      have hb2 : wr.cell? ⟨b, 2, none⟩ = some (.slice q1 q2 q3) := (hW.out.cell (p := ⟨b, 2, none⟩) hbG).trans hb2
      by_cases hlt : j < q2
      · obtain ⟨bq, rfl, hbq, hcq⟩ := (HQ7.out.on hW.out) j (by rw [HNQ.out]; exact hlt)
        obtain ⟨nm, hnm⟩ : ∃ nm, (M.qs[j]'(by rw [HNQ.out]; exact hlt)).name = nm := ⟨_, rfl⟩
        have hisn : isN nm = true := by rw [← hnm]; exact HQS.out _ (List.getElem_mem _)
        have h255 : nm.length ≤ 255 := by
          obtain ⟨L, hL⟩ := isN_some hisn
          exact (labels_some hL).2.2
        rw [hnm] at hcq
        have HIS := Lib.hid (fun w => refIs_is (mk nm) true w (by rw [mk_size]; omega) (by (show _ = _; rw [mk_list]; exact hisn)))
        clear hnm hisn
        go_wp2_with fail
        refine (HIS.out _).mono ?_
        rintro e w8 ⟨rfl, hB8⟩
        have HW8 := Lib.hid (hW.out.trans (hB8.mono (by have := hW.out.size; rw [HG7.out] at this; exact this)))
        clear hB8 hW hcq hb2
        go_wp2_with fail
        go_roundw
        case rel => exact ⟨j + 1, by go_num, by omega, HW8⟩
        case measure => simp [intOf]; omega
      · have hjn : ¬ ((j : Int) < (q2 : Int)) := by omega
        clear hlt
        go_wp2_with fail
        obtain ⟨wo, rfl⟩ : ∃ wo : World, wo = wr := ⟨_, rfl⟩
        go_loopw [7] (fun i ws => ∃ k : Nat, i = .int .i64 k ∧ k ≤ t3 ∧ Hid (Below G w7 ws)) (fun i _ => t3 - (intOf i).toNat)
        case atStart => exact ⟨0, rfl, Nat.zero_le _, hW⟩
        case round =>
          obtain ⟨k, rfl, hk, hV⟩ := hrel
          by_cases hlk : k < t3
          · obtain ⟨br, B1, e1, B2, e2, B3, e3, rfl, hbr, hat, k0, k1, k2, k3, k4, k5, k6⟩ := (HR7.out.on hV.out) k (by rw [HT3.out]; exact hlk)
            have hck := (HZ.out _ (List.getElem_mem (by rw [HT3.out]; exact hlk : k < (Za ++ Zn ++ Zx).length))).2
            obtain ⟨RR, hRR⟩ : ∃ R, ((Za ++ Zn ++ Zx)[k]'(by rw [HT3.out]; exact hlk)).1 = R := ⟨_, rfl⟩
            rw [hRR] at hat k0 k1 k2 k3 k4 k5 k6 hck
            obtain ⟨xn, hxn⟩ : ∃ x, mk RR.name = x := ⟨_, rfl⟩
            obtain ⟨rk, hrk⟩ : ∃ n, RR.kind = n := ⟨_, rfl⟩
            obtain ⟨rc, hrc⟩ : ∃ n, RR.cls = n := ⟨_, rfl⟩
            obtain ⟨rt, hrt⟩ : ∃ n, RR.ttl = n := ⟨_, rfl⟩
            obtain ⟨l1, hl1'⟩ : ∃ n, RR.names.length = n := ⟨_, rfl⟩
            obtain ⟨l2, hl2'⟩ : ∃ n, RR.nums.length = n := ⟨_, rfl⟩
            obtain ⟨l3, hl3'⟩ : ∃ n, RR.texts.length = n := ⟨_, rfl⟩
            rw [hxn] at k0
            rw [hrk] at k1
            rw [hrc] at k2
            rw [hrt] at k3
            rw [hl1'] at k4
            rw [hl2'] at k5
            rw [hl3'] at k6
            rw [hxn, hrk, hrc, hrt, hl1', hl2', hl3'] at hat
            have hGs : G ≤ wr.heap.size := by have := hV.out.size; rw [HG7.out] at this; exact this
            have HCK := Lib.hid (refCheck_is RR xn rk rc rt B1 l1 e1 B2 l2 e2 B3 l3 e3 0 wr (hat.on (Below.refl _ _) hGs) hck.2 hck.1)
            have HGS := Lib.hid hGs
            clear hRR hxn hrk hrc hrt hl1' hl2' hl3' hck hat hGs
            go_wp2_with fail
            refine HCK.out.mono ?_
            rintro e w9 ⟨rfl, hB9⟩
            have HV9 := Lib.hid (hV.out.trans (hB9.mono HGS.out))
            clear hB9 hV HCK k0 k1 k2 k3 k4 k5 k6
            go_wp2_with fail
            go_roundw
            case rel => exact ⟨k + 1, by go_num, by omega, HV9⟩
            case measure => simp [intOf]; omega
          · have hkn : ¬ ((k : Int) < (t3 : Int)) := by omega
            have HE : Hid (Below w.heap.size w wr) := N7.out.trans (hV.out.mono (by have := N7.out.size; rw [HG7.out] at this; exact this))
            clear hlk
            go_wp2_with fail
            go_ret
            exact ⟨rfl, HE.out⟩

set_option maxRecDepth 100000 in
theorem lifted (os : Os) (started : os.Started) (H : Type) (enc : TypeId × Value → H) :
    ReturnsInHanded {} Try.checked os 5 .any (Rows.readRightSpec.pre6 enc Try.prog Try.f5 Rows.readRightRow.domain false) (Rows.readRightSpec.post enc Try.prog Try.f5 false true false false) := by
  refine returnsInHanded_of_change (C := Try.checked) own started (by kernel_rfl) Try.func5
    (ChangeSpec.witness6 (enc := enc) (C := Try.checked) false ⟨#[], #[.string ByteArray.empty], []⟩ 8 (by kernel_rfl) (by kernel_rfl) (by kernel_rfl) (by kernel_rfl)) ?_
  intro W base args ds gs before hval0 hW hcnd _
  have hval : ∀ (j : Nat) t v, Try.f5.params[j]? = some t → args[j]? = some v → Value.okWide Try.prog W .any base t v := hval0
  have hW' := hW
  obtain ⟨p, q, hA0, hV, rfl, hfz, hnd⟩ := hW
  have hA : DataW.TrodAll enc Try.prog W 0 (fun _ => true) true Try.f5.params.toList args.toList ds p := hA0
  rw [Try.params5] at hA hval
  obtain ⟨v0, vs0, d0, ds0, p0, q0, hargs, rfl, rfl, h0, r0⟩ := trodAll_cons hA
  obtain ⟨rfl, rfl, rfl⟩ := trodAll_nil r0
  obtain rfl : args = #[v0] := by cases args; simp_all
  obtain ⟨rfl, rfl⟩ := trodVars_none hV
  obtain ⟨a0, rfl, rfl, rfl, w0⟩ := open_string Try.underlying9 (hval 0 9 v0 rfl rfl) h0
  clear hA0 hval0
  simp only [List.append_nil] at hW'
  refine (walk a0 w0 W).mono fun e W' ⟨he, hg⟩ => ?_
  subst he
  exact ⟨_, rfl, _, _, _, [], [], [], hW', (trodAll_cons_mk (shut_bool Try.underlying4 _) trodAll_mk0), (trodAll_cons_mk (shut_string Try.underlying9 w0) trodAll_mk0), rfl, hg.frame _, fun h => by cases h⟩

theorem over : Rows.readRightRow.holds Try.pinned (OpenSpec.ofChange Rows.readRightSpec) :=
  OpenClaim.holds_of_wide 5 Try.f5 rfl rfl rfl rfl rfl rfl rfl ⟨rfl, rfl, rfl, rfl, rfl⟩ rfl rfl rfl rfl rfl (by kernel_rfl) Try.func5 (by kernel_rfl)
    (of_decide_eq_true (by kernel_rfl)) (by unfold Func.isWrapper; first | (rw [if_pos (by decide +kernel)]; kernel_rfl) | (rw [if_neg (by decide +kernel)]; exact ⟨rfl, rfl⟩))
    (fun os started H enc _ => lifted os started H enc)

theorem proved : Rows.ReadRightSaid :=
  over
#print axioms proved
end Go.Proofs.Ytngbifdenbfepaa.readRight
