/- The laws' play of layer 17: a call on a book and on the document's. For up to 998 streams, windows above -9 * 10^11. -/
import Derived.Test.YtieicfobhgfonaaProg
import Derived.Test.YtieicfobhgfonaaWiMath
import Derived.Test.YtieicfobhgfonaaWiRef
import Derived.Test.YtieicfobhgfonaaWiDrop
import Derived.Test.YtieicfobhgfonaaWiPut
import Derived.Test.YtieicfobhgfonaaWiOpen
import Derived.Test.YtieicfobhgfonaaWiGrow
import Derived.Test.YtieicfobhgfonaaWiInit
import Derived.Test.YtieicfobhgfonaaWiTake
import Derived.Test.YtieicfobhgfonaaWiCame
import Derived.Test.YtieicfobhgfonaaWiBox
import Derived.Test.YtieicfobhgfonaaWiSame
import Derived.Test.YtieicfobhgfonaaWiMid
import Derived.Test.YtieicfobhgfonaaWiCode
import Derived.WalkKit
import Derived.Lib.Hide
import Derived.OwnWalk
import Derived.Below
import Derived.Laws.Rows
import Derived.Outline
import Derived.IntWalk
import Derived.WalkSpells
import Derived.WalkLawsBesides
import Derived.LoopTactic
import Derived.Deep.CutRange
import Derived.Deep.CutBlock
import Derived.Deep.QuietTactic
import Derived.BigQuiet
namespace Go.Proofs.Ytieicfobhgfonaa
open Go Go.RowKit Wi
set_option linter.unusedVariables false

set_option maxHeartbeats 16000000 in
set_option maxRecDepth 100000 in
theorem wplay_is (g b N : Nat) (K : Int) (B : Bk) (A : Option Addr) (n c : Nat) (x : Ac) (w : World) (hB : Hid (BkAt w g b B)) (hR : Hid (RdW w w.heap.size A B.rows)) (hn : Hid (B.rows.length = n)) (hO : Hid (Ok K N B)) (hN : N ≤ 998) (hK : 0 ≤ K ∧ K ≤ 900000000000) (hx : Hid (Oka x)) :
    Calls Try.prog 10 #[.pointer (some ⟨b, 0, none⟩), bkV B A n c, .agg #[.int .i64 x.kind, .int .u32 (x.id : Int), .int .u32 (x.n : Int), .int .i64 x.want]] w fun e w' => ∃ (B' : Bk) (A' : Option Addr) (m c' : Nat), e = .returned (.tuple #[bkV B' A' m c', .bool true]) ∧ Hid (BkAt w' g b B') ∧ Hid (RdW w' w'.heap.size A' B'.rows) ∧ Hid (B'.rows.length = m) ∧ Hid (Ok (K + 2147483647) (N + 1) B') ∧ Hid (BkK b w w') := by
  obtain ⟨E, hE⟩ : ∃ E, w.heap.size = E := ⟨_, rfl⟩
  obtain ⟨W, hW⟩ : ∃ W, ((w.alloc (.cells #[.int .i64 B.conn, .int .i64 B.first, .slice A n c] 28)).alloc (.cells #[.int .i64 x.kind, .int .u32 (x.id : Int), .int .u32 (x.n : Int), .int .i64 x.want] 34)).alloc (.cells #[.int .i64 0, .int .i64 0, .slice none 0 0] 28) = W := ⟨_, rfl⟩
  have hBW : Below E w W := by rw [← hW, ← hE]; exact (((Below.refl _ w).alloc (Nat.le_refl _) _).alloc (by simp) _).alloc (by rw [World.size_alloc, World.size_alloc]; omega) _
  have HM0 : Hid (Mid W w g b E x B B A n c) := Lib.hid (by
    have hl := hB.out.lt
    obtain ⟨bm, _, hbx, _, _⟩ := hB.out.box
    refine ⟨hB.out.below (by rw [hE]; exact hBW), hR.out.on (by rw [hE]; exact hBW) hBW.size, hn.out, ?_, ?_, ?_, bkK_below hbx (by rw [hE]; exact hBW), by omega, hE⟩
    · rw [← hW, ← hE]; exact (heap_alloc_old _ _ (by rw [World.size_alloc, World.size_alloc]; omega)).trans ((heap_alloc_old _ _ (by simp)).trans (heap_alloc_new w _))
    · have h1 := heap_alloc_new (w.alloc (.cells #[.int .i64 B.conn, .int .i64 B.first, .slice A n c] 28)) (.cells #[.int .i64 x.kind, .int .u32 (x.id : Int), .int .u32 (x.n : Int), .int .i64 x.want] 34)
      rw [World.size_alloc, hE] at h1
      rw [← hW]
      exact (heap_alloc_old _ _ (by rw [World.size_alloc, World.size_alloc]; omega)).trans h1
    · have h1 := heap_alloc_new ((w.alloc (.cells #[.int .i64 B.conn, .int .i64 B.first, .slice A n c] 28)).alloc (.cells #[.int .i64 x.kind, .int .u32 (x.id : Int), .int .u32 (x.n : Int), .int .i64 x.want] 34)) (.cells #[.int .i64 0, .int .i64 0, .slice none 0 0] 28)
      rw [hW] at h1
      simp only [World.size_alloc] at h1
      rw [hE] at h1
      exact h1)
  have HW := Lib.hid hW
  have G := Lib.hid hE
  have HOK : Hid (∀ y : Bk, Ok (K + 2147483647) (N + 1) y → True) := Lib.hid (fun _ _ => trivial)
  clear hBW hW hE hB hR hn HOK
  unfold bkV
  obtain ⟨kd, id, k, want⟩ := x
  have hid : id < 4294967296 := hx.out.i
  have hk : k < 4294967296 := hx.out.n
  have hw : -9223372036854775808 ≤ want ∧ want ≤ 9223372036854775807 := ⟨hx.out.w0, hx.out.w1⟩
  dsimp only
  obtain ⟨x0, x1, x2, x3⟩ := HM0.out.ac.cells
  have x0 : W.cell? ⟨E + 1, 0, none⟩ = some (.int .i64 kd) := x0
  have x1 : W.cell? ⟨E + 1, 1, none⟩ = some (.int .u32 (id : Int)) := x1
  have x2 : W.cell? ⟨E + 1, 2, none⟩ = some (.int .u32 (k : Int)) := x2
  have x3 : W.cell? ⟨E + 1, 3, none⟩ = some (.int .i64 want) := x3
  go_enter Try.func10, Try.ntmps10
  go_upto_region 1 with fail
  rw [HW.out, G.out]
  rw [show E + 1 + 1 = E + 2 from rfl]
  go_upto_block 0 with fail
  go_cut [8, 9] from 10 to 80 (fun a d wx => ∃ (q : Int) (B' : Bk) (A' : Option Addr) (m c' : Nat), a = .int .i64 q ∧ d = .int .i64 q ∧ Hid (Mid wx w g b E ⟨kd, id, k, want⟩ B' B' A' m c') ∧ Hid (Ok (K + 2147483647) (N + 1) B'))
  case first =>
    by_cases e0 : kd = 0
    · subst e0
      have HF : Hid (Ok (K + 2147483647) (N + 1) (openB B id)) := Lib.hid ((hO.out.open hK.1 hid).more (by omega) (Nat.le_refl _))
      go_wp2_with fail
      refine (wopen_is g b K B id W (Lib.hid HM0.out.bk) (Lib.hid hO.out.inv) (by omega) hid).mono ?_
      rintro e w1 ⟨rfl, hb1, hk1⟩
      have HM1 := Lib.hid (HM0.out.code hb1.out hk1.out)
      clear hb1 hk1 x0 x1 x2 x3
      obtain ⟨b0, b1, b2⟩ := HM1.out.bx.cells
      obtain ⟨x0, x1, x2, x3⟩ := HM1.out.ac.cells
      have x1 : w1.cell? ⟨E + 1, 1, none⟩ = some (.int .u32 (id : Int)) := x1
      have HC := Lib.hid (xopen_is B A n c id w1 (Lib.hid HM1.out.len) (by have := HM1.out.len; have := hO.out.le; omega) (Lib.hid HM1.out.rd))
      unfold bkV at HC
      go_wp2_with fail
      refine HC.out.mono ?_
      rintro e w2 ⟨A2, m, c2, rfl, hs⟩
      have hs : Bks w1 w2 (openB B id) A2 m := hs.out
      have HM2 := Lib.hid (HM1.out.doc (c2 := c2) hs)
      have HX2 := Lib.hid (HM1.out.bx.below hs.2.2)
      clear hs x0 x1 x2 x3 b0 b1 b2 HC
      obtain ⟨b0, b1, b2⟩ := HX2.out.cells
      have z0 := HX2.out.frz 0
      have z1 := HX2.out.frz 1
      have z2 := HX2.out.frz 2
      go_wp2_with fail
      go_meet
      exact ⟨0, (openB B id), A2, m, c2, rfl, rfl, HM2, HF⟩
    have f0 : (kd == 0) = false := beq_eq_false_iff_ne.2 e0
    by_cases e1 : kd = 1
    · subst e1
      have HF : Hid (Ok (K + 2147483647) (N + 1) (dropB B id)) := Lib.hid ((hO.out.drop id).more (by omega) (by omega))
      go_wp2_with fail
      refine (wdrop_is g b K B id W (Lib.hid HM0.out.bk) (Lib.hid hO.out.inv) hid).mono ?_
      rintro e w1 ⟨rfl, hb1, hk1⟩
      have HM1 := Lib.hid (HM0.out.code hb1.out hk1.out)
      clear hb1 hk1 x0 x1 x2 x3
      obtain ⟨b0, b1, b2⟩ := HM1.out.bx.cells
      obtain ⟨x0, x1, x2, x3⟩ := HM1.out.ac.cells
      have x1 : w1.cell? ⟨E + 1, 1, none⟩ = some (.int .u32 (id : Int)) := x1
      have HC := Lib.hid (xdrop_is B A n c id w1 (Lib.hid HM1.out.len) (by have := HM1.out.len; have := hO.out.le; omega) (Lib.hid HM1.out.rd))
      unfold bkV at HC
      go_wp2_with fail
      refine HC.out.mono ?_
      rintro e w2 ⟨A2, m, c2, rfl, hs1, hs2, hs3⟩
      have hs : Bks w1 w2 (dropB B id) A2 m := ⟨rdw_own hs1.out hs2.out, hs2.out, hs3⟩
      have HM2 := Lib.hid (HM1.out.doc (c2 := c2) hs)
      have HX2 := Lib.hid (HM1.out.bx.below hs.2.2)
      clear hs x0 x1 x2 x3 b0 b1 b2 HC
      obtain ⟨b0, b1, b2⟩ := HX2.out.cells
      have z0 := HX2.out.frz 0
      have z1 := HX2.out.frz 1
      have z2 := HX2.out.frz 2
      go_wp2_with fail
      go_meet
      exact ⟨0, (dropB B id), A2, m, c2, rfl, rfl, HM2, HF⟩
    have f1 : (kd == 1) = false := beq_eq_false_iff_ne.2 e1
    by_cases e2 : kd = 2
    · subst e2
      obtain ⟨⟨B', t⟩, hr⟩ : ∃ z, growB B id k = z := ⟨_, rfl⟩
      have htb : t ≤ 3 := growB_cd hr
      have hcv : IntKind.i64.wrap (t : Int) = (t : Int) := by rw [IntKind.wrap_i64]; omega
      have HR := Lib.hid hr
      have HF : Hid (Ok (K + 2147483647) (N + 1) B') := Lib.hid ((hO.out.grow hid hr).more (by omega) (Nat.le_refl _))
      go_wp2_with fail
      refine (wgrow_is g b K B B' id k t W (Lib.hid HM0.out.bk) (Lib.hid hO.out.inv) (by omega) hid hk HR).mono ?_
      rintro e w1 ⟨rfl, hb1, hk1⟩
      have HM1 := Lib.hid (HM0.out.code hb1.out hk1.out)
      clear hb1 hk1 x0 x1 x2 x3
      obtain ⟨b0, b1, b2⟩ := HM1.out.bx.cells
      obtain ⟨x0, x1, x2, x3⟩ := HM1.out.ac.cells
      have x1 : w1.cell? ⟨E + 1, 1, none⟩ = some (.int .u32 (id : Int)) := x1
      have x2 : w1.cell? ⟨E + 1, 2, none⟩ = some (.int .u32 (k : Int)) := x2
      have HC := Lib.hid (xgrow_is K B B' A n c id k t w1 (Lib.hid HM1.out.len) (by have := HM1.out.len; have := hO.out.le; omega) (Lib.hid HM1.out.rd) (Lib.hid hO.out.inv) (by omega) hk HR)
      unfold bkV at HC
      go_wp2_with fail
      refine HC.out.mono ?_
      rintro e w2 ⟨A2, m, c2, rfl, hs⟩
      have hs : Bks w1 w2 B' A2 m := hs.out
      have HM2 := Lib.hid (HM1.out.doc (c2 := c2) hs)
      have HX2 := Lib.hid (HM1.out.bx.below hs.2.2)
      clear hs x0 x1 x2 x3 b0 b1 b2 HC
      obtain ⟨b0, b1, b2⟩ := HX2.out.cells
      have z0 := HX2.out.frz 0
      have z1 := HX2.out.frz 1
      have z2 := HX2.out.frz 2
      go_wp2_with fail
      go_meet
      exact ⟨t, B', A2, m, c2, rfl, rfl, HM2, HF⟩
    have f2 : (kd == 2) = false := beq_eq_false_iff_ne.2 e2
    by_cases e3 : kd = 3
    · subst e3
      obtain ⟨⟨B', t⟩, hr⟩ : ∃ z, initB B k = z := ⟨_, rfl⟩
      have htb : t ≤ 3 := initB_cd hr
      have hcv : IntKind.i64.wrap (t : Int) = (t : Int) := by rw [IntKind.wrap_i64]; omega
      have HR := Lib.hid hr
      have HF : Hid (Ok (K + 2147483647) (N + 1) B') := Lib.hid ((hO.out.init hr).more (Int.le_refl _) (by omega))
      go_wp2_with fail
      refine (winit_is g b K B B' k t W (Lib.hid HM0.out.bk) (Lib.hid hO.out.inv) (by omega) hk HR).mono ?_
      rintro e w1 ⟨rfl, hb1, hk1⟩
      have HM1 := Lib.hid (HM0.out.code hb1.out hk1.out)
      clear hb1 hk1 x0 x1 x2 x3
      obtain ⟨b0, b1, b2⟩ := HM1.out.bx.cells
      obtain ⟨x0, x1, x2, x3⟩ := HM1.out.ac.cells
      have x2 : w1.cell? ⟨E + 1, 2, none⟩ = some (.int .u32 (k : Int)) := x2
      have HC := Lib.hid (xinit_is K B B' A n c k t w1 (Lib.hid HM1.out.len) (by have := HM1.out.len; have := hO.out.le; omega) (Lib.hid HM1.out.rd) (Lib.hid hO.out.inv) (by omega) hk HR)
      unfold bkV at HC
      go_wp2_with fail
      refine HC.out.mono ?_
      rintro e w2 ⟨A2, m, c2, rfl, hs⟩
      have hs : Bks w1 w2 B' A2 m := hs.out
      have HM2 := Lib.hid (HM1.out.doc (c2 := c2) hs)
      have HX2 := Lib.hid (HM1.out.bx.below hs.2.2)
      clear hs x0 x1 x2 x3 b0 b1 b2 HC
      obtain ⟨b0, b1, b2⟩ := HX2.out.cells
      have z0 := HX2.out.frz 0
      have z1 := HX2.out.frz 1
      have z2 := HX2.out.frz 2
      go_wp2_with fail
      go_meet
      exact ⟨t, B', A2, m, c2, rfl, rfl, HM2, HF⟩
    have f3 : (kd == 3) = false := beq_eq_false_iff_ne.2 e3
    by_cases e4 : kd = 4
    · subst e4
      obtain ⟨⟨B', t⟩, hr⟩ : ∃ z, takeB B id want = z := ⟨_, rfl⟩
      have HR := Lib.hid hr
      have HF : Hid (Ok (K + 2147483647) (N + 1) B') := Lib.hid ((hO.out.take hK.1 hid hr).more (by omega) (Nat.le_refl _))
      go_wp2_with fail
      refine (wtake_is g b K B B' id want t W (Lib.hid HM0.out.bk) (Lib.hid hO.out.inv) (by omega) hid hw HR).mono ?_
      rintro e w1 ⟨rfl, hb1, hk1⟩
      have HM1 := Lib.hid (HM0.out.code hb1.out hk1.out)
      clear hb1 hk1 x0 x1 x2 x3
      obtain ⟨b0, b1, b2⟩ := HM1.out.bx.cells
      obtain ⟨x0, x1, x2, x3⟩ := HM1.out.ac.cells
      have x1 : w1.cell? ⟨E + 1, 1, none⟩ = some (.int .u32 (id : Int)) := x1
      have x3 : w1.cell? ⟨E + 1, 3, none⟩ = some (.int .i64 want) := x3
      have HC := Lib.hid (xtake_is K B B' A n c id want t w1 (Lib.hid HM1.out.len) (by have := HM1.out.len; have := hO.out.le; omega) (Lib.hid HM1.out.rd) (Lib.hid hO.out.inv) (by omega) hw HR)
      unfold bkV at HC
      go_wp2_with fail
      refine HC.out.mono ?_
      rintro e w2 ⟨A2, m, c2, rfl, hs⟩
      have hs : Bks w1 w2 B' A2 m := hs.out
      have HM2 := Lib.hid (HM1.out.doc (c2 := c2) hs)
      have HX2 := Lib.hid (HM1.out.bx.below hs.2.2)
      clear hs x0 x1 x2 x3 b0 b1 b2 HC
      obtain ⟨b0, b1, b2⟩ := HX2.out.cells
      have z0 := HX2.out.frz 0
      have z1 := HX2.out.frz 1
      have z2 := HX2.out.frz 2
      go_wp2_with fail
      go_meet
      exact ⟨t, B', A2, m, c2, rfl, rfl, HM2, HF⟩
    have f4 : (kd == 4) = false := beq_eq_false_iff_ne.2 e4
    go_wp2_with fail
    go_meet
    exact ⟨0, B, A, n, c, rfl, rfl, HM0, Lib.hid (hO.out.more (by omega) (by omega))⟩
  case rest =>
    obtain ⟨q, B', A', m, c', rfl, rfl, hM, hF⟩ := hcut
    generalize wc = w5 at *
    have HPL : Hid (Pl w5.drew g b (K + 2147483647) (N + 1) B' A' m) := Lib.hid ⟨hM.out.bk.below (Below.refl _ w5).drew, hF.out.inv, hM.out.rd.on (Below.refl _ w5).drew (Nat.le_refl _), hM.out.len, by have := hF.out.le; have := hM.out.len; omega, hF.out.lo⟩
    have HSM := Lib.hid (wsame_is g b (N + 1) (K + 2147483647) B' A' m c' id w5.drew HPL (by omega) hid)
    unfold bkV at HSM
    have HX5 : Hid (BoxK w5.drew E B'.conn B'.first (.slice A' m c')) := Lib.hid (hM.out.bx)
    have HA5 : Hid (BoxA w5.drew (E + 1) ⟨kd, id, k, want⟩) := Lib.hid (hM.out.ac)
    have HR5 : Hid (BoxK w5.drew (E + 2) 0 0 (.slice none 0 0)) := Lib.hid (hM.out.rs)
    clear x0 x1 x2 x3 HM0 HPL
    obtain ⟨b0, b1, b2⟩ := hM.out.bx.cells
    obtain ⟨a0, a1, a2, a3⟩ := hM.out.ac.cells
    have a1 : w5.cell? ⟨E + 1, 1, none⟩ = some (.int .u32 (id : Int)) := a1
    have HFN := Lib.hid (fun (w6 : World) (h : Below w5.drew.heap.size w5.drew w6) => hM.out.fin (w6 := w6) ⟨h.os, h.tape, h.output, h.size, h.block⟩)
    have hq1 : (q == q) = true := by simp
    go_upto_region 18 with fail
    go_region_with (go_at_call 23; refine HSM.out.mono ?_; rintro e w6 ⟨rfl, hB6⟩; have HX6 := Lib.hid (HX5.out.below hB6); have HR6 := Lib.hid (HR5.out.below hB6); (obtain ⟨F, hF6, hFc, hFb, hFr, hFk⟩ := HFN.out w6 hB6); have HF6 := Lib.hid hF6; have HFC := Lib.hid hFc; have HFB := Lib.hid hFb; have HFR := Lib.hid hFr; have HFK := Lib.hid hFk; (obtain ⟨c0, c1, c2⟩ := HX6.out.cells); (obtain ⟨r0, r1, r2⟩ := HR6.out.cells); have s0 := HR6.out.frz 0; have s1 := HR6.out.frz 1; have s2 := HR6.out.frz 2; clear hB6 hF6 hFc hFb hFr hFk)
    all_goals
      go_wp2_with fail
      rw [HF6.out]
      obtain ⟨k0, k1, k2⟩ := HFC.out
      refine bodyPost_ret (v := .tuple #[.agg #[.int .i64 B'.conn, .int .i64 B'.first, .slice A' m c'], .bool true]) (by simp [results, Try.results10, go_sem, Act.put, k0, k1, k2]) rfl ⟨B', A', m, c', rfl, HFB, HFR, Lib.hid hM.out.len, hF, HFK⟩
end Go.Proofs.Ytieicfobhgfonaa
