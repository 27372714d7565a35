/- The code's Take of layer 17. For windows above -10^12. -/
import Derived.Test.YtieicfobhgfonaaProg
import Derived.Test.YtieicfobhgfonaaMpFun
import Derived.Test.YtieicfobhgfonaaWiMath
import Derived.Test.YtieicfobhgfonaaWiAt
import Derived.Test.YtieicfobhgfonaaWiMap
import Derived.WalkKit
import Derived.Lib.Hide
import Derived.Laws.Rows
import Derived.Outline
import Derived.IntWalk
import Derived.WalkSpells
import Derived.WalkLawsBesides
import Derived.LoopTactic
import Derived.Deep.CutRange
import Derived.Lib.MinMax
namespace Go.Proofs.Ytieicfobhgfonaa
open Go Go.RowKit Go.MapKept Mp Wi
set_option linter.unusedVariables false
section
variable (g b : Nat) (K : Int) (B B' : Bk) (id : Nat) (want t : Int) (w : World)
set_option maxHeartbeats 8000000 in
set_option maxRecDepth 100000 in
theorem wtake_is (hB : Hid (BkAt w g b B)) (hI : Hid (Inv K B)) (hK : 0 ≤ K ∧ K ≤ 1000000000000) (hi : id < 4294967296) (hw : -9223372036854775808 ≤ want ∧ want ≤ 9223372036854775807) (hr : Hid (takeB B id want = (B', t))) : Calls Try.prog 15 #[.pointer (some ⟨b, 0, none⟩), .int .u32 (id : Int), .int .i64 want] w fun e w' => e = .returned (.int .i64 t) ∧ Hid (BkAt w' g b B') ∧ Hid (BkK b w w') := by
  have hg := hB.out.gb
  obtain ⟨bm, hgm, hx, hm, hne⟩ := hB.out.box
  obtain ⟨c0, c1, c2, f0, f1⟩ := hx.cells
  have hc0 := hI.out.c0
  have hc1 := hI.out.c1
  unfold mostW at hc1
  have hr := hr.out
  cases ho : ofR B.rows id with
  | none =>
    unfold takeB at hr
    rw [ho] at hr
    have hr : (B, (0 : Int)) = (B', t) := hr
    injection hr with h1 h2
    subst h1 h2
    have hlk : (Instr.lookup 45 (.map (some bm)) (.int .u32 (id : Int)) true).run Try.prog w = .ok (.tuple #[.int .i64 0, .bool false]) w := look_b hm id none ho
    have HR := Lib.hid (And.intro hB.out (bkK_refl (b := b) w))
    clear hx hm hI ho
    go_enter Try.func15, Try.ntmps15
    go_wp2_with fail
    go_ret
    exact ⟨rfl, Lib.hid HR.out.1, Lib.hid HR.out.2⟩
  | some v =>
    have hv := hI.out.of ho
    unfold mostW at hv
    have hlk : (Instr.lookup 45 (.map (some bm)) (.int .u32 (id : Int)) true).run Try.prog w = .ok (.tuple #[.int .i64 v, .bool true]) w := look_b hm id (some v) ho
    have hT : ∃ m : List (Nat × Int), ofR m id = some (v - t) ∧ (∀ j, j ≠ id → ofR m j = ofR B.rows j) ∧ B' = { conn := B.conn - t, first := B.first, rows := m } ∧ max (min (min want B.conn) v) 0 = t := by
      unfold takeB at hr
      rw [ho] at hr
      have hr : (if least3 want B.conn v ≤ 0 then (B, (0 : Int)) else ({ putB B id (v - least3 want B.conn v) with conn := B.conn - least3 want B.conn v }, least3 want B.conn v)) = (B', t) := hr
      have hl : least3 want B.conn v = min (min want B.conn) v := by
        unfold least3
        split <;> split at * <;> omega
      split at hr
      · next h0 =>
        injection hr with h1 h2
        subst h1 h2
        refine ⟨B.rows, by rw [ho, Int.sub_zero], fun _ _ => rfl, by rw [Int.sub_zero], by omega⟩
      · next h0 =>
        injection hr with h1 h2
        rw [h2] at h1 hl h0
        refine ⟨(putB B id (v - t)).rows, by rw [ofR_put, if_pos rfl], fun j hj => by rw [ofR_put, if_neg hj], ?_, by omega⟩
        rw [← h1]
        rfl
    obtain ⟨m, hm1, hm2, rfl, ht⟩ := hT
    have hmin0 : ∀ ts ty (W : World), (Builtin.min_ ts ty #[.int .i64 want, .int .i64 B.conn, .int .i64 v]).run Try.prog W = .ok (.int .i64 (min (min want B.conn) v)) W := fun ts ty W => by
      have e1 : (if B.conn < want then B.conn else want) = min want B.conn := by
        rw [Int.min_def]
        split <;> split <;> omega
      have e2 : (if v < min want B.conn then v else min want B.conn) = min (min want B.conn) v := by
        rw [Int.min_def (min want B.conn) v]
        split <;> split <;> omega
      simp [Builtin.min_, Builtin.min2, e1, e2]
    have htb0 : 0 ≤ t ∧ t ≤ B.conn ∧ (t ≤ v ∨ t = 0) := by omega
    obtain ⟨z, hz⟩ : ∃ z, min (min want B.conn) v = z := ⟨_, rfl⟩
    rw [hz] at ht
    have hmin : ∀ ts ty (W : World), (Builtin.min_ ts ty #[.int .i64 want, .int .i64 B.conn, .int .i64 v]).run Try.prog W = .ok (.int .i64 z) W := fun ts ty W => by rw [← hz]; exact hmin0 ts ty W
    have htb : 0 ≤ t ∧ t ≤ B.conn ∧ (t ≤ v ∨ t = 0) := htb0
    have hs1 : IntKind.i64.wrap (B.conn - t) = B.conn - t := by rw [IntKind.wrap_i64]; omega
    have hs2 : IntKind.i64.wrap (v - t) = v - t := by rw [IntKind.wrap_i64]; omega
    have hx2 := boxB_conn hx (B.conn - t)
    have hmx : MapF (w.setCell ⟨b, 0, none⟩ (.int .i64 (B.conn - t))) bm (.int .u32) (liftR B.rows) := hm.kept (Below.heap_setCell w ⟨b, 0, none⟩ _ bm hne)
    obtain ⟨w2, hrun, hm3, hgw⟩ := put_b hmx id (v - t) m hm1 hm2
    have hR1 := bk_map (B := { conn := B.conn - t, first := B.first, rows := B.rows }) hg hgm hx2 hne hm3 hgw
    have HR := Lib.hid (And.intro hR1.1 ((bkK_set hx ⟨_, _, hx2⟩).trans hR1.2))
    have c2' := hx2.cells.2.2.1
    clear hx hm hI ho hx2 hmx hm3 hgw hR1 hm1 hm2 hr hB hz hmin0
    go_enter Try.func15, Try.ntmps15
    go_wp2_with fail
    go_ret
    exact ⟨rfl, Lib.hid HR.out.1, Lib.hid HR.out.2⟩
end
end Go.Proofs.Ytieicfobhgfonaa
