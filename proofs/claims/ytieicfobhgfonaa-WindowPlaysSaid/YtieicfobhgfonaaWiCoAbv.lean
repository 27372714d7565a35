/- The code's above of layer 17: would a window be above the greatest? For windows above -2^40. -/
import Derived.Test.YtieicfobhgfonaaProg
import Derived.Test.YtieicfobhgfonaaMpFun
import Derived.Test.YtieicfobhgfonaaMpRng
import Derived.Test.YtieicfobhgfonaaWiMath
import Derived.Test.YtieicfobhgfonaaWiAt
import Derived.Test.YtieicfobhgfonaaWiMap
import Derived.WalkKit
import Derived.Lib.Hide
import Derived.Laws.Rows
import Derived.Outline
import Derived.IntWalk
import Derived.WalkSpells
import Derived.WalkLawsBesides
import Derived.LoopTactic
import Derived.Deep.CutRange
namespace Go.Proofs.Ytieicfobhgfonaa
open Go Go.RowKit Go.MapKept Mp Wi
set_option linter.unusedVariables false
namespace Wi
/-- An entry is a row. -/
theorem entry_row {es : Array MapEntry} {l : List (Nat × Int)} (hf : ∀ x ∈ es.toList, IsKey (.int .u32) x.key ∧ liftR l x.key = some x.val) {x : MapEntry} (hx : x ∈ es.toList) : ∃ k v, x.key = .int .u32 (k : Nat) ∧ x.val = .int .i64 v ∧ ofR l k = some v := by
  obtain ⟨h1, h2⟩ := hf x hx
  cases hk : x.key with
  | int q n =>
    rw [hk] at h1 h2
    have h1 : q = .u32 := h1
    subst h1
    have h2 : (if 0 ≤ n then (ofR l n.toNat).map (Value.int .i64) else none) = some x.val := h2
    by_cases h0 : 0 ≤ n
    · rw [if_pos h0] at h2
      cases ho : ofR l n.toNat with
      | none => rw [ho] at h2; cases h2
      | some v =>
        rw [ho] at h2
        exact ⟨n.toNat, v, by rw [Int.toNat_of_nonneg h0], (Option.some.inj h2).symm, ho⟩
    · rw [if_neg h0] at h2; cases h2
  | _ => rw [hk] at h1; exact absurd h1 (by intro h; cases h)
/-- A row is an entry. -/
theorem row_entry {es : Array MapEntry} {l : List (Nat × Int)} (hg : ∀ k v, liftR l k = some v → ∃ x ∈ es.toList, x.key = k ∧ x.val = v) {k : Nat} {v : Int} (h : ofR l k = some v) : ∃ x ∈ es.toList, x.key = .int .u32 (k : Int) ∧ x.val = .int .i64 v :=
  hg (.int .u32 (k : Int)) (.int .i64 v) (by rw [liftR_at, h]; rfl)
end Wi
section
variable (g b : Nat) (K : Int) (B : Bk) (d : Int) (q : Bool) (w : World)
set_option maxHeartbeats 8000000 in
set_option maxRecDepth 100000 in
theorem wabove_is (hB : Hid (BkAt w g b B)) (hI : Hid (Inv K B)) (hK : 0 ≤ K ∧ K ≤ 1000000000000) (hd : -4294967296 ≤ d ∧ d ≤ 4294967296) (hq : Hid (overR B.rows d = q)) : Calls Try.prog 25 #[.pointer (some ⟨b, 0, none⟩), .int .i64 d] w fun e w' => e = .returned (.bool q) ∧ Below w.heap.size w w' := by
  obtain ⟨bm, _, hx, hm, _⟩ := hB.out.box
  obtain ⟨es, c, hb, hs, hf, hg⟩ := hm
  obtain ⟨c0, c1, c2, _, _⟩ := hx.cells
  have hlb : bm < w.heap.size := by
    rcases Nat.lt_or_ge bm w.heap.size with h | h
    · exact h
    · rw [Array.getElem?_eq_none h] at hb; cases hb
  have hrg := run_range_map (P := Try.prog) w 45 32 2 bm es c Try.underlying45 hb
  obtain ⟨r, hr⟩ : ∃ r, w.heap.size = r := ⟨_, rfl⟩
  obtain ⟨W0, hW0⟩ : ∃ W, w.alloc (.mapIter (some bm) c #[] c) = W := ⟨_, rfl⟩
  have HI0 : Hid (W0.heap[r]? = some (.mapIter (some bm) c #[] c)) := Lib.hid (by rw [← hW0, ← hr]; exact heap_alloc_new w _)
  have HB0 : Hid (Below r w W0) := Lib.hid (by rw [← hW0, ← hr]; exact (Below.refl _ w).alloc (Nat.le_refl _) _)
  rw [hW0, hr] at hrg
  have HRO : Hid (∀ x ∈ es.toList, ∃ v : Int, x.val = .int .i64 v ∧ -1000000000000 ≤ v ∧ v ≤ 2147483647 ∧ (mostW < v + d → overR B.rows d = true)) := Lib.hid (fun x hx => by
    obtain ⟨k, v, _, h2, h3⟩ := entry_row hf hx
    have h4 := hI.out.of h3
    unfold mostW at h4
    refine ⟨v, h2, by omega, by omega, fun h5 => ?_⟩
    unfold overR
    exact List.any_eq_true.2 ⟨(k, v), mem_ofR h3, decide_eq_true h5⟩)
  have HEN : Hid ((∀ x ∈ es.toList, ∀ v, x.val = .int .i64 v → v + d ≤ mostW) → overR B.rows d = false) := Lib.hid (fun h => by
    unfold overR
    refine List.any_eq_false.2 (fun x hx => ?_)
    have h1 := ofR_mem hI.out.keys hx
    obtain ⟨y, hy, _, h2⟩ := row_entry hg h1
    have := h y hy _ h2
    simp
    omega)
  have HS := Lib.hid hs
  have HBM : Hid (∀ W : World, Below r w W → W.heap[bm]? = some (.map es c)) := Lib.hid (fun W h => (h.block bm (by omega)).trans hb)
  clear hb hs hf hg hx hB hI hlb hW0
  rw [hr]
  go_enter Try.func25, Try.ntmps25
  go_wp2_with fail
  go_loopw [] (fun wr => ∃ seen, Hid (wr.heap[r]? = some (.mapIter (some bm) c seen c)) ∧ Hid (Below r w wr) ∧ Hid (∀ x ∈ es.toList, seen.contains x.born = true → ∀ v, x.val = .int .i64 v → v + d ≤ mostW)) (fun wr => (leftOf es (wr.iterSeen r)).size)
  case atStart => exact ⟨#[], HI0, HB0, Lib.hid (fun x _ h => by simp at h)⟩
  case round =>
    obtain ⟨seen, hi, hBw, hno⟩ := hrel
    have law := run_next_at (P := Try.prog) wr 0 r bm c c seen es c hi.out (HBM.out wr hBw.out) HS.out.1 (Nat.le_refl _)
    rcases law with ⟨h0, hrun⟩ | ⟨e, he, w2, hw2, hrun⟩
    · have hnx : ∀ ty, (Instr.next (.pointer (some ⟨r, 0, none⟩)) false ty).run Try.prog wr = _ := fun _ => hrun
      obtain rfl : false = q := by rw [← hq.out, HEN.out (fun x hx => hno.out x hx (all_seen es seen h0 x hx))]
      go_wp2_with fail
      go_ret
      exact ⟨rfl, hBw.out⟩
    · obtain ⟨hes, hns⟩ := mem_left he
      obtain ⟨v, hv, hv1, hv2, hov⟩ := HRO.out e hes
      obtain ⟨V, hV⟩ : ∃ V, Go.ChangeMaps.setBlock w2 r (.mapIter (some bm) c (seen.push e.born) c) = V := ⟨_, rfl⟩
      have hVB : Below r w V := by rw [← hV]; exact below_block hBw.out hi.out hw2
      have hVI : V.heap[r]? = some (.mapIter (some bm) c (seen.push e.born) c) := by rw [← hV]; exact (heap_block hi.out hw2).1
      have hen := run_entry_at (P := Try.prog) V r bm c seen es c e hVI (HBM.out V hVB) hes HS.out.2.1
      rw [hV, hv] at hrun
      rw [hv] at hen
      have hnx : ∀ ty, (Instr.next (.pointer (some ⟨r, 0, none⟩)) false ty).run Try.prog wr = _ := fun _ => hrun
      have HMS : Hid ((leftOf es (V.iterSeen r)).size < (leftOf es (wr.iterSeen r)).size) := Lib.hid (by rw [iterSeen_at hVI, iterSeen_at hi.out]; exact left_shrinks es seen e he)
      have HVB := Lib.hid hVB
      have HVI := Lib.hid hVI
      have hsum : IntKind.i64.wrap (v + d) = v + d := by rw [IntKind.wrap_i64]; omega
      by_cases ho : mostW < v + d
      · have hcm : decide (v + d > 2147483647) = true := decide_eq_true ho
        have hcm2 : (2147483647 : Int) < v + d := ho
        obtain rfl : true = q := by rw [← hq.out, hov ho]
        clear hV hVB hVI he hns hes hov hrun ho
        go_wp2_with fail
        go_ret
        exact ⟨rfl, HVB.out⟩
      · have hcm2 : ¬ (2147483647 : Int) < v + d := ho
        have HNO : Hid (∀ x ∈ es.toList, (seen.push e.born).contains x.born = true → ∀ v, x.val = .int .i64 v → v + d ≤ mostW) := Lib.hid (fun x hx hc u hu => by
          rw [contains_push] at hc
          rcases Bool.or_eq_true _ _ ▸ hc with h1 | h1
          · exact hno.out x hx h1 u hu
          · have : x = e := born_inj HS.out.2.1 hx hes (beq_iff_eq.1 h1)
            subst this
            rw [hv] at hu
            injection hu with _ hu
            subst hu
            omega)
        clear hV hVB hVI he hns hes hov hrun ho
        go_wp2_with fail
        go_roundw
        case rel => exact ⟨_, HVI, HVB, HNO⟩
        case measure => exact HMS.out
end
end Go.Proofs.Ytieicfobhgfonaa
