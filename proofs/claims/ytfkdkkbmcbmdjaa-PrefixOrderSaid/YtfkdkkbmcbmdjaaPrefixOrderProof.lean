/- Proves PrefixOrder: with more bits an integer takes no more bytes; a greater integer never fewer; of those that are below 2^N - 1 each takes one. No condition. -/
import Derived.Test.YtfkdkkbmcbmdjaaRows
import Derived.WalkKit
import Derived.ProofKit
import Derived.OpenShut
import Derived.ShutString
import Derived.Test.YtfkdkkbmcbmdjaaPfAwake
import Derived.Below
namespace Go.Proofs.Ytfkdkkbmcbmdjaa.prefixOrder
open Go.ChangeShapes Go.WideShapes Go.ChangeAt Go.RowKit
open Go.ChangeMaps (open_string shut_string)
set_option linter.unusedVariables false      -- a walk need not use every 'w<i>' (that an integer argument fits its kind)

theorem own : ownKnob Try.prog.godebug = none := by kernel_rfl

open Bytes Pf
theorem order_facts (b : Int) (f n m : Nat) (hf : fullN b = f) : ∃ (ra rb rc : List UInt8) (ka kb kc : Nat), Hid (putL (fullN b) 0 n = ra) ∧ Hid (putL (fullN (b + 1)) 0 n = rb) ∧ Hid (putL (fullN b) 0 m = rc) ∧ Hid (ra.length = ka) ∧ Hid (rb.length = kb) ∧ Hid (rc.length = kc) ∧ kb ≤ ka ∧ (n ≤ m → ka ≤ kc) ∧ (m ≤ n → kc ≤ ka) ∧ (ka = 1 ↔ n < f) := by
  refine ⟨_, _, _, _, _, _, rfl, rfl, rfl, rfl, rfl, rfl, ?_, len_mono, len_mono, ?_⟩
  · refine len_bits ?_
    unfold fullN
    have : 2 ^ kOf b ≤ 2 ^ kOf (b + 1) := Nat.pow_le_pow_right (by omega) (by unfold kOf; omega)
    omega
  · rw [hf]
    exact len_one
set_option maxRecDepth 100000 in
set_option maxHeartbeats 800000 in
theorem order_1 (n m : Nat) (w : World) (hn : n < 18446744073709551616) (hm : m < 18446744073709551616) : Calls Try.prog 7 #[.int .i64 1, .int .u64 n, .int .u64 m] w fun e w' => e = .returned (.bool true) ∧ Below w.heap.size w w' := by
  obtain ⟨ra, rb, rc, ka, kb, kc, h3, h4, h5, h6, h7, h8, e1, e2, e3, e4⟩ := order_facts 1 1 n m (by decide +kernel)
  have h4' : Hid (putL (fullN 2) 0 n = rb) := h4
  have E2 := Lib.hid e2
  have E3 := Lib.hid e3
  have E4 := Lib.hid e4
  clear e2 e3 e4
  go_enter Try.func7, Try.ntmps7
  go_wp2_with fail
  refine (awake_any _).mono ?_
  rintro e w1 ⟨rfl, hB⟩
  have s1 := hB.size
  go_wp2_with fail
  refine (put_nil ra ka 0 n 1 _ h6 (by decide) hn (by decide) (by decide) h3).mono ?_
  rintro e w2 ⟨g2, cap2, rfl, _, hB2⟩
  have n2 := hB.trans (hB2.mono s1)
  have s2 := n2.size
  clear hB hB2 s1
  go_wp2_with fail
  refine (put_nil rb kb 0 n 2 _ h7 (by decide) hn (by decide) (by decide) h4').mono ?_
  rintro e w3 ⟨g3, cap3, rfl, _, hB3⟩
  have n3 := n2.trans (hB3.mono s2)
  have s3 := n3.size
  clear hB3 n2 s2
  go_wp2_with fail
  refine (put_nil rc kc 0 m 1 _ h8 (by decide) hm (by decide) (by decide) h5).mono ?_
  rintro e w4 ⟨g4, cap4, rfl, _, hB4⟩
  have n4 := n3.trans (hB4.mono s3)
  clear hB4 n3 s3
  by_cases hnf : n < 1
  · have f2 : ka = 1 := E4.out.2 hnf
    subst f2
    have hd : decide ((n : Int) < 1) = true := decide_eq_true (by omega)
    by_cases hnm : n < m
    · have f1 := E2.out (by omega)
      go_wp2_with fail
      all_goals (go_ret; exact ⟨rfl, n4⟩)
    · by_cases hmn : m < n
      · have f1 := E3.out (by omega)
        go_wp2_with fail
        all_goals (go_ret; exact ⟨rfl, n4⟩)
      · have f0 := E2.out (by omega)
        have f1 := E3.out (by omega)
        go_wp2_with fail
        all_goals (go_ret; exact ⟨rfl, n4⟩)
  · have f2 : ((ka : Int) == 1) = false := beq_eq_false_iff_ne.2 (fun h => hnf (E4.out.1 (by omega)))
    have hd : decide ((n : Int) < 1) = false := decide_eq_false (by omega)
    by_cases hnm : n < m
    · have f1 := E2.out (by omega)
      go_wp2_with fail
      all_goals (go_ret; exact ⟨rfl, n4⟩)
    · by_cases hmn : m < n
      · have f1 := E3.out (by omega)
        go_wp2_with fail
        all_goals (go_ret; exact ⟨rfl, n4⟩)
      · have f0 := E2.out (by omega)
        have f1 := E3.out (by omega)
        go_wp2_with fail
        all_goals (go_ret; exact ⟨rfl, n4⟩)
set_option maxRecDepth 100000 in
set_option maxHeartbeats 800000 in
theorem order_2 (n m : Nat) (w : World) (hn : n < 18446744073709551616) (hm : m < 18446744073709551616) : Calls Try.prog 7 #[.int .i64 2, .int .u64 n, .int .u64 m] w fun e w' => e = .returned (.bool true) ∧ Below w.heap.size w w' := by
  obtain ⟨ra, rb, rc, ka, kb, kc, h3, h4, h5, h6, h7, h8, e1, e2, e3, e4⟩ := order_facts 2 3 n m (by decide +kernel)
  have h4' : Hid (putL (fullN 3) 0 n = rb) := h4
  have E2 := Lib.hid e2
  have E3 := Lib.hid e3
  have E4 := Lib.hid e4
  clear e2 e3 e4
  go_enter Try.func7, Try.ntmps7
  go_wp2_with fail
  refine (awake_any _).mono ?_
  rintro e w1 ⟨rfl, hB⟩
  have s1 := hB.size
  go_wp2_with fail
  refine (put_nil ra ka 0 n 2 _ h6 (by decide) hn (by decide) (by decide) h3).mono ?_
  rintro e w2 ⟨g2, cap2, rfl, _, hB2⟩
  have n2 := hB.trans (hB2.mono s1)
  have s2 := n2.size
  clear hB hB2 s1
  go_wp2_with fail
  refine (put_nil rb kb 0 n 3 _ h7 (by decide) hn (by decide) (by decide) h4').mono ?_
  rintro e w3 ⟨g3, cap3, rfl, _, hB3⟩
  have n3 := n2.trans (hB3.mono s2)
  have s3 := n3.size
  clear hB3 n2 s2
  go_wp2_with fail
  refine (put_nil rc kc 0 m 2 _ h8 (by decide) hm (by decide) (by decide) h5).mono ?_
  rintro e w4 ⟨g4, cap4, rfl, _, hB4⟩
  have n4 := n3.trans (hB4.mono s3)
  clear hB4 n3 s3
  by_cases hnf : n < 3
  · have f2 : ka = 1 := E4.out.2 hnf
    subst f2
    have hd : decide ((n : Int) < 3) = true := decide_eq_true (by omega)
    by_cases hnm : n < m
    · have f1 := E2.out (by omega)
      go_wp2_with fail
      all_goals (go_ret; exact ⟨rfl, n4⟩)
    · by_cases hmn : m < n
      · have f1 := E3.out (by omega)
        go_wp2_with fail
        all_goals (go_ret; exact ⟨rfl, n4⟩)
      · have f0 := E2.out (by omega)
        have f1 := E3.out (by omega)
        go_wp2_with fail
        all_goals (go_ret; exact ⟨rfl, n4⟩)
  · have f2 : ((ka : Int) == 1) = false := beq_eq_false_iff_ne.2 (fun h => hnf (E4.out.1 (by omega)))
    have hd : decide ((n : Int) < 3) = false := decide_eq_false (by omega)
    by_cases hnm : n < m
    · have f1 := E2.out (by omega)
      go_wp2_with fail
      all_goals (go_ret; exact ⟨rfl, n4⟩)
    · by_cases hmn : m < n
      · have f1 := E3.out (by omega)
        go_wp2_with fail
        all_goals (go_ret; exact ⟨rfl, n4⟩)
      · have f0 := E2.out (by omega)
        have f1 := E3.out (by omega)
        go_wp2_with fail
        all_goals (go_ret; exact ⟨rfl, n4⟩)
set_option maxRecDepth 100000 in
set_option maxHeartbeats 800000 in
theorem order_3 (n m : Nat) (w : World) (hn : n < 18446744073709551616) (hm : m < 18446744073709551616) : Calls Try.prog 7 #[.int .i64 3, .int .u64 n, .int .u64 m] w fun e w' => e = .returned (.bool true) ∧ Below w.heap.size w w' := by
  obtain ⟨ra, rb, rc, ka, kb, kc, h3, h4, h5, h6, h7, h8, e1, e2, e3, e4⟩ := order_facts 3 7 n m (by decide +kernel)
  have h4' : Hid (putL (fullN 4) 0 n = rb) := h4
  have E2 := Lib.hid e2
  have E3 := Lib.hid e3
  have E4 := Lib.hid e4
  clear e2 e3 e4
  go_enter Try.func7, Try.ntmps7
  go_wp2_with fail
  refine (awake_any _).mono ?_
  rintro e w1 ⟨rfl, hB⟩
  have s1 := hB.size
  go_wp2_with fail
  refine (put_nil ra ka 0 n 3 _ h6 (by decide) hn (by decide) (by decide) h3).mono ?_
  rintro e w2 ⟨g2, cap2, rfl, _, hB2⟩
  have n2 := hB.trans (hB2.mono s1)
  have s2 := n2.size
  clear hB hB2 s1
  go_wp2_with fail
  refine (put_nil rb kb 0 n 4 _ h7 (by decide) hn (by decide) (by decide) h4').mono ?_
  rintro e w3 ⟨g3, cap3, rfl, _, hB3⟩
  have n3 := n2.trans (hB3.mono s2)
  have s3 := n3.size
  clear hB3 n2 s2
  go_wp2_with fail
  refine (put_nil rc kc 0 m 3 _ h8 (by decide) hm (by decide) (by decide) h5).mono ?_
  rintro e w4 ⟨g4, cap4, rfl, _, hB4⟩
  have n4 := n3.trans (hB4.mono s3)
  clear hB4 n3 s3
  by_cases hnf : n < 7
  · have f2 : ka = 1 := E4.out.2 hnf
    subst f2
    have hd : decide ((n : Int) < 7) = true := decide_eq_true (by omega)
    by_cases hnm : n < m
    · have f1 := E2.out (by omega)
      go_wp2_with fail
      all_goals (go_ret; exact ⟨rfl, n4⟩)
    · by_cases hmn : m < n
      · have f1 := E3.out (by omega)
        go_wp2_with fail
        all_goals (go_ret; exact ⟨rfl, n4⟩)
      · have f0 := E2.out (by omega)
        have f1 := E3.out (by omega)
        go_wp2_with fail
        all_goals (go_ret; exact ⟨rfl, n4⟩)
  · have f2 : ((ka : Int) == 1) = false := beq_eq_false_iff_ne.2 (fun h => hnf (E4.out.1 (by omega)))
    have hd : decide ((n : Int) < 7) = false := decide_eq_false (by omega)
    by_cases hnm : n < m
    · have f1 := E2.out (by omega)
      go_wp2_with fail
      all_goals (go_ret; exact ⟨rfl, n4⟩)
    · by_cases hmn : m < n
      · have f1 := E3.out (by omega)
        go_wp2_with fail
        all_goals (go_ret; exact ⟨rfl, n4⟩)
      · have f0 := E2.out (by omega)
        have f1 := E3.out (by omega)
        go_wp2_with fail
        all_goals (go_ret; exact ⟨rfl, n4⟩)
set_option maxRecDepth 100000 in
set_option maxHeartbeats 800000 in
theorem order_4 (n m : Nat) (w : World) (hn : n < 18446744073709551616) (hm : m < 18446744073709551616) : Calls Try.prog 7 #[.int .i64 4, .int .u64 n, .int .u64 m] w fun e w' => e = .returned (.bool true) ∧ Below w.heap.size w w' := by
  obtain ⟨ra, rb, rc, ka, kb, kc, h3, h4, h5, h6, h7, h8, e1, e2, e3, e4⟩ := order_facts 4 15 n m (by decide +kernel)
  have h4' : Hid (putL (fullN 5) 0 n = rb) := h4
  have E2 := Lib.hid e2
  have E3 := Lib.hid e3
  have E4 := Lib.hid e4
  clear e2 e3 e4
  go_enter Try.func7, Try.ntmps7
  go_wp2_with fail
  refine (awake_any _).mono ?_
  rintro e w1 ⟨rfl, hB⟩
  have s1 := hB.size
  go_wp2_with fail
  refine (put_nil ra ka 0 n 4 _ h6 (by decide) hn (by decide) (by decide) h3).mono ?_
  rintro e w2 ⟨g2, cap2, rfl, _, hB2⟩
  have n2 := hB.trans (hB2.mono s1)
  have s2 := n2.size
  clear hB hB2 s1
  go_wp2_with fail
  refine (put_nil rb kb 0 n 5 _ h7 (by decide) hn (by decide) (by decide) h4').mono ?_
  rintro e w3 ⟨g3, cap3, rfl, _, hB3⟩
  have n3 := n2.trans (hB3.mono s2)
  have s3 := n3.size
  clear hB3 n2 s2
  go_wp2_with fail
  refine (put_nil rc kc 0 m 4 _ h8 (by decide) hm (by decide) (by decide) h5).mono ?_
  rintro e w4 ⟨g4, cap4, rfl, _, hB4⟩
  have n4 := n3.trans (hB4.mono s3)
  clear hB4 n3 s3
  by_cases hnf : n < 15
  · have f2 : ka = 1 := E4.out.2 hnf
    subst f2
    have hd : decide ((n : Int) < 15) = true := decide_eq_true (by omega)
    by_cases hnm : n < m
    · have f1 := E2.out (by omega)
      go_wp2_with fail
      all_goals (go_ret; exact ⟨rfl, n4⟩)
    · by_cases hmn : m < n
      · have f1 := E3.out (by omega)
        go_wp2_with fail
        all_goals (go_ret; exact ⟨rfl, n4⟩)
      · have f0 := E2.out (by omega)
        have f1 := E3.out (by omega)
        go_wp2_with fail
        all_goals (go_ret; exact ⟨rfl, n4⟩)
  · have f2 : ((ka : Int) == 1) = false := beq_eq_false_iff_ne.2 (fun h => hnf (E4.out.1 (by omega)))
    have hd : decide ((n : Int) < 15) = false := decide_eq_false (by omega)
    by_cases hnm : n < m
    · have f1 := E2.out (by omega)
      go_wp2_with fail
      all_goals (go_ret; exact ⟨rfl, n4⟩)
    · by_cases hmn : m < n
      · have f1 := E3.out (by omega)
        go_wp2_with fail
        all_goals (go_ret; exact ⟨rfl, n4⟩)
      · have f0 := E2.out (by omega)
        have f1 := E3.out (by omega)
        go_wp2_with fail
        all_goals (go_ret; exact ⟨rfl, n4⟩)
set_option maxRecDepth 100000 in
set_option maxHeartbeats 800000 in
theorem order_5 (n m : Nat) (w : World) (hn : n < 18446744073709551616) (hm : m < 18446744073709551616) : Calls Try.prog 7 #[.int .i64 5, .int .u64 n, .int .u64 m] w fun e w' => e = .returned (.bool true) ∧ Below w.heap.size w w' := by
  obtain ⟨ra, rb, rc, ka, kb, kc, h3, h4, h5, h6, h7, h8, e1, e2, e3, e4⟩ := order_facts 5 31 n m (by decide +kernel)
  have h4' : Hid (putL (fullN 6) 0 n = rb) := h4
  have E2 := Lib.hid e2
  have E3 := Lib.hid e3
  have E4 := Lib.hid e4
  clear e2 e3 e4
  go_enter Try.func7, Try.ntmps7
  go_wp2_with fail
  refine (awake_any _).mono ?_
  rintro e w1 ⟨rfl, hB⟩
  have s1 := hB.size
  go_wp2_with fail
  refine (put_nil ra ka 0 n 5 _ h6 (by decide) hn (by decide) (by decide) h3).mono ?_
  rintro e w2 ⟨g2, cap2, rfl, _, hB2⟩
  have n2 := hB.trans (hB2.mono s1)
  have s2 := n2.size
  clear hB hB2 s1
  go_wp2_with fail
  refine (put_nil rb kb 0 n 6 _ h7 (by decide) hn (by decide) (by decide) h4').mono ?_
  rintro e w3 ⟨g3, cap3, rfl, _, hB3⟩
  have n3 := n2.trans (hB3.mono s2)
  have s3 := n3.size
  clear hB3 n2 s2
  go_wp2_with fail
  refine (put_nil rc kc 0 m 5 _ h8 (by decide) hm (by decide) (by decide) h5).mono ?_
  rintro e w4 ⟨g4, cap4, rfl, _, hB4⟩
  have n4 := n3.trans (hB4.mono s3)
  clear hB4 n3 s3
  by_cases hnf : n < 31
  · have f2 : ka = 1 := E4.out.2 hnf
    subst f2
    have hd : decide ((n : Int) < 31) = true := decide_eq_true (by omega)
    by_cases hnm : n < m
    · have f1 := E2.out (by omega)
      go_wp2_with fail
      all_goals (go_ret; exact ⟨rfl, n4⟩)
    · by_cases hmn : m < n
      · have f1 := E3.out (by omega)
        go_wp2_with fail
        all_goals (go_ret; exact ⟨rfl, n4⟩)
      · have f0 := E2.out (by omega)
        have f1 := E3.out (by omega)
        go_wp2_with fail
        all_goals (go_ret; exact ⟨rfl, n4⟩)
  · have f2 : ((ka : Int) == 1) = false := beq_eq_false_iff_ne.2 (fun h => hnf (E4.out.1 (by omega)))
    have hd : decide ((n : Int) < 31) = false := decide_eq_false (by omega)
    by_cases hnm : n < m
    · have f1 := E2.out (by omega)
      go_wp2_with fail
      all_goals (go_ret; exact ⟨rfl, n4⟩)
    · by_cases hmn : m < n
      · have f1 := E3.out (by omega)
        go_wp2_with fail
        all_goals (go_ret; exact ⟨rfl, n4⟩)
      · have f0 := E2.out (by omega)
        have f1 := E3.out (by omega)
        go_wp2_with fail
        all_goals (go_ret; exact ⟨rfl, n4⟩)
set_option maxRecDepth 100000 in
set_option maxHeartbeats 800000 in
theorem order_6 (n m : Nat) (w : World) (hn : n < 18446744073709551616) (hm : m < 18446744073709551616) : Calls Try.prog 7 #[.int .i64 6, .int .u64 n, .int .u64 m] w fun e w' => e = .returned (.bool true) ∧ Below w.heap.size w w' := by
  obtain ⟨ra, rb, rc, ka, kb, kc, h3, h4, h5, h6, h7, h8, e1, e2, e3, e4⟩ := order_facts 6 63 n m (by decide +kernel)
  have h4' : Hid (putL (fullN 7) 0 n = rb) := h4
  have E2 := Lib.hid e2
  have E3 := Lib.hid e3
  have E4 := Lib.hid e4
  clear e2 e3 e4
  go_enter Try.func7, Try.ntmps7
  go_wp2_with fail
  refine (awake_any _).mono ?_
  rintro e w1 ⟨rfl, hB⟩
  have s1 := hB.size
  go_wp2_with fail
  refine (put_nil ra ka 0 n 6 _ h6 (by decide) hn (by decide) (by decide) h3).mono ?_
  rintro e w2 ⟨g2, cap2, rfl, _, hB2⟩
  have n2 := hB.trans (hB2.mono s1)
  have s2 := n2.size
  clear hB hB2 s1
  go_wp2_with fail
  refine (put_nil rb kb 0 n 7 _ h7 (by decide) hn (by decide) (by decide) h4').mono ?_
  rintro e w3 ⟨g3, cap3, rfl, _, hB3⟩
  have n3 := n2.trans (hB3.mono s2)
  have s3 := n3.size
  clear hB3 n2 s2
  go_wp2_with fail
  refine (put_nil rc kc 0 m 6 _ h8 (by decide) hm (by decide) (by decide) h5).mono ?_
  rintro e w4 ⟨g4, cap4, rfl, _, hB4⟩
  have n4 := n3.trans (hB4.mono s3)
  clear hB4 n3 s3
  by_cases hnf : n < 63
  · have f2 : ka = 1 := E4.out.2 hnf
    subst f2
    have hd : decide ((n : Int) < 63) = true := decide_eq_true (by omega)
    by_cases hnm : n < m
    · have f1 := E2.out (by omega)
      go_wp2_with fail
      all_goals (go_ret; exact ⟨rfl, n4⟩)
    · by_cases hmn : m < n
      · have f1 := E3.out (by omega)
        go_wp2_with fail
        all_goals (go_ret; exact ⟨rfl, n4⟩)
      · have f0 := E2.out (by omega)
        have f1 := E3.out (by omega)
        go_wp2_with fail
        all_goals (go_ret; exact ⟨rfl, n4⟩)
  · have f2 : ((ka : Int) == 1) = false := beq_eq_false_iff_ne.2 (fun h => hnf (E4.out.1 (by omega)))
    have hd : decide ((n : Int) < 63) = false := decide_eq_false (by omega)
    by_cases hnm : n < m
    · have f1 := E2.out (by omega)
      go_wp2_with fail
      all_goals (go_ret; exact ⟨rfl, n4⟩)
    · by_cases hmn : m < n
      · have f1 := E3.out (by omega)
        go_wp2_with fail
        all_goals (go_ret; exact ⟨rfl, n4⟩)
      · have f0 := E2.out (by omega)
        have f1 := E3.out (by omega)
        go_wp2_with fail
        all_goals (go_ret; exact ⟨rfl, n4⟩)
set_option maxRecDepth 100000 in
set_option maxHeartbeats 800000 in
theorem order_7 (n m : Nat) (w : World) (hn : n < 18446744073709551616) (hm : m < 18446744073709551616) : Calls Try.prog 7 #[.int .i64 7, .int .u64 n, .int .u64 m] w fun e w' => e = .returned (.bool true) ∧ Below w.heap.size w w' := by
  obtain ⟨ra, rb, rc, ka, kb, kc, h3, h4, h5, h6, h7, h8, e1, e2, e3, e4⟩ := order_facts 7 127 n m (by decide +kernel)
  have h4' : Hid (putL (fullN 8) 0 n = rb) := h4
  have E2 := Lib.hid e2
  have E3 := Lib.hid e3
  have E4 := Lib.hid e4
  clear e2 e3 e4
  go_enter Try.func7, Try.ntmps7
  go_wp2_with fail
  refine (awake_any _).mono ?_
  rintro e w1 ⟨rfl, hB⟩
  have s1 := hB.size
  go_wp2_with fail
  refine (put_nil ra ka 0 n 7 _ h6 (by decide) hn (by decide) (by decide) h3).mono ?_
  rintro e w2 ⟨g2, cap2, rfl, _, hB2⟩
  have n2 := hB.trans (hB2.mono s1)
  have s2 := n2.size
  clear hB hB2 s1
  go_wp2_with fail
  refine (put_nil rb kb 0 n 8 _ h7 (by decide) hn (by decide) (by decide) h4').mono ?_
  rintro e w3 ⟨g3, cap3, rfl, _, hB3⟩
  have n3 := n2.trans (hB3.mono s2)
  have s3 := n3.size
  clear hB3 n2 s2
  go_wp2_with fail
  refine (put_nil rc kc 0 m 7 _ h8 (by decide) hm (by decide) (by decide) h5).mono ?_
  rintro e w4 ⟨g4, cap4, rfl, _, hB4⟩
  have n4 := n3.trans (hB4.mono s3)
  clear hB4 n3 s3
  by_cases hnf : n < 127
  · have f2 : ka = 1 := E4.out.2 hnf
    subst f2
    have hd : decide ((n : Int) < 127) = true := decide_eq_true (by omega)
    by_cases hnm : n < m
    · have f1 := E2.out (by omega)
      go_wp2_with fail
      all_goals (go_ret; exact ⟨rfl, n4⟩)
    · by_cases hmn : m < n
      · have f1 := E3.out (by omega)
        go_wp2_with fail
        all_goals (go_ret; exact ⟨rfl, n4⟩)
      · have f0 := E2.out (by omega)
        have f1 := E3.out (by omega)
        go_wp2_with fail
        all_goals (go_ret; exact ⟨rfl, n4⟩)
  · have f2 : ((ka : Int) == 1) = false := beq_eq_false_iff_ne.2 (fun h => hnf (E4.out.1 (by omega)))
    have hd : decide ((n : Int) < 127) = false := decide_eq_false (by omega)
    by_cases hnm : n < m
    · have f1 := E2.out (by omega)
      go_wp2_with fail
      all_goals (go_ret; exact ⟨rfl, n4⟩)
    · by_cases hmn : m < n
      · have f1 := E3.out (by omega)
        go_wp2_with fail
        all_goals (go_ret; exact ⟨rfl, n4⟩)
      · have f0 := E2.out (by omega)
        have f1 := E3.out (by omega)
        go_wp2_with fail
        all_goals (go_ret; exact ⟨rfl, n4⟩)

theorem walk (a0 : Int) (a1 : Int) (a2 : Int) (w0 : (Lit.int .i64 a0).wf = true) (w1 : (Lit.int .u64 a1).wf = true) (w2 : (Lit.int .u64 a2).wf = true) (w : World) :
    Calls Try.prog 7 #[.int .i64 a0, .int .u64 a1, .int .u64 a2] w fun e w' => e = .returned (.bool true) ∧ Below w.heap.size w w' := by
  have b0 := bounds_i64 w0
  have b1 := bounds_u64 w1
  have b2 := bounds_u64 w2
  by_cases h1 : a0 < 1
  · go_enter Try.func7, Try.ntmps7
    go_wp2_with fail
    refine (awake_any _).mono ?_
    rintro e w1 ⟨rfl, hB⟩
    go_wp2_with fail
    go_ret
    exact ⟨rfl, hB⟩
  by_cases h2 : 7 < a0
  · go_enter Try.func7, Try.ntmps7
    go_wp2_with fail
    refine (awake_any _).mono ?_
    rintro e w1 ⟨rfl, hB⟩
    go_wp2_with fail
    go_ret
    exact ⟨rfl, hB⟩
  obtain ⟨n, rfl⟩ := Int.eq_ofNat_of_zero_le b1.1
  obtain ⟨m, rfl⟩ := Int.eq_ofNat_of_zero_le b2.1
  have hn : n < 18446744073709551616 := by omega
  have hm : m < 18446744073709551616 := by omega
  have hc : a0 = 1 ∨ a0 = 2 ∨ a0 = 3 ∨ a0 = 4 ∨ a0 = 5 ∨ a0 = 6 ∨ a0 = 7 := by omega
  rcases hc with rfl | rfl | rfl | rfl | rfl | rfl | rfl
  · exact order_1 n m _ hn hm
  · exact order_2 n m _ hn hm
  · exact order_3 n m _ hn hm
  · exact order_4 n m _ hn hm
  · exact order_5 n m _ hn hm
  · exact order_6 n m _ hn hm
  · exact order_7 n m _ hn hm

set_option maxRecDepth 100000 in
theorem lifted (os : Os) (started : os.Started) (H : Type) (enc : TypeId × Value → H) :
    ReturnsInHanded {} Try.checked os 7 .any (Rows.prefixOrderSpec.pre6 enc Try.prog Try.f7 Rows.prefixOrderRow.domain false) (Rows.prefixOrderSpec.post enc Try.prog Try.f7 false true false false) := by
  refine returnsInHanded_of_change (C := Try.checked) own started (by kernel_rfl) Try.func7
    (ChangeSpec.witness6 (enc := enc) (C := Try.checked) false ⟨#[], #[.int .i64 0, .int .u64 0, .int .u64 0], []⟩ 8 (by kernel_rfl) (by kernel_rfl) (by kernel_rfl) (by kernel_rfl)) ?_
  intro W base args ds gs before hval0 hW hcnd _
  have hval : ∀ (j : Nat) t v, Try.f7.params[j]? = some t → args[j]? = some v → Value.okWide Try.prog W .any base t v := hval0
  have hW' := hW
  obtain ⟨p, q, hA0, hV, rfl, hfz, hnd⟩ := hW
  have hA : DataW.TrodAll enc Try.prog W 0 (fun _ => true) true Try.f7.params.toList args.toList ds p := hA0
  rw [Try.params7] at hA hval
  obtain ⟨v0, vs0, d0, ds0, p0, q0, hargs, rfl, rfl, h0, r0⟩ := trodAll_cons hA
  obtain ⟨v1, vs1, d1, ds1, p1, q1, rfl, rfl, rfl, h1, r1⟩ := trodAll_cons r0
  obtain ⟨v2, vs2, d2, ds2, p2, q2, rfl, rfl, rfl, h2, r2⟩ := trodAll_cons r1
  obtain ⟨rfl, rfl, rfl⟩ := trodAll_nil r2
  obtain rfl : args = #[v0, v1, v2] := by cases args; simp_all
  obtain ⟨rfl, rfl⟩ := trodVars_none hV
  obtain ⟨a0, rfl, rfl, rfl, w0⟩ := open_int Try.underlying3 (hval 0 3 v0 rfl rfl) h0
  obtain ⟨a1, rfl, rfl, rfl, w1⟩ := open_int Try.underlying23 (hval 1 23 v1 rfl rfl) h1
  obtain ⟨a2, rfl, rfl, rfl, w2⟩ := open_int Try.underlying23 (hval 2 23 v2 rfl rfl) h2
  clear hA0 hval0
  simp only [List.append_nil] at hW'
  refine (walk a0 a1 a2 w0 w1 w2 W).mono fun e W' ⟨he, hg⟩ => ?_
  subst he
  exact ⟨_, rfl, _, _, _, [], [], [], hW', (trodAll_cons_mk (shut_bool Try.underlying4 _) trodAll_mk0), (trodAll_cons_mk (shut_int Try.underlying3 w0) (trodAll_cons_mk (shut_int Try.underlying23 w1) (trodAll_cons_mk (shut_int Try.underlying23 w2) trodAll_mk0))), rfl, hg.frame _, fun h => by cases h⟩

theorem over : Rows.prefixOrderRow.holds Try.pinned (OpenSpec.ofChange Rows.prefixOrderSpec) :=
  OpenClaim.holds_of_wide 7 Try.f7 rfl rfl rfl rfl rfl rfl rfl ⟨rfl, rfl, rfl, rfl, rfl⟩ rfl rfl rfl rfl rfl (by kernel_rfl) Try.func7 (by kernel_rfl)
    (of_decide_eq_true (by kernel_rfl)) (by unfold Func.isWrapper; first | (rw [if_pos (by decide +kernel)]; kernel_rfl) | (rw [if_neg (by decide +kernel)]; exact ⟨rfl, rfl⟩))
    (fun os started H enc _ => lifted os started H enc)

theorem proved : Rows.PrefixOrderSaid :=
  over
#print axioms proved
end Go.Proofs.Ytfkdkkbmcbmdjaa.prefixOrder
