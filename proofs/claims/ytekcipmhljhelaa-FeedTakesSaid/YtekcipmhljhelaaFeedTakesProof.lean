import Derived.Test.YtekcipmhljhelaaRows
import Derived.Test.YtekcipmhljhelaaProg
import Derived.Test.YtekcipmhljhelaaBytes
import Derived.Test.YtekcipmhljhelaaNumBe
import Derived.Test.YtekcipmhljhelaaFrMath
import Derived.Test.YtekcipmhljhelaaStrs
import Derived.Test.YtekcipmhljhelaaUpCame
import Derived.Test.YtekcipmhljhelaaFdMath
import Derived.Test.YtekcipmhljhelaaFdMore
import Derived.Test.YtekcipmhljhelaaFdRow
import Derived.Test.YtekcipmhljhelaaFdFew
import Derived.Test.YtekcipmhljhelaaFdSame
import Derived.Test.YtekcipmhljhelaaFdAll
import Derived.Test.YtekcipmhljhelaaFdCode
import Derived.Test.YtekcipmhljhelaaFdAwake
import Derived.Test.YtekcipmhljhelaaFdKeep
import Derived.Deep.CutRange
import Derived.LoopTactic
import Derived.Lib.Hide
import Derived.Outline
import Derived.IntWalk
import Derived.WalkSpells
import Derived.WalkLawsBesides
import Derived.Laws.Rows
import Derived.WalkKit
import Derived.ProofKit
import Derived.OpenShut
import Derived.ShutString
import Derived.ChangeOld
import Derived.Below
namespace Go.Proofs.Ytekcipmhljhelaa.feedTakes
open Go Go.ChangeShapes Go.WideShapes Go.ChangeAt Go.RowKit Bytes Fr Fd
open Go.ChangeMaps (open_string shut_string)
set_option linter.unusedVariables false

theorem own : ownKnob Try.prog.godebug = none := by kernel_rfl
theorem laidOut : laidOutB Try.prog = true := by kernel_rfl

set_option maxHeartbeats 8000000 in
set_option maxRecDepth 100000 in
theorem walk (q0 : Bool) (a1 : Option Addr) (len1 cap1 : Nat) (L1 : List (List UInt8)) (w : World) (hl1 : len1 ≤ maxLen) (hL1 : L1.length = len1) (hR1 : Strs.RdS w w.heap.size a1 L1) :
    Calls Try.prog 3 #[.bool q0, .slice a1 len1 cap1] w fun e w' => e = .returned (.bool true) ∧ Below w.heap.size w w' := by
  go_enter Try.func3, Try.ntmps3
  go_wp2_with fail
  refine (awake_is w).mono ?_
  rintro e w1 ⟨rfl, hB1⟩
  have HB1 := Lib.hid hB1
  have HR := Lib.hid (hR1.on hB1 hB1.size)
  have HR0 := Lib.hid hR1
  have HL := Lib.hid hL1
  clear hB1 hR1 hL1
  go_wp2_with fail
  refine (few_is a1 len1 cap1 L1 w1 HR HL hl1).mono ?_
  rintro e w2 (⟨rfl, rfl, HT⟩ | ⟨rfl, rfl⟩)
  case inr =>
    go_wp2_with fail
    go_ret
    exact ⟨rfl, HB1.out⟩
  by_cases hbig : 100 < len1
  · have b1 : (100 : Int) < (len1 : Int) := by omega
    go_wp2_with fail
    go_ret
    exact ⟨rfl, HB1.out⟩
  have b1 : ¬ ((100 : Int) < (len1 : Int)) := by omega
  have b1d : decide ((100 : Int) < (len1 : Int)) = false := decide_eq_false b1
  obtain ⟨g, hg⟩ : ∃ g, w.heap.size = g := ⟨_, rfl⟩
  have G := Lib.hid hg
  have HB1g : Hid (Below g w w2) := Lib.hid (by rw [← hg]; exact HB1.out)
  have HRg : Hid (Strs.RdS w g a1 L1) := Lib.hid (by rw [← hg]; exact HR0.out)
  have hg1 : Hid (g ≤ w2.heap.size) := Lib.hid (by rw [← hg]; exact HB1.out.size)
  clear hg HB1 HR HR0 hbig
  go_wp2_with fail
  refine (fnew_is q0 _).mono ?_
  rintro e w3 ⟨b, rfl, hb, hF, hB3⟩
  have hgb : g ≤ b := Nat.le_trans hg1.out hb
  have HB3 := Lib.hid (HB1g.out.trans (hB3.mono hg1.out))
  clear hB3 hb
  go_wp2_with fail
  go_loopw [6, 7, 8, 9, 10, 11, 12, 13, 14] (fun s o dn i _ _ _ _ _ wr => ∃ (k m c : Nat) (t : ByteArray) (S : FSt) (K : List Frm) (q : Bool), k ≤ len1 ∧ i = .int .i64 (k : Int) ∧ s = .string t ∧ dn = .bool q ∧ t.size ≤ tot L1 k ∧ Hid (q = decide (c ≠ 0)) ∧ Hid (Came q0 t.data.toList S K c) ∧ Hid (K.length = m) ∧ m ≤ t.size ∧ Hid (wr.ownsRow g 40 4 o m (frCs K)) ∧ Hid (FdAt wr b S) ∧ Hid (Below g w wr)) (fun _ _ _ i _ _ _ _ _ _ => len1 - (intOf i).toNat)
  case atStart => exact ⟨0, 0, 0, ⟨#[]⟩, ⟨q0, [], false⟩, [], false, Nat.zero_le _, rfl, rfl, rfl, Nat.zero_le _, Lib.hid rfl, Lib.hid (came_new q0), Lib.hid rfl, Nat.zero_le _, Lib.hid ⟨rfl, .inl ⟨rfl, rfl⟩⟩, hF, HB3⟩
  case round =>
    obtain ⟨k, m, c, t, S, K, q, hk, rfl, rfl, rfl, htt, hq, hC, hK, hmt, hO, hFd, hBw⟩ := hrel
    have hgw : Hid (g ≤ wr.heap.size) := Lib.hid (by have := hBw.out.size; have := G.out; omega)
    by_cases hlt : k < len1
    · have hki : (k : Int) < (len1 : Int) := by omega
      have hk0 : (0 : Int) ≤ (k : Int) := by omega
      obtain ⟨ad, rfl, hab, hcell⟩ := HRg.out.get (k := k) (by rw [HL.out]; exact hlt)
      obtain ⟨x, hx⟩ : ∃ x, mk (L1.getD k []) = x := ⟨_, rfl⟩
      rw [hx] at hcell
      have hxk : blkAt L1 k = x := hx
      have htk : tot L1 (k + 1) = tot L1 k + x.size := by rw [tot, hxk]
      have htb : tot L1 (k + 1) ≤ tot L1 len1 := tot_le L1 (by omega)
      have hTT := HT.out
      have hc1 : wr.cell? (ad.add k) = some (.string x) := by
        refine (hBw.out.cell (p := ad.add k) ?_).trans hcell
        have e : (ad.add k).block = ad.block := by unfold Addr.add; split <;> rfl
        rw [e]; exact hab
      obtain ⟨⟨gs, d, S'⟩, hadd⟩ : ∃ z, add S x.data.toList = z := ⟨_, rfl⟩
      have hca := came_add hC.out hadd
      have hsz : Hid (S.held.length + x.size ≤ 200000) := Lib.hid (by
        have h1 := hC.out.held
        have h2 := (all_held q0 t.data.toList).1
        rw [size_l] at h2
        omega)
      have HADD := Lib.hid hadd
      have HCA := Lib.hid hca
      clear hadd hca hx hxk hcell
      go_wp2_with fail
      refine (fadd_is b S S' x gs d wr hFd hsz HADD).mono ?_
      rintro e w4 ⟨v, n, rfl, hE⟩
      have HO4 := Lib.hid (own_fdk hO.out hFd.out hE.out.kept)
      have HB4 := Lib.hid (hBw.out.trans (hE.out.kept.below (g := g) hgb hgw.out))
      have hg4 : Hid (g ≤ w4.heap.size) := Lib.hid (Nat.le_trans hgw.out hE.out.kept.size)
      have hv := own_rdf hE.out.own hE.out.len.symm
      obtain ⟨A, cp, rfl, hrd, _, hnil⟩ := hv
      have HRD := Lib.hid hrd
      have HNIL := Lib.hid hnil
      have HF4 := Lib.hid hE.out.fd
      have HN := Lib.hid hE.out.len
      have hc4 : w4.cell? (ad.add k) = some (.string x) := ((hE.out.kept.below (g := g) hgb hgw.out).cell (p := ad.add k) (by have e : (ad.add k).block = ad.block := by unfold Addr.add; split <;> rfl
                                                                                                                              rw [e]; exact hab)).trans hc1
      clear hE hrd hnil hc1
      by_cases hc : c = 0
      · obtain rfl : q = false := by rw [hq.out]; exact decide_eq_false (by simp [hc])
        have hcame := HCA.out.1
        rw [hc, Nat.zero_max] at hcame
        obtain ⟨t2, ht2⟩ : ∃ t2, t ++ x = t2 := ⟨_, rfl⟩
        have ht2l : t2.data.toList = t.data.toList ++ x.data.toList := by rw [← ht2, cat_list]
        have ht2s : t2.size = t.size + x.size := by rw [← ht2, ByteArray.size_append]
        rw [← ht2l] at hcame
        have hnb : ¬ 9223372036854775807 < t.size + x.size := by omega
        have hall : all q0 t2.data.toList = (K ++ gs, d, S'.held.length) := by
          rw [hcame.held, ← hcame.frames, ← hcame.code]
        have hfew := all_few q0 t2.data.toList
        rw [hall, size_l] at hfew
        have hfew : (K ++ gs).length ≤ t2.size := hfew
        have hKg : Hid ((K ++ gs).length = m + n) := Lib.hid (by rw [List.length_append, hK.out, HN.out])
        have hmn : m + n ≤ t2.size := by rw [← hKg.out]; exact hfew
        obtain ⟨dq, hdq⟩ : ∃ dq, decide (d ≠ 0) = dq := ⟨_, rfl⟩
        have hdn : S'.down = dq := hcame.down.trans hdq
        have HDN : Hid (∀ W : World, FdAt W b S' → Calls Try.prog 10 #[.pointer (some ⟨b, 0, none⟩)] W fun e w' => e = .returned (.bool dq) ∧ W = w') := Lib.hid (fun W h => by
          rw [← hdn]
          exact fdown_is b S' W (Lib.hid h))
        have hd6 : d ≤ 6 := by
          have := all_code q0 t2.data.toList
          rw [hall] at this
          rcases this with h | h
          · have h : d = 0 := h; omega
          · exact h.2.1
        have hdz : ((d : Int) != 0) = dq := by
          rw [← hdq, Bool.eq_iff_iff, bne_iff_ne, decide_eq_true_iff]
          omega
        have hwd : IntKind.i64.wrap (d : Int) = (d : Int) := by rw [IntKind.wrap_i64]; omega
        have hdd : ((d : Int) != (d : Int)) = false := by simp
        have hhh : ((S'.held.length : Int) != (S'.held.length : Int)) = false := by simp
        have HDQ : Hid (dq = decide (d ≠ 0)) := Lib.hid hdq.symm
        have HALL := Lib.hid hall
        have HCAME := Lib.hid hcame
        have htt2 : t2.size ≤ tot L1 (k + 1) := by omega
        have ht2b : t2.size ≤ 1000000 := by omega
        clear hall hcame hfew hdn hdq ht2l ht2s htk htb hTT HCA
        go_wp2_with (at_builtin; refine wpList_append_frs rfl _ _ rfl g _ m K rfl HO4.out n cp A gs rfl HN.out HNIL.out w4.heap.size HRD.out ?c1 ?c2 ?_)
        case c1 => omega
        case c2 => exact hg4.out
        intro v' w5 hown hgrow
        have HF5 := Lib.hid (HF4.out.grown HO4.out hgrow)
        have hbg := grown_below HO4.out hgrow hg4.out
        have HB5 := Lib.hid (HB4.out.trans hbg)
        have hg5 : Hid (g ≤ w5.heap.size) := Lib.hid (Nat.le_trans hg4.out hbg.size)
        obtain ⟨A5, cp5, rfl, hrd5, _, _⟩ := own_rdf hown hKg.out.symm
        have HRD5 := Lib.hid hrd5
        have HO5 := Lib.hid hown
        clear hown hgrow hbg hrd5 HO4 HRD HF4
        go_wp2_with fail
        refine (fall_is t2 q0 (K ++ gs) d S'.held.length w5 ht2b HALL).mono ?_
        rintro e w6 ⟨A6, n6, cp6, rfl, HRD6, hn6, _, hB6⟩
        obtain rfl : n6 = m + n := by rw [← hn6.out, hKg.out]
        have HRD56 := Lib.hid (HRD5.out.on hB6 hB6.size)
        have HO6 := Lib.hid (own_rest HO5.out hB6)
        have HF6 := Lib.hid (HF5.out.below hB6)
        have HB6 := Lib.hid (HB5.out.trans (hB6.mono hg5.out))
        have hg6 : Hid (g ≤ w6.heap.size) := Lib.hid (Nat.le_trans hg5.out hB6.size)
        clear hB6 HRD5 HO5 HF5 hn6
        go_wp2_with fail
        refine (fsame_is A5 A6 (m + n) cp5 cp6 (K ++ gs) w6 hKg (by omega) HRD56 HRD6).mono ?_
        rintro e w7 ⟨rfl, hB7⟩
        have HO7 := Lib.hid (own_rest HO6.out hB7)
        have HF7 := Lib.hid (HF6.out.below hB7)
        have HB7 := Lib.hid (HB6.out.trans (hB7.mono hg6.out))
        clear hB7 HRD56 HRD6 HO6 HF6
        go_wp2_with fail
        refine (fheld_is b S' _ HF7).mono ?_
        rintro e w8 ⟨rfl, rfl⟩
        cases dq
        all_goals
          go_wp2_with fail
          refine (HDN.out _ HF7.out).mono ?_
          rintro e w8 ⟨rfl, rfl⟩
          go_wp2_with fail
          go_roundw
          case rel => exact ⟨k + 1, m + n, d, t2, S', K ++ gs, _, by omega, by go_num, rfl, rfl, htt2, HDQ, HCAME, hKg, hmn, HO7, HF7, HB7⟩
          case measure => simp [intOf]; omega
      · obtain rfl : q = true := by rw [hq.out]; exact decide_eq_true hc
        obtain ⟨rfl, rfl, rfl⟩ := HCA.out.2 hc
        have hn0 : n = 0 := HN.out.symm
        subst hn0
        have hdn : S'.down = true := by rw [hC.out.down]; exact decide_eq_true hc
        have hh0 : S'.held.length = 0 := by
          rw [hC.out.held]
          have h1 := all_code q0 t.data.toList
          rw [hC.out.code] at h1
          exact (h1.resolve_left hc).2.2
        have HDN : Hid (∀ W : World, FdAt W b S' → Calls Try.prog 10 #[.pointer (some ⟨b, 0, none⟩)] W fun e w' => e = .returned (.bool true) ∧ W = w') := Lib.hid (fun W h => by
          have := fdown_is b S' W (Lib.hid h)
          rw [hdn] at this
          exact this)
        have HHL : Hid (∀ W : World, FdAt W b S' → Calls Try.prog 11 #[.pointer (some ⟨b, 0, none⟩)] W fun e w' => e = .returned (.int .i64 0) ∧ W = w') := Lib.hid (fun W h => by
          have := fheld_is b S' W (Lib.hid h)
          rw [hh0] at this
          exact this)
        have htt2 : t.size ≤ tot L1 (k + 1) := by omega
        clear hdn hh0 hc htk htb hTT
        go_wp2_with fail
        refine (HDN.out _ HF4.out).mono ?_
        rintro e w5 ⟨rfl, rfl⟩
        go_wp2_with fail
        refine (HHL.out _ HF4.out).mono ?_
        rintro e w5 ⟨rfl, rfl⟩
        go_wp2_with fail
        go_roundw
        case rel => exact ⟨k + 1, m, c, t, S', K, true, by omega, by go_num, rfl, rfl, htt2, hq, hC, hK, hmt, HO4, HF4, HB4⟩
        case measure => simp [intOf]; omega
    · have hkn : ¬ ((k : Int) < (len1 : Int)) := by omega
      go_wp2_with fail
      go_ret
      exact ⟨rfl, by rw [G.out]; exact hBw.out⟩

set_option maxRecDepth 100000 in
theorem lifted (os : Os) (started : os.Started) (H : Type) (enc : TypeId × Value → H) :
    ReturnsInHanded {} Try.checked os 3 .any (Rows.feedTakesSpec.pre6 enc Try.prog Try.f3 Rows.feedTakesRow.domain false) (Rows.feedTakesSpec.post enc Try.prog Try.f3 false true false false) := by
  refine returnsInHanded_of_change (C := Try.checked) own started (by kernel_rfl) Try.func3
    (ChangeSpec.witness6 (enc := enc) (C := Try.checked) false ⟨#[], #[.bool false, .slice none 0 0], []⟩ 8 (by kernel_rfl) (by kernel_rfl) (by kernel_rfl) (by kernel_rfl)) ?_
  intro W base args ds gs before hval0 hW hcnd _
  have hval : ∀ (j : Nat) t v, Try.f3.params[j]? = some t → args[j]? = some v → Value.okWide Try.prog W .any base t v := hval0
  have hW' := hW
  obtain ⟨p, q, hA0, hV, rfl, hfz, hnd⟩ := hW
  have hA : DataW.TrodAll enc Try.prog W 0 (fun _ => true) true Try.f3.params.toList args.toList ds p := hA0
  rw [Try.params3] at hA hval
  obtain ⟨v0, vs0, d0, ds0, p0, q0, hargs, rfl, rfl, h0, r0⟩ := trodAll_cons hA
  obtain ⟨v1, vs1, d1, ds1, p1, q1, rfl, rfl, rfl, h1, r1⟩ := trodAll_cons r0
  obtain ⟨rfl, rfl, rfl⟩ := trodAll_nil r1
  obtain rfl : args = #[v0, v1] := by cases args; simp_all
  obtain ⟨rfl, rfl⟩ := trodVars_none hV
  have k0 := h0
  have lt0 : ∀ x ∈ p0, x.block < W.heap.size := by obtain ⟨m, hm⟩ := k0; exact DataW.trod_lt m _ _ _ hm
  obtain ⟨q0, rfl⟩ := okWide_bool Try.underlying4 (hval 0 4 v0 rfl rfl)
  obtain ⟨a1, len1, cap1, rfl⟩ := okWide_slice Try.underlying22 (hval 1 22 v1 rfl rfl)
  have k1 := h1
  have lt1 : ∀ x ∈ p1, x.block < W.heap.size := by obtain ⟨m, hm⟩ := k1; exact DataW.trod_lt m _ _ _ hm
  obtain ⟨hl1, L1, hN1, hR1⟩ : len1 ≤ maxLen ∧ ∃ L : List (List UInt8), L.length = len1 ∧ Strs.RdS W W.heap.size a1 L := by
    obtain ⟨fuel, hf⟩ := h1
    exact rds_of_trod hf
  clear hA0 hval0
  refine (walk q0 a1 len1 cap1 L1 W hl1 hN1 hR1).mono fun e W' ⟨he, bel⟩ => ?_
  subst he
  exact ⟨_, rfl, _, _, _, [], _, [], hW', trodAll_mk1 (shut_bool Try.underlying4 _), (trodAll_cons_mk (Below.trod laidOut (by kernel_rfl) (of_decide_eq_true (by kernel_rfl)) k0 bel lt0) (trodAll_cons_mk (Below.trod laidOut (by kernel_rfl) (of_decide_eq_true (by kernel_rfl)) k1 bel lt1) trodAll_mk0)), rfl, bel.frame _, fun h => by cases h⟩

theorem over : Rows.feedTakesRow.holds Try.pinned (OpenSpec.ofChange Rows.feedTakesSpec) :=
  OpenClaim.holds_of_wide 3 Try.f3 rfl rfl rfl rfl rfl rfl rfl ⟨rfl, rfl, rfl, rfl, rfl⟩ rfl rfl rfl rfl rfl (by kernel_rfl) Try.func3 (by kernel_rfl)
    (of_decide_eq_true (by kernel_rfl)) (by unfold Func.isWrapper; first | (rw [if_pos (by decide +kernel)]; kernel_rfl) | (rw [if_neg (by decide +kernel)]; exact ⟨rfl, rfl⟩))
    (fun os started H enc _ => lifted os started H enc)

theorem proved : Rows.FeedTakesSaid := over
#print axioms proved
end Go.Proofs.Ytekcipmhljhelaa.feedTakes
