import Derived.Test.YtekcipmhljhelaaRows
import Derived.Test.YtekcipmhljhelaaProg
import Derived.Test.YtekcipmhljhelaaBytes
import Derived.Test.YtekcipmhljhelaaNumBe
import Derived.Test.YtekcipmhljhelaaFrMath
import Derived.Test.YtekcipmhljhelaaStrs
import Derived.Test.YtekcipmhljhelaaUpCame
import Derived.Test.YtekcipmhljhelaaFdMath
import Derived.Test.YtekcipmhljhelaaFdMore
import Derived.Test.YtekcipmhljhelaaFdRow
import Derived.Test.YtekcipmhljhelaaFdCame
import Derived.Test.YtekcipmhljhelaaFdSame
import Derived.Test.YtekcipmhljhelaaFdCode
import Derived.Test.YtekcipmhljhelaaFdAwake
import Derived.Test.YtekcipmhljhelaaFrRefP
import Derived.Test.YtekcipmhljhelaaFrRefPL
import Derived.Test.YtekcipmhljhelaaFrBack
import Derived.Deep.CutRange
import Derived.LoopTactic
import Derived.Lib.Hide
import Derived.Outline
import Derived.IntWalk
import Derived.WalkSpells
import Derived.WalkLawsBesides
import Derived.Laws.Rows
import Derived.WalkKit
import Derived.ProofKit
import Derived.OpenShut
import Derived.ShutString
import Derived.ChangeOld
import Derived.Below
namespace Go.Proofs.Ytekcipmhljhelaa.feedBack
open Go Go.ChangeShapes Go.WideShapes Go.ChangeAt Go.RowKit Bytes Fr Fd
open Go.ChangeMaps (open_string shut_string)
set_option linter.unusedVariables false

theorem own : ownKnob Try.prog.godebug = none := by kernel_rfl
theorem laidOut : laidOutB Try.prog = true := by kernel_rfl

set_option maxHeartbeats 8000000 in
set_option maxRecDepth 100000 in
theorem walk (q0 : Bool) (a1 : Option Addr) (len1 cap1 : Nat) (L1 : List Frm) (s2 : ByteArray) (w : World) (hl1 : len1 ≤ maxLen) (hL1 : L1.length = len1) (hR1 : Fd.RdF w w.heap.size a1 L1) (hO1 : ∀ k, k < len1 → Okf (Fd.frAt L1 k) ∧ (Fd.frAt L1 k).data.size ≤ maxLen) (hs2 : s2.size ≤ maxLen) :
    Calls Try.prog 5 #[.bool q0, .slice a1 len1 cap1, .string s2] w fun e w' => e = .returned (.bool true) ∧ Below w.heap.size w w' := by
  go_enter Try.func5, Try.ntmps5
  go_wp2_with fail
  refine (awake_is w).mono ?_
  rintro e w1 ⟨rfl, hB1⟩
  have HB1 := Lib.hid hB1
  clear hB1
  by_cases hbig : 50 < len1
  · have b1 : (50 : Int) < (len1 : Int) := by omega
    go_wp2_with fail
    go_ret
    exact ⟨rfl, HB1.out⟩
  have b1 : ¬ ((50 : Int) < (len1 : Int)) := by omega
  have b1d : decide ((50 : Int) < (len1 : Int)) = false := decide_eq_false b1
  by_cases hmore : 40000 < s2.size
  · have b2 : (40000 : Int) < (s2.size : Int) := by omega
    go_wp2_with fail
    go_ret
    exact ⟨rfl, HB1.out⟩
  have b2 : ¬ ((40000 : Int) < (s2.size : Int)) := by omega
  have b2d : decide ((40000 : Int) < (s2.size : Int)) = false := decide_eq_false b2
  have HR := Lib.hid hR1
  have HL := Lib.hid hL1
  have HO := Lib.hid hO1
  clear hR1 hL1 hO1
  obtain ⟨P, hP⟩ : ∃ P : List UInt8, (if q0 = true then pre else []) = P := ⟨_, rfl⟩
  have hPl : P.length ≤ 24 := by rw [← hP]; cases q0 <;> simp [pre_len]
  have HPQ : Hid (∀ K : List Frm, (∀ f ∈ K, Okf f ∧ (printF f).2 = 0) → all q0 (P ++ bytesF K) = (K, 0, 0)) := Lib.hid (fun K hK => by
    cases q0 with
    | true =>
      rw [← hP, if_pos rfl]
      have ht : (pre ++ bytesF K).take 24 = pre := by rw [← pre_len, List.take_left]
      unfold all
      rw [if_pos rfl, if_pos ht, show (pre ++ bytesF K).drop 24 = bytesF K by rw [← pre_len, List.drop_left]]
      exact run_back K hK
    | false =>
      rw [← hP, if_neg (by decide), List.nil_append, all_off]
      exact run_back K hK)
  obtain ⟨p0, hp0⟩ : ∃ p, mk P = p := ⟨_, rfl⟩
  have hp0l : Hid (p0.data.toList = P ++ bytesF []) := Lib.hid (by rw [← hp0]; show P = P ++ []; rw [List.append_nil])
  have hp0s : p0.size ≤ 24 := by rw [← hp0, mk_size]; exact hPl
  go_upto_if 25 with fail
  go_cut [7] from 25 to 25 (fun v wx => v = .string p0 ∧ w1 = wx)
  case first =>
    cases q0
    · have e : p0 = ⟨#[]⟩ := by rw [← hp0, ← hP]; rfl
      subst e
      go_wp2_with fail
      go_meet
      exact ⟨rfl, rfl⟩
    · have e : p0 = ⟨#[80, 82, 73, 32, 42, 32, 72, 84, 84, 80, 47, 50, 46, 48, 13, 10, 13, 10, 83, 77, 13, 10, 13, 10]⟩ := by rw [← hp0, ← hP]; rfl
      subst e
      go_wp2_with fail
      go_meet
      exact ⟨rfl, rfl⟩
  case rest =>
    obtain ⟨rfl, rfl⟩ := hcut
    obtain ⟨g, hg⟩ : ∃ g, w.heap.size = g := ⟨_, rfl⟩
    have G := Lib.hid hg
    have HB1g : Hid (Below g w w1) := Lib.hid (by rw [← hg]; exact HB1.out)
    have HRg : Hid (RdF w g a1 L1) := Lib.hid (by rw [← hg]; exact HR.out)
    clear hg HB1 HR hP hp0 hPl
    go_wp2_with fail
    go_loopw [7, 8, 9, 10, 11] (fun s o i _ _ wr => ∃ (k m : Nat) (t : ByteArray) (K : List Frm), k ≤ len1 ∧ m ≤ k ∧ i = .int .i64 (k : Int) ∧ s = .string t ∧ t.size ≤ 60000 ∧ Hid (t.data.toList = P ++ bytesF K) ∧ Hid (K.length = m) ∧ Hid (∀ f ∈ K, Okf f ∧ (printF f).2 = 0) ∧ Hid (wr.ownsRow g 40 4 o m (frCs K)) ∧ Hid (Below g w wr)) (fun _ _ i _ _ _ => len1 - (intOf i).toNat)
    case atStart => exact ⟨0, 0, p0, [], Nat.zero_le _, Nat.zero_le _, rfl, rfl, by omega, hp0l, Lib.hid rfl, Lib.hid (fun f hf => by cases hf), Lib.hid ⟨rfl, .inl ⟨rfl, rfl⟩⟩, HB1g⟩
    case round =>
      obtain ⟨k, m, t, K, hk, hmk, rfl, rfl, hts, hT, hK, hOk, hO, hBw⟩ := hrel
      have hgw : g ≤ wr.heap.size := by have := hBw.out.size; have := G.out; omega
      by_cases hgo : k < len1 ∧ t.size < 40000
      · have hki : (k : Int) < (len1 : Int) := by omega
        have hti : (t.size : Int) < 40000 := by omega
        obtain ⟨f, hf⟩ : ∃ f, frAt L1 k = f := ⟨_, rfl⟩
        have hkl : k < L1.length := by rw [HL.out]; exact hgo.1
        obtain ⟨b, o, rfl, hb, h4⟩ := HRg.out.get hkl
        have h4w := h4.below hBw.out hb
        have hok := HO.out k hgo.1
        rw [hf] at h4w hok
        obtain ⟨a0, a1', a2, a3⟩ := h4w
        have c1 : wr.cell? ⟨b, o + k * 4 + 1, none⟩ = some (.int .u8 (f.fl : Int)) := a1'
        obtain ⟨⟨l, c⟩, hp⟩ : ∃ z, printF f = z := ⟨_, rfl⟩
        obtain ⟨r, hr⟩ : ∃ r, mk l = r := ⟨_, rfl⟩
        have HPR := Lib.hid (fun W : World => fprint_any f l c r W hok.1 hok.2 (Lib.hid hp) (Lib.hid hr))
        have HOKF := Lib.hid hok.1
        have HB4 := Lib.hid h4
        have HP := Lib.hid hp
        have HRR := Lib.hid hr
        clear h4 hok hp hr hkl
        go_wp2_with fail
        refine (HPR.out _).mono ?_
        rintro e w2 ⟨rfl, hB2⟩
        have HB2 := Lib.hid (hBw.out.trans (hB2.mono hgw))
        have HO2 := Lib.hid (own_rest hO.out hB2)
        have h4b := (HB4.out.below hBw.out hb).below hB2 (by have := G.out; omega)
        clear hB2 a0 a1' a2 a3 c1 HPR
        by_cases hc : c = 0
        · subst hc
          have hl := (back_parse HOKF.out HP.out []).2
          have hrs : r.size ≤ 16393 := by rw [← HRR.out, mk_size]; omega
          have HT2 : Hid ((t ++ r).data.toList = P ++ bytesF (K ++ [f])) := Lib.hid (by
            rw [cat_list, hT.out, bytesF_cat, List.append_assoc, ← HRR.out, mk_list]
            congr 2
            show l = (printF f).1 ++ []
            rw [HP.out, List.append_nil])
          have HOk2 : Hid (∀ f' ∈ K ++ [f], Okf f' ∧ (printF f').2 = 0) := Lib.hid (fun f' hf' => by
            rcases List.mem_append.1 hf' with h | h
            · exact hOk.out f' h
            · rw [List.mem_singleton] at h
              rw [h]
              exact ⟨HOKF.out, by rw [HP.out]⟩)
          have HK2 : Hid ((K ++ [f]).length = m + 1) := Lib.hid (by rw [List.length_append, hK.out]; rfl)
          have hsum : (t ++ r).size ≤ 60000 := by rw [ByteArray.size_append]; omega
          obtain ⟨tr, htr⟩ : ∃ x, t ++ r = x := ⟨_, rfl⟩
          have hbnd : ¬ 9223372036854775807 < t.size + r.size := by omega
          obtain ⟨a0, a1', a2, a3⟩ := h4b
          have hmb : m ≤ 60 := by omega
          obtain ⟨i0, hi, hz0, hz1, hz2⟩ := info_parts infoF
          have HI := Lib.hid hi
          have HZ0 := Lib.hid hz0
          have HZ1 := Lib.hid hz1
          have HZ2 := Lib.hid hz2
          have hg2 : g ≤ w2.heap.size := by have := HB2.out.size; have := G.out; omega
          rw [htr] at HT2 hsum
          clear hi hz0 hz1 hz2 hl
          go_wp2_with (at_builtin; refine wpList_append_own _ rfl _ _ 27 rfl g 40 i0 (.agg #[.int .u8 0, .int .u8 0, .int .u32 0, .string ⟨#[]⟩]) 4 24 Try.underlying27 HI.out HZ0.out HZ1.out HZ2.out rfl (by decide) _ _ _ rfl (HO2.out.alloc _) ⟨w2.heap.size, 0, none⟩ 1 1 (cellsF f) rfl rfl ?c1 ?c2 ?c3 ?c4 ?c5 ?_)
          case c1 =>
            intro j u hj
            first
              | exact hj
              | (rw [zadd, cell_of_row _ _ j _ _ _ (heap_alloc_new w2 _), ← Array.getElem?_toList]; exact hj)
          case c2 => intro u hu; exact frCs_one_cell (L := [f]) u hu
          case c3 => unfold maxLen; omega
          case c4 => omega
          case c5 => simp; omega
          intro v' w3 hown hgrow _
          obtain ⟨hO3, hB3⟩ := own_frm HO2.out HB2.out G.out hown hgrow
          have HO3 := Lib.hid hO3
          have HB3 := Lib.hid hB3
          clear hown hgrow hO3 hB3 hmb
          go_wp2_with fail
          go_roundw
          case rel => exact ⟨k + 1, m + 1, tr, K ++ [f], by omega, by omega, by go_num, rfl, hsum, HT2, HK2, HOk2, HO3, HB3⟩
          case measure => simp [intOf]; omega
        · have hcn : ((c : Int) == 0) = false := beq_eq_false_iff_ne.2 (by omega)
          clear hc
          go_wp2_with fail
          go_roundw
          case rel => exact ⟨k + 1, m, t, K, by omega, by omega, by go_num, rfl, hts, hT, hK, hOk, HO2, HB2⟩
          case measure => simp [intOf]; omega
      · have hguard : (k = len1) ∨ (k < len1 ∧ 40000 ≤ t.size) := by omega
        obtain ⟨A, cp, rfl, hrd, _, _⟩ := own_rdf hO.out hK.out.symm
        have HRD := Lib.hid hrd
        have hall := HPQ.out K hOk.out
        rw [← hT.out] at hall
        have HADD := Lib.hid (add_whole hall)
        obtain ⟨⟨gs, d, S2⟩, hadd2⟩ : ∃ z, add ⟨still q0 t.data.toList, [], false⟩ s2.data.toList = z := ⟨_, rfl⟩
        have HADD2 := Lib.hid hadd2
        have hheld := add_held hadd2 (show ([] : List UInt8).length < 16393 by simp)
        have HH : Hid ((FSt.mk q0 [] false).held.length + t.size ≤ 200000) := Lib.hid (by show 0 + t.size ≤ 200000; omega)
        have HH2 : Hid ((FSt.mk (still q0 t.data.toList) [] false).held.length + s2.size ≤ 200000) := Lib.hid (by show 0 + s2.size ≤ 200000; omega)
        have hkb : K.length ≤ 1000000 := by rw [hK.out]; omega
        clear hO hrd hall hadd2
        have hstop : Hid (True) := Lib.hid trivial
        rcases hguard with hg1 | hg1
        · have hkn : ¬ ((k : Int) < (len1 : Int)) := by omega
          clear hg1 hgo
          go_wp2_with fail
          refine (fnew_is q0 _).mono ?_
          rintro e w2 ⟨b, rfl, hb, hF, hB2⟩
          have HB2 := Lib.hid (hBw.out.trans (hB2.mono hgw))
          have HRD2 : Hid (RdF w2 wr.heap.size A K) := Lib.hid (HRD.out.on hB2 (Nat.le_refl _))
          have HW2 : Hid (wr.heap.size ≤ w2.heap.size) := Lib.hid hB2.size
          clear hB2
          go_wp2_with fail
          refine (fadd_is b _ _ t _ _ w2 hF HH HADD).mono ?_
          rintro e w3 ⟨v, n, rfl, hE⟩
          have hw2s : wr.heap.size ≤ w2.heap.size := HW2.out
          have hbk := hE.out.kept.below (g := wr.heap.size) (by omega) (by omega)
          have HB3 := Lib.hid (HB2.out.trans (hbk.mono hgw))
          have HRD3 : Hid (RdF w3 wr.heap.size A K) := Lib.hid (HRD2.out.on hbk (Nat.le_refl _))
          have HW3 : Hid (wr.heap.size ≤ w3.heap.size) := Lib.hid (Nat.le_trans hw2s hbk.size)
          have HG3 : Hid (g ≤ w3.heap.size) := Lib.hid (Nat.le_trans hgw HW3.out)
          obtain ⟨A2, cp2, rfl, hrd2, _, _⟩ := own_rdf hE.out.own hE.out.len.symm
          have HRX := Lib.hid hrd2
          obtain rfl : n = m := by rw [← hE.out.len, ← hK.out]
          have HF3 := Lib.hid hE.out.fd
          clear hbk hrd2 hE
          have HRD3b : Hid (RdF w3 w3.heap.size A K) := Lib.hid (HRD3.out.on (Below.refl _ _) HW3.out)
          go_wp2_with fail
          refine (fsame_is A2 A n cp2 cp K w3 hK (by omega) HRX HRD3b).mono ?_
          rintro e w4 ⟨rfl, hB4⟩
          have HF4 := Lib.hid (HF3.out.below hB4)
          have HB4 := Lib.hid (HB3.out.trans (hB4.mono HG3.out))
          have HG4 : Hid (g ≤ w4.heap.size) := Lib.hid (Nat.le_trans HG3.out hB4.size)
          clear hB4
          go_wp2_with fail
          refine (fheld_is b _ _ HF4).mono ?_
          rintro e w5 ⟨rfl, rfl⟩
          go_wp2_with fail
          refine (fadd_is b _ S2 s2 gs d w4 HF4 HH2 HADD2).mono ?_
          rintro e w5 ⟨v5, n5, rfl, hE5⟩
          have HF5 := Lib.hid hE5.out.fd
          have HB5 := Lib.hid (HB4.out.trans (hE5.out.kept.below (g := g) (by omega) HG4.out))
          clear hE5
          have hh : (S2.held.length : Int) < 16393 := by omega
          have hhd : decide ((S2.held.length : Int) < 16393) = true := decide_eq_true hh
          have hhn : decide (S2.held.length < 16393) = true := decide_eq_true hheld
          go_wp2_with fail
          refine (fheld_is b _ _ HF5).mono ?_
          rintro e w6 ⟨rfl, rfl⟩
          go_wp2_with fail
          go_ret
          exact ⟨rfl, by rw [G.out]; exact HB5.out⟩
        · have hki : (k : Int) < (len1 : Int) := by omega
          have hti : ¬ ((t.size : Int) < 40000) := by omega
          clear hg1 hgo
          go_wp2_with fail
          refine (fnew_is q0 _).mono ?_
          rintro e w2 ⟨b, rfl, hb, hF, hB2⟩
          have HB2 := Lib.hid (hBw.out.trans (hB2.mono hgw))
          have HRD2 : Hid (RdF w2 wr.heap.size A K) := Lib.hid (HRD.out.on hB2 (Nat.le_refl _))
          have HW2 : Hid (wr.heap.size ≤ w2.heap.size) := Lib.hid hB2.size
          clear hB2
          go_wp2_with fail
          refine (fadd_is b _ _ t _ _ w2 hF HH HADD).mono ?_
          rintro e w3 ⟨v, n, rfl, hE⟩
          have hw2s : wr.heap.size ≤ w2.heap.size := HW2.out
          have hbk := hE.out.kept.below (g := wr.heap.size) (by omega) (by omega)
          have HB3 := Lib.hid (HB2.out.trans (hbk.mono hgw))
          have HRD3 : Hid (RdF w3 wr.heap.size A K) := Lib.hid (HRD2.out.on hbk (Nat.le_refl _))
          have HW3 : Hid (wr.heap.size ≤ w3.heap.size) := Lib.hid (Nat.le_trans hw2s hbk.size)
          have HG3 : Hid (g ≤ w3.heap.size) := Lib.hid (Nat.le_trans hgw HW3.out)
          obtain ⟨A2, cp2, rfl, hrd2, _, _⟩ := own_rdf hE.out.own hE.out.len.symm
          have HRX := Lib.hid hrd2
          obtain rfl : n = m := by rw [← hE.out.len, ← hK.out]
          have HF3 := Lib.hid hE.out.fd
          clear hbk hrd2 hE
          have HRD3b : Hid (RdF w3 w3.heap.size A K) := Lib.hid (HRD3.out.on (Below.refl _ _) HW3.out)
          go_wp2_with fail
          refine (fsame_is A2 A n cp2 cp K w3 hK (by omega) HRX HRD3b).mono ?_
          rintro e w4 ⟨rfl, hB4⟩
          have HF4 := Lib.hid (HF3.out.below hB4)
          have HB4 := Lib.hid (HB3.out.trans (hB4.mono HG3.out))
          have HG4 : Hid (g ≤ w4.heap.size) := Lib.hid (Nat.le_trans HG3.out hB4.size)
          clear hB4
          go_wp2_with fail
          refine (fheld_is b _ _ HF4).mono ?_
          rintro e w5 ⟨rfl, rfl⟩
          go_wp2_with fail
          refine (fadd_is b _ S2 s2 gs d w4 HF4 HH2 HADD2).mono ?_
          rintro e w5 ⟨v5, n5, rfl, hE5⟩
          have HF5 := Lib.hid hE5.out.fd
          have HB5 := Lib.hid (HB4.out.trans (hE5.out.kept.below (g := g) (by omega) HG4.out))
          clear hE5
          have hh : (S2.held.length : Int) < 16393 := by omega
          have hhd : decide ((S2.held.length : Int) < 16393) = true := decide_eq_true hh
          have hhn : decide (S2.held.length < 16393) = true := decide_eq_true hheld
          go_wp2_with fail
          refine (fheld_is b _ _ HF5).mono ?_
          rintro e w6 ⟨rfl, rfl⟩
          go_wp2_with fail
          go_ret
          exact ⟨rfl, by rw [G.out]; exact HB5.out⟩

set_option maxRecDepth 100000 in
theorem lifted (os : Os) (started : os.Started) (H : Type) (enc : TypeId × Value → H) :
    ReturnsInHanded {} Try.checked os 5 .any (Rows.feedBackSpec.pre6 enc Try.prog Try.f5 Rows.feedBackRow.domain false) (Rows.feedBackSpec.post enc Try.prog Try.f5 false true false false) := by
  refine returnsInHanded_of_change (C := Try.checked) own started (by kernel_rfl) Try.func5
    (ChangeSpec.witness6 (enc := enc) (C := Try.checked) false ⟨#[], #[.bool false, .slice none 0 0, .string ByteArray.empty], []⟩ 8 (by kernel_rfl) (by kernel_rfl) (by kernel_rfl) (by kernel_rfl)) ?_
  intro W base args ds gs before hval0 hW hcnd _
  have hval : ∀ (j : Nat) t v, Try.f5.params[j]? = some t → args[j]? = some v → Value.okWide Try.prog W .any base t v := hval0
  have hW' := hW
  obtain ⟨p, q, hA0, hV, rfl, hfz, hnd⟩ := hW
  have hA : DataW.TrodAll enc Try.prog W 0 (fun _ => true) true Try.f5.params.toList args.toList ds p := hA0
  rw [Try.params5] at hA hval
  obtain ⟨v0, vs0, d0, ds0, p0, q0, hargs, rfl, rfl, h0, r0⟩ := trodAll_cons hA
  obtain ⟨v1, vs1, d1, ds1, p1, q1, rfl, rfl, rfl, h1, r1⟩ := trodAll_cons r0
  obtain ⟨v2, vs2, d2, ds2, p2, q2, rfl, rfl, rfl, h2, r2⟩ := trodAll_cons r1
  obtain ⟨rfl, rfl, rfl⟩ := trodAll_nil r2
  obtain rfl : args = #[v0, v1, v2] := by cases args; simp_all
  obtain ⟨rfl, rfl⟩ := trodVars_none hV
  have k0 := h0
  have lt0 : ∀ x ∈ p0, x.block < W.heap.size := by obtain ⟨m, hm⟩ := k0; exact DataW.trod_lt m _ _ _ hm
  obtain ⟨q0, rfl⟩ := okWide_bool Try.underlying4 (hval 0 4 v0 rfl rfl)
  obtain ⟨a1, len1, cap1, rfl⟩ := okWide_slice Try.underlying27 (hval 1 27 v1 rfl rfl)
  have k1 := h1
  have lt1 : ∀ x ∈ p1, x.block < W.heap.size := by obtain ⟨m, hm⟩ := k1; exact DataW.trod_lt m _ _ _ hm
  obtain ⟨hl1, _, L1, hN1, hR1, hO1⟩ : len1 ≤ maxLen ∧ (a1 = none → cap1 = 0 ∧ len1 = 0) ∧ ∃ L : List Frm, L.length = len1 ∧ Fd.RdF W W.heap.size a1 L ∧ ∀ k, k < len1 → Okf (Fd.frAt L k) ∧ (Fd.frAt L k).data.size ≤ maxLen := by
    obtain ⟨fuel, hf⟩ := h1
    exact Fd.rdf_of_trod hf
  obtain ⟨s2, rfl, rfl, rfl, ws2⟩ := open_string Try.underlying9 (hval 2 9 v2 rfl rfl) h2
  clear hA0 hval0
  refine (walk q0 a1 len1 cap1 L1 s2 W hl1 hN1 hR1 hO1 ws2).mono fun e W' ⟨he, bel⟩ => ?_
  subst he
  exact ⟨_, rfl, _, _, _, [], _, [], hW', trodAll_mk1 (shut_bool Try.underlying4 _), (trodAll_cons_mk (Below.trod laidOut (by kernel_rfl) (of_decide_eq_true (by kernel_rfl)) k0 bel lt0) (trodAll_cons_mk (Below.trod laidOut (by kernel_rfl) (of_decide_eq_true (by kernel_rfl)) k1 bel lt1) (trodAll_cons_mk (shut_string Try.underlying9 ws2) trodAll_mk0))), rfl, bel.frame _, fun h => by cases h⟩

theorem over : Rows.feedBackRow.holds Try.pinned (OpenSpec.ofChange Rows.feedBackSpec) :=
  OpenClaim.holds_of_wide 5 Try.f5 rfl rfl rfl rfl rfl rfl rfl ⟨rfl, rfl, rfl, rfl, rfl⟩ rfl rfl rfl rfl rfl (by kernel_rfl) Try.func5 (by kernel_rfl)
    (of_decide_eq_true (by kernel_rfl)) (by unfold Func.isWrapper; first | (rw [if_pos (by decide +kernel)]; kernel_rfl) | (rw [if_neg (by decide +kernel)]; exact ⟨rfl, rfl⟩))
    (fun os started H enc _ => lifted os started H enc)

theorem proved : Rows.FeedBackSaid := over
#print axioms proved
end Go.Proofs.Ytekcipmhljhelaa.feedBack
