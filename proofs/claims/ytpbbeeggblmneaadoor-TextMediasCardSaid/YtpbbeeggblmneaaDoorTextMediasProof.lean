/- Proves TextMedias: blanks, letters of either size, and whatever stands behind a semicolon change nothing of a media type. No condition. -/
import Derived.Test.YtpbbeeggblmneaaDoorRows
import Derived.WalkKit
import Derived.ProofKit
import Derived.OpenShut
import Derived.ShutString
import Derived.Test.YtpbbeeggblmneaaDoorCards
import Derived.Test.YtpbbeeggblmneaaDoorTie
import Derived.Lay
import Derived.SevenTiedAt
import Derived.Below
import Derived.Test.YtpbbeeggblmneaaDoorTextFrame
import Derived.Test.YtpbbeeggblmneaaDoorTextAwake
import Derived.Deep.CutBlock
import Derived.Deep.DeepCutAuto
namespace Go.Proofs.YtpbbeeggblmneaaDoor.textMedias
open Go.ChangeShapes Go.WideShapes Go.ChangeAt Go.RowKit
open Go.ChangeMaps (open_string shut_string)
set_option linter.unusedVariables false      -- a walk need not use every 'w<i>' (that an integer argument fits its kind)


open TextMath
theorem sign_ok {c : UInt8} (h : signB c = true) : c ≠ 59 ∧ blankB c = false := by
  have := byte_all (p := fun c => !signB c || (c != 59 && !blankB c)) (q := fun _ => true) (by decide +kernel) c
  rw [h] at this
  simpa using this
theorem blank_ok {c : UInt8} (h : blankB c = true) : c ≠ 59 := by
  have := byte_all (p := fun c => !blankB c || c != 59) (q := fun _ => true) (by decide +kernel) c
  rw [h] at this
  simpa using this
theorem sign_low {c : UInt8} (h : signB c = true) : signB (lowB c) = true := by
  have := byte_all (p := fun c => !signB c || signB (lowB c)) (q := fun _ => true) (by decide +kernel) c
  rw [h] at this
  simpa using this
def AllB (p : UInt8 → Bool) (l : List UInt8) : Prop := ∀ c, c ∈ l → p c = true
theorem tok_parts {l : List UInt8} (h : tokB l = true) : AllB signB l ∧ l ≠ [] := by
  unfold tokB at h
  simp only [Bool.and_eq_true, List.all_eq_true] at h
  refine ⟨h.1, fun e => ?_⟩
  rw [e] at h
  simp at h
theorem kindL_end {l : List UInt8} (h : ∀ c, c ∈ l → c ≠ 59) (r : List UInt8) : kindL l = l ∧ kindL (l ++ 59 :: r) = l := by
  refine ⟨?_, ?_⟩
  · have := kindL_of (l := l) (k := l.length) (Nat.le_refl _) (fun j c _ hc => h c (List.mem_of_getElem? hc)) (fun c hc => by rw [List.getElem?_eq_none (Nat.le_refl _)] at hc; cases hc)
    rw [this, List.take_length]
  · have := kindL_of (l := l ++ 59 :: r) (k := l.length) (by simp) (fun j c hj hc => by
      rw [List.getElem?_append_left hj] at hc
      exact h c (List.mem_of_getElem? hc)) (fun c hc => by
      rw [List.getElem?_append_right (Nat.le_refl _), Nat.sub_self] at hc
      simpa using hc.symm)
    rw [this, List.take_left]
theorem trimL_pad {q l : List UInt8} (hq : AllB blankB q) (hl : AllB signB l) (h0 : l ≠ []) : trimL (q ++ l ++ q) = l := by
  have hp : 0 < l.length := List.length_pos_iff.2 h0
  have := trimL_of (l := q ++ l ++ q) (f := q.length) (e := q.length + l.length) (by omega) (by simp only [List.length_append]; omega)
    (fun j c hj hc => by
      rw [List.append_assoc, List.getElem?_append_left hj] at hc
      exact hq c (List.mem_of_getElem? hc))
    (fun j c hj hc => by
      rw [List.getElem?_append_right (by simp only [List.length_append]; omega)] at hc
      exact hq c (List.mem_of_getElem? hc))
    (.inr fun c hc => by
      rw [List.append_assoc, List.getElem?_append_right (Nat.le_refl _), List.getElem?_append_left (by omega)] at hc
      exact (sign_ok (hl c (List.mem_of_getElem? hc))).2)
    (.inr fun c hc => by
      rw [List.append_assoc, List.getElem?_append_right (by omega), List.getElem?_append_left (by omega)] at hc
      exact (sign_ok (hl c (List.mem_of_getElem? hc))).2)
  rw [this, List.append_assoc, List.take_append, List.take_of_length_le (by omega), show q.length + l.length - q.length = l.length from by omega, List.take_left, List.drop_left]
theorem no_semi {q l : List UInt8} (hq : AllB blankB q) (hl : AllB signB l) : ∀ c, c ∈ q ++ l ++ q → c ≠ 59 := fun c hc => by
  simp only [List.mem_append] at hc
  rcases hc with (h | h) | h
  · exact blank_ok (hq c h)
  · exact (sign_ok (hl c h)).1
  · exact blank_ok (hq c h)
theorem allB_nil (p : UInt8 → Bool) : AllB p [] := fun c hc => by cases hc
/-- All five types of media are one. -/
theorem medias {s t q : ByteArray} (hs : tokB s.data.toList = true) (hq : AllB blankB q.data.toList) :
    mediaS s = foldS s ∧ mediaS (q ++ s ++ q) = foldS s ∧ mediaS (s ++ ⟨#[59]⟩ ++ t) = foldS s ∧ mediaS (q ++ s ++ q ++ ⟨#[59]⟩ ++ t) = foldS s ∧ mediaS (foldS s) = foldS s := by
  obtain ⟨ha, h0⟩ := tok_parts hs
  have hn := allB_nil blankB
  have e59 : (⟨#[59]⟩ : ByteArray).data.toList = [59] := rfl
  have a1 := kindL_end (no_semi hn ha) t.data.toList
  have a2 := kindL_end (no_semi hq ha) t.data.toList
  have t1 := trimL_pad hn ha h0
  have t2 := trimL_pad hq ha h0
  rw [List.nil_append, List.append_nil] at a1 t1
  have hb : AllB signB (lowL s.data.toList) := fun c hc => by
    unfold lowL at hc
    obtain ⟨d, hd, rfl⟩ := List.mem_map.1 hc
    exact sign_low (ha d hd)
  have hb0 : lowL s.data.toList ≠ [] := fun e => h0 (by unfold lowL at e; simpa using e)
  have a3 := kindL_end (no_semi hn hb) t.data.toList
  have t3 := trimL_pad hn hb hb0
  rw [List.nil_append, List.append_nil] at a3 t3
  unfold mediaS foldS
  refine ⟨?_, ?_, ?_, ?_, ?_⟩
  · rw [a1.1, t1]
  · rw [cat_list, cat_list, a2.1, t2]
  · rw [cat_list, cat_list, e59, List.append_assoc, List.singleton_append, a1.2, t1]
  · rw [cat_list, cat_list, cat_list, cat_list, e59, List.append_assoc (_ ++ _ ++ _), List.singleton_append, a2.2, t2]
  · rw [mk_list, a3.1, t3, lowL_low]
theorem pad_step {q : ByteArray} (h : AllB blankB q.data.toList) : AllB blankB (q ++ (⟨#[32, 9]⟩ : ByteArray)).data.toList := fun c hc => by
  rw [cat_list, List.mem_append] at hc
  rcases hc with hc | hc
  · exact h c hc
  · have e : (⟨#[32, 9]⟩ : ByteArray).data.toList = [32, 9] := rfl
    rw [e] at hc
    simp at hc
    rcases hc with rfl | rfl <;> decide

theorem walk (a0 : ByteArray) (a1 : ByteArray) (a2 : Int) (w0 : a0.size ≤ maxLen) (w1 : a1.size ≤ maxLen) (w2 : (Lit.int .u8 a2).wf = true) (w : World) (hS : Std w.heap.size w) :
    Calls Tryd.prog 7 #[.string a0, .string a1, .int .u8 a2] w fun e w' => e = .returned (.bool true) ∧ Below w.heap.size w w' := by
  have HS := Lib.hid hS; clear hS
  have n0 : Below w.heap.size w w := Below.refl _ _
  generalize hg : w.heap.size = g at *
  have hgw : g ≤ w.heap.size := by omega
  have G := Lib.hid hg; clear hg
  have b2 := bounds_u8 w2
  obtain ⟨b, rfl⟩ := Int.eq_ofNat_of_zero_le b2.1
  clear w2
  by_cases h1 : (20000 : Int) < a0.size
  · go_enter Tryd.func7, Tryd.ntmps7
    go_wp2_with fail
    refine (awake_any g _ HS.out hgw).mono ?_
    rintro e w1 ⟨rfl, hB⟩
    go_wp2_with fail
    go_ret
    exact ⟨rfl, hB⟩
  by_cases h2 : (20000 : Int) < a1.size
  · go_enter Tryd.func7, Tryd.ntmps7
    go_wp2_with fail
    refine (awake_any g _ HS.out hgw).mono ?_
    rintro e w1 ⟨rfl, hB⟩
    go_wp2_with fail
    go_ret
    exact ⟨rfl, hB⟩
  have hs : a0.size ≤ 20000 := by omega
  have ht : a1.size ≤ 20000 := by omega
  clear w0 w1
  obtain ⟨p, hp⟩ : ∃ p, tokB a0.data.toList = p := ⟨_, rfl⟩
  have c0 : ∀ w, Calls Tryd.prog 12 #[.string a0] w fun e w' => e = .returned (.bool p) ∧ w = w' := fun w => by have := token_any a0 w (by omega); rwa [hp] at this
  have C0 := Lib.hid c0; clear c0
  have HP := Lib.hid hp; clear hp
  cases p with
  | false =>
    go_enter Tryd.func7, Tryd.ntmps7
    go_wp2_with fail
    refine (awake_any g _ HS.out hgw).mono ?_
    rintro e w1 ⟨rfl, hB⟩
    go_wp2_with fail
    refine (C0.out _).mono ?_
    rintro e w' ⟨rfl, rfl⟩
    go_wp2_with fail
    go_ret
    exact ⟨rfl, hB⟩
  | true =>
  go_enter Tryd.func7, Tryd.ntmps7
  go_wp2_with fail
  refine (awake_any g _ HS.out hgw).mono ?_
  rintro e w1 ⟨rfl, n1⟩
  have s1 := n1.size
  clear n0
  go_wp2_with fail
  refine (C0.out _).mono ?_
  rintro e w' ⟨rfl, rfl⟩
  go_wp2_with fail
  go_loop [7, 8] (fun v i => ∃ (k : Nat) (q : ByteArray), k ≤ b % 5 ∧ i = .int .i64 k ∧ v = .string q ∧ q.size ≤ 2 * k ∧ Hid (AllB blankB q.data.toList)) (fun _ i => 5 - (intOf i).toNat)
  case atStart => exact ⟨0, ⟨#[]⟩, Nat.zero_le _, rfl, rfl, by decide, Lib.hid (allB_nil _)⟩
  case round =>
    obtain ⟨k, q, hk, rfl, rfl, hqs, hQ⟩ := hrel
    by_cases hlt : k < b % 5
    · have sq : (q ++ (⟨#[32, 9]⟩ : ByteArray)).size ≤ 2 * (k + 1) := by rw [ByteArray.size_append]; show q.size + 2 ≤ _; omega
      have hQ' := Lib.hid (pad_step hQ.out)
      have hlt' : (k : Int) < (b : Int) % 5 := by omega
      go_wp2_with fail
      go_round
      case rel => exact ⟨k + 1, _, by omega, by go_num, rfl, sq, hQ'⟩
      case measure => simp [intOf]; omega
    · have hlt' : ¬ (k : Int) < (b : Int) % 5 := by omega
      have hq8 : q.size ≤ 8 := by omega
      have M := medias (t := a1) HP.out hQ.out
      have z1 : (q ++ a0).size ≤ 30000 := by rw [ByteArray.size_append]; omega
      have z2 : (q ++ a0 ++ q).size ≤ 30000 := by rw [ByteArray.size_append, ByteArray.size_append]; omega
      have z3 : (q ++ a0 ++ q ++ (⟨#[59]⟩ : ByteArray)).size ≤ 30000 := by rw [ByteArray.size_append, ByteArray.size_append, ByteArray.size_append]; show q.size + a0.size + q.size + 1 ≤ _; omega
      have z4 : (q ++ a0 ++ q ++ (⟨#[59]⟩ : ByteArray) ++ a1).size ≤ 50000 := by rw [ByteArray.size_append, ByteArray.size_append, ByteArray.size_append, ByteArray.size_append]; show q.size + a0.size + q.size + 1 + a1.size ≤ _; omega
      have z5 : (a0 ++ (⟨#[59]⟩ : ByteArray)).size ≤ 30000 := by rw [ByteArray.size_append]; show a0.size + 1 ≤ _; omega
      have z6 : (a0 ++ (⟨#[59]⟩ : ByteArray) ++ a1).size ≤ 50000 := by rw [ByteArray.size_append, ByteArray.size_append]; show a0.size + 1 + a1.size ≤ _; omega
      have hfs := foldS_size a0
      generalize hf : foldS a0 = f at *
      have c1 : ∀ w, Calls Tryd.prog 9 #[.string a0] w fun e w' => e = .returned (.string f) ∧ Below w.heap.size w w' := fun w => by have := fold_any a0 w (by omega); rwa [hf] at this
      have c2 : ∀ w, Std g w → Calls Tryd.prog 16 #[.string a0] w fun e w' => e = .returned (.string f) ∧ Below w.heap.size w w' := fun w h => by have := media_any g a0 w h (by omega); rwa [M.1] at this
      have c3 : ∀ w, Std g w → Calls Tryd.prog 16 #[.string (q ++ a0 ++ q)] w fun e w' => e = .returned (.string f) ∧ Below w.heap.size w w' := fun w h => by have := media_any g (q ++ a0 ++ q) w h (by omega); rwa [M.2.1] at this
      have c4 : ∀ w, Std g w → Calls Tryd.prog 16 #[.string (a0 ++ (⟨#[59]⟩ : ByteArray) ++ a1)] w fun e w' => e = .returned (.string f) ∧ Below w.heap.size w w' := fun w h => by have := media_any g (a0 ++ (⟨#[59]⟩ : ByteArray) ++ a1) w h (by omega); rwa [M.2.2.1] at this
      have c5 : ∀ w, Std g w → Calls Tryd.prog 16 #[.string (q ++ a0 ++ q ++ (⟨#[59]⟩ : ByteArray) ++ a1)] w fun e w' => e = .returned (.string f) ∧ Below w.heap.size w w' := fun w h => by have := media_any g (q ++ a0 ++ q ++ (⟨#[59]⟩ : ByteArray) ++ a1) w h (by omega); rwa [M.2.2.2.1] at this
      have c6 : ∀ w, Std g w → Calls Tryd.prog 16 #[.string f] w fun e w' => e = .returned (.string f) ∧ Below w.heap.size w w' := fun w h => by have := media_any g f w h (by omega); rwa [M.2.2.2.2] at this
      have C1 := Lib.hid c1; clear c1
      have C2 := Lib.hid c2; clear c2
      have C3 := Lib.hid c3; clear c3
      have C4 := Lib.hid c4; clear c4
      have C5 := Lib.hid c5; clear c5
      have C6 := Lib.hid c6; clear c6
      clear M hf hfs
      go_wp2_with fail
      refine (C1.out _).mono ?_
      rintro e w2 ⟨rfl, hB⟩
      have n2 := n1.trans (hB.mono (by omega))
      have s2 := n2.size
      clear hB n1 s1
      go_wp2_with fail
      refine (C2.out _ (HS.out.on n2)).mono ?_
      rintro e w3 ⟨rfl, hB⟩
      have n3 := n2.trans (hB.mono (by omega))
      have s3 := n3.size
      clear hB n2 s2
      go_wp2_with fail
      refine (C3.out _ (HS.out.on n3)).mono ?_
      rintro e w4 ⟨rfl, hB⟩
      have n4 := n3.trans (hB.mono (by omega))
      have s4 := n4.size
      clear hB n3 s3
      go_wp2_with fail
      refine (C4.out _ (HS.out.on n4)).mono ?_
      rintro e w5 ⟨rfl, hB⟩
      have n5 := n4.trans (hB.mono (by omega))
      have s5 := n5.size
      clear hB n4 s4
      go_wp2_with fail
      refine (C5.out _ (HS.out.on n5)).mono ?_
      rintro e w6 ⟨rfl, hB⟩
      have n6 := n5.trans (hB.mono (by omega))
      have s6 := n6.size
      clear hB n5 s5
      go_wp2_with fail
      refine (C6.out _ (HS.out.on n6)).mono ?_
      rintro e w7 ⟨rfl, hB⟩
      have n7 := n6.trans (hB.mono (by omega))
      clear hB n6 s6
      go_wp2_with fail
      go_ret
      exact ⟨rfl, n7⟩

set_option maxRecDepth 100000 in
theorem lifted (os : Os) (started : os.Started) (H : Type) (enc : TypeId × Value → H) :
    ReturnsInHanded {} Tryd.checked os 7 .any (fun w args => (Rows.textMediasSpec.pre enc Tryd.prog Tryd.f7 [] false w args ∧ laidMetH Tryd.prog Rows.textMediasRow.laid w) ∧ sizedMet enc Tryd.prog Tryd.f7 (OpenSpec.ofChange Rows.textMediasSpec) false w args) (Rows.textMediasSpec.post enc Tryd.prog Tryd.f7 false true false false) := by
  refine wrap_laid (C := Tryd.checked) (X := fun w => laidMetH Tryd.prog Rows.textMediasRow.laid w) (fun _ _ hh h => h.of_heap hh) own started (by kernel_rfl) Tryd.func7
    (ChangeSpec.witness_shaped (enc := enc) (C := Tryd.checked) (os := os) (X := fun w _ => laidMetH Tryd.prog Rows.textMediasRow.laid w) false (World.laidAll Tryd.prog os Rows.textMediasRow.laid) #[.string ByteArray.empty, .string ByteArray.empty, .int .u8 0] 8 (World.laidAll_os _ _ _)
      (World.shaped_of_ZipB (by kernel_rfl) (by kernel_rfl)) (by kernel_rfl) (by kernel_rfl) (by kernel_rfl)
      (by rw [MakeChecks.laidMetH_plain _ _ _ (by kernel_rfl)]; exact laidMet_laidAll _ (by kernel_rfl) (by kernel_rfl))) ?_
  intro W base args ds gs before hval0 hW hsh hL
  have hstd := std_of hsh hL
  have hval : ∀ (j : Nat) t v, Tryd.f7.params[j]? = some t → args[j]? = some v → Value.okWide Tryd.prog W .any base t v := hval0
  have hW' := hW
  obtain ⟨p, q, hA0, hV, rfl, hfz, hnd⟩ := hW
  have hA : DataW.TrodAll enc Tryd.prog W 0 (fun _ => true) true Tryd.f7.params.toList args.toList ds p := hA0
  rw [Tryd.params7] at hA hval
  obtain ⟨v0, vs0, d0, ds0, p0, q0, hargs, rfl, rfl, h0, r0⟩ := trodAll_cons hA
  obtain ⟨v1, vs1, d1, ds1, p1, q1, rfl, rfl, rfl, h1, r1⟩ := trodAll_cons r0
  obtain ⟨v2, vs2, d2, ds2, p2, q2, rfl, rfl, rfl, h2, r2⟩ := trodAll_cons r1
  obtain ⟨rfl, rfl, rfl⟩ := trodAll_nil r2
  obtain rfl : args = #[v0, v1, v2] := by cases args; simp_all
  obtain ⟨rfl, rfl⟩ := trodVars_none hV
  obtain ⟨a0, rfl, rfl, rfl, w0⟩ := open_string Tryd.underlying9 (hval 0 9 v0 rfl rfl) h0
  obtain ⟨a1, rfl, rfl, rfl, w1⟩ := open_string Tryd.underlying9 (hval 1 9 v1 rfl rfl) h1
  obtain ⟨a2, rfl, rfl, rfl, w2⟩ := open_int Tryd.underlying5 (hval 2 5 v2 rfl rfl) h2
  clear hA0 hval0
  simp only [List.append_nil] at hW'
  refine (walk a0 a1 a2 w0 w1 w2 W hstd).mono fun e W' ⟨he, hg⟩ => ?_
  subst he
  exact ⟨_, rfl, _, _, _, [], [], [], hW', (trodAll_cons_mk (shut_bool Tryd.underlying4 _) trodAll_mk0), (trodAll_cons_mk (shut_string Tryd.underlying9 w0) (trodAll_cons_mk (shut_string Tryd.underlying9 w1) (trodAll_cons_mk (shut_int Tryd.underlying5 w2) trodAll_mk0))), rfl, hg.frame _, fun h => by cases h⟩

theorem over : Rows.textMediasRow.holds Tryd.pinned (OpenSpec.ofChange Rows.textMediasSpec) :=
  OpenClaim.holds_of_wide 7 Tryd.f7 rfl rfl rfl rfl rfl rfl rfl ⟨rfl, rfl, rfl, rfl, rfl⟩ rfl rfl rfl rfl rfl (by kernel_rfl) Tryd.func7 (by kernel_rfl)
    (of_decide_eq_true (by kernel_rfl)) (by unfold Func.isWrapper; first | (rw [if_pos (by decide +kernel)]; kernel_rfl) | (rw [if_neg (by decide +kernel)]; exact ⟨rfl, rfl⟩))
    (fun os started H enc _ => lifted os started H enc)

theorem proved : Rows.TextMediasCardSaid :=
  Claim7.holds_tied_plain_at .later [] [.data, .data, .data, .data, .pinned] true (true, "9807dafe3f6d15e133c68866b88ae7e123aecc51ae5408fe4f2340aba51fdb13") false
    over (fun _ h => by cases h) (by kernel_rfl) (fun _ h => by cases h) textMedias_row_tie rfl ⟨rfl, rfl⟩ (by kernel_rfl) rfl
    (fun f fn hf hfn => by
      obtain rfl : f = 7 := Option.some.inj ((show Tryd.prog.funcNamed "nuncio/nunciolaw02.TextMedias" = some 7 by kernel_rfl).symm.trans hf) |>.symm
      obtain rfl : fn = Tryd.f7 := (Option.some.inj (Tryd.func7.symm.trans hfn)).symm
      exact ⟨by kernel_rfl, fun j t ht => by
        rw [Tryd.params7] at ht
        have hm : t ∈ [9, 9, 5] := by simpa using Array.mem_of_getElem? ht
        have hall : ([9, 9, 5].all fun u => !Tryd.prog.wantsStandIn u) = true := by kernel_rfl
        exact (show Tryd.prog.wantsStandIn t = false by simpa using List.all_eq_true.1 hall t hm)⟩)
    (by kernel_rfl)
#print axioms proved
end Go.Proofs.YtpbbeeggblmneaaDoor.textMedias
