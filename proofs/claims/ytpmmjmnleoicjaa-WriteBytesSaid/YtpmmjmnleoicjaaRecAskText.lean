/- The contracts of the function that rdata asks texts by, which counts down what is left, and of slices.ContainsFunc over it. For texts of at most 10^6 bytes. -/
import Derived.Test.YtpmmjmnleoicjaaProg
import Derived.Test.YtpmmjmnleoicjaaRecAsk
import Derived.WalkKit
import Derived.Lib.Hide
import Derived.Outline
import Derived.IntWalk
import Derived.WalkSpells
namespace Go.Proofs.Ytpmmjmnleoicjaa
open Go.RowKit Bytes Strs Nums NameMath RecMath

def TextAt (w : World) (b1 b2 k : Nat) (m : Int) : Prop :=
  w.cell? ⟨b1, 0, none⟩ = some (.int .u16 k) ∧ w.cell? ⟨b2, 0, none⟩ = some (.int .i64 m) ∧ w.frozen? ⟨b2, 0, none⟩ = false ∧ b1 ≠ b2
def MadeText (k : Nat) (w : World) (e : Ending) (w' : World) : Prop :=
  ∃ b1 b2, e = .returned (.func (.func 132) #[] #[.pointer (some ⟨b1, 0, none⟩), .pointer (some ⟨b2, 0, none⟩)]) ∧ TextAt w' b1 b2 k 65535 ∧ w.heap.size ≤ b1 ∧ w.heap.size ≤ b2 ∧ Below w.heap.size w w'
theorem wrongText_any (k : Nat) (w : World) : Calls Try.prog 117 #[.int .u16 k] w (MadeText k w) := by
  have hmf : ∀ (fn : Fn) (first cap : Array Value) (w : World), (Instr.makeFunc fn first cap).run Try.prog w = .ok (.func fn first cap) w := fun _ _ _ _ => rfl
  go_enter Try.func117, Try.ntmps117
  go_wp2_with fail
  go_ret
  refine ⟨_, _, rfl, ⟨by simp, by simp, by simp, by simp⟩, Nat.le_refl _, by simp, ?_⟩
  exact ((Below.refl _ _).alloc (Nat.le_refl _) _).alloc (by simp) _

/-- What is left, the answer. -/
def AskedText (B b1 b2 k : Nat) (m : Int) (q : Bool) (w : World) (e : Ending) (w' : World) : Prop := e = .returned (.bool q) ∧ TextAt w' b1 b2 k m ∧ Below B w w'
set_option maxHeartbeats 2000000 in
theorem askA (s : ByteArray) (B b1 b2 : Nat) (m : Int) (q : Bool) (w : World) (hT : TextAt w b1 b2 1 m) (hq : Hid (((s.size : Int) != 4) = q)) :
    Calls Try.prog 132 #[.string s, .pointer (some ⟨b1, 0, none⟩), .pointer (some ⟨b2, 0, none⟩)] w (AskedText B b1 b2 1 m q w) := by
  have HT := Lib.hid hT
  obtain ⟨c1, c2, fz, hne⟩ := hT
  obtain ⟨z, hz⟩ : ∃ z, ((s.size : Int) != 4) = z := ⟨_, rfl⟩
  obtain rfl : z = q := hz.symm.trans hq.out
  clear hq
  go_enter Try.func132, Try.ntmps132
  go_wp2_with fail
  go_ret
  exact ⟨rfl, HT.out, Below.refl _ _⟩
set_option maxHeartbeats 2000000 in
theorem askAAAA (s : ByteArray) (B b1 b2 : Nat) (m : Int) (q : Bool) (w : World) (hT : TextAt w b1 b2 28 m) (hq : Hid (((s.size : Int) != 16) = q)) :
    Calls Try.prog 132 #[.string s, .pointer (some ⟨b1, 0, none⟩), .pointer (some ⟨b2, 0, none⟩)] w (AskedText B b1 b2 28 m q w) := by
  have HT := Lib.hid hT
  obtain ⟨c1, c2, fz, hne⟩ := hT
  obtain ⟨z, hz⟩ : ∃ z, ((s.size : Int) != 16) = z := ⟨_, rfl⟩
  obtain rfl : z = q := hz.symm.trans hq.out
  clear hq
  go_enter Try.func132, Try.ntmps132
  go_wp2_with fail
  go_ret
  exact ⟨rfl, HT.out, Below.refl _ _⟩
set_option maxHeartbeats 2000000 in
theorem askOther (s : ByteArray) (B k b1 b2 : Nat) (m : Int) (q : Bool) (w : World) (hT : TextAt w b1 b2 k m) (k1 : k ≠ 1) (k28 : k ≠ 28) (k16 : k ≠ 16) (hq : Hid (decide ((65535 : Int) < s.size) = q)) :
    Calls Try.prog 132 #[.string s, .pointer (some ⟨b1, 0, none⟩), .pointer (some ⟨b2, 0, none⟩)] w (AskedText B b1 b2 k m q w) := by
  have HT := Lib.hid hT
  obtain ⟨c1, c2, fz, hne⟩ := hT
  have g1 : ((k : Int) == 1) = false := int_ne k1
  have g28 : ((k : Int) == 28) = false := int_ne k28
  have g16 : ((k : Int) == 16) = false := int_ne k16
  obtain ⟨z, hz⟩ : ∃ z, decide ((65535 : Int) < s.size) = z := ⟨_, rfl⟩
  obtain rfl : z = q := hz.symm.trans hq.out
  clear hq k1 k28 k16
  go_enter Try.func132, Try.ntmps132
  go_wp2_with fail
  go_ret
  exact ⟨rfl, HT.out, Below.refl _ _⟩
set_option maxHeartbeats 2000000 in
theorem askTXT (s : ByteArray) (B b1 b2 : Nat) (m m2 : Int) (q : Bool) (w : World) (hs : s.size ≤ 1000000) (hT : TextAt w b1 b2 16 m) (hB : B ≤ b2) (hm0 : 0 ≤ m) (hm1 : m ≤ 65535) (hm2 : Hid (m - (1 + (s.size : Int)) = m2)) (hq : Hid (decide ((255 : Int) < s.size ∨ m2 < 0) = q)) :
    Calls Try.prog 132 #[.string s, .pointer (some ⟨b1, 0, none⟩), .pointer (some ⟨b2, 0, none⟩)] w (AskedText B b1 b2 16 m2 q w) := by
  obtain ⟨c1, c2, fz, hne⟩ := hT
  have hme := hm2.out
  have hq' := hq.out
  subst hme
  have HT : Hid (TextAt (w.setCell ⟨b2, 0, none⟩ (.int .i64 (m - (1 + (s.size : Int))))) b1 b2 16 (m - (1 + (s.size : Int)))) := by
    refine ⟨?_, ?_, ?_, hne⟩
    · rw [World.cell?_setCell_other _ _ _ _ (by intro h; injection h with h; exact hne h.symm)]; exact c1
    · exact World.cell?_setCell_same _ _ _ c2
    · simpa using fz
  have HBl : Hid (Below B w (w.setCell ⟨b2, 0, none⟩ (.int .i64 (m - (1 + (s.size : Int)))))) := (Below.refl _ _).setCell (p := ⟨b2, 0, none⟩) hB _
  clear hq hm2
  by_cases h1 : (255 : Int) < s.size
  · obtain rfl : true = q := by rw [← hq']; exact (decide_eq_true (Or.inl h1)).symm
    clear hq'
    go_enter Try.func132, Try.ntmps132
    go_wp2_with fail
    go_ret
    exact ⟨rfl, HT.out, HBl.out⟩
  · obtain ⟨z, hz⟩ : ∃ z, decide (m - (1 + (s.size : Int)) < 0) = z := ⟨_, rfl⟩
    obtain rfl : z = q := by
      rw [← hq', ← hz]
      refine decide_eq_decide.2 ⟨Or.inr, ?_⟩
      rintro (h | h)
      · exact absurd h h1
      · exact h
    clear hq'
    go_enter Try.func132, Try.ntmps132
    go_wp2_with fail
    go_ret
    exact ⟨rfl, HT.out, HBl.out⟩

theorem wrongText1_is (s : ByteArray) (B k b1 b2 : Nat) (m m2 : Int) (q : Bool) (w : World) (hs : s.size ≤ 1000000) (hT : TextAt w b1 b2 k m) (hB : B ≤ b2) (hm0 : 0 ≤ m) (hm1 : m ≤ 65535) (hq : Hid (badLong k m s.data.toList = q)) (hl : Hid (leftT k m s.data.toList = m2)) :
    Calls Try.prog 132 #[.string s, .pointer (some ⟨b1, 0, none⟩), .pointer (some ⟨b2, 0, none⟩)] w (AskedText B b1 b2 k m2 q w) := by
  have hq' := hq.out
  have hl' := hl.out
  unfold badLong at hq'
  unfold leftT at hl'
  rw [← Lib.size_eq] at hq' hl'
  clear hq hl
  by_cases k1 : k = 1
  · rw [if_pos k1] at hq'
    rw [if_neg (by omega)] at hl'
    subst k1
    subst hl'
    refine askA s B b1 b2 _ q w hT (Lib.hid ?_)
    rw [← hq']
    by_cases h : s.size = 4
    · rw [decide_eq_false (by omega)]; exact bne_eq_false_iff_eq.2 (by omega)
    · rw [decide_eq_true (by omega)]; exact bne_iff_ne.2 (by omega)
  by_cases k28 : k = 28
  · rw [if_neg k1, if_pos k28] at hq'
    rw [if_neg (by omega)] at hl'
    subst k28
    subst hl'
    refine askAAAA s B b1 b2 _ q w hT (Lib.hid ?_)
    rw [← hq']
    by_cases h : s.size = 16
    · rw [decide_eq_false (by omega)]; exact bne_eq_false_iff_eq.2 (by omega)
    · rw [decide_eq_true (by omega)]; exact bne_iff_ne.2 (by omega)
  by_cases k16 : k = 16
  · rw [if_neg k1, if_neg k28, if_pos k16] at hq'
    rw [if_pos k16] at hl'
    subst k16
    refine askTXT s B b1 b2 m m2 q w hs hT hB hm0 hm1 (Lib.hid hl') (Lib.hid ?_)
    rw [← hq']
    exact decide_eq_decide.2 (by omega)
  · rw [if_neg k1, if_neg k28, if_neg k16] at hq'
    rw [if_neg k16] at hl'
    subst hl'
    refine askOther s B k b1 b2 _ q w hT k1 k28 k16 (Lib.hid ?_)
    rw [← hq']
    exact decide_eq_decide.2 (by omega)
theorem left_stays {k : Nat} {m : Int} {l : List UInt8} (hm0 : 0 ≤ m) (hm1 : m ≤ 65535) (h : badLong k m l = false) : 0 ≤ leftT k m l ∧ leftT k m l ≤ 65535 := by
  unfold leftT
  by_cases k16 : k = 16
  · subst k16
    rw [if_pos rfl]
    have h' : ¬ (255 < l.length ∨ m - (1 + (l.length : Int)) < 0) := of_decide_eq_false h
    omega
  · rw [if_neg k16]
    exact ⟨hm0, hm1⟩

def IdxB (B : Nat) (q : Bool) (w : World) (e : Ending) (w' : World) : Prop := ∃ i : Int, e = .returned (.int .i64 i) ∧ decide (0 ≤ i) = q ∧ Below B w w'
set_option maxHeartbeats 2000000 in
theorem idxTexts_is (A : Option Addr) (c n k b1 b2 B : Nat) (L : List (List UInt8)) (q : Bool) (w : World) (hr : RdS w B A L) (hn0 : Hid (L.length = n)) (hn : n ≤ 1000000) (hs : Hid (∀ k, k < n → (L.getD k []).length ≤ 1000000)) (hT : TextAt w b1 b2 k 65535) (hB2 : B ≤ b2) (hq : Hid (wrongs k 65535 L = q)) :
    Calls Try.prog 114 #[.slice A n c, .func (.func 132) #[] #[.pointer (some ⟨b1, 0, none⟩), .pointer (some ⟨b2, 0, none⟩)]] w (IdxB B q w) := by
  have HR := Lib.hid hr; clear hr
  have HT := Lib.hid hT; clear hT
  go_enter Try.func114, Try.ntmps114
  go_wp2_with fail
  go_loopw [8, 5] (fun v u wr => ∃ (j : Nat) (m : Int), j ≤ n ∧ v = .int .i64 j ∧ 0 ≤ m ∧ m ≤ 65535 ∧ Hid (wrongs k m (L.drop j) = q) ∧ Hid (TextAt wr b1 b2 k m) ∧ Below B w wr) (fun v _ _ => n - (intOf v).toNat)
  case atStart => exact ⟨0, 65535, Nat.zero_le _, rfl, by decide, by decide, hq, HT, Below.refl _ _⟩
  case round =>
    obtain ⟨j, m, hj, rfl, hm0, hm1, hH, hTj, hB⟩ := hrel
    by_cases hlt : j < n
    · have hkl : j < L.length := by rw [hn0.out]; exact hlt
      obtain ⟨a, rfl, hab, hcell⟩ := (HR.out.below hB).get hkl
      have hx : (mk (L.getD j [])).size ≤ 1000000 := by rw [mk_size]; exact hs.out j hlt
      have hd := hH.out
      rw [lab_drop hkl, wrongs] at hd
      obtain ⟨z, hz⟩ : ∃ z, badLong k m (L.getD j []) = z := ⟨_, rfl⟩
      obtain ⟨m2, hm2⟩ : ∃ m2, leftT k m (L.getD j []) = m2 := ⟨_, rfl⟩
      rw [hz, hm2] at hd
      have hst := fun h => left_stays (k := k) (l := L.getD j []) hm0 hm1 h
      rw [hz, hm2] at hst
      have hz' := hz
      have hm2' := hm2
      rw [← mk_list (L.getD j [])] at hz' hm2'
      have HZ := Lib.hid hz'
      have HM := Lib.hid hm2'
      have HD := Lib.hid hd
      have HST := Lib.hid hst
      clear hz hm2 hz' hm2' hd hst hH hkl
      generalize mk (L.getD j []) = x at *
      go_wp2_with fail
      refine (wrongText1_is x B k b1 b2 m m2 z _ hx hTj.out hB2 hm0 hm1 HZ HM).mono ?_
      rintro e w2 ⟨rfl, hT2, hBB⟩
      have HT2 := Lib.hid hT2
      have hB3 := hB.trans hBB
      clear hT2 hBB hB hTj
      cases z with
      | true =>
        have hqt := HD.out
        rw [Bool.true_or] at hqt
        have HQ := Lib.hid hqt
        clear hqt
        go_wp2_with fail
        go_ret
        exact ⟨(j : Int), rfl, by rw [← HQ.out]; exact decide_eq_true (by omega), hB3⟩
      | false =>
        rw [Bool.false_or] at HD
        obtain ⟨p1, p2⟩ := HST.out rfl
        go_wp2_with fail
        go_roundw
        case rel => exact ⟨j + 1, m2, by omega, by go_num, p1, p2, HD, HT2, hB3⟩
        case measure => simp [intOf]; omega
    · have hqt := hH.out
      rw [List.drop_of_length_le (by rw [hn0.out]; omega)] at hqt
      have HQ := Lib.hid hqt
      clear hqt hH
      go_wp2_with fail
      go_ret
      exact ⟨-1, rfl, by rw [← HQ.out]; rfl, hB⟩
theorem hasTexts_is (A : Option Addr) (c n k b1 b2 B : Nat) (L : List (List UInt8)) (q : Bool) (w : World) (hr : RdS w B A L) (hn0 : Hid (L.length = n)) (hn : n ≤ 1000000) (hs : Hid (∀ k, k < n → (L.getD k []).length ≤ 1000000)) (hT : TextAt w b1 b2 k 65535) (hB2 : B ≤ b2) (hq : Hid (wrongs k 65535 L = q)) :
    Calls Try.prog 90 #[.slice A n c, .func (.func 132) #[] #[.pointer (some ⟨b1, 0, none⟩), .pointer (some ⟨b2, 0, none⟩)]] w fun e w' => e = .returned (.bool q) ∧ Below B w w' := by
  have HR := Lib.hid hr; clear hr
  have HT := Lib.hid hT; clear hT
  go_enter Try.func90, Try.ntmps90
  go_wp2_with fail
  refine (idxTexts_is A c n k b1 b2 B L q _ HR.out hn0 hn hs HT.out hB2 hq).mono ?_
  rintro e w' ⟨i, rfl, hi, hB⟩
  go_wp2_with fail
  go_ret
  exact ⟨by rw [← hi]; rfl, hB⟩
end Go.Proofs.Ytpmmjmnleoicjaa
