/- Texts of one proof, one behind the other: Low, LowFold. -/
import Derived.Test.YtpmmjmnleoicjaaProg
import Derived.Test.YtpmmjmnleoicjaaBytes
import Derived.Test.YtpmmjmnleoicjaaLowMath
import Derived.WalkKit
import Derived.Lib.Hide
import Derived.Outline
import Derived.WalkSpells
import Derived.IntWalk
import Derived.Lib.ConvBytes
import Derived.Lib.BufferRead
import Derived.OwnWalk
import Derived.Laws.AppendOwn
import Derived.Laws.IdiomStrings
import Derived.Laws.Rows
import Derived.Lib.UnsafeStr
import Derived.WalkLawsBesides
import Derived.Deep.QuietTactic
import Derived.BigQuiet
import Derived.Deep.Draws

/- The contracts of text's within and lower, and of the document's in. No condition. -/
namespace Go.Proofs.Ytpmmjmnleoicjaa
open Go.RowKit Bytes Low

theorem inB_true {a b : Nat} {c : UInt8} (h : a ≤ c.toNat ∧ c.toNat ≤ b) : inB a b c = true := decide_eq_true h
theorem inB_false {a b : Nat} {c : UInt8} (h : ¬ (a ≤ c.toNat ∧ c.toNat ≤ b)) : inB a b c = false := decide_eq_false h

theorem within_any (c : UInt8) (a b : Nat) (w : World) :
    Calls Try.prog 144 #[.int .u8 c.toNat, .int .u8 a, .int .u8 b] w fun e w' => e = .returned (.bool (inB a b c)) ∧ w = w' := by
  have hl := c.toNat_lt
  by_cases h1 : a ≤ c.toNat
  · by_cases h2 : c.toNat ≤ b
    · have e := Lib.hid (inB_true ⟨h1, h2⟩)
      go_enter Try.func144, Try.ntmps144
      go_wp2
      go_ret
      exact ⟨by rw [e.out]; rfl, rfl⟩
    · have e := Lib.hid (inB_false (c := c) (a := a) (b := b) (fun h => h2 h.2))
      go_enter Try.func144, Try.ntmps144
      go_wp2
      go_ret
      exact ⟨by rw [e.out]; rfl, rfl⟩
  · have e := Lib.hid (inB_false (c := c) (a := a) (b := b) (fun h => h1 h.1))
    go_enter Try.func144, Try.ntmps144
    go_wp2
    go_ret
    exact ⟨by rw [e.out]; rfl, rfl⟩

theorem in_any (c : UInt8) (a b : Nat) (w : World) :
    Calls Try.prog 127 #[.int .u8 c.toNat, .int .u8 a, .int .u8 b] w fun e w' => e = .returned (.bool (inB a b c)) ∧ w = w' := by
  have hl := c.toNat_lt
  by_cases h1 : a ≤ c.toNat
  · by_cases h2 : c.toNat ≤ b
    · have e := Lib.hid (inB_true ⟨h1, h2⟩)
      go_enter Try.func127, Try.ntmps127
      go_wp2
      go_ret
      exact ⟨by rw [e.out]; rfl, rfl⟩
    · have e := Lib.hid (inB_false (c := c) (a := a) (b := b) (fun h => h2 h.2))
      go_enter Try.func127, Try.ntmps127
      go_wp2
      go_ret
      exact ⟨by rw [e.out]; rfl, rfl⟩
  · have e := Lib.hid (inB_false (c := c) (a := a) (b := b) (fun h => h1 h.1))
    go_enter Try.func127, Try.ntmps127
    go_wp2
    go_ret
    exact ⟨by rw [e.out]; rfl, rfl⟩

/-- The result is known by name. -/
theorem within_is (c : UInt8) (a b : Nat) (q : Bool) (h : Hid (inB a b c = q)) (w : World) :
    Calls Try.prog 144 #[.int .u8 c.toNat, .int .u8 a, .int .u8 b] w fun e w' => e = .returned (.bool q) ∧ w = w' := by
  have := within_any c a b w
  rwa [h.out] at this
theorem in_is (c : UInt8) (a b : Nat) (q : Bool) (h : Hid (inB a b c = q)) (w : World) :
    Calls Try.prog 127 #[.int .u8 c.toNat, .int .u8 a, .int .u8 b] w fun e w' => e = .returned (.bool q) ∧ w = w' := by
  have := in_any c a b w
  rwa [h.out] at this

theorem lower_any (c : UInt8) (w : World) :
    Calls Try.prog 124 #[.int .u8 c.toNat] w fun e w' => e = .returned (.int .u8 (lowB c).toNat) ∧ w = w' := by
  by_cases h : 65 ≤ c.toNat ∧ c.toNat ≤ 90
  · have e1 := Lib.hid (lowB_up h.1 h.2)
    have h1 := h.1
    have h2 := h.2
    clear h
    go_enter Try.func124, Try.ntmps124
    go_wp2_with fail
    refine (within_is c 65 90 true (Lib.hid (inB_true ⟨h1, h2⟩)) _).mono ?_
    rintro e w' ⟨rfl, rfl⟩
    go_wp2_with fail
    go_ret
    refine ⟨?_, rfl⟩
    rw [e1.out]
    refine congrArg (fun x : Int => Ending.returned (Value.int .u8 x)) ?_
    omega
  · have e1 := Lib.hid (lowB_no h)
    have e2 := Lib.hid (inB_false h)
    clear h
    go_enter Try.func124, Try.ntmps124
    go_wp2_with fail
    refine (within_is c 65 90 false e2 _).mono ?_
    rintro e w' ⟨rfl, rfl⟩
    go_wp2_with fail
    go_ret
    exact ⟨by rw [e1.out]; rfl, rfl⟩

end Go.Proofs.Ytpmmjmnleoicjaa

/- The contracts of text's Fold and of the document's Fold. For texts of at most 2^47 - 4096 bytes. -/
namespace Go.Proofs.Ytpmmjmnleoicjaa
open Go.RowKit Bytes Low

/-- Behind k rounds: the first k bytes of the block are folded. -/
def FoldRel (W : World) (g : Nat) (l : List UInt8) (k : Nat) : Prop :=
  ∀ j, j < l.length → W.cell? ⟨g, j, none⟩ = some (.int .u8 (if j < k then lowB (l.getD j 0) else l.getD j 0).toNat) ∧ W.frozen? ⟨g, j, none⟩ = false
theorem foldRel_start (w : World) (e : TypeId) (s : ByteArray) : FoldRel (Lib.bytesWorld w e s) w.heap.size s.data.toList 0 := fun j hj => by
  rw [← Lib.size_eq] at hj
  refine ⟨by rw [Lib.bytesWorld_cell w e s j hj, if_neg (Nat.not_lt_zero _)], ?_⟩
  have h := Lib.bytesWorld_at_new w e s
  have hn : s.size ≤ (Lib.bytesCells w e s).size := by
    simp only [Lib.bytesCells, Array.size_append, Array.size_map]
    have : s.data.size = s.size := rfl
    omega
  simp only [World.frozen?, h, Bool.and_eq_false_iff, decide_eq_false_iff_not]
  omega
theorem foldRel_step {W : World} {g k : Nat} {l : List UInt8} (h : FoldRel W g l k) (hk : k < l.length) : FoldRel (W.setCell ⟨g, k, none⟩ (.int .u8 (lowB (l.getD k 0)).toNat)) g l (k + 1) := fun j hj => by
  refine ⟨?_, by rw [World.frozen?_setCell]; exact (h j hj).2⟩
  by_cases e : j = k
  · subst e
    rw [World.cell?_setCell_same _ _ _ (h j hj).1, if_pos (by omega)]
  · rw [World.cell?_setCell_other _ _ _ _ (fun h' => e (by injection h' with _ h2 _; exact h2.symm)), (h j hj).1]
    by_cases hjk : j < k
    · rw [if_pos hjk, if_pos (by omega)]
    · rw [if_neg hjk, if_neg (show ¬ j < k + 1 by omega)]
theorem foldRel_end {W : World} {g n cap : Nat} {s : ByteArray} (h : FoldRel W g s.data.toList n) (hn : n = s.size) :
    (convert 74 9 (.slice (some ⟨g, 0, none⟩) n cap)).run Try.prog W = .ok (.string (foldS s)) W := by
  have e : n = (lowL s.data.toList).length := by rw [lowL, List.length_map, ← Lib.size_eq, hn]
  rw [e]
  refine run_convert_bytes_back W _ _ 5 ⟨g, 0, none⟩ cap (lowL s.data.toList) Try.underlying74 Try.underlying5 Try.underlying9 (fun j hj => ?_)
  have hj' : j < s.data.toList.length := by simpa [lowL] using hj
  rw [show ((⟨g, 0, none⟩ : Addr).add j) = ⟨g, j, none⟩ from by unfold Addr.add; split <;> simp_all, (h j hj').1, if_pos (by rw [Lib.size_eq] at hn; omega)]
  have hd : s.data.toList.getD j 0 = s.data.toList[j] := by rw [List.getD_eq_getElem?_getD, List.getElem?_eq_getElem hj']; rfl
  rw [hd]
  simp only [lowL, List.getElem_map]

theorem bytesWorld_below (w : World) (e : TypeId) (s : ByteArray) : Below w.heap.size w (Lib.bytesWorld w e s) :=
  ⟨rfl, rfl, rfl, by rw [Lib.bytesWorld_size]; omega, fun i hi => Lib.bytesWorld_at_old w e s i hi⟩

set_option maxHeartbeats 1000000 in
theorem fold_any (s : ByteArray) (w : World) (hs : s.size ≤ 140737488351232) :
    Calls Try.prog 103 #[.string s] w fun e w' => e = .returned (.string (foldS s)) ∧ Below w.heap.size w w' := by
  obtain ⟨r, hr⟩ : ∃ r, r = foldS s := ⟨_, rfl⟩
  rw [← hr]
  have R := Lib.hid hr; clear hr
  have hcv0 := Lib.run_convert_string_bytes (P := Try.prog) w 9 74 5 s Try.underlying9 Try.underlying74 Try.underlying5
  have hF := Lib.hid (foldRel_start w 5 s)
  have hB0 := bytesWorld_below w 5 s
  generalize Lib.bytesWorld w 5 s = W1 at *
  generalize grownCap w s.size 0 5 = cap at *
  generalize hg : w.heap.size = g at *
  have G := Lib.hid hg; clear hg
  go_enter Try.func103, Try.ntmps103
  go_wp2_with fail
  go_loopw [10] (fun i wr => ∃ k : Nat, k ≤ s.size ∧ i = .int .i64 k ∧ Hid (FoldRel wr g s.data.toList k) ∧ Below g w wr) (fun i _ => s.size - (intOf i).toNat)
  case atStart => exact ⟨0, Nat.zero_le _, rfl, hF, hB0⟩
  case round =>
    rename_i wr _
    obtain ⟨k, hk, rfl, hR, hB⟩ := hrel
    by_cases hlt : k < s.size
    · have hkl : k < s.data.toList.length := by rw [← Lib.size_eq]; exact hlt
      obtain ⟨hc, hfz⟩ := hR.out k hkl
      rw [if_neg (Nat.lt_irrefl k)] at hc
      have hS := Lib.hid (foldRel_step hR.out hkl)
      clear hkl
      generalize s.data.toList.getD k 0 = x at *
      go_wp2_with fail
      refine (lower_any x _).mono ?_
      rintro e w' ⟨rfl, rfl⟩
      go_wp2_with fail
      go_roundw
      case rel => exact ⟨k + 1, by omega, by go_num, hS, hB.setCell (Nat.le_refl _) _⟩
      case measure => simp [intOf]; omega
    · have e : k = s.size := by omega
      have hE := foldRel_end (cap := cap) hR.out e
      rw [← R.out, e] at hE
      clear e
      go_wp2_with fail
      go_ret
      exact ⟨rfl, hB⟩

/-- What one append leaves of the loop's relation. -/
theorem ref_step {wr w1 w : World} {g k : Nat} {u v' : Value} {o : Obj} {l : List UInt8} {x : UInt8} {z : Int} (hO : wr.ownsRow g 5 1 u k (byteCells (lowL (l.take k)))) (hB : Below g w wr) (hg : w.heap.size = g) (hk : k < l.length) (hx : l.getD k 0 = x) (hz : ((lowB x).toNat : Int) = z)
    (hown : w1.ownsRow g 5 1 v' (k + 1) (byteCells (lowL (l.take k)) ++ [.int .u8 z])) (hgrow : (wr.alloc o).grownBy w1 u.ownBlock) :
    w1.ownsRow g 5 1 v' (k + 1) (byteCells (lowL (l.take (k + 1)))) ∧ Below g w w1 := by
  refine ⟨?_, ?_⟩
  · rw [take_snoc hk, hx]
    simpa [byteCells, lowL, ← hz] using hown
  · have hle : g ≤ wr.heap.size := by have := hB.size; omega
    exact (hB.alloc hle o).grown hgrow (by have := (Below.refl 0 wr).alloc (Nat.zero_le _) o; have := this.size; omega) (fun b hb => (hO.lt b hb).1)

set_option maxHeartbeats 1000000 in
theorem refFold_any (s : ByteArray) (w : World) (hs : s.size ≤ 140737488351232) :
    Calls Try.prog 111 #[.string s] w fun e w' => e = .returned (.string (foldS s)) ∧ Below w.heap.size w w' := by
  obtain ⟨r, hr⟩ : ∃ r, r = foldS s := ⟨_, rfl⟩
  rw [← hr]
  have R := Lib.hid hr; clear hr
  obtain ⟨i0, hi, hz0, hz1, hz2⟩ := info_parts info5
  have HI := Lib.hid hi; clear hi
  have HZ0 := Lib.hid hz0; clear hz0
  have HZ1 := Lib.hid hz1; clear hz1
  have HZ2 := Lib.hid hz2; clear hz2
  generalize hg : w.heap.size = g at *
  have G := Lib.hid hg; clear hg
  go_enter Try.func111, Try.ntmps111
  go_wp2_with fail
  go_loopw [3, 4] (fun v i wr => ∃ k : Nat, k ≤ s.size ∧ i = .int .i64 k ∧ Hid (wr.ownsRow g 5 1 v k (byteCells (lowL (s.data.toList.take k)))) ∧ Below g w wr) (fun _ i _ => s.size - (intOf i).toNat)
  case atStart => exact ⟨0, Nat.zero_le _, rfl, World.ownsRow_nil _ _ _ _, Below.refl _ _⟩
  case round =>
    rename_i wr _
    obtain ⟨k, hk, rfl, hO, hB⟩ := hrel
    by_cases hlt : k < s.size
    · have hkl : k < s.data.toList.length := by rw [← Lib.size_eq]; exact hlt
      have hx0 := getD_byte hlt
      generalize hx1 : s.data.toList.getD k 0 = x at hx0
      have hx : s[k]'hlt = x := hx0.symm
      have HX := Lib.hid hx1
      clear hx0 hx1
      by_cases hup : 65 ≤ x.toNat ∧ x.toNat ≤ 90
      · have hz := Lib.hid (lowB_up hup.1 hup.2)
        have hq := Lib.hid (inB_true hup)
        have hle : x.toNat + 32 < 256 := by omega
        clear hup
        go_wp2_with fail
        refine (in_is x 65 90 true hq _).mono ?_
        rintro e w' ⟨rfl, rfl⟩
        go_wp2_with (at_builtin; refine wpList_append_own _ rfl _ _ 74 rfl g 5 i0 (.int .u8 0) 1 1 Try.underlying74 HI.out HZ0.out HZ1.out HZ2.out rfl (by decide) _ _ _ rfl (hO.out.alloc _) ⟨wr.heap.size, 0, none⟩ 1 1 [.int .u8 ((x.toNat : Int) + 32)] rfl rfl ?c1 ?c2 ?c3 ?c4 ?c5 ?_)
        case c1 =>
          intro j u hj
          match j, hj with
          | 0, hj => simp at hj; subst hj; simp [Addr.add]
        case c2 => intro u hu; simp at hu; subst hu; rfl
        case c3 => unfold maxLen; omega
        case c4 => omega
        case c5 => have := hB.size; have := G.out; simp; omega
        intro v' w1 hown hgrow _
        have RS := ref_step (z := (x.toNat : Int) + 32) hO.out hB G.out hkl HX.out (by rw [hz.out]; omega) hown hgrow
        have R1 := Lib.hid RS.1
        have R2 := RS.2
        clear RS hown hgrow hkl hO hB
        go_wp2_with fail
        go_roundw
        case rel => exact ⟨k + 1, by omega, by go_num, R1, R2⟩
        case measure => simp [intOf]; omega
      · have hz := Lib.hid (lowB_no hup)
        have hq := Lib.hid (inB_false hup)
        clear hup
        go_wp2_with fail
        refine (in_is x 65 90 false hq _).mono ?_
        rintro e w' ⟨rfl, rfl⟩
        go_wp2_with (at_builtin; refine wpList_append_own _ rfl _ _ 74 rfl g 5 i0 (.int .u8 0) 1 1 Try.underlying74 HI.out HZ0.out HZ1.out HZ2.out rfl (by decide) _ _ _ rfl (hO.out.alloc _) ⟨wr.heap.size, 0, none⟩ 1 1 [.int .u8 (x.toNat : Int)] rfl rfl ?c1 ?c2 ?c3 ?c4 ?c5 ?_)
        case c1 =>
          intro j u hj
          match j, hj with
          | 0, hj => simp at hj; subst hj; simp [Addr.add]
        case c2 => intro u hu; simp at hu; subst hu; rfl
        case c3 => unfold maxLen; omega
        case c4 => omega
        case c5 => have := hB.size; have := G.out; simp; omega
        intro v' w1 hown hgrow _
        have RS := ref_step (z := (x.toNat : Int)) hO.out hB G.out hkl HX.out (by rw [hz.out]) hown hgrow
        have R1 := Lib.hid RS.1
        have R2 := RS.2
        clear RS hown hgrow hkl hO hB
        go_wp2_with fail
        go_roundw
        case rel => exact ⟨k + 1, by omega, by go_num, R1, R2⟩
        case measure => simp [intOf]; omega
    · have e : k = s.size := by omega
      have hE := convert_own hO.out
      rw [e, List.take_of_length_le (by rw [← Lib.size_eq]; exact Nat.le_refl _)] at hE
      rw [show mk (lowL s.data.toList) = r from R.out.symm] at hE
      clear e
      go_wp2_with fail
      go_ret
      exact ⟨rfl, hB⟩
end Go.Proofs.Ytpmmjmnleoicjaa
