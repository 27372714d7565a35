/- The contracts of name's Make and of the document's Make. For at most 10^6 labels. -/
import Derived.Test.YtepbpaaielfpnaaProg
import Derived.Test.YtepbpaaielfpnaaBytes
import Derived.Test.YtepbpaaielfpnaaStrs
import Derived.Test.YtepbpaaielfpnaaNameMath
import Derived.WalkKit
import Derived.Lib.Hide
import Derived.Laws.MakeOwn
import Derived.Lib.AppendStr
import Derived.Outline
import Derived.IntWalk
import Derived.WalkSpells
import Derived.WalkLawsBesides
namespace Go.Proofs.Ytepbpaaielfpnaa
open Go.RowKit Bytes Strs NameMath

theorem strCells_of (s : ByteArray) : Lib.strCells s = byteCells s.data.toList := by
  unfold byteCells
  simp [Lib.strCells]
/-- Behind k labels, all of them right: the size. -/
theorem size_take {L : List (List UInt8)} {k : Nat} (hk : k < L.length) : (nameL (L.take (k + 1))).length = (nameL (L.take k)).length + (1 + (L.getD k []).length) := by
  rw [nameL_len, nameL_len, lab_take hk, wire_len_snoc]; omega
theorem size_le {L : List (List UInt8)} (h : L.all okLab = true) : (nameL L).length ≤ 64 * L.length + 1 := by
  induction L with
  | nil => exact Nat.le_refl _
  | cons l L ih =>
    rw [List.all_cons, Bool.and_eq_true] at h
    have hl := okLab_iff.1 h.1
    have := ih h.2
    rw [nameL_len] at this ⊢
    simp only [wire, List.length_cons, List.length_append]
    omega
theorem mk_empty (l : List UInt8) : (mk l).toList.isEmpty = decide (l.length = 0) := by
  rw [Lib.toList_data, mk_list]
  cases l <;> rfl

set_option maxHeartbeats 4000000 in
set_option maxRecDepth 100000 in
theorem make_any (A : Option Addr) (c : Nat) (L : List (List UInt8)) (w : World) (hr : RdS w w.heap.size A L) (hn : L.length ≤ 1000000) :
    Calls Try.prog 10 #[.slice A L.length c] w fun e w' => e = .returned (.tuple #[.string (mk (makeL L)), .int .i64 (makeE L)]) ∧ Below w.heap.size w w' := by
  obtain ⟨r, hrr⟩ : ∃ r, r = mk (makeL L) := ⟨_, rfl⟩
  obtain ⟨E, hE⟩ : ∃ E, E = makeE L := ⟨_, rfl⟩
  rw [← hrr, ← hE]
  have R := Lib.hid hrr; clear hrr
  have HE := Lib.hid hE; clear hE
  have HR := Lib.hid hr; clear hr
  obtain ⟨i0, hi, hz0, hz1, hz2⟩ := info_parts info5
  have HI := Lib.hid hi; clear hi
  have HZ0 := Lib.hid hz0; clear hz0
  have HZ1 := Lib.hid hz1; clear hz1
  have HZ2 := Lib.hid hz2; clear hz2
  obtain ⟨n, hn0⟩ : ∃ n, n = L.length := ⟨_, rfl⟩
  rw [← hn0] at hn ⊢
  have HN := Lib.hid hn0; clear hn0
  generalize hg : w.heap.size = g at *
  have G := Lib.hid hg; clear hg
  go_enter Try.func10, Try.ntmps10
  go_wp2_with fail
  go_loop [4, 12] (fun z i => ∃ k m : Nat, k ≤ n ∧ i = .int .i64 k ∧ z = .int .i64 m ∧ m ≤ 64 * k + 1 ∧ Hid ((L.take k).all okLab = true ∧ m = (nameL (L.take k)).length)) (fun _ i => n - (intOf i).toNat)
  case atStart => exact ⟨0, 1, Nat.zero_le _, rfl, rfl, by omega, Lib.hid ⟨rfl, rfl⟩⟩
  case round =>
    obtain ⟨k, m, hk, rfl, rfl, hm, hA⟩ := hrel
    by_cases hlt : k < n
    · have hkl : k < L.length := by rw [← HN.out]; exact hlt
      obtain ⟨a, rfl, hab, hcell⟩ := HR.out.get hkl
      have hsz := mk_size (L.getD k [])
      have hemp := mk_empty (L.getD k [])
      generalize hl : L.getD k [] = l at *
      generalize mk l = x at *
      have HL := Lib.hid hl
      by_cases hok : 1 ≤ l.length ∧ l.length ≤ 63
      · have hA2 : Hid ((L.take (k + 1)).all okLab = true ∧ m + (1 + x.size) = (nameL (L.take (k + 1))).length) :=
          ⟨all_take hA.out.1 hkl (by rw [hl]; exact okLab_iff.2 hok), by rw [size_take hkl, ← hA.out.2, hl, hsz]⟩
        have h1 : x.toList.isEmpty = false := by rw [hemp]; exact decide_eq_false (by omega)
        have h2 : ¬ (63 : Int) < x.size := by omega
        have h3 : x.size ≤ 63 := by omega
        clear hl hkl hsz hemp hok hA
        go_wp2_with fail
        go_round
        case rel => exact ⟨k + 1, m + (1 + x.size), by omega, by go_num, by go_num, by omega, hA2⟩
        case measure => simp [intOf]; omega
      · have hno : L.all okLab = false := all_no hkl (by rw [hl]; exact okLab_no hok)
        have e41 := makeE_41 hno
        obtain rfl : E = 41 := HE.out.trans e41
        obtain rfl : r = ⟨#[]⟩ := R.out.trans (by rw [makeL_no (by rw [e41]; decide)]; rfl)
        by_cases h0 : l.length = 0
        · have h1 : x.toList.isEmpty = true := by rw [hemp]; exact decide_eq_true h0
          clear hl hkl hsz hemp hok hA hno e41 h0
          go_wp2_with fail
          go_ret2
          exact ⟨rfl, Below.refl _ _⟩
        · have h1 : x.toList.isEmpty = false := by rw [hemp]; exact decide_eq_false h0
          have h2 : (63 : Int) < x.size := by omega
          clear hl hkl hsz hemp hok hA hno e41 h0
          go_wp2_with fail
          go_ret2
          exact ⟨rfl, Below.refl _ _⟩
    · have hkn : k = n := by omega
      have hA1 := hA.out.1
      have hA2 := hA.out.2
      rw [List.take_of_length_le (by rw [← HN.out]; omega)] at hA1 hA2
      have HA1 := Lib.hid hA1
      by_cases hbig : 255 < m
      · have e40 := makeE_40 hA1 (by omega)
        obtain rfl : E = 40 := HE.out.trans e40
        obtain rfl : r = ⟨#[]⟩ := R.out.trans (by rw [makeL_no (by rw [e40]; decide)]; rfl)
        have hbi : (255 : Int) < m := by omega
        clear hA hA1 hA2 e40 hbig
        go_wp2_with fail
        go_ret2
        exact ⟨rfl, Below.refl _ _⟩
      · have e0 := makeE_0 hA1 (by omega)
        obtain rfl : E = 0 := HE.out.trans e0
        have hr2 : r = mk (nameL L) := R.out.trans (by rw [makeL_ok e0])
        have HR2 := Lib.hid hr2
        have hbi : ¬ (255 : Int) < m := by omega
        have hlen : ∀ j, (wire (L.take j)).length ≤ 255 := fun j => by
          have := wire_take_le L j
          have e := nameL_len L
          omega
        have HLEN := Lib.hid hlen
        clear hA hA1 hA2 e0 hbig hr2 hlen R
        go_wp2_with (at_make; refine wpList_make_own _ rfl _ _ 41 rfl g 5 i0 (.int .u8 0) 1 Try.underlying41 HI.out HZ0.out HZ1.out _ _ _ m rfl rfl (by omega) ?b2 ?b3 ?b4 ?_)
        case b2 => rw [HZ2.out]; omega
        case b3 => unfold maxLen; omega
        case b4 => exact Nat.le_of_eq G.out.symm
        intro w0 hown0 hgrow0
        have hB0 : Below g w w0 := (Below.refl _ _).grown hgrow0 (Nat.le_of_eq G.out.symm) (fun k h => by cases h)
        have HO := Lib.hid hown0; clear hown0 hgrow0
        go_wp2_with fail
        go_loopw [7, 35] (fun b i wr => ∃ k : Nat, k ≤ n ∧ i = .int .i64 k ∧ Hid (wr.ownsRow g 5 1 b (wire (L.take k)).length (byteCells (wire (L.take k)))) ∧ Below g w wr) (fun _ i _ => n - (intOf i).toNat)
        case atStart => exact ⟨0, Nat.zero_le _, rfl, HO, hB0⟩
        case round =>
          obtain ⟨k, hk, rfl, hO, hB⟩ := hrel
          have hl1 := HLEN.out k
          by_cases hlt : k < n
          · have hkl : k < L.length := by rw [← HN.out]; exact hlt
            have hl2 := HLEN.out (k + 1)
            obtain ⟨a, rfl, hab, hcell0⟩ := (HR.out.on hB (Nat.le_refl _)).get hkl
            have hwt := wire_take_snoc hkl
            have hok := okLab_iff.1 (List.all_eq_true.1 HA1.out (L.getD k []) (by rw [List.getD_eq_getElem?_getD, List.getElem?_eq_getElem hkl]; exact List.getElem_mem hkl))
            have hsz := mk_size (L.getD k [])
            have hml := mk_list (L.getD k [])
            have hof := ofNat_len (okLab_iff.2 hok)
            rw [hwt, List.length_append, List.length_cons] at hl2
            generalize L.getD k [] = l at *
            generalize mk l = x at *
            generalize UInt8.ofNat l.length = y at *
            have hcell := hcell0
            have h3 : x.size ≤ 63 := by omega
            have h4 : 0 ≤ (x.size : Int) := by omega
            have HWT := Lib.hid hwt
            have HY := Lib.hid (show (y.toNat : Int) = (x.size : Int) by rw [hof, hsz])
            have HML := Lib.hid hml
            have hl3 : (wire (L.take k)).length + (x.size + 1) ≤ 255 := by omega
            generalize hu : (wire (L.take k)).length = u at *
            have HU := Lib.hid hu
            clear hwt hok hsz hml hof hl2 hcell0 hu
            go_wp2_with (at_builtin; refine wpList_append_own _ rfl _ _ 41 rfl g 5 i0 (.int .u8 0) 1 1 Try.underlying41 HI.out HZ0.out HZ1.out HZ2.out rfl (by decide) _ _ _ rfl (hO.out.alloc _) ⟨wr.heap.size, 0, none⟩ 1 1 [.int .u8 (x.size : Int)] rfl rfl ?c1 ?c2 ?c3 ?c4 ?c5 ?_)
            case c1 =>
              intro j u hj
              match j, hj with
              | 0, hj => simp at hj; subst hj; simp [Addr.add]
            case c2 => intro u hu; simp at hu; subst hu; rfl
            case c3 => unfold maxLen; omega
            case c4 => omega
            case c5 => have := hB.size; have := G.out; simp; omega
            intro v' w1 hown hgrow _
            have RS := own_step (x := y) hO.out hB G.out HY.out hown hgrow
            have R1 := Lib.hid RS.1
            have hB1 := RS.2
            clear RS hown hgrow hO hB
            go_wp2_with (at_builtin; refine Lib.wpList_append_own_string _ rfl _ _ 41 9 rfl g 5 i0 Try.underlying41 Try.underlying9 HI.out HZ0.out HZ1.out HZ2.out _ _ _ rfl R1.out x rfl ?d3 ?d4 ?d5 ?_)
            case d3 => unfold maxLen; omega
            case d4 => omega
            case d5 => have := hB1.size; have := G.out; omega
            intro v2 w2 hown2 hgrow2 _
            have S1 : w2.ownsRow g 5 1 v2 (u + 1 + x.size) (byteCells (wire (L.take (k + 1)))) := by
              rw [HWT.out, ← HML.out]
              have := hown2
              rw [strCells_of, ← byteCells_cat, List.append_assoc] at this
              exact this
            have S2 : Below g w w2 := hB1.grown hgrow2 (by have := hB1.size; have := G.out; omega) (fun b hb => (R1.out.lt b hb).1)
            have S3 : (wire (L.take (k + 1))).length = u + 1 + x.size := by
              have := congrArg List.length HWT.out
              rw [List.length_append, List.length_cons, ← HML.out, ← Lib.size_eq, HU.out] at this
              omega
            have HS1 := Lib.hid S1
            have HS3 := Lib.hid S3
            clear S1 S3 hown2 hgrow2 R1 hB1
            go_wp2_with fail
            go_roundw
            case rel => exact ⟨k + 1, by omega, by go_num, by rw [HS3.out]; exact HS1, S2⟩
            case measure => simp [intOf]; omega
          · have hkn2 : L.length ≤ k := by rw [← HN.out]; omega
            have hO1 := hO.out
            rw [wire_take_all hkn2] at hO1
            rw [wire_take_all hkn2] at hl1
            have HO1 := Lib.hid hO1
            clear hO hO1
            go_wp2_with (at_builtin; refine Lib.wpList_append_own_string _ rfl _ _ 41 9 rfl g 5 i0 Try.underlying41 Try.underlying9 HI.out HZ0.out HZ1.out HZ2.out _ _ _ rfl HO1.out ⟨#[0]⟩ rfl ?d3 ?d4 ?d5 ?_)
            case d3 => have : (⟨#[0]⟩ : ByteArray).size = 1 := rfl; unfold maxLen; omega
            case d4 => have : (⟨#[0]⟩ : ByteArray).size = 1 := rfl; omega
            case d5 => have := hB.size; have := G.out; omega
            intro v2 w2 hown2 hgrow2 _
            have S1 : w2.ownsRow g 5 1 v2 ((wire L).length + 1) (byteCells (nameL L)) := by
              have := hown2
              rw [strCells_of, ← byteCells_cat] at this
              exact this
            have S2 : Below g w w2 := hB.grown hgrow2 (by have := hB.size; have := G.out; omega) (fun b hb => (HO1.out.lt b hb).1)
            have hE := convert_own S1
            rw [← HR2.out] at hE
            clear S1 hown2 hgrow2 HO1 hB
            go_wp2_with fail
            go_ret2
            exact ⟨rfl, S2⟩
end Go.Proofs.Ytepbpaaielfpnaa
