/- The contract of the document's Make. For at most 10^6 labels. -/
import Derived.Test.YtepbpaaielfpnaaProg
import Derived.Test.YtepbpaaielfpnaaBytes
import Derived.Test.YtepbpaaielfpnaaStrs
import Derived.Test.YtepbpaaielfpnaaNameMath
import Derived.Test.YtepbpaaielfpnaaNameSpell
import Derived.Test.YtepbpaaielfpnaaNameMake
import Derived.WalkKit
import Derived.Lib.Hide
import Derived.Outline
import Derived.IntWalk
import Derived.WalkSpells
import Derived.WalkLawsBesides
import Derived.RegionTactic
import Derived.Deep.RegionHeld3
import Derived.Deep.DeepCutAuto
import Derived.Deep.Draws
namespace Go.Proofs.Ytepbpaaielfpnaa
open Go.RowKit Bytes Strs NameMath

theorem cell_drew_alloc {w : World} {a : Addr} {n : Nat} {o : Obj} {v : Value} (hc : w.cell? a = some v) (hb : a.block < w.heap.size) : ((w.drewN n).alloc o).cell? a = some v := (World.cell?_alloc_lt _ o a hb).trans hc

set_option maxHeartbeats 4000000 in
set_option maxRecDepth 100000 in
theorem refMake_any (A : Option Addr) (c : Nat) (L : List (List UInt8)) (w : World) (hr : RdS w w.heap.size A L) (hn : L.length ≤ 1000000) :
    Calls Try.prog 11 #[.slice A L.length c] w fun e w' => e = .returned (.tuple #[.string (mk (makeL L)), .int .i64 (makeE L)]) ∧ Below w.heap.size w w' := by
  obtain ⟨r, hrr⟩ : ∃ r, r = mk (makeL L) := ⟨_, rfl⟩
  obtain ⟨E, hE⟩ : ∃ E, E = makeE L := ⟨_, rfl⟩
  rw [← hrr, ← hE]
  have R := Lib.hid hrr; clear hrr
  have HE := Lib.hid hE; clear hE
  have HR := Lib.hid hr; clear hr
  obtain ⟨n, hn0⟩ : ∃ n, n = L.length := ⟨_, rfl⟩
  rw [← hn0] at hn ⊢
  have HN := Lib.hid hn0; clear hn0
  generalize hg : w.heap.size = g at *
  have G := Lib.hid hg; clear hg
  go_enter Try.func11, Try.ntmps11
  go_wp2_with fail
  go_loop [4] (fun i => ∃ k : Nat, k ≤ n ∧ i = .int .i64 k ∧ Hid ((L.take k).all okLab = true)) (fun i => n - (intOf i).toNat)
  case atStart => exact ⟨0, Nat.zero_le _, rfl, Lib.hid rfl⟩
  case round =>
    obtain ⟨k, hk, rfl, hA⟩ := hrel
    by_cases hlt : k < n
    · have hkl : k < L.length := by rw [← HN.out]; exact hlt
      obtain ⟨a, rfl, hab, hcell⟩ := HR.out.get hkl
      have hsz := mk_size (L.getD k [])
      generalize hl : L.getD k [] = l at *
      generalize mk l = x at *
      by_cases hok : 1 ≤ l.length ∧ l.length ≤ 63
      · have hA2 : Hid ((L.take (k + 1)).all okLab = true) := all_take hA.out hkl (by rw [hl]; exact okLab_iff.2 hok)
        have h1 : ¬ (x.size : Int) < 1 := by omega
        have h2 : ¬ (63 : Int) < x.size := by omega
        clear hl hkl hsz hok hA
        go_wp2_with fail
        go_round
        case rel => exact ⟨k + 1, by omega, by go_num, hA2⟩
        case measure => simp [intOf]; omega
      · have hno : L.all okLab = false := all_no hkl (by rw [hl]; exact okLab_no hok)
        have e41 := makeE_41 hno
        obtain rfl : E = 41 := HE.out.trans e41
        obtain rfl : r = ⟨#[]⟩ := R.out.trans (by rw [makeL_no (by rw [e41]; decide)]; rfl)
        by_cases h0 : l.length = 0
        · have h1 : (x.size : Int) < 1 := by omega
          clear hl hkl hsz hok hA hno e41 h0
          go_wp2_with fail
          go_ret2
          exact ⟨rfl, Below.refl _ _⟩
        · have h1 : ¬ (x.size : Int) < 1 := by omega
          have h2 : (63 : Int) < x.size := by omega
          clear hl hkl hsz hok hA hno e41 h0
          go_wp2_with fail
          go_ret2
          exact ⟨rfl, Below.refl _ _⟩
    · have hA1 := hA.out
      rw [List.take_of_length_le (by rw [← HN.out]; omega)] at hA1
      have HA1 := Lib.hid hA1
      clear hA hA1
      go_wp2_with fail
      go_loopw [5, 6] (fun b i wr => ∃ (k : Nat) (s : ByteArray), k ≤ n ∧ i = .int .i64 k ∧ b = .string s ∧ s.size ≤ 254 ∧ Hid (s = mk (wire (L.take k))) ∧ Below g w wr) (fun _ i _ => n - (intOf i).toNat)
      case atStart => exact ⟨0, ⟨#[]⟩, Nat.zero_le _, rfl, rfl, by decide, Lib.hid rfl, Below.refl _ _⟩
      case round =>
        obtain ⟨k, s, hk, rfl, rfl, hs, hS, hB⟩ := hrel
        by_cases hlt : k < n
        · have hkl : k < L.length := by rw [← HN.out]; exact hlt
          obtain ⟨a, rfl, hab, hcell0⟩ := (HR.out.on hB (Nat.le_refl _)).get hkl
          have hwt := wire_take_snoc hkl
          have hle := wire_take_le L (k + 1)
          have hok := okLab_iff.1 (List.all_eq_true.1 HA1.out (L.getD k []) (by rw [List.getD_eq_getElem?_getD, List.getElem?_eq_getElem hkl]; exact List.getElem_mem hkl))
          have hsz := mk_size (L.getD k [])
          have hof := ofNat_len (okLab_iff.2 hok)
          generalize L.getD k [] = l at *
          have hcat : mk (wire (L.take (k + 1))) = s ++ mk [UInt8.ofNat l.length] ++ mk l := by
            rw [hS.out, hwt, mk_cat, mk_cat, List.append_assoc]
            rfl
          generalize mk l = x at *
          generalize UInt8.ofNat l.length = y at *
          have hcell := hcell0
          have h3 : x.size ≤ 63 := by omega
          have h4 : (y.toNat : Int) = (x.size : Int) := by rw [hof, hsz]
          have hc2 : (convert 41 9 (.slice (some ⟨wr.heap.size, 0, none⟩) 1 1)).run Try.prog (wr.alloc (.cells #[.int .u8 (x.size : Int)] 5)).drew = .ok (.string (mk [y])) (wr.alloc (.cells #[.int .u8 (x.size : Int)] 5)).drew := conv_new wr.drew [y] #[.int .u8 (x.size : Int)] 1 (by rw [← h4]; rfl) rfl
          have hblk : a.block < wr.heap.size := by have := hB.size; have := G.out; omega
          have hcd : (wr.alloc (.cells #[.int .u8 (x.size : Int)] 5)).cell? (a.add k) = some (.string x) := (World.cell?_alloc_lt _ _ (a.add k) (by rw [add_block]; exact hblk)).trans hcell
          have hysz := mk_size [y]
          generalize hy : mk [y] = q at *
          have HC := Lib.hid hcat
          have HWT := Lib.hid hwt
          have hq1 : q.size ≤ 1 := Nat.le_of_eq hysz
          have hzs : (s ++ q ++ x).size ≤ 320 := by
            rw [ByteArray.size_append, ByteArray.size_append]
            omega
          have HZL := Lib.hid (show (wire (L.take (k + 1))).length = (s ++ q ++ x).size by rw [← hcat, mk_size])
          clear hwt hsz hof hok hcell0 h4 hysz hcat
          have HLE := Lib.hid hle
          clear hle
          go_wp2_with fail
          go_region
          have hBd : Below g w (wr.alloc (.cells #[.int .u8 (x.size : Int)] 5)).drew := (hB.alloc (by have := hB.size; have := G.out; omega) _).drew
          clear hcd hc2 hB
          generalize s ++ q ++ x = z at *
          generalize (wr.alloc (.cells #[.int .u8 (x.size : Int)] 5)).drew = w1 at *
          by_cases hbig : (254 : Int) < z.size
          · have e40 := makeE_40 HA1.out (by rw [nameL_len]; have := HZL.out; have := HLE.out; omega)
            obtain rfl : E = 40 := HE.out.trans e40
            obtain rfl : r = ⟨#[]⟩ := R.out.trans (by rw [makeL_no (by rw [e40]; decide)]; rfl)
            clear e40
            go_wp2_with fail
            go_ret2
            exact ⟨rfl, hBd⟩
          · have hz2 : z.size ≤ 254 := by omega
            go_wp2_with fail
            go_roundw
            case rel => exact ⟨k + 1, z, by omega, by go_num, rfl, hz2, Lib.hid HC.out.symm, hBd⟩
            case measure => simp [intOf]; omega
        · have hkn2 : L.length ≤ k := by rw [← HN.out]; omega
          have hS1 := hS.out
          rw [wire_take_all hkn2] at hS1
          have hwl : (wire L).length ≤ 254 := by rw [hS1, mk_size] at hs; exact hs
          have e0 := makeE_0 HA1.out (by rw [nameL_len]; omega)
          obtain rfl : E = 0 := HE.out.trans e0
          have hr2 : r = s ++ ⟨#[0]⟩ := R.out.trans (by rw [makeL_ok e0, hS1]; unfold nameL; rw [← mk_cat]; rfl)
          have HR2 := Lib.hid hr2
          have hs00 : (⟨#[0]⟩ : ByteArray).size ≤ 1 := Nat.le_refl _
          clear hr2 R e0 hS1 hS hwl
          go_wp2_with fail
          go_ret2
          exact ⟨by rw [HR2.out]; rfl, hB⟩
end Go.Proofs.Ytepbpaaielfpnaa
