/- The contract of rdata's copied: texts that are like these, in memory of the call's own. For lists of at most 10^5 texts of at most 10^6 bytes. -/
import Derived.Test.YtnpdhfjglfpjcaaProg
import Derived.Test.YtnpdhfjglfpjcaaSlClone
import Derived.Test.YtnpdhfjglfpjcaaClone
import Derived.WalkKit
import Derived.Lib.Hide
import Derived.Outline
import Derived.IntWalk
import Derived.WalkSpells
import Derived.WalkLawsBesides
namespace Go.Proofs.Ytnpdhfjglfpjcaa
open Go.RowKit Bytes Strs Nums

theorem setCell_same {w : World} {a : Addr} {v : Value} (h : w.cell? a = some v) : w.setCell a v = w := by
  have hh : (w.setCell a v).heap = w.heap := by
    apply Array.ext_getElem?
    intro i
    unfold World.setCell
    simp only [Array.getElem?_modify]
    by_cases hi : a.block = i
    · subst hi
      rw [if_pos rfl]
      unfold World.cell? at h
      cases hb : w.heap[a.block]? with
      | none => rfl
      | some o =>
        rw [hb] at h
        cases o with
        | cells c e fz =>
          simp only at h
          by_cases hs : a.spot.isSome = true
          · rw [if_pos hs] at h; cases h
          · rw [if_neg hs] at h
            simp only [Option.map_some, if_neg hs]
            refine congrArg (fun c => some (Obj.cells c e fz)) ?_
            apply Array.ext_getElem?
            intro j
            rw [Array.getElem?_setIfInBounds]
            by_cases hj : a.off = j
            · subst hj
              rw [if_pos rfl, h]
              have hl : a.off < c.size := by
                rcases Nat.lt_or_ge a.off c.size with hl | hl
                · exact hl
                · rw [Array.getElem?_eq_none hl] at h; cases h
              rw [if_pos hl]
            · rw [if_neg hj]
        | _ => rfl
    · rw [if_neg hi]
  have e : w.setCell a v = { w with heap := (w.setCell a v).heap } := rfl
  rw [e, hh]
/-- What a row of one's own looks like: nil, or a block that may be written. -/
theorem own_look {w : World} {base n : Nat} {e : TypeId} {v : Value} {xs : List Value} (h : w.ownsRow base e 1 v n xs) :
    (v = .slice none 0 0 ∧ n = 0) ∨ ∃ g cap, v = .slice (some ⟨g, 0, none⟩) n cap ∧ base ≤ g ∧ g < w.heap.size ∧ n ≤ cap ∧ (∀ k, w.frozen? ⟨g, k, none⟩ = false) ∧ ∀ k u, xs[k]? = some u → w.cell? ⟨g, k, none⟩ = some u := by
  rcases h.2 with ⟨hv, h0⟩ | ⟨g, cap, cur, hv, hb, hg, hcap, _⟩
  · exact Or.inl ⟨hv, h0⟩
  · refine Or.inr ⟨g, cap, hv, hb, (h.lt g (by rw [hv]; rfl)).2, hcap, fun k => Lib.frozen_of_heap hg k, fun k u hk => ?_⟩
    have := h.cells (g := g) (by rw [hv]; rfl) k u hk
    rwa [show ((⟨g, 0, none⟩ : Addr).add k) = ⟨g, k, none⟩ from by unfold Addr.add; split <;> simp_all] at this

set_option maxHeartbeats 2000000 in
theorem copied_is (A : Option Addr) (c n : Nat) (L : List (List UInt8)) (w : World) (hr : RdS w w.heap.size A L) (hn0 : Hid (L.length = n)) (hn : n ≤ 100000) (hf : A = none → c = 0) (hs : Hid (∀ j, j < L.length → (L.getD j []).length ≤ 1000000)) :
    Calls Try.prog 31 #[.slice A n c] w (RowS w n L) := by
  have HR := Lib.hid hr
  clear hr
  generalize hg : w.heap.size = g at *
  have G := Lib.hid hg
  clear hg
  go_enter Try.func31, Try.ntmps31
  go_wp2_with fail
  refine (cloneS_is A c n L _ (by rw [G.out]; exact HR.out) hn0 hn hf).mono ?_
  rintro e w1 ⟨v, rfl, hO, hB⟩
  rw [G.out] at hO hB
  have HO := Lib.hid hO
  clear hO
  go_wp2_with fail
  go_loopw [10, 4, 5] (fun i u4 u5 wr => ∃ j : Nat, j ≤ n ∧ i = .int .i64 j ∧ Hid (wr.ownsRow g 9 1 v n (strCs L)) ∧ Below g w wr) (fun i _ _ _ => n - (intOf i).toNat)
  case atStart => exact ⟨0, Nat.zero_le _, rfl, HO, hB⟩
  case round =>
    obtain ⟨j, hj, rfl, hOw, hBw⟩ := hrel
    by_cases hlt : j < n
    · have hkl : j < L.length := by rw [hn0.out]; exact hlt
      obtain ⟨ad, rfl, hab, hcell⟩ := (HR.out.on hBw (Nat.le_refl g)).get hkl
      have hy6 : (mk (L.getD j [])).size ≤ 1000000 := by rw [mk_size]; exact hs.out j hkl
      have hat := strCs_at hkl
      generalize mk (L.getD j []) = y at *
      have HAT := Lib.hid hat
      clear hkl hat
      go_wp2_with fail
      refine (clone_any y _ hy6).mono ?_
      rintro e w3 ⟨rfl, hB3⟩
      have hO3 := own_below hOw.out hB3
      have hBB := hBw.trans (hB3.mono (by have := hBw.size; have := G.out; omega))
      rcases own_look hO3 with ⟨_, h0⟩ | ⟨b, cap, rfl, hb, hbl, hcap, hfz, hcs⟩
      · omega
      · have hcell3 := hcs j _ HAT.out
        have hfz3 := hfz j
        have HSAME := Lib.hid (setCell_same hcell3)
        have HO3 := Lib.hid hO3
        have hji : (j : Int) < n := by omega
        clear hcs hfz hO3 hB3 hBw hOw hcell
        go_wp2_with fail
        rw [HSAME.out]
        go_roundw
        case rel => exact ⟨j + 1, by omega, by go_num, HO3, hBB⟩
        case measure => simp [intOf]; omega
    · go_wp2_with fail
      go_ret
      exact ⟨_, rfl, by rw [G.out]; exact hOw.out, by rw [G.out]; exact hBw⟩
end Go.Proofs.Ytnpdhfjglfpjcaa
