/- The contract of the law's own Spoil: all that stands in a record's lists, memory of the call's own, is written over. No condition. -/
import Derived.Test.YtnpdhfjglfpjcaaProg
import Derived.Test.YtnpdhfjglfpjcaaRecAt
import Derived.Test.YtnpdhfjglfpjcaaRecCopied
import Derived.WalkKit
import Derived.Lib.Hide
import Derived.Outline
import Derived.IntWalk
import Derived.WalkSpells
import Derived.WalkLawsBesides
import Derived.Deep.Heap
namespace Go.Proofs.Ytnpdhfjglfpjcaa
open Go.RowKit Bytes Strs Nums NameMath RecMath

/-- n cells that may be written, in a block from base on, and below top. -/
def WrS (w : World) (base top : Nat) (A : Option Addr) (n : Nat) : Prop :=
  0 < n → ∃ b, A = some ⟨b, 0, none⟩ ∧ base ≤ b ∧ b < top ∧ ∀ k, k < n → (∃ u, w.cell? ⟨b, k, none⟩ = some u) ∧ w.frozen? ⟨b, k, none⟩ = false
theorem wrs_of {w : World} {base n c : Nat} {e : TypeId} {A : Option Addr} {xs : List Value} (h : w.ownsRow base e 1 (.slice A n c) n xs) : WrS w base w.heap.size A n := fun hn => by
  rcases own_look h with ⟨_, h0⟩ | ⟨b, cap, hv, hb, hl, _, hfz, hc⟩
  · omega
  · injection hv with hv
    refine ⟨b, hv, hb, hl, fun k hk => ⟨?_, hfz k⟩⟩
    have hx : k < xs.length := by have := h.1; omega
    exact ⟨_, hc k _ (List.getElem?_eq_getElem hx)⟩
theorem wrs_set {w : World} {base top n : Nat} {A : Option Addr} (h : WrS w base top A n) (p : Addr) (u : Value) : WrS (w.setCell p u) base top A n := fun hn => by
  obtain ⟨b, hA, hb, hl, hc⟩ := h hn
  refine ⟨b, hA, hb, hl, fun k hk => ?_⟩
  obtain ⟨⟨u0, h0⟩, hf⟩ := hc k hk
  refine ⟨?_, by simpa using hf⟩
  by_cases e : p = ⟨b, k, none⟩
  · subst e
    exact ⟨u, World.cell?_setCell_same _ _ _ h0⟩
  · exact ⟨u0, by rw [World.cell?_setCell_other _ _ _ _ e]; exact h0⟩
theorem wrs_alloc {w : World} {base top n : Nat} {A : Option Addr} (h : WrS w base top A n) (ht : top ≤ w.heap.size) (o : Obj) : WrS (w.alloc o) base top A n := fun hn => by
  obtain ⟨b, hA, hb, hl, hc⟩ := h hn
  refine ⟨b, hA, hb, hl, fun k hk => ?_⟩
  obtain ⟨⟨u0, h0⟩, hf⟩ := hc k hk
  have e : (w.alloc o).heap[b]? = w.heap[b]? := heap_alloc_old w o (by omega)
  exact ⟨⟨u0, by rw [World.cell?_of_block (w := w) e]; exact h0⟩, by rw [World.frozen?_of_block (w := w) e]; exact hf⟩
def SpInv (w : World) (base g : Nat) (vals : Array Value) (A1 A2 A3 : Option Addr) (n1 n2 n3 : Nat) (wr : World) : Prop :=
  WrS wr base g A1 n1 ∧ WrS wr base g A2 n2 ∧ WrS wr base g A3 n3 ∧ wr.heap[g]? = some (.cells vals 27 (0, 0)) ∧ Below base w wr
theorem spInv_set {w wr : World} {base g b k : Nat} {vals : Array Value} {A1 A2 A3 : Option Addr} {n1 n2 n3 : Nat} (h : SpInv w base g vals A1 A2 A3 n1 n2 n3 wr) (hb : base ≤ b) (hg : b < g) (u : Value) : SpInv w base g vals A1 A2 A3 n1 n2 n3 (wr.setCell ⟨b, k, none⟩ u) := by
  obtain ⟨h1, h2, h3, h4, h5⟩ := h
  refine ⟨wrs_set h1 _ _, wrs_set h2 _ _, wrs_set h3 _ _, ?_, h5.setCell (p := ⟨b, k, none⟩) hb u⟩
  rw [Go.Deep.blk_setCell_other _ _ _ _ (by show g ≠ b; omega)]
  exact h4

set_option maxHeartbeats 4000000 in
set_option maxRecDepth 100000 in
theorem spoil_is (x : ByteArray) (k l t : Nat) (A1 : Option Addr) (n1 c1 : Nat) (A2 : Option Addr) (n2 c2 : Nat) (A3 : Option Addr) (n3 c3 : Nat) (base : Nat) (x1 x2 x3 : List Value) (w : World) (h1 : w.ownsRow base 9 1 (.slice A1 n1 c1) n1 x1) (h2 : w.ownsRow base 23 1 (.slice A2 n2 c2) n2 x2) (h3 : w.ownsRow base 9 1 (.slice A3 n3 c3) n3 x3) (hm1 : n1 ≤ 1000000) (hm2 : n2 ≤ 1000000) (hm3 : n3 ≤ 1000000) (hb : base ≤ w.heap.size) :
    Calls Try.prog 19 #[.agg #[.string x, .int .u16 k, .int .u16 l, .int .u32 t, .slice A1 n1 c1, .slice A2 n2 c2, .slice A3 n3 c3]] w fun e w' => e = .returned (.tuple #[]) ∧ Below base w w' := by
  have hI : SpInv w base w.heap.size #[.string x, .int .u16 k, .int .u16 l, .int .u32 t, .slice A1 n1 c1, .slice A2 n2 c2, .slice A3 n3 c3] A1 A2 A3 n1 n2 n3 (w.alloc (.cells #[.string x, .int .u16 k, .int .u16 l, .int .u32 t, .slice A1 n1 c1, .slice A2 n2 c2, .slice A3 n3 c3] 27)) :=
    ⟨wrs_alloc (wrs_of h1) (Nat.le_refl _) _, wrs_alloc (wrs_of h2) (Nat.le_refl _) _, wrs_alloc (wrs_of h3) (Nat.le_refl _) _, heap_alloc_new w _, (Below.refl base w).alloc hb _⟩
  have HI := Lib.hid hI
  clear hI h1 h2 h3
  go_enter Try.func19, Try.ntmps19
  go_wp2_with fail
  generalize w.alloc (.cells #[.string x, .int .u16 k, .int .u16 l, .int .u32 t, .slice A1 n1 c1, .slice A2 n2 c2, .slice A3 n3 c3] 27) = wb at *
  generalize w.heap.size = g at *
  go_loopw [2] (fun i wr => ∃ j : Nat, j ≤ n1 ∧ i = .int .i64 j ∧ Hid (SpInv w base g #[.string x, .int .u16 k, .int .u16 l, .int .u32 t, .slice A1 n1 c1, .slice A2 n2 c2, .slice A3 n3 c3] A1 A2 A3 n1 n2 n3 wr)) (fun i _ => n1 - (intOf i).toNat)
  case atStart => exact ⟨0, Nat.zero_le _, rfl, HI⟩
  case round =>
    obtain ⟨j, hj, rfl, hI⟩ := hrel
    have hblk := hI.out.2.2.2.1
    have p4 : wr.cell? ⟨g, 4, none⟩ = some (.slice A1 n1 c1) := by rw [Lib.cell_of_heap hblk]; rfl
    have p5 : wr.cell? ⟨g, 5, none⟩ = some (.slice A2 n2 c2) := by rw [Lib.cell_of_heap hblk]; rfl
    have p6 : wr.cell? ⟨g, 6, none⟩ = some (.slice A3 n3 c3) := by rw [Lib.cell_of_heap hblk]; rfl
    clear hblk
    by_cases hlt : j < n1
    · obtain ⟨bb, hA, hbb, hbg, hcs⟩ := hI.out.1 (by omega)
      obtain ⟨⟨u0, hu0⟩, hfz⟩ := hcs j hlt
      subst hA
      have HN := Lib.hid (spInv_set (k := j) hI.out hbb hbg (.string ⟨#[63]⟩))
      have hji : (j : Int) < n1 := by omega
      clear hcs hI
      go_wp2_with fail
      go_roundw
      case rel => exact ⟨j + 1, by omega, by go_num, HN⟩
      case measure => simp [intOf]; omega
    · go_wp2_with fail
      go_loopw [3] (fun i wr => ∃ j : Nat, j ≤ n2 ∧ i = .int .i64 j ∧ Hid (SpInv w base g #[.string x, .int .u16 k, .int .u16 l, .int .u32 t, .slice A1 n1 c1, .slice A2 n2 c2, .slice A3 n3 c3] A1 A2 A3 n1 n2 n3 wr)) (fun i _ => n2 - (intOf i).toNat)
      case atStart => exact ⟨0, Nat.zero_le _, rfl, hI⟩
      case round =>
        obtain ⟨j, hj, rfl, hI⟩ := hrel
        have hblk := hI.out.2.2.2.1
        have p4 : wr.cell? ⟨g, 4, none⟩ = some (.slice A1 n1 c1) := by rw [Lib.cell_of_heap hblk]; rfl
        have p5 : wr.cell? ⟨g, 5, none⟩ = some (.slice A2 n2 c2) := by rw [Lib.cell_of_heap hblk]; rfl
        have p6 : wr.cell? ⟨g, 6, none⟩ = some (.slice A3 n3 c3) := by rw [Lib.cell_of_heap hblk]; rfl
        clear hblk
        by_cases hlt : j < n2
        · obtain ⟨bb, hA, hbb, hbg, hcs⟩ := hI.out.2.1 (by omega)
          obtain ⟨⟨u0, hu0⟩, hfz⟩ := hcs j hlt
          subst hA
          have HN := Lib.hid (spInv_set (k := j) hI.out hbb hbg (.int .u32 77))
          have hji : (j : Int) < n2 := by omega
          clear hcs hI
          go_wp2_with fail
          go_roundw
          case rel => exact ⟨j + 1, by omega, by go_num, HN⟩
          case measure => simp [intOf]; omega
        · go_wp2_with fail
          go_loopw [4] (fun i wr => ∃ j : Nat, j ≤ n3 ∧ i = .int .i64 j ∧ Hid (SpInv w base g #[.string x, .int .u16 k, .int .u16 l, .int .u32 t, .slice A1 n1 c1, .slice A2 n2 c2, .slice A3 n3 c3] A1 A2 A3 n1 n2 n3 wr)) (fun i _ => n3 - (intOf i).toNat)
          case atStart => exact ⟨0, Nat.zero_le _, rfl, hI⟩
          case round =>
            obtain ⟨j, hj, rfl, hI⟩ := hrel
            have hblk := hI.out.2.2.2.1
            have p4 : wr.cell? ⟨g, 4, none⟩ = some (.slice A1 n1 c1) := by rw [Lib.cell_of_heap hblk]; rfl
            have p5 : wr.cell? ⟨g, 5, none⟩ = some (.slice A2 n2 c2) := by rw [Lib.cell_of_heap hblk]; rfl
            have p6 : wr.cell? ⟨g, 6, none⟩ = some (.slice A3 n3 c3) := by rw [Lib.cell_of_heap hblk]; rfl
            clear hblk
            by_cases hlt : j < n3
            · obtain ⟨bb, hA, hbb, hbg, hcs⟩ := hI.out.2.2.1 (by omega)
              obtain ⟨⟨u0, hu0⟩, hfz⟩ := hcs j hlt
              subst hA
              have HN := Lib.hid (spInv_set (k := j) hI.out hbb hbg (.string ⟨#[63]⟩))
              have hji : (j : Int) < n3 := by omega
              clear hcs hI
              go_wp2_with fail
              go_roundw
              case rel => exact ⟨j + 1, by omega, by go_num, HN⟩
              case measure => simp [intOf]; omega
            · go_wp2_with fail
              go_end0
              exact ⟨rfl, hI.out.2.2.2.2⟩
end Go.Proofs.Ytnpdhfjglfpjcaa
