/- The laws' own look at answers that the document fixes for records: all stand. No condition. -/
import Derived.Test.YtnpdhfjglfpjcaaProg
import Derived.Test.YtnpdhfjglfpjcaaRecAt
import Derived.Test.YtnpdhfjglfpjcaaRecCheck
import Derived.Test.YtnpdhfjglfpjcaaRecPlain
import Derived.Test.YtnpdhfjglfpjcaaRecCopy
import Derived.Test.YtnpdhfjglfpjcaaRecSame
import Derived.WalkKit
import Derived.Lib.Hide
import Derived.Outline
import Derived.IntWalk
import Derived.WalkSpells
import Derived.WalkLawsBesides
namespace Go.Proofs.Ytnpdhfjglfpjcaa
open Go.RowKit Bytes Strs Nums NameMath RecMath

def recM : Rec := ⟨[0], 15, 0, 0, [[1, 97, 0]], [10], []⟩
def recZ : Rec := ⟨[], 0, 0, 0, [], [], []⟩
theorem isN_a : isN [1, 97, 0] = true := isN_of (L := [[97]]) (labels_name (L := [[97]]) (by decide) (by decide))
theorem isN_root : isN [0] = true := isN_of labels_root
theorem recM_check : checkE recM = 0 := by
  refine checkE_0 ?_ (by decide) (by decide)
  unfold namesB badName recM
  simp [isN_a, isN_root]
theorem recM_plain : mk (plainO recM) = ⟨#[0, 10, 1, 97, 0]⟩ := by
  rw [plainO_ok recM_check]
  rfl
theorem recM_small : Small recM := ⟨by decide, by decide, fun k hk => by
  have : k = 0 := by have : recM.names.length = 1 := rfl; omega
  subst this; decide, by decide, fun k hk => by
  have : k = 0 := by have : recM.nums.length = 1 := rfl; omega
  subst this; decide, by decide, fun k hk => absurd hk (Nat.not_lt_zero _)⟩
theorem recZ_small : Small recZ := ⟨by decide, by decide, fun k hk => absurd hk (Nat.not_lt_zero _), by decide, fun k hk => absurd hk (Nat.not_lt_zero _), by decide, fun k hk => absurd hk (Nat.not_lt_zero _)⟩
theorem recZ_at (w : World) (B : Nat) : RecAt w B recZ ⟨#[]⟩ 0 0 0 none 0 none 0 none 0 := ⟨rfl, rfl, rfl, rfl, rfl, rfl, rfl, RdS.void _ _ _, RdN.void _ _ _, RdS.void _ _ _⟩
theorem recM_at (w : World) (b1 b2 B : Nat) (h1 : w.cell? ⟨b1, 0, none⟩ = some (.string ⟨#[1, 97, 0]⟩)) (h2 : w.cell? ⟨b2, 0, none⟩ = some (.int .u32 10)) (hb1 : b1 < B) (hb2 : b2 < B) :
    RecAt w B recM ⟨#[0]⟩ 15 0 0 (some ⟨b1, 0, none⟩) 1 (some ⟨b2, 0, none⟩) 1 none 0 := by
  refine ⟨rfl, rfl, rfl, rfl, rfl, rfl, rfl, fun _ => ⟨_, rfl, hb1, fun k hk => ?_⟩, fun _ => ⟨_, rfl, hb2, fun k hk => ?_⟩, RdS.void _ _ _⟩
  · have : k = 0 := by have : recM.names.length = 1 := rfl; omega
    subst this
    exact h1
  · have : k = 0 := by have : recM.nums.length = 1 := rfl; omega
    subst this
    exact h2

theorem rec_of_own {w : World} {b : Nat} {R : Rec} {x : ByteArray} {k l t n1 n2 n3 d1 d2 d3 : Nat} {B1 B2 B3 : Option Addr} (hx : x.data.toList = R.name) (hk : R.kind = k) (hl : R.cls = l) (ht : R.ttl = t) (h1 : R.names.length = n1) (h2 : R.nums.length = n2) (h3 : R.texts.length = n3)
    (o1 : w.ownsRow b 9 1 (.slice B1 n1 d1) n1 (strCs R.names)) (o2 : w.ownsRow b 23 1 (.slice B2 n2 d2) n2 (numCs R.nums)) (o3 : w.ownsRow b 9 1 (.slice B3 n3 d3) n3 (strCs R.texts)) : RecAt w w.heap.size R x k l t B1 n1 B2 n2 B3 n3 := by
  refine ⟨hx, hk, hl, ht, h1, h2, h3, ?_, ?_, ?_⟩
  · obtain ⟨A, c, e, _, hr, _⟩ := own_rds o1 h1.symm
    injection e with e; rw [e]; exact hr
  · obtain ⟨A, c, e, _, hr, _⟩ := own_rdn o2 h2.symm
    injection e with e; rw [e]; exact hr
  · obtain ⟨A, c, e, _, hr, _⟩ := own_rds o3 h3.symm
    injection e with e; rw [e]; exact hr

set_option maxHeartbeats 8000000 in
set_option maxRecDepth 100000 in
theorem awake_any (w : World) : Calls Try.prog 7 #[] w fun e w' => e = .returned (.bool true) ∧ Below w.heap.size w w' := by
  have hM := Lib.hid recM_check
  have hP := Lib.hid recM_plain
  have hS := Lib.hid recM_small
  have hZ := Lib.hid recZ_small
  have hQ1 : Hid (sameB recM recM = true) := by show _ = _; decide
  have hQ2 : Hid (sameB recM recZ = false) := by show _ = _; decide
  go_enter Try.func7, Try.ntmps7
  go_wp2_with fail
  refine (shape_is 6 2 5 0 _ (Lib.hid rfl) (Lib.hid rfl) (Lib.hid rfl)).mono ?_
  rintro e w' ⟨rfl, rfl⟩
  go_wp2_with fail
  have hB0 : Below w.heap.size w (((w.alloc (.cells #[.string ⟨#[1, 97, 0]⟩] 9)).alloc (.cells #[.int .u32 10] 23)).alloc (.cells #[.string ⟨#[0]⟩, .int .u16 15, .int .u16 0, .int .u32 0, .slice (some ⟨w.heap.size, 0, none⟩) 1 1, .slice (some ⟨w.heap.size + 1, 0, none⟩) 1 1, .slice none 0 0] 27)) := (((Below.refl _ w).alloc (Nat.le_refl _) _).alloc (by simp) _).alloc (by simp; omega) _
  have hs0 : w.heap.size + 1 + 1 < (((w.alloc (.cells #[.string ⟨#[1, 97, 0]⟩] 9)).alloc (.cells #[.int .u32 10] 23)).alloc (.cells #[.string ⟨#[0]⟩, .int .u16 15, .int .u16 0, .int .u32 0, .slice (some ⟨w.heap.size, 0, none⟩) 1 1, .slice (some ⟨w.heap.size + 1, 0, none⟩) 1 1, .slice none 0 0] 27)).heap.size := by simp
  have hb3 : (((w.alloc (.cells #[.string ⟨#[1, 97, 0]⟩] 9)).alloc (.cells #[.int .u32 10] 23)).alloc (.cells #[.string ⟨#[0]⟩, .int .u16 15, .int .u16 0, .int .u32 0, .slice (some ⟨w.heap.size, 0, none⟩) 1 1, .slice (some ⟨w.heap.size + 1, 0, none⟩) 1 1, .slice none 0 0] 27)).heap[w.heap.size + 1 + 1]? = some (.cells #[.string ⟨#[0]⟩, .int .u16 15, .int .u16 0, .int .u32 0, .slice (some ⟨w.heap.size, 0, none⟩) 1 1, .slice (some ⟨w.heap.size + 1, 0, none⟩) 1 1, .slice none 0 0] 27 (0, 0)) := by
    have := heap_alloc_new ((w.alloc (.cells #[.string ⟨#[1, 97, 0]⟩] 9)).alloc (.cells #[.int .u32 10] 23)) (.cells #[.string ⟨#[0]⟩, .int .u16 15, .int .u16 0, .int .u32 0, .slice (some ⟨w.heap.size, 0, none⟩) 1 1, .slice (some ⟨w.heap.size + 1, 0, none⟩) 1 1, .slice none 0 0] 27)
    simpa using this
  have hb1 : (((w.alloc (.cells #[.string ⟨#[1, 97, 0]⟩] 9)).alloc (.cells #[.int .u32 10] 23)).alloc (.cells #[.string ⟨#[0]⟩, .int .u16 15, .int .u16 0, .int .u32 0, .slice (some ⟨w.heap.size, 0, none⟩) 1 1, .slice (some ⟨w.heap.size + 1, 0, none⟩) 1 1, .slice none 0 0] 27)).heap[w.heap.size]? = some (.cells #[.string ⟨#[1, 97, 0]⟩] 9 (0, 0)) := (heap_alloc_old _ _ (by simp; omega)).trans ((heap_alloc_old _ _ (by simp)).trans (heap_alloc_new w _))
  have hb2 : (((w.alloc (.cells #[.string ⟨#[1, 97, 0]⟩] 9)).alloc (.cells #[.int .u32 10] 23)).alloc (.cells #[.string ⟨#[0]⟩, .int .u16 15, .int .u16 0, .int .u32 0, .slice (some ⟨w.heap.size, 0, none⟩) 1 1, .slice (some ⟨w.heap.size + 1, 0, none⟩) 1 1, .slice none 0 0] 27)).heap[w.heap.size + 1]? = some (.cells #[.int .u32 10] 23 (0, 0)) := (heap_alloc_old _ _ (by simp)).trans (by
    have := heap_alloc_new (w.alloc (.cells #[.string ⟨#[1, 97, 0]⟩] 9)) (.cells #[.int .u32 10] 23)
    simpa using this)
  have p0 : (((w.alloc (.cells #[.string ⟨#[1, 97, 0]⟩] 9)).alloc (.cells #[.int .u32 10] 23)).alloc (.cells #[.string ⟨#[0]⟩, .int .u16 15, .int .u16 0, .int .u32 0, .slice (some ⟨w.heap.size, 0, none⟩) 1 1, .slice (some ⟨w.heap.size + 1, 0, none⟩) 1 1, .slice none 0 0] 27)).cell? ⟨w.heap.size + 1 + 1, 0, none⟩ = some (.string ⟨#[0]⟩) := by rw [Lib.cell_of_heap hb3]; rfl
  have p1 : (((w.alloc (.cells #[.string ⟨#[1, 97, 0]⟩] 9)).alloc (.cells #[.int .u32 10] 23)).alloc (.cells #[.string ⟨#[0]⟩, .int .u16 15, .int .u16 0, .int .u32 0, .slice (some ⟨w.heap.size, 0, none⟩) 1 1, .slice (some ⟨w.heap.size + 1, 0, none⟩) 1 1, .slice none 0 0] 27)).cell? ⟨w.heap.size + 1 + 1, 1, none⟩ = some (.int .u16 15) := by rw [Lib.cell_of_heap hb3]; rfl
  have p2 : (((w.alloc (.cells #[.string ⟨#[1, 97, 0]⟩] 9)).alloc (.cells #[.int .u32 10] 23)).alloc (.cells #[.string ⟨#[0]⟩, .int .u16 15, .int .u16 0, .int .u32 0, .slice (some ⟨w.heap.size, 0, none⟩) 1 1, .slice (some ⟨w.heap.size + 1, 0, none⟩) 1 1, .slice none 0 0] 27)).cell? ⟨w.heap.size + 1 + 1, 2, none⟩ = some (.int .u16 0) := by rw [Lib.cell_of_heap hb3]; rfl
  have p3 : (((w.alloc (.cells #[.string ⟨#[1, 97, 0]⟩] 9)).alloc (.cells #[.int .u32 10] 23)).alloc (.cells #[.string ⟨#[0]⟩, .int .u16 15, .int .u16 0, .int .u32 0, .slice (some ⟨w.heap.size, 0, none⟩) 1 1, .slice (some ⟨w.heap.size + 1, 0, none⟩) 1 1, .slice none 0 0] 27)).cell? ⟨w.heap.size + 1 + 1, 3, none⟩ = some (.int .u32 0) := by rw [Lib.cell_of_heap hb3]; rfl
  have p4 : (((w.alloc (.cells #[.string ⟨#[1, 97, 0]⟩] 9)).alloc (.cells #[.int .u32 10] 23)).alloc (.cells #[.string ⟨#[0]⟩, .int .u16 15, .int .u16 0, .int .u32 0, .slice (some ⟨w.heap.size, 0, none⟩) 1 1, .slice (some ⟨w.heap.size + 1, 0, none⟩) 1 1, .slice none 0 0] 27)).cell? ⟨w.heap.size + 1 + 1, 4, none⟩ = some (.slice (some ⟨w.heap.size, 0, none⟩) 1 1) := by rw [Lib.cell_of_heap hb3]; rfl
  have p5 : (((w.alloc (.cells #[.string ⟨#[1, 97, 0]⟩] 9)).alloc (.cells #[.int .u32 10] 23)).alloc (.cells #[.string ⟨#[0]⟩, .int .u16 15, .int .u16 0, .int .u32 0, .slice (some ⟨w.heap.size, 0, none⟩) 1 1, .slice (some ⟨w.heap.size + 1, 0, none⟩) 1 1, .slice none 0 0] 27)).cell? ⟨w.heap.size + 1 + 1, 5, none⟩ = some (.slice (some ⟨w.heap.size + 1, 0, none⟩) 1 1) := by rw [Lib.cell_of_heap hb3]; rfl
  have p6 : (((w.alloc (.cells #[.string ⟨#[1, 97, 0]⟩] 9)).alloc (.cells #[.int .u32 10] 23)).alloc (.cells #[.string ⟨#[0]⟩, .int .u16 15, .int .u16 0, .int .u32 0, .slice (some ⟨w.heap.size, 0, none⟩) 1 1, .slice (some ⟨w.heap.size + 1, 0, none⟩) 1 1, .slice none 0 0] 27)).cell? ⟨w.heap.size + 1 + 1, 6, none⟩ = some (.slice none 0 0) := by rw [Lib.cell_of_heap hb3]; rfl
  have ha1 : (((w.alloc (.cells #[.string ⟨#[1, 97, 0]⟩] 9)).alloc (.cells #[.int .u32 10] 23)).alloc (.cells #[.string ⟨#[0]⟩, .int .u16 15, .int .u16 0, .int .u32 0, .slice (some ⟨w.heap.size, 0, none⟩) 1 1, .slice (some ⟨w.heap.size + 1, 0, none⟩) 1 1, .slice none 0 0] 27)).cell? ⟨w.heap.size, 0, none⟩ = some (.string ⟨#[1, 97, 0]⟩) := by rw [Lib.cell_of_heap hb1]; rfl
  have ha2 : (((w.alloc (.cells #[.string ⟨#[1, 97, 0]⟩] 9)).alloc (.cells #[.int .u32 10] 23)).alloc (.cells #[.string ⟨#[0]⟩, .int .u16 15, .int .u16 0, .int .u32 0, .slice (some ⟨w.heap.size, 0, none⟩) 1 1, .slice (some ⟨w.heap.size + 1, 0, none⟩) 1 1, .slice none 0 0] 27)).cell? ⟨w.heap.size + 1, 0, none⟩ = some (.int .u32 10) := by rw [Lib.cell_of_heap hb2]; rfl
  clear hb1 hb2 hb3
  generalize (((w.alloc (.cells #[.string ⟨#[1, 97, 0]⟩] 9)).alloc (.cells #[.int .u32 10] 23)).alloc (.cells #[.string ⟨#[0]⟩, .int .u16 15, .int .u16 0, .int .u32 0, .slice (some ⟨w.heap.size, 0, none⟩) 1 1, .slice (some ⟨w.heap.size + 1, 0, none⟩) 1 1, .slice none 0 0] 27)) = w3 at *
  generalize hgw : w.heap.size = g at *
  have HGW := Lib.hid hgw
  clear hgw
  have HR := Lib.hid (recM_at w3 g (g + 1) w3.heap.size ha1 ha2 (by omega) (by omega))
  have HB0 := Lib.hid hB0
  clear hB0 ha1 ha2
  have cp : Calls Try.prog 16 #[.agg #[.string ⟨#[0]⟩, .int .u16 15, .int .u16 0, .int .u32 0, .slice (some ⟨g, 0, none⟩) 1 1, .slice (some ⟨g + 1, 0, none⟩) 1 1, .slice none 0 0]] w3 fun e w' => ∃ B1 d1 B2 d2 B3 d3, e = .returned (.agg #[.string ⟨#[0]⟩, .int .u16 15, .int .u16 0, .int .u32 0, .slice B1 1 d1, .slice B2 1 d2, .slice B3 0 d3]) ∧ RecAt w' w'.heap.size recM ⟨#[0]⟩ 15 0 0 B1 1 B2 1 B3 0 ∧ Below w3.heap.size w3 w' :=
    (copy_is recM ⟨#[0]⟩ 15 0 0 (some ⟨g, 0, none⟩) 1 1 (some ⟨g + 1, 0, none⟩) 1 1 none 0 0 w3 HR hS (fun h => by cases h) (fun h => by cases h) (fun _ => rfl)).mono fun _ _ ⟨B1, d1, B2, d2, B3, d3, he, o1, o2, o3, hB⟩ => ⟨B1, d1, B2, d2, B3, d3, he, rec_of_own rfl rfl rfl rfl rfl rfl rfl o1 o2 o3, hB⟩
  have CP := Lib.hid cp
  clear cp
  ((with_reducible refine Calls.mono CP.out ?_))
  rintro e w4 ⟨B1, d1, B2, d2, B3, d3, rfl, hRc, hB4⟩
  have hs4 := hB4.size
  have q0 : w4.cell? ⟨g + 1 + 1, 0, none⟩ = some (.string ⟨#[0]⟩) := (hB4.cell (p := ⟨g + 1 + 1, 0, none⟩) hs0).trans p0
  have q1 : w4.cell? ⟨g + 1 + 1, 1, none⟩ = some (.int .u16 15) := (hB4.cell (p := ⟨g + 1 + 1, 1, none⟩) hs0).trans p1
  have q2 : w4.cell? ⟨g + 1 + 1, 2, none⟩ = some (.int .u16 0) := (hB4.cell (p := ⟨g + 1 + 1, 2, none⟩) hs0).trans p2
  have q3 : w4.cell? ⟨g + 1 + 1, 3, none⟩ = some (.int .u32 0) := (hB4.cell (p := ⟨g + 1 + 1, 3, none⟩) hs0).trans p3
  have q4 : w4.cell? ⟨g + 1 + 1, 4, none⟩ = some (.slice (some ⟨g, 0, none⟩) 1 1) := (hB4.cell (p := ⟨g + 1 + 1, 4, none⟩) hs0).trans p4
  have q5 : w4.cell? ⟨g + 1 + 1, 5, none⟩ = some (.slice (some ⟨g + 1, 0, none⟩) 1 1) := (hB4.cell (p := ⟨g + 1 + 1, 5, none⟩) hs0).trans p5
  have q6 : w4.cell? ⟨g + 1 + 1, 6, none⟩ = some (.slice none 0 0) := (hB4.cell (p := ⟨g + 1 + 1, 6, none⟩) hs0).trans p6
  have hs4b : g + 1 + 1 < w4.heap.size := by omega
  have r0 : (w4.alloc (.cells #[.string ⟨#[0]⟩, .int .u16 15, .int .u16 0, .int .u32 0, .slice B1 1 d1, .slice B2 1 d2, .slice B3 0 d3] 27)).cell? ⟨g + 1 + 1, 0, none⟩ = some (.string ⟨#[0]⟩) := (World.cell?_alloc_lt _ _ _ (by show g + 1 + 1 < w4.heap.size; omega)).trans q0
  have r1 : (w4.alloc (.cells #[.string ⟨#[0]⟩, .int .u16 15, .int .u16 0, .int .u32 0, .slice B1 1 d1, .slice B2 1 d2, .slice B3 0 d3] 27)).cell? ⟨g + 1 + 1, 1, none⟩ = some (.int .u16 15) := (World.cell?_alloc_lt _ _ _ (by show g + 1 + 1 < w4.heap.size; omega)).trans q1
  have r2 : (w4.alloc (.cells #[.string ⟨#[0]⟩, .int .u16 15, .int .u16 0, .int .u32 0, .slice B1 1 d1, .slice B2 1 d2, .slice B3 0 d3] 27)).cell? ⟨g + 1 + 1, 2, none⟩ = some (.int .u16 0) := (World.cell?_alloc_lt _ _ _ (by show g + 1 + 1 < w4.heap.size; omega)).trans q2
  have r3 : (w4.alloc (.cells #[.string ⟨#[0]⟩, .int .u16 15, .int .u16 0, .int .u32 0, .slice B1 1 d1, .slice B2 1 d2, .slice B3 0 d3] 27)).cell? ⟨g + 1 + 1, 3, none⟩ = some (.int .u32 0) := (World.cell?_alloc_lt _ _ _ (by show g + 1 + 1 < w4.heap.size; omega)).trans q3
  have r4 : (w4.alloc (.cells #[.string ⟨#[0]⟩, .int .u16 15, .int .u16 0, .int .u32 0, .slice B1 1 d1, .slice B2 1 d2, .slice B3 0 d3] 27)).cell? ⟨g + 1 + 1, 4, none⟩ = some (.slice (some ⟨g, 0, none⟩) 1 1) := (World.cell?_alloc_lt _ _ _ (by show g + 1 + 1 < w4.heap.size; omega)).trans q4
  have r5 : (w4.alloc (.cells #[.string ⟨#[0]⟩, .int .u16 15, .int .u16 0, .int .u32 0, .slice B1 1 d1, .slice B2 1 d2, .slice B3 0 d3] 27)).cell? ⟨g + 1 + 1, 5, none⟩ = some (.slice (some ⟨g + 1, 0, none⟩) 1 1) := (World.cell?_alloc_lt _ _ _ (by show g + 1 + 1 < w4.heap.size; omega)).trans q5
  have r6 : (w4.alloc (.cells #[.string ⟨#[0]⟩, .int .u16 15, .int .u16 0, .int .u32 0, .slice B1 1 d1, .slice B2 1 d2, .slice B3 0 d3] 27)).cell? ⟨g + 1 + 1, 6, none⟩ = some (.slice none 0 0) := (World.cell?_alloc_lt _ _ _ (by show g + 1 + 1 < w4.heap.size; omega)).trans q6
  have u0 : (w4.alloc (.cells #[.string ⟨#[0]⟩, .int .u16 15, .int .u16 0, .int .u32 0, .slice B1 1 d1, .slice B2 1 d2, .slice B3 0 d3] 27)).cell? ⟨w4.heap.size, 0, none⟩ = some (.string ⟨#[0]⟩) := by rw [Lib.cell_of_heap (heap_alloc_new w4 _)]; rfl
  have u1 : (w4.alloc (.cells #[.string ⟨#[0]⟩, .int .u16 15, .int .u16 0, .int .u32 0, .slice B1 1 d1, .slice B2 1 d2, .slice B3 0 d3] 27)).cell? ⟨w4.heap.size, 1, none⟩ = some (.int .u16 15) := by rw [Lib.cell_of_heap (heap_alloc_new w4 _)]; rfl
  have u2 : (w4.alloc (.cells #[.string ⟨#[0]⟩, .int .u16 15, .int .u16 0, .int .u32 0, .slice B1 1 d1, .slice B2 1 d2, .slice B3 0 d3] 27)).cell? ⟨w4.heap.size, 2, none⟩ = some (.int .u16 0) := by rw [Lib.cell_of_heap (heap_alloc_new w4 _)]; rfl
  have u3 : (w4.alloc (.cells #[.string ⟨#[0]⟩, .int .u16 15, .int .u16 0, .int .u32 0, .slice B1 1 d1, .slice B2 1 d2, .slice B3 0 d3] 27)).cell? ⟨w4.heap.size, 3, none⟩ = some (.int .u32 0) := by rw [Lib.cell_of_heap (heap_alloc_new w4 _)]; rfl
  have u4 : (w4.alloc (.cells #[.string ⟨#[0]⟩, .int .u16 15, .int .u16 0, .int .u32 0, .slice B1 1 d1, .slice B2 1 d2, .slice B3 0 d3] 27)).cell? ⟨w4.heap.size, 4, none⟩ = some (.slice B1 1 d1) := by rw [Lib.cell_of_heap (heap_alloc_new w4 _)]; rfl
  have u5 : (w4.alloc (.cells #[.string ⟨#[0]⟩, .int .u16 15, .int .u16 0, .int .u32 0, .slice B1 1 d1, .slice B2 1 d2, .slice B3 0 d3] 27)).cell? ⟨w4.heap.size, 5, none⟩ = some (.slice B2 1 d2) := by rw [Lib.cell_of_heap (heap_alloc_new w4 _)]; rfl
  have u6 : (w4.alloc (.cells #[.string ⟨#[0]⟩, .int .u16 15, .int .u16 0, .int .u32 0, .slice B1 1 d1, .slice B2 1 d2, .slice B3 0 d3] 27)).cell? ⟨w4.heap.size, 6, none⟩ = some (.slice B3 0 d3) := by rw [Lib.cell_of_heap (heap_alloc_new w4 _)]; rfl
  have HRc := Lib.hid (hRc.box (.cells #[.string ⟨#[0]⟩, .int .u16 15, .int .u16 0, .int .u32 0, .slice B1 1 d1, .slice B2 1 d2, .slice B3 0 d3] 27))
  have hsz4 : (w4.alloc (.cells #[.string ⟨#[0]⟩, .int .u16 15, .int .u16 0, .int .u32 0, .slice B1 1 d1, .slice B2 1 d2, .slice B3 0 d3] 27)).heap.size = w4.heap.size + 1 := by simp
  have HRr : Hid (RecAt (w4.alloc (.cells #[.string ⟨#[0]⟩, .int .u16 15, .int .u16 0, .int .u32 0, .slice B1 1 d1, .slice B2 1 d2, .slice B3 0 d3] 27)) (w4.alloc (.cells #[.string ⟨#[0]⟩, .int .u16 15, .int .u16 0, .int .u32 0, .slice B1 1 d1, .slice B2 1 d2, .slice B3 0 d3] 27)).heap.size recM ⟨#[0]⟩ 15 0 0 (some ⟨g, 0, none⟩) 1 (some ⟨g + 1, 0, none⟩) 1 none 0) := HR.out.on (hB4.alloc (by omega) (.cells #[.string ⟨#[0]⟩, .int .u16 15, .int .u16 0, .int .u32 0, .slice B1 1 d1, .slice B2 1 d2, .slice B3 0 d3] 27)) (by rw [hsz4]; omega)
  have HB4 : Hid (Below g w (w4.alloc (.cells #[.string ⟨#[0]⟩, .int .u16 15, .int .u16 0, .int .u32 0, .slice B1 1 d1, .slice B2 1 d2, .slice B3 0 d3] 27))) := (HB0.out.trans (hB4.mono (by omega))).alloc (by omega) _
  have hsv : g + 1 + 1 < (w4.alloc (.cells #[.string ⟨#[0]⟩, .int .u16 15, .int .u16 0, .int .u32 0, .slice B1 1 d1, .slice B2 1 d2, .slice B3 0 d3] 27)).heap.size := by simp; omega
  have hsc : w4.heap.size < (w4.alloc (.cells #[.string ⟨#[0]⟩, .int .u16 15, .int .u16 0, .int .u32 0, .slice B1 1 d1, .slice B2 1 d2, .slice B3 0 d3] 27)).heap.size := by simp
  clear hRc hB4 hsz4
  go_wp2_with fail
  generalize (w4.alloc (.cells #[.string ⟨#[0]⟩, .int .u16 15, .int .u16 0, .int .u32 0, .slice B1 1 d1, .slice B2 1 d2, .slice B3 0 d3] 27)) = v4 at *
  generalize w4.heap.size = h at *
  clear p0 q0 p1 q1 p2 q2 p3 q3 p4 q4 p5 q5 p6 q6 CP HR HB0
  have ppl : ∀ W : World, RecAt W W.heap.size recM ⟨#[0]⟩ 15 0 0 (some ⟨g, 0, none⟩) 1 (some ⟨g + 1, 0, none⟩) 1 none 0 → Calls Try.prog 13 #[.agg #[.string ⟨#[0]⟩, .int .u16 15, .int .u16 0, .int .u32 0, .slice (some ⟨g, 0, none⟩) 1 1, .slice (some ⟨g + 1, 0, none⟩) 1 1, .slice none 0 0]] W fun e w' => e = .returned (.string ⟨#[0, 10, 1, 97, 0]⟩) ∧ Below W.heap.size W w' :=
    fun W h => plain_is recM ⟨#[0]⟩ 15 0 0 (some ⟨g, 0, none⟩) 1 1 (some ⟨g + 1, 0, none⟩) 1 1 none 0 0 _ W (Lib.hid h) hS hP
  have pch : ∀ W : World, RecAt W W.heap.size recM ⟨#[0]⟩ 15 0 0 (some ⟨g, 0, none⟩) 1 (some ⟨g + 1, 0, none⟩) 1 none 0 → Calls Try.prog 11 #[.agg #[.string ⟨#[0]⟩, .int .u16 15, .int .u16 0, .int .u32 0, .slice (some ⟨g, 0, none⟩) 1 1, .slice (some ⟨g + 1, 0, none⟩) 1 1, .slice none 0 0]] W fun e w' => e = .returned (.int .i64 0) ∧ Below W.heap.size W w' :=
    fun W h => check_is recM ⟨#[0]⟩ 15 0 0 (some ⟨g, 0, none⟩) 1 1 (some ⟨g + 1, 0, none⟩) 1 1 none 0 0 0 W (Lib.hid h) hS hM
  have ps1 : ∀ W : World, RecAt W W.heap.size recM ⟨#[0]⟩ 15 0 0 B1 1 B2 1 B3 0 → RecAt W W.heap.size recM ⟨#[0]⟩ 15 0 0 (some ⟨g, 0, none⟩) 1 (some ⟨g + 1, 0, none⟩) 1 none 0 → Calls Try.prog 17 #[.agg #[.string ⟨#[0]⟩, .int .u16 15, .int .u16 0, .int .u32 0, .slice B1 1 d1, .slice B2 1 d2, .slice B3 0 d3], .agg #[.string ⟨#[0]⟩, .int .u16 15, .int .u16 0, .int .u32 0, .slice (some ⟨g, 0, none⟩) 1 1, .slice (some ⟨g + 1, 0, none⟩) 1 1, .slice none 0 0]] W fun e w' => e = .returned (.bool true) ∧ Below W.heap.size W w' :=
    fun W h h2 => same_is recM recM ⟨#[0]⟩ 15 0 0 B1 1 d1 B2 1 d2 B3 0 d3 ⟨#[0]⟩ 15 0 0 (some ⟨g, 0, none⟩) 1 1 (some ⟨g + 1, 0, none⟩) 1 1 none 0 0 true W (Lib.hid h) hS (Lib.hid h2) hS hQ1
  have ps2 : ∀ W : World, RecAt W W.heap.size recM ⟨#[0]⟩ 15 0 0 (some ⟨g, 0, none⟩) 1 (some ⟨g + 1, 0, none⟩) 1 none 0 → Calls Try.prog 17 #[.agg #[.string ⟨#[0]⟩, .int .u16 15, .int .u16 0, .int .u32 0, .slice (some ⟨g, 0, none⟩) 1 1, .slice (some ⟨g + 1, 0, none⟩) 1 1, .slice none 0 0], .agg #[.string ⟨#[]⟩, .int .u16 0, .int .u16 0, .int .u32 0, .slice none 0 0, .slice none 0 0, .slice none 0 0]] W fun e w' => e = .returned (.bool false) ∧ Below W.heap.size W w' :=
    fun W h => same_is recM recZ ⟨#[0]⟩ 15 0 0 (some ⟨g, 0, none⟩) 1 1 (some ⟨g + 1, 0, none⟩) 1 1 none 0 0 ⟨#[]⟩ 0 0 0 none 0 0 none 0 0 none 0 0 false W (Lib.hid h) hS (Lib.hid (recZ_at _ _)) hZ hQ2
  have PPL := Lib.hid ppl
  have PCH := Lib.hid pch
  have PS1 := Lib.hid ps1
  have PS2 := Lib.hid ps2
  clear ppl pch ps1 ps2
  ((with_reducible refine (PPL.out _ HRr.out).mono ?_))
  rintro e w5 ⟨rfl, hB⟩
  have r0' : w5.cell? ⟨g + 1 + 1, 0, none⟩ = some (.string ⟨#[0]⟩) := (hB.cell (p := ⟨g + 1 + 1, 0, none⟩) hsv).trans r0
  have u0' : w5.cell? ⟨h, 0, none⟩ = some (.string ⟨#[0]⟩) := (hB.cell (p := ⟨h, 0, none⟩) hsc).trans u0
  have r1' : w5.cell? ⟨g + 1 + 1, 1, none⟩ = some (.int .u16 15) := (hB.cell (p := ⟨g + 1 + 1, 1, none⟩) hsv).trans r1
  have u1' : w5.cell? ⟨h, 1, none⟩ = some (.int .u16 15) := (hB.cell (p := ⟨h, 1, none⟩) hsc).trans u1
  have r2' : w5.cell? ⟨g + 1 + 1, 2, none⟩ = some (.int .u16 0) := (hB.cell (p := ⟨g + 1 + 1, 2, none⟩) hsv).trans r2
  have u2' : w5.cell? ⟨h, 2, none⟩ = some (.int .u16 0) := (hB.cell (p := ⟨h, 2, none⟩) hsc).trans u2
  have r3' : w5.cell? ⟨g + 1 + 1, 3, none⟩ = some (.int .u32 0) := (hB.cell (p := ⟨g + 1 + 1, 3, none⟩) hsv).trans r3
  have u3' : w5.cell? ⟨h, 3, none⟩ = some (.int .u32 0) := (hB.cell (p := ⟨h, 3, none⟩) hsc).trans u3
  have r4' : w5.cell? ⟨g + 1 + 1, 4, none⟩ = some (.slice (some ⟨g, 0, none⟩) 1 1) := (hB.cell (p := ⟨g + 1 + 1, 4, none⟩) hsv).trans r4
  have u4' : w5.cell? ⟨h, 4, none⟩ = some (.slice B1 1 d1) := (hB.cell (p := ⟨h, 4, none⟩) hsc).trans u4
  have r5' : w5.cell? ⟨g + 1 + 1, 5, none⟩ = some (.slice (some ⟨g + 1, 0, none⟩) 1 1) := (hB.cell (p := ⟨g + 1 + 1, 5, none⟩) hsv).trans r5
  have u5' : w5.cell? ⟨h, 5, none⟩ = some (.slice B2 1 d2) := (hB.cell (p := ⟨h, 5, none⟩) hsc).trans u5
  have r6' : w5.cell? ⟨g + 1 + 1, 6, none⟩ = some (.slice none 0 0) := (hB.cell (p := ⟨g + 1 + 1, 6, none⟩) hsv).trans r6
  have u6' : w5.cell? ⟨h, 6, none⟩ = some (.slice B3 0 d3) := (hB.cell (p := ⟨h, 6, none⟩) hsc).trans u6
  have HRc' := Lib.hid (HRc.out.on hB hB.size)
  have HRr' := Lib.hid (HRr.out.on hB hB.size)
  have HB' : Hid (Below g w w5) := HB4.out.trans (hB.mono (by omega))
  have hsv' : g + 1 + 1 < w5.heap.size := by have := hB.size; omega
  have hsc' : h < w5.heap.size := by have := hB.size; omega
  clear r0 u0 r1 u1 r2 u2 r3 u3 r4 u4 r5 u5 r6 u6 HRc HRr HB4 hsv hsc hB
  have r0 := r0'
  have u0 := u0'
  clear r0' u0'
  have r1 := r1'
  have u1 := u1'
  clear r1' u1'
  have r2 := r2'
  have u2 := u2'
  clear r2' u2'
  have r3 := r3'
  have u3 := u3'
  clear r3' u3'
  have r4 := r4'
  have u4 := u4'
  clear r4' u4'
  have r5 := r5'
  have u5 := u5'
  clear r5' u5'
  have r6 := r6'
  have u6 := u6'
  clear r6' u6'
  have HRc := HRc'
  have HRr := HRr'
  have HB4 := HB'
  have hsv := hsv'
  have hsc := hsc'
  clear HRc' HRr' HB' hsv' hsc'
  go_wp2_with fail
  ((with_reducible refine (PCH.out _ HRr.out).mono ?_))
  rintro e w6 ⟨rfl, hB⟩
  have r0' : w6.cell? ⟨g + 1 + 1, 0, none⟩ = some (.string ⟨#[0]⟩) := (hB.cell (p := ⟨g + 1 + 1, 0, none⟩) hsv).trans r0
  have u0' : w6.cell? ⟨h, 0, none⟩ = some (.string ⟨#[0]⟩) := (hB.cell (p := ⟨h, 0, none⟩) hsc).trans u0
  have r1' : w6.cell? ⟨g + 1 + 1, 1, none⟩ = some (.int .u16 15) := (hB.cell (p := ⟨g + 1 + 1, 1, none⟩) hsv).trans r1
  have u1' : w6.cell? ⟨h, 1, none⟩ = some (.int .u16 15) := (hB.cell (p := ⟨h, 1, none⟩) hsc).trans u1
  have r2' : w6.cell? ⟨g + 1 + 1, 2, none⟩ = some (.int .u16 0) := (hB.cell (p := ⟨g + 1 + 1, 2, none⟩) hsv).trans r2
  have u2' : w6.cell? ⟨h, 2, none⟩ = some (.int .u16 0) := (hB.cell (p := ⟨h, 2, none⟩) hsc).trans u2
  have r3' : w6.cell? ⟨g + 1 + 1, 3, none⟩ = some (.int .u32 0) := (hB.cell (p := ⟨g + 1 + 1, 3, none⟩) hsv).trans r3
  have u3' : w6.cell? ⟨h, 3, none⟩ = some (.int .u32 0) := (hB.cell (p := ⟨h, 3, none⟩) hsc).trans u3
  have r4' : w6.cell? ⟨g + 1 + 1, 4, none⟩ = some (.slice (some ⟨g, 0, none⟩) 1 1) := (hB.cell (p := ⟨g + 1 + 1, 4, none⟩) hsv).trans r4
  have u4' : w6.cell? ⟨h, 4, none⟩ = some (.slice B1 1 d1) := (hB.cell (p := ⟨h, 4, none⟩) hsc).trans u4
  have r5' : w6.cell? ⟨g + 1 + 1, 5, none⟩ = some (.slice (some ⟨g + 1, 0, none⟩) 1 1) := (hB.cell (p := ⟨g + 1 + 1, 5, none⟩) hsv).trans r5
  have u5' : w6.cell? ⟨h, 5, none⟩ = some (.slice B2 1 d2) := (hB.cell (p := ⟨h, 5, none⟩) hsc).trans u5
  have r6' : w6.cell? ⟨g + 1 + 1, 6, none⟩ = some (.slice none 0 0) := (hB.cell (p := ⟨g + 1 + 1, 6, none⟩) hsv).trans r6
  have u6' : w6.cell? ⟨h, 6, none⟩ = some (.slice B3 0 d3) := (hB.cell (p := ⟨h, 6, none⟩) hsc).trans u6
  have HRc' := Lib.hid (HRc.out.on hB hB.size)
  have HRr' := Lib.hid (HRr.out.on hB hB.size)
  have HB' : Hid (Below g w w6) := HB4.out.trans (hB.mono (by omega))
  have hsv' : g + 1 + 1 < w6.heap.size := by have := hB.size; omega
  have hsc' : h < w6.heap.size := by have := hB.size; omega
  clear r0 u0 r1 u1 r2 u2 r3 u3 r4 u4 r5 u5 r6 u6 HRc HRr HB4 hsv hsc hB
  have r0 := r0'
  have u0 := u0'
  clear r0' u0'
  have r1 := r1'
  have u1 := u1'
  clear r1' u1'
  have r2 := r2'
  have u2 := u2'
  clear r2' u2'
  have r3 := r3'
  have u3 := u3'
  clear r3' u3'
  have r4 := r4'
  have u4 := u4'
  clear r4' u4'
  have r5 := r5'
  have u5 := u5'
  clear r5' u5'
  have r6 := r6'
  have u6 := u6'
  clear r6' u6'
  have HRc := HRc'
  have HRr := HRr'
  have HB4 := HB'
  have hsv := hsv'
  have hsc := hsc'
  clear HRc' HRr' HB' hsv' hsc'
  go_wp2_with fail
  ((with_reducible refine (PS1.out _ HRc.out HRr.out).mono ?_))
  rintro e w7 ⟨rfl, hB⟩
  have r0' : w7.cell? ⟨g + 1 + 1, 0, none⟩ = some (.string ⟨#[0]⟩) := (hB.cell (p := ⟨g + 1 + 1, 0, none⟩) hsv).trans r0
  have u0' : w7.cell? ⟨h, 0, none⟩ = some (.string ⟨#[0]⟩) := (hB.cell (p := ⟨h, 0, none⟩) hsc).trans u0
  have r1' : w7.cell? ⟨g + 1 + 1, 1, none⟩ = some (.int .u16 15) := (hB.cell (p := ⟨g + 1 + 1, 1, none⟩) hsv).trans r1
  have u1' : w7.cell? ⟨h, 1, none⟩ = some (.int .u16 15) := (hB.cell (p := ⟨h, 1, none⟩) hsc).trans u1
  have r2' : w7.cell? ⟨g + 1 + 1, 2, none⟩ = some (.int .u16 0) := (hB.cell (p := ⟨g + 1 + 1, 2, none⟩) hsv).trans r2
  have u2' : w7.cell? ⟨h, 2, none⟩ = some (.int .u16 0) := (hB.cell (p := ⟨h, 2, none⟩) hsc).trans u2
  have r3' : w7.cell? ⟨g + 1 + 1, 3, none⟩ = some (.int .u32 0) := (hB.cell (p := ⟨g + 1 + 1, 3, none⟩) hsv).trans r3
  have u3' : w7.cell? ⟨h, 3, none⟩ = some (.int .u32 0) := (hB.cell (p := ⟨h, 3, none⟩) hsc).trans u3
  have r4' : w7.cell? ⟨g + 1 + 1, 4, none⟩ = some (.slice (some ⟨g, 0, none⟩) 1 1) := (hB.cell (p := ⟨g + 1 + 1, 4, none⟩) hsv).trans r4
  have u4' : w7.cell? ⟨h, 4, none⟩ = some (.slice B1 1 d1) := (hB.cell (p := ⟨h, 4, none⟩) hsc).trans u4
  have r5' : w7.cell? ⟨g + 1 + 1, 5, none⟩ = some (.slice (some ⟨g + 1, 0, none⟩) 1 1) := (hB.cell (p := ⟨g + 1 + 1, 5, none⟩) hsv).trans r5
  have u5' : w7.cell? ⟨h, 5, none⟩ = some (.slice B2 1 d2) := (hB.cell (p := ⟨h, 5, none⟩) hsc).trans u5
  have r6' : w7.cell? ⟨g + 1 + 1, 6, none⟩ = some (.slice none 0 0) := (hB.cell (p := ⟨g + 1 + 1, 6, none⟩) hsv).trans r6
  have u6' : w7.cell? ⟨h, 6, none⟩ = some (.slice B3 0 d3) := (hB.cell (p := ⟨h, 6, none⟩) hsc).trans u6
  have HRc' := Lib.hid (HRc.out.on hB hB.size)
  have HRr' := Lib.hid (HRr.out.on hB hB.size)
  have HB' : Hid (Below g w w7) := HB4.out.trans (hB.mono (by omega))
  have hsv' : g + 1 + 1 < w7.heap.size := by have := hB.size; omega
  have hsc' : h < w7.heap.size := by have := hB.size; omega
  clear r0 u0 r1 u1 r2 u2 r3 u3 r4 u4 r5 u5 r6 u6 HRc HRr HB4 hsv hsc hB
  have r0 := r0'
  have u0 := u0'
  clear r0' u0'
  have r1 := r1'
  have u1 := u1'
  clear r1' u1'
  have r2 := r2'
  have u2 := u2'
  clear r2' u2'
  have r3 := r3'
  have u3 := u3'
  clear r3' u3'
  have r4 := r4'
  have u4 := u4'
  clear r4' u4'
  have r5 := r5'
  have u5 := u5'
  clear r5' u5'
  have r6 := r6'
  have u6 := u6'
  clear r6' u6'
  have HRc := HRc'
  have HRr := HRr'
  have HB4 := HB'
  have hsv := hsv'
  have hsc := hsc'
  clear HRc' HRr' HB' hsv' hsc'
  go_wp2_with fail
  ((with_reducible refine (PS2.out _ HRr.out).mono ?_))
  rintro e w8 ⟨rfl, hB⟩
  go_wp2_with fail
  go_ret
  exact ⟨rfl, by have h := HB4.out.trans (hB.mono (by omega)); rw [HGW.out]; exact h⟩
end Go.Proofs.Ytnpdhfjglfpjcaa
