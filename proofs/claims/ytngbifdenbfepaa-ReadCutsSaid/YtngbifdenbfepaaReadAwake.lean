/- The contract of the law's own 'awake'. No condition. -/
import Derived.Test.YtngbifdenbfepaaProg
import Derived.Test.YtngbifdenbfepaaBytes
import Derived.Test.YtngbifdenbfepaaNmMath
import Derived.Test.YtngbifdenbfepaaNmAt
import Derived.Test.YtngbifdenbfepaaMsgMath
import Derived.Test.YtngbifdenbfepaaRecMath
import Derived.Test.YtngbifdenbfepaaOwnRow
import Derived.Test.YtngbifdenbfepaaRecRow
import Derived.Test.YtngbifdenbfepaaRdrAsk
import Derived.Test.YtngbifdenbfepaaRdrRecs
import Derived.Test.YtngbifdenbfepaaRdrNameOf
import Derived.Test.YtngbifdenbfepaaRdrRead
import Derived.WalkKit
import Derived.Lib.Hide
import Derived.Laws.Rows
import Derived.Laws.AppendOwn
import Derived.Outline
import Derived.IntWalk
import Derived.WalkSpells
import Derived.WalkLawsBesides
namespace Go.Proofs.Ytngbifdenbfepaa
open Go.RowKit NumMath NmMath Bytes MsgMath RecMath

def aw1 : List UInt8 := [1, 97, 0, 1, 98, 192, 0]
def aw2 : List UInt8 := [0, 7, 1, 0, 0, 1, 0, 0, 0, 0, 0, 0, 1, 97, 0, 0, 1, 0, 1]
theorem awake_name : nmAt aw1 3 = .ok ([1, 98, 1, 97, 0], 7) := by
  unfold nmAt
  rw [if_neg (by decide)]
  show nm aw1 7 2 3 3 none [] = _
  rw [nm_more (by decide) (by decide) (by decide) (by decide)]
  show nm aw1 7 2 5 3 none [1, 98] = _
  rw [nm_back (by decide) (by decide) (by decide)]
  show nm aw1 7 2 0 0 (some 7) [1, 98] = _
  rw [nm_more (by decide) (by decide) (by decide) (by decide)]
  show nm aw1 7 2 2 0 (some 7) [1, 98, 1, 97] = _
  rw [nm_zero (by decide) (by decide)]
  rfl
def awQ : Qn := ⟨[1, 97, 0], 1, 1⟩
theorem awake_qn : qn aw2 12 = .ok (awQ, 19) := by
  have h : nm aw2 aw2.length 2 12 12 none [] = .ok ([1, 97, 0], 15) := by
    show nm aw2 19 2 12 12 none [] = _
    rw [nm_more (by decide) (by decide) (by decide) (by decide)]
    show nm aw2 19 2 14 12 none [1, 97] = _
    rw [nm_zero (by decide) (by decide)]
    rfl
  rw [qn_ok h (by decide)]
  rfl
def noRec : Nat → Except Nat (Rec × Nat) := fun _ => .error 0
theorem awake_read : rd noRec aw2 = .ok ⟨7, 256, [awQ], [], [], []⟩ := by
  have h1 : many (qn aw2) (nu aw2 4 2) 12 = .ok ([awQ], 19) := by
    show many (qn aw2) 1 12 = _
    simp [many, awake_qn]
  have h2 : many noRec (nu aw2 6 2) 19 = .ok ([], 19) := rfl
  have h3 : many noRec (nu aw2 8 2) 19 = .ok ([], 19) := rfl
  have h4 : many noRec (nu aw2 10 2) 19 = .ok ([], 19) := rfl
  unfold rd
  rw [if_neg (by decide), msg_some (by decide) (by decide), msg1_ok h1, msg2_ok h2, msg3_ok h3, msg4_ok h4 (by decide)]
  rfl
theorem awake_short : rd noRec [0] = .error 2 := by
  unfold rd
  rw [if_neg (by decide), msg_short (by decide)]
theorem own_first {w : World} {g : Nat} {v : Value} {q : Qn} (h : w.ownsRow g 41 3 v 1 (qnCs [q])) : ∃ b c, v = .slice (some ⟨b, 0, none⟩) 1 c ∧ b < w.heap.size ∧ w.cell? ⟨b, 0, none⟩ = some (.string (mk q.name)) := by
  rcases h.2 with ⟨_, h0⟩ | ⟨b, cap, cur, rfl, hb, hgg, _⟩
  · cases h0
  · refine ⟨b, cap, rfl, (Array.getElem?_eq_some_iff.1 hgg).1, ?_⟩
    have := h.cells (g := b) rfl 0 (.string (mk q.name)) rfl
    exact this

set_option maxHeartbeats 2000000 in
set_option maxRecDepth 100000 in
theorem awake_any (w : World) : Calls Try.prog 8 #[] w fun e w' => e = .returned (.bool true) ∧ Below w.heap.size w w' := by
  have HN := Lib.hid (fun w => name_any ⟨#[1, 97, 0, 1, 98, 192, 0]⟩ 3 _ w (by decide) (by decide) (by decide) awake_name)
  have HR := Lib.hid (fun w => read_any ⟨#[0, 7, 1, 0, 0, 1, 0, 0, 0, 0, 0, 0, 1, 97, 0, 0, 1, 0, 1]⟩ noRec _ w (by decide) (fun _ h => absurd h (by decide)) awake_read)
  have HT := Lib.hid (fun w => read_any ⟨#[0]⟩ noRec _ w (by decide) (fun _ h => absurd h (by decide)) awake_short)
  have hn : (mk [1, 98, 1, 97, 0]).toList = [1, 98, 1, 97, 0] := by rw [Lib.toList_data]; rfl
  have hq : (mk awQ.name).toList = [1, 97, 0] := by rw [Lib.toList_data]; rfl
  go_enter Try.func8, Try.ntmps8
  go_wp2_with fail
  refine (HN.out _).mono ?_
  rintro e w1 ⟨rfl, hB1⟩
  generalize mk [1, 98, 1, 97, 0] = y1 at *
  go_wp2_with fail
  refine (HR.out _).mono ?_
  rintro e w2 ⟨vq, va, vn, vx, rfl, hM, hB2⟩
  obtain ⟨b, c, rfl, hbl, hcb⟩ := own_first hM.q
  obtain ⟨_, ⟨a1, a2, a3, rfl⟩, ⟨n1, n2, n3, rfl⟩, ⟨x1, x2, x3, rfl⟩⟩ := hM.slices
  clear hM
  obtain ⟨g2, hg2⟩ : ∃ g, w2.heap.size = g := ⟨_, rfl⟩
  have hB2' := hB1.trans (hB2.mono hB1.size)
  generalize mk awQ.name = y2 at *
  have hb3 : (w2.alloc (.cells #[.int .u16 7, .int .u16 256, .slice (some ⟨b, 0, none⟩) 1 c, .slice a1 a2 a3, .slice n1 n2 n3, .slice x1 x2 x3] 33)).heap[g2]? = some (.cells #[.int .u16 7, .int .u16 256, .slice (some ⟨b, 0, none⟩) 1 c, .slice a1 a2 a3, .slice n1 n2 n3, .slice x1 x2 x3] 33 (0, 0)) := by rw [← hg2]; exact heap_alloc_new w2 _
  have hl3 : (w2.alloc (.cells #[.int .u16 7, .int .u16 256, .slice (some ⟨b, 0, none⟩) 1 c, .slice a1 a2 a3, .slice n1 n2 n3, .slice x1 x2 x3] 33)).heap.size = g2 + 1 := by simp [hg2]
  have hB3 : Below g2 w2 (w2.alloc (.cells #[.int .u16 7, .int .u16 256, .slice (some ⟨b, 0, none⟩) 1 c, .slice a1 a2 a3, .slice n1 n2 n3, .slice x1 x2 x3] 33)) := (Below.refl _ _).alloc (by omega) _
  have hc3 := (hB3.cell (p := ⟨b, 0, none⟩) (by show b < g2; omega)).trans hcb
  have HX := Lib.hid (And.intro hb3 (And.intro hl3 (And.intro hB3 (And.intro hc3 (And.intro hB2' hbl)))))
  clear hb3 hl3 hB3 hc3 hB2' hbl hcb hB1 hB2
  go_wp2_with fail
  generalize w2.alloc (.cells #[.int .u16 7, .int .u16 256, .slice (some ⟨b, 0, none⟩) 1 c, .slice a1 a2 a3, .slice n1 n2 n3, .slice x1 x2 x3] 33) = w3 at HX ⊢
  refine (HT.out _).mono ?_
  rintro e w4 ⟨rfl, hB4⟩
  obtain ⟨hb3, hl3, hB3, hc3, hB2', hbl⟩ := HX.out
  obtain ⟨g4, hg4⟩ : ∃ g, w4.heap.size = g := ⟨_, rfl⟩
  have hs4 := hB4.size
  have hb5 : (w4.alloc (.cells #[.int .u16 0, .int .u16 0, .slice none 0 0, .slice none 0 0, .slice none 0 0, .slice none 0 0] 33)).heap[g2]? = some (.cells #[.int .u16 7, .int .u16 256, .slice (some ⟨b, 0, none⟩) 1 c, .slice a1 a2 a3, .slice n1 n2 n3, .slice x1 x2 x3] 33 (0, 0)) := old_at ((hB4.block _ (by omega)).trans hb3)
  have m0 := cell_of_row _ _ 0 _ _ _ hb5
  have m2 := cell_of_row _ _ 2 _ _ _ hb5
  have hB5 : Below g4 w4 (w4.alloc (.cells #[.int .u16 0, .int .u16 0, .slice none 0 0, .slice none 0 0, .slice none 0 0, .slice none 0 0] 33)) := (Below.refl _ _).alloc (by omega) _
  have c5 : (w4.alloc (.cells #[.int .u16 0, .int .u16 0, .slice none 0 0, .slice none 0 0, .slice none 0 0, .slice none 0 0] 33)).cell? ⟨b, 0, none⟩ = some (.string y2) := ((hB5.cell (p := ⟨b, 0, none⟩) (by show b < g4; omega)).trans (hB4.cell (p := ⟨b, 0, none⟩) (by show b < w3.heap.size; omega))).trans hc3
  have HE : Hid (Below w.heap.size w (w4.alloc (.cells #[.int .u16 0, .int .u16 0, .slice none 0 0, .slice none 0 0, .slice none 0 0, .slice none 0 0] 33))) := by
    have k1 : Below w.heap.size w w3 := hB2'.trans (hB3.mono (by have := hB2'.size; omega))
    have k2 := k1.trans (hB4.mono k1.size)
    exact k2.alloc k2.size _
  clear hb5 hB5 hB4 hB3 hb3 hc3 hB2' HX
  go_wp2_with fail
  go_ret
  exact ⟨rfl, HE.out⟩
end Go.Proofs.Ytngbifdenbfepaa
