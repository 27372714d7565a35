/- Texts of one proof, one behind the other: PfOwn, PkInt, PkTxt, PkSpelt, TcCopy, PkEnc, PkLim, PkField, PkWrite, PkOwn, PkNev, PkAwake. -/
import Derived.Test.YtamgnbjdeoklbaaProg
import Derived.Test.YtamgnbjdeoklbaaBytes
import Derived.Test.YtamgnbjdeoklbaaPfMath
import Derived.Test.YtamgnbjdeoklbaaPfGet
import Derived.Test.YtamgnbjdeoklbaaPackNeverProofG3
import Derived.Test.YtamgnbjdeoklbaaPackNeverProofG2
import Derived.Test.YtamgnbjdeoklbaaTbMath
import Derived.Test.YtamgnbjdeoklbaaTcMem
import Derived.Test.YtamgnbjdeoklbaaTcAdd
import Derived.Test.YtamgnbjdeoklbaaUpMath
import Derived.Test.YtamgnbjdeoklbaaHfMath
import Derived.Test.YtamgnbjdeoklbaaHfSize
import Derived.Test.YtamgnbjdeoklbaaHfEncode
import Derived.Test.YtamgnbjdeoklbaaPackNeverProofG1
import Derived.Test.YtamgnbjdeoklbaaTbMem
import Derived.Test.YtamgnbjdeoklbaaTbLeast
import Derived.Test.YtamgnbjdeoklbaaTbRef
import Derived.Test.YtamgnbjdeoklbaaTcLow
import Derived.Test.YtamgnbjdeoklbaaTcShrink
import Derived.Test.YtamgnbjdeoklbaaUpFit
import Derived.Test.YtamgnbjdeoklbaaTbFix
import Derived.Test.YtamgnbjdeoklbaaTcFind
import Derived.Test.YtamgnbjdeoklbaaUpOwn
import Derived.Test.YtamgnbjdeoklbaaTbAt
import Derived.WalkKit
import Derived.Lib.Hide
import Derived.Outline
import Derived.IntWalk
import Derived.WalkSpells
import Derived.WalkLawsBesides
import Derived.Deep.QuietTactic
import Derived.BigQuiet
import Derived.Laws.Rows
import Derived.Laws.MakeOwn
import Derived.Deep.RegionLaw
import Derived.Deep.CutBlock
import Derived.Deep.DeepCutAuto
import Derived.Deep.CutRange
import Derived.StillTailTactics
import Derived.Deep.RegionHeld3
import Derived.Laws.OwnMore

/- Put into nil, into a row of one's own; a text of a row's beginning. -/
namespace Go.Proofs.Ytamgnbjdeoklbaa
open Go.RowKit Bytes Pf

theorem own_drewN {w : World} {B n : Nat} {e : TypeId} {v : Value} {xs : List Value} (h : w.ownsRow B e 1 v n xs) (q : Nat) : (w.drewN q).ownsRow B e 1 v n xs := h
theorem below_drewN {B : Nat} {a w : World} (h : Below B a w) (n : Nat) : Below B a (w.drewN n) := ⟨h.os, h.tape, h.output, h.size, h.block⟩
/-- Put into nil. -/
theorem put_nil (r : List UInt8) (k c n : Nat) (b : Int) (w : World) (hk : Hid (r.length = k)) (hc : c < 256) (hn : n < 18446744073709551616) (h3 : -9223372036854775808 ≤ b) (h4 : b ≤ 9223372036854775807) (h : Hid (putL (fullN b) c n = r)) :
    Calls Try.prog 62 #[.slice none 0 0, .int .u8 c, .int .i64 b, .int .u64 n] w fun e w' => ∃ g cap, e = .returned (.slice (some ⟨g, 0, none⟩) k cap) ∧ w'.ownsRow w.heap.size 5 1 (.slice (some ⟨g, 0, none⟩) k cap) k (Bytes.byteCells r) ∧ Below w.heap.size w w' := by
  refine (put_is none 0 [] r c n b w (by decide) (RdC.nil _ _) hc hn h3 h4 h).mono ?_
  rintro e w' ⟨v, rfl, hO, hB⟩
  have hp : 1 ≤ r.length := by rw [← h.out]; exact putL_pos _ _ _
  rw [List.length_nil, Nat.zero_add, List.nil_append, hk.out] at hO
  rw [hk.out] at hp
  rcases hO.2 with ⟨_, h0⟩ | ⟨g, cap, cur, rfl, _⟩
  · omega
  · exact ⟨g, cap, rfl, hO, hB⟩
/-- Put: what it leaves is no nil slice. -/
theorem put_own (a0 : Option Addr) (cap0 N k : Nat) (l r : List UInt8) (c n : Nat) (b : Int) (w : World) (hN : Hid (l.length = N)) (hk : Hid (r.length = k)) (hl : N ≤ 1000000) (hr : RdC w w.heap.size a0 cap0 l) (hc : c < 256) (hn : n < 18446744073709551616) (h3 : -9223372036854775808 ≤ b) (h4 : b ≤ 9223372036854775807) (h : Hid (putL (fullN b) c n = r)) :
    Calls Try.prog 62 #[.slice a0 N cap0, .int .u8 c, .int .i64 b, .int .u64 n] w fun e w' => ∃ g cap, e = .returned (.slice (some ⟨g, 0, none⟩) (N + k) cap) ∧ N + k ≤ cap ∧ cap ≤ maxLen ∧ w.heap.size ≤ g ∧ w'.ownsRow w.heap.size 5 1 (.slice (some ⟨g, 0, none⟩) (N + k) cap) (N + k) (Bytes.byteCells (l ++ r)) ∧ Below w.heap.size w w' := by
  have hp : 1 ≤ r.length := by rw [← h.out]; exact putL_pos _ _ _
  have e1 := hN.out
  have e2 := hk.out
  clear hN hk
  subst e1 e2
  refine (put_is a0 cap0 l r c n b w hl hr hc hn h3 h4 h).mono ?_
  rintro e w' ⟨v, rfl, hO, hB⟩
  rcases hO.2 with ⟨_, h0⟩ | ⟨g, cap, cur, rfl, h5, h6, h7, h8, _⟩
  · omega
  · exact ⟨g, cap, rfl, h7, h8, h5, hO, hB⟩
/-- string(b[:k]) of a row that the call gathered itself. -/
theorem convert_cut {W : World} {base n g K cap c2 : Nat} {l : List UInt8} (h : W.ownsRow base 5 1 (.slice (some ⟨g, 0, none⟩) n cap) n (Bytes.byteCells l)) (hK : K ≤ n) :
    (convert 71 9 (.slice (some ⟨g, 0, none⟩) K c2)).run Try.prog W = .ok (.string (mk (l.take K))) W := by
  have hl : l.length = n := by have := h.1; simpa [Bytes.byteCells] using this
  have hc := h.cells (g := g) rfl
  have hk : (l.take K).length = K := by rw [List.length_take]; omega
  have := run_convert_bytes_back W _ _ 5 ⟨g, 0, none⟩ c2 (l.take K) Try.underlying71 Try.underlying5 Try.underlying9 (fun j hj => hc j _ (by
    rw [hk] at hj
    simp only [Bytes.byteCells, List.getElem?_map]
    rw [List.getElem?_eq_getElem (by omega), List.getElem_take]
    rfl))
  rw [hk] at this
  exact this
end Go.Proofs.Ytamgnbjdeoklbaa

/- A writer's integer. For blocks of at most 2 * 10^9 bytes. -/
namespace Go.Proofs.Ytamgnbjdeoklbaa
open Go Go.RowKit Bytes Pf Tb

namespace Pk
/-- What a writer's call leaves: what it laid stands behind what stood. -/
def WrTo (w : World) (B u g b : Nat) (L : List UInt8) (t : Tab) (e : Ending) (w' : World) : Prop := e = .returned (.tuple #[]) ∧ ∃ v', WrS w' B u g b v' L t ∧ WrK B u g b w w'
theorem WrS.drew {w : World} {B u g b : Nat} {v : Value} {l : List UInt8} {t : Tab} (h : WrS w B u g b v l t) : WrS w.drew B u g b v l t := h.kept (Nat.le_refl _) (fun _ _ => rfl)
end Pk
open Pk

set_option maxHeartbeats 2000000 in
set_option maxRecDepth 100000 in
theorem wint_any (B u g b : Nat) (v : Value) (l r : List UInt8) (t : Tab) (c n : Nat) (k : Int) (w : World) (h : WrS w B u g b v l t) (hc : c < 256) (hn : n ≤ 4294967295) (h1 : 1 ≤ k) (h2 : k ≤ 8) (hr : Hid (putL (fullN k) c n = r)) (hmn : l.length + r.length ≤ 2000000000) :
    Calls Try.prog 46 #[.pointer (some ⟨u, 0, none⟩), .int .u8 (c : Int), .int .i64 k, .int .i64 (n : Int)] w (WrTo w B u g b (l ++ r) t) := by
  have H := Lib.hid h.drew
  have HK0 := Lib.hid (show WrK B u g b w w.drew from WrK.of_below ((Below.refl _ w).drew))
  have hp : 1 ≤ r.length := by rw [← hr.out]; exact putL_pos _ _ _
  have hw : IntKind.u64.wrap (n : Int) = (n : Int) := by rw [IntKind.wrap_u64]; omega
  obtain ⟨m, hm⟩ : ∃ m, r.length = m := ⟨_, rfl⟩
  have HM := Lib.hid hm
  rw [hm] at hmn hp
  have HP := Lib.hid (fun W : World => put_nil r m c n k W HM hc (by omega) (by omega) (by omega) hr)
  clear h hr hm
  go_enter Try.func46, Try.ntmps46
  go_region_with (first | (go_at_call 62; refine (HP.out _).mono ?_; rintro e w1 ⟨gs, cs, rfl, hO, hB⟩; have HO := Lib.hid hO; have HB := Lib.hid hB; clear hO hB) | (go_at_call 61; refine (bwrite_any B u g b v l r t gs m cs w1 (H.out.below HB.out) HM.out (by omega) (HO.out.cells (g := gs) rfl) (by have := (HO.out.lt gs rfl).1; have := H.out.ult; omega) (by omega)).mono ?_; rintro e w2 ⟨rfl, v', hS, hK⟩; have HE := Lib.hid (And.intro hS (HK0.out.trans (b' := b) (WrK.first HB.out hK) (.inl rfl))); clear hS hK))
  all_goals
    go_wp2_with fail
    go_end0
    exact ⟨rfl, v', HE.out⟩
end Go.Proofs.Ytamgnbjdeoklbaa

/- A writer's text; a field by texts. For texts of at most 900000 bytes, blocks of at most 2 * 10^9. -/
namespace Go.Proofs.Ytamgnbjdeoklbaa
open Go Go.RowKit Bytes Pf Tb Pk Up

theorem enc_size (l : List UInt8) : Hf.sizeE l = (Hf.enc l).length := (Hf.enc_len l).symm
set_option maxHeartbeats 4000000 in
set_option maxRecDepth 100000 in
theorem wtext_any (B u g b : Nat) (v : Value) (l r : List UInt8) (t : Tab) (s : ByteArray) (w : World) (h : WrS w B u g b v l t) (hs : s.size ≤ 900000) (hr : Hid (layT s.data.toList = r)) (hmn : l.length + r.length ≤ 2000000000) :
    Calls Try.prog 64 #[.pointer (some ⟨u, 0, none⟩), .string s] w (WrTo w B u g b (l ++ r) t) := by
  obtain ⟨c, hc⟩ : ∃ c, mk (Hf.enc s.data.toList) = c := ⟨_, rfl⟩
  have hrr := hr.out
  unfold Pk.layT at hrr
  have hcl : (Hf.enc s.data.toList).length = c.size := by rw [← hc, Pk.size_mk]
  have htl : s.data.toList.length = s.size := (size_list s).symm
  rw [hcl, htl] at hrr
  have HZ := Lib.hid (show Hf.sizeE s.data.toList = c.size by rw [enc_size, hcl])
  have HC := Lib.hid hc
  have hce : Hf.enc s.data.toList = c.data.toList := by rw [← hc, mk_list]
  have H := Lib.hid h
  clear h hr
  by_cases hlt : c.size < s.size
  · rw [if_pos hlt, hce] at hrr
    obtain ⟨p, hpp⟩ : ∃ p, putL 127 128 c.size = p := ⟨_, rfl⟩
    rw [hpp] at hrr
    subst hrr
    have hpl : 1 ≤ p.length := by rw [← hpp]; exact putL_pos _ _ _
    have hci : (c.size : Int) < (s.size : Int) := by omega
    have hsum : l.length + (p.length + c.size) ≤ 2000000000 := by rw [List.length_append, ← size_list] at hmn; omega
    have HPP := Lib.hid (show putL (fullN 7) 128 c.size = p from hpp)
    clear hmn hpp hcl htl hce hc
    go_enter Try.func64, Try.ntmps64
    go_wp2_with fail
    refine (hsize_is s c.size _ (by omega) HZ).mono ?_
    rintro e w1 ⟨rfl, rfl⟩
    go_wp2_with fail
    refine (encode_is s c _ (by omega) HC).mono ?_
    rintro e w1 ⟨rfl, hB1⟩
    have H1 := Lib.hid (H.out.below hB1)
    have K1 := Lib.hid (show WrK B u g b w w1 from WrK.of_below hB1)
    clear hB1
    go_wp2_with fail
    refine (wint_any B u g b v l p t 128 c.size 7 w1 H1.out (by decide) (by omega) (by omega) (by omega) HPP (by omega)).mono ?_
    rintro e w2 ⟨rfl, v2, hS2, hK2⟩
    have H2 := Lib.hid hS2
    have K2 := Lib.hid (K1.out.trans hK2 (.inl rfl))
    clear hS2 hK2
    go_wp2_with fail
    refine (bstring_any B u g b v2 (l ++ p) c t w2 H2.out (fun e => by rw [(List.append_eq_nil_iff.1 e).2] at hpl; exact absurd hpl (by decide)) (by rw [List.length_append]; omega)).mono ?_
    rintro e w3 ⟨rfl, v3, hS3, hK3⟩
    have HE := Lib.hid (show ∃ v', WrS w3 B u g b v' (l ++ (p ++ c.data.toList)) t ∧ WrK B u g b w w3 from ⟨v3, by rw [← List.append_assoc]; exact hS3, K2.out.trans hK3 (.inl rfl)⟩)
    clear hS3 hK3
    go_wp2_with fail
    go_end0
    exact ⟨rfl, HE.out⟩
  · rw [if_neg hlt] at hrr
    obtain ⟨p, hpp⟩ : ∃ p, putL 127 0 s.size = p := ⟨_, rfl⟩
    rw [hpp] at hrr
    subst hrr
    have hpl : 1 ≤ p.length := by rw [← hpp]; exact putL_pos _ _ _
    have hci : ¬ ((c.size : Int) < (s.size : Int)) := by omega
    have hcd : decide ((c.size : Int) < (s.size : Int)) = false := decide_eq_false hci
    have hsum : l.length + (p.length + s.size) ≤ 2000000000 := by rw [List.length_append, ← size_list] at hmn; omega
    have HPP := Lib.hid (show putL (fullN 7) 0 s.size = p from hpp)
    have hcs : c.size ≤ 30 * s.size := by
      have h1 := Hf.enc_len s.data.toList
      have h2 := (Hf.encB_len s.data.toList).2
      omega
    clear hmn hpp hcl htl hce hc
    go_enter Try.func64, Try.ntmps64
    go_wp2_with fail
    refine (hsize_is s c.size _ (by omega) HZ).mono ?_
    rintro e w1 ⟨rfl, rfl⟩
    go_wp2_with fail
    refine (wint_any B u g b v l p t 0 s.size 7 w H.out (by decide) (by omega) (by omega) (by omega) HPP (by omega)).mono ?_
    rintro e w2 ⟨rfl, v2, hS2, hK2⟩
    have H2 := Lib.hid hS2
    have K2 := Lib.hid hK2
    clear hS2 hK2
    go_wp2_with fail
    refine (bstring_any B u g b v2 (l ++ p) s t w2 H2.out (fun e => by rw [(List.append_eq_nil_iff.1 e).2] at hpl; exact absurd hpl (by decide)) (by rw [List.length_append]; omega)).mono ?_
    rintro e w3 ⟨rfl, v3, hS3, hK3⟩
    have HE := Lib.hid (show ∃ v', WrS w3 B u g b v' (l ++ (p ++ s.data.toList)) t ∧ WrK B u g b w w3 from ⟨v3, by rw [← List.append_assoc]; exact hS3, K2.out.trans hK3 (.inl rfl)⟩)
    clear hS3 hK3
    go_wp2_with fail
    go_end0
    exact ⟨rfl, HE.out⟩
end Go.Proofs.Ytamgnbjdeoklbaa

/- A writer's field by texts. For names and values of at most 900000 bytes, blocks of at most 2 * 10^9. -/
namespace Go.Proofs.Ytamgnbjdeoklbaa
open Go Go.RowKit Bytes Pf Tb Pk Up

/-- A field's box. -/
def FBox (w : World) (X : Nat) (x : Fld) : Prop := w.heap[X]? = some (.cells #[.string x.name, .string x.val, .bool x.never] 45 (0, 0))
theorem FBox.kept {w w' : World} {B u g b X : Nat} {x : Fld} (h : FBox w X x) (hk : WrK B u g b w w') (hu : X ≠ u) (hg : X ≠ g) (hb : X ≠ b) : FBox w' X x :=
  hk.block X _ h hu hg hb (.inr fun c fz e => by injection e with _ e _; exact absurd e (by decide))
theorem FBox.c {w : World} {X : Nat} {x : Fld} (h : FBox w X x) : w.cell? ⟨X, 0, none⟩ = some (.string x.name) ∧ w.cell? ⟨X, 1, none⟩ = some (.string x.val) ∧ w.cell? ⟨X, 2, none⟩ = some (.bool x.never) :=
  ⟨cell_of_row _ X 0 _ _ _ h, cell_of_row _ X 1 _ _ _ h, cell_of_row _ X 2 _ _ _ h⟩
set_option maxHeartbeats 4000000 in
set_option maxRecDepth 100000 in
theorem wspelt_any (B u g b : Nat) (v : Value) (l r : List UInt8) (t : Tab) (f c n : Nat) (k : Int) (x : Fld) (w : World) (h : WrS w B u g b v l t) (hf : fullN k = f) (hc : c < 256) (hn : n ≤ 4294967295) (h1 : 1 ≤ k) (h2 : k ≤ 8) (hx1 : x.name.size ≤ 900000) (hx2 : x.val.size ≤ 900000) (hr : Hid (layF f c n x = r)) (hmn : l.length + r.length ≤ 2000000000) :
    Calls Try.prog 48 #[.pointer (some ⟨u, 0, none⟩), .int .u8 (c : Int), .int .i64 k, .int .i64 (n : Int), .agg #[.string x.name, .string x.val, .bool x.never]] w (WrTo w B u g b (l ++ r) t) := by
  subst hf
  have hrr := hr.out
  unfold Pk.layF at hrr
  obtain ⟨p, hp⟩ : ∃ p, putL (fullN k) c n = p := ⟨_, rfl⟩
  obtain ⟨q, hq⟩ : ∃ q, layT x.val.data.toList = q := ⟨_, rfl⟩
  rw [hp, hq] at hrr
  have HPP := Lib.hid hp
  have HQ := Lib.hid hq
  have hB0 := (Below.refl _ w).alloc (Nat.le_refl _) (.cells #[.string x.name, .string x.val, .bool x.never] 45)
  have HX0 := Lib.hid (show FBox (w.alloc (.cells #[.string x.name, .string x.val, .bool x.never] 45)) w.heap.size x from heap_alloc_new w _)
  have H0 := Lib.hid (h.below hB0)
  have K0 := Lib.hid (show WrK B u g b w (w.alloc (.cells #[.string x.name, .string x.val, .bool x.never] 45)) from WrK.of_below hB0)
  have hXu : w.heap.size ≠ u := by have := h.ult; omega
  have hXg : w.heap.size ≠ g := by have := h.tab.lt; omega
  have hXb : w.heap.size ≠ b := by have := h.tab.lt; omega
  clear h hB0 hp hq hr
  by_cases h0 : n = 0
  · subst h0
    obtain ⟨y, hy⟩ : ∃ y, layT x.name.data.toList = y := ⟨_, rfl⟩
    rw [if_pos rfl, hy] at hrr
    subst hrr
    have HY := Lib.hid hy
    clear hy
    rw [List.length_append, List.length_append] at hmn
    go_enter Try.func48, Try.ntmps48
    go_wp2_with fail
    refine (wint_any B u g b v l p t c 0 k _ H0.out hc (by omega) h1 h2 HPP (by omega)).mono ?_
    rintro e w1 ⟨rfl, v1, hS1, hK1⟩
    have HX1 := Lib.hid (HX0.out.kept hK1 hXu hXg hXb)
    have H1 := Lib.hid hS1
    have K1 := Lib.hid (K0.out.trans hK1 (.inl rfl))
    clear hS1 hK1
    obtain ⟨a0, a1, a2⟩ := HX1.out.c
    go_wp2_with fail
    refine (wtext_any B u g b v1 (l ++ p) y t x.name w1 H1.out hx1 HY (by rw [List.length_append]; omega)).mono ?_
    rintro e w2 ⟨rfl, v2, hS2, hK2⟩
    have HX2 := Lib.hid (HX1.out.kept hK2 hXu hXg hXb)
    have H2 := Lib.hid hS2
    have K2 := Lib.hid (K1.out.trans hK2 (.inl rfl))
    clear hS2 hK2 a0 a1 a2
    obtain ⟨a0, a1, a2⟩ := HX2.out.c
    go_wp2_with fail
    refine (wtext_any B u g b v2 (l ++ p ++ y) q t x.val w2 H2.out hx2 HQ (by rw [List.length_append, List.length_append]; omega)).mono ?_
    rintro e w3 ⟨rfl, v3, hS3, hK3⟩
    have HE := Lib.hid (show ∃ v', WrS w3 B u g b v' (l ++ (p ++ (y ++ q))) t ∧ WrK B u g b w w3 from ⟨v3, by rw [← List.append_assoc, ← List.append_assoc]; exact hS3, K2.out.trans hK3 (.inl rfl)⟩)
    clear hS3 hK3 a0 a1 a2
    go_wp2_with fail
    go_end0
    exact ⟨rfl, HE.out⟩
  · rw [if_neg h0, List.nil_append] at hrr
    subst hrr
    have hnz : ((n : Int) == 0) = false := beq_eq_false_iff_ne.2 (by omega)
    have hnd : decide ((n : Int) = 0) = false := decide_eq_false (by omega)
    rw [List.length_append] at hmn
    go_enter Try.func48, Try.ntmps48
    go_wp2_with fail
    refine (wint_any B u g b v l p t c n k _ H0.out hc (by omega) h1 h2 HPP (by omega)).mono ?_
    rintro e w1 ⟨rfl, v1, hS1, hK1⟩
    have HX1 := Lib.hid (HX0.out.kept hK1 hXu hXg hXb)
    have H1 := Lib.hid hS1
    have K1 := Lib.hid (K0.out.trans hK1 (.inl rfl))
    clear hS1 hK1
    obtain ⟨a0, a1, a2⟩ := HX1.out.c
    go_wp2_with fail
    refine (wtext_any B u g b v1 (l ++ p) q t x.val w1 H1.out hx2 HQ (by rw [List.length_append]; omega)).mono ?_
    rintro e w3 ⟨rfl, v3, hS3, hK3⟩
    have HE := Lib.hid (show ∃ v', WrS w3 B u g b v' (l ++ (p ++ q)) t ∧ WrK B u g b w w3 from ⟨v3, by rw [← List.append_assoc]; exact hS3, K1.out.trans hK3 (.inl rfl)⟩)
    clear hS3 hK3 a0 a1 a2
    go_wp2_with fail
    go_end0
    exact ⟨rfl, HE.out⟩
end Go.Proofs.Ytamgnbjdeoklbaa

/- The contract of a table's Copy. For at most 1000 entries of at most 10^6 bytes a text, 10^9 together. -/
namespace Go.Proofs.Ytamgnbjdeoklbaa
open Go.RowKit Tb

namespace Tb
theorem entAt_set {L : List Ent} {k i : Nat} {e : Ent} (hk : k < L.length) : entAt (L.set k e) i = if i = k then e else entAt L i := by
  unfold entAt
  rw [List.getD_eq_getElem?_getD, List.getD_eq_getElem?_getD, List.getElem?_set]
  by_cases h : i = k
  · subst h; rw [if_pos rfl, if_pos rfl, if_pos hk]; rfl
  · rw [if_neg h, if_neg (fun e => h e.symm)]
theorem entCs_get {L : List Ent} {j : Nat} {u : Value} (h : (entCs L)[j]? = some u) : (j % 2 = 0 ∧ u = .string (entAt L (j / 2)).1) ∨ (j % 2 = 1 ∧ u = .string (entAt L (j / 2)).2) := by
  have hj := entCs_lt h
  have hat := entCs_at (L := L) (k := j / 2) (by omega)
  rcases Nat.mod_two_eq_zero_or_one j with hm | hm
  · rw [show j / 2 * 2 = j by omega, h] at hat
    injection hat.1 with e
    exact .inl ⟨hm, e⟩
  · rw [show j / 2 * 2 + 1 = j by omega, h] at hat
    injection hat.2 with e
    exact .inr ⟨hm, e⟩
/-- An entry is laid over one that stood there. -/
theorem Row.set {w : World} {b off n c : Nat} {ao : Option Addr} {L : List Ent} (h : Row w b ao off n c L) {k : Nat} (hk : k < n) (x y : ByteArray) : Row ((w.setCell ⟨b, off + k * 2, none⟩ (.string x)).setCell ⟨b, off + k * 2 + 1, none⟩ (.string y)) b ao off n c (L.set k (x, y)) := by
  obtain ⟨ha, hlt, c1, c2, f1, f2⟩ := h.get hk
  have hkl : k < L.length := by rw [h.len]; exact hk
  refine ⟨by rw [List.length_set]; exact h.len, h.le, h.max, h.addr, fun hc => by simpa using h.lt hc, fun j u hj => ?_, fun j hj => ⟨?_, by rw [World.frozen?_setCell, World.frozen?_setCell]; exact (h.there j hj).2⟩⟩
  · by_cases hj2 : j = k * 2 + 1
    · subst hj2
      rcases entCs_get hj with ⟨hm, _⟩ | ⟨_, rfl⟩
      · omega
      · rw [show (k * 2 + 1) / 2 = k by omega, entAt_set hkl, if_pos rfl, ← Nat.add_assoc]
        exact World.cell?_setCell_same (u := .string (entAt L k).2) _ _ _ (by rw [World.cell?_setCell_other _ _ _ _ (by simp)]; exact c2)
    · rw [World.cell?_setCell_other _ _ _ _ (by simp <;> omega)]
      by_cases hj1 : j = k * 2
      · subst hj1
        rcases entCs_get hj with ⟨_, rfl⟩ | ⟨hm, _⟩
        · rw [show k * 2 / 2 = k by omega, entAt_set hkl, if_pos rfl]
          exact World.cell?_setCell_same (u := .string (entAt L k).1) _ _ _ c1
        · omega
      · rw [World.cell?_setCell_other _ _ _ _ (by simp <;> omega)]
        refine h.holds j u ?_
        have hjl := entCs_lt hj
        rw [List.length_set] at hjl
        have hat := entCs_at (L := L) (k := j / 2) (by omega)
        rcases entCs_get hj with ⟨hm, rfl⟩ | ⟨hm, rfl⟩
        · rw [entAt_set hkl, if_neg (by omega)]
          rw [show j / 2 * 2 = j by omega] at hat
          exact hat.1
        · rw [entAt_set hkl, if_neg (by omega)]
          rw [show j / 2 * 2 + 1 = j by omega] at hat
          exact hat.2
  · obtain ⟨v, hv⟩ := Option.isSome_iff_exists.1 (h.there j hj).1
    by_cases hj2 : j = k * 2 + 1
    · subst hj2
      rw [← Nat.add_assoc, World.cell?_setCell_same (u := .string (entAt L k).2) _ _ _ (by rw [World.cell?_setCell_other _ _ _ _ (by simp)]; exact c2)]
      rfl
    · rw [World.cell?_setCell_other _ _ _ _ (by simp <;> omega)]
      by_cases hj1 : j = k * 2
      · subst hj1
        rw [World.cell?_setCell_same (u := .string (entAt L k).1) _ _ _ c1]
        rfl
      · rw [World.cell?_setCell_other _ _ _ _ (by simp <;> omega), hv]
        rfl
/-- A row that is filled up to a place. -/
def fillP (L : List Ent) (n k : Nat) : List Ent := L.take k ++ List.replicate (n - k) (⟨#[]⟩, ⟨#[]⟩)
theorem fillP_len {L : List Ent} {n k : Nat} (hL : L.length = n) (hk : k ≤ n) : (fillP L n k).length = n := by
  unfold fillP
  rw [List.length_append, List.length_take, List.length_replicate]
  omega
theorem fillP_step {L : List Ent} {n k : Nat} (hL : L.length = n) (hk : k < n) : (fillP L n k).set k (entAt L k) = fillP L n (k + 1) := by
  unfold fillP
  rw [entAt_take (by omega), List.set_append_right _ _ (by rw [List.length_take]; omega), List.length_take, show k - min k L.length = 0 by omega, show n - k = (n - (k + 1)) + 1 by omega, List.replicate_succ, List.set_cons_zero, List.append_assoc]
  rfl
end Tb
/-- An entry's copy, asked beside a table's block and a row. -/
theorem apart_at (g R o : Nat) (u0 u1 u2 v0 v1 : Value) (t : TypeId) (x y : ByteArray) (w : World) (hx : x.size ≤ 1000000) (hy : y.size ≤ 1000000) (h : w.heap[g]? = some (.cells #[u0, u1, u2] t (0, 0))) (hR : R < w.heap.size) (c0 : w.cell? ⟨R, o, none⟩ = some v0) (c1 : w.cell? ⟨R, o + 1, none⟩ = some v1) (f0 : w.frozen? ⟨R, o, none⟩ = false) (f1 : w.frozen? ⟨R, o + 1, none⟩ = false) :
    Calls Try.prog 35 #[.agg #[.string x, .string y]] w fun e w' => e = .returned (.agg #[.string x, .string y]) ∧ w'.cell? ⟨g, 2, none⟩ = some u2 ∧ w'.cell? ⟨R, o, none⟩ = some v0 ∧ w'.cell? ⟨R, o + 1, none⟩ = some v1 ∧ w'.frozen? ⟨R, o, none⟩ = false ∧ w'.frozen? ⟨R, o + 1, none⟩ = false ∧ Below w.heap.size w w' :=
  (apart_is x y w hx hy).mono fun e w' ⟨he, hB⟩ => by
    have h2 := (hB.block g (world_lt h)).trans h
    obtain ⟨_, _, a3, _, _, _⟩ := three_cells h2
    exact ⟨he, a3, (hB.cell (p := ⟨R, o, none⟩) hR).trans c0, (hB.cell (p := ⟨R, o + 1, none⟩) hR).trans c1, (hB.frozen (p := ⟨R, o, none⟩) hR).trans f0, (hB.frozen (p := ⟨R, o + 1, none⟩) hR).trans f1, hB⟩
/-- An empty row, as make lays it. -/
def MadeO (n : Nat) : Obj := .cells (madeCells #[.string ⟨#[]⟩, .string ⟨#[]⟩] (n * 2)) 82
theorem make_row (n : Nat) (hn : n ≤ 1000) (w : World) : (Instr.makeSlice 78 (.int .i64 (n : Int)) (.int .i64 (n : Int))).run Try.prog w = .ok (.slice (some ⟨w.heap.size, 0, none⟩) n n) (w.alloc (MadeO n)) := by
  obtain ⟨i0, hi, hz0, hz1, hz2⟩ := info_parts infoP
  have := run_make (P := Try.prog) w 78 82 i0 _ Try.underlying78 hi hz0 .i64 .i64 n n (by omega) (Int.le_refl _) (by rw [hz2]; omega) (by omega)
  rw [hz1, Int.toNat_natCast] at this
  exact this

set_option maxHeartbeats 4000000 in
set_option maxRecDepth 100000 in
theorem copy_is (g b : Nat) (t : Tab) (w : World) (h : Hid (TAt w g b t)) (hf : Hid (Fit t)) :
    Calls Try.prog 32 #[.pointer (some ⟨g, 0, none⟩)] w fun e w' => ∃ g2, e = .returned (.pointer (some ⟨g2, 0, none⟩)) ∧ w.heap.size ≤ g2 ∧ Below w.heap.size w w' ∧ ∃ b2, TAt w' g2 b2 t ∧ w.heap.size ≤ b2 := by
  obtain ⟨⟨ao, off, c, hT0⟩, hok, hmx⟩ := h.out
  obtain ⟨n, hn⟩ : ∃ n, t.2.length = n := ⟨_, rfl⟩
  have hnb : n ≤ 1000 := by rw [← hn]; exact hf.out.1
  have hrl : t.2.reverse.length = n := by rw [List.length_reverse]; exact hn
  unfold TRaw at hT0
  rw [hrl] at hT0
  obtain ⟨M, hM⟩ : ∃ M : Int, (t.1 : Int) = M := ⟨_, rfl⟩
  obtain ⟨S, hS⟩ : ∃ S : Int, (sumL t.2.reverse : Int) = S := ⟨_, rfl⟩
  rw [hM, hS] at hT0
  have HG := Lib.hid hT0.1
  have HR := Lib.hid hT0.2.1
  have hmk := make_row n hnb
  clear hT0
  obtain ⟨a1, a2, a3, _, _, _⟩ := three_cells HG.out
  obtain ⟨q1, q2, q3, _, _, _⟩ := three_cells (w := w.drew) HG.out
  have HGA := (heap_alloc_old w (MadeO n) (world_lt HG.out)).trans HG.out
  obtain ⟨r1, r2, r3, _, _, _⟩ := three_cells HGA
  clear HGA
  go_enter Try.func32, Try.ntmps32
  go_upto_region 1 with fail
  go_cut [3] from 6 to 21 (fun v wx => v = .pointer (some ⟨w.heap.size + 1, 0, none⟩) ∧ wx = ((w.alloc (MadeO n)).alloc (.cells #[.int .i64 M, .int .i64 S, .slice (some ⟨w.heap.size, 0, none⟩) n n] 80)).drew)
  case first =>
    go_region_law (fail)
    all_goals (go_wp2_with fail; go_meet; exact ⟨rfl, rfl⟩)
  case rest =>
    obtain ⟨rfl, rfl⟩ := hcut
    clear hmk a1 a2 a3 q1 q2 q3 r1 r2 r3
    obtain ⟨R, hRR⟩ : ∃ R, w.heap.size = R := ⟨_, rfl⟩
    have HS0 := Lib.hid (show (w.alloc (MadeO n)).heap.size = R + 1 by rw [World.size_alloc, hRR])
    have HG2 := Lib.hid (show (((w.alloc (MadeO n)).alloc (.cells #[.int .i64 M, .int .i64 S, .slice (some ⟨w.heap.size, 0, none⟩) n n] 80)).drew).heap[R + 1]? = some (.cells #[.int .i64 M, .int .i64 S, .slice (some ⟨R, 0, none⟩) n n] 80 (0, 0)) from by
      have := heap_alloc_new (w.alloc (MadeO n)) (.cells #[.int .i64 M, .int .i64 S, .slice (some ⟨w.heap.size, 0, none⟩) n n] 80)
      rw [HS0.out, hRR] at this
      rw [hRR]
      exact this)
    have hRow0 : Row (w.alloc (MadeO n)) R (some ⟨R, 0, none⟩) 0 n n (fillP t.2.reverse n 0) := by
      have hc : ∀ j, (w.alloc (MadeO n)).cell? ⟨R, j, none⟩ = (madeCells #[.string ⟨#[]⟩, .string ⟨#[]⟩] (n * 2))[j]? := fun j => by rw [← hRR]; exact World.cell?_alloc_new w _ _ j
      have hz : ∀ j, j < n * 2 → (madeCells #[Value.string ⟨#[]⟩, .string ⟨#[]⟩] (n * 2))[j]? = some (.string ⟨#[]⟩) := fun j hj => by
        rcases Nat.mod_two_eq_zero_or_one j with hm | hm <;> simp [madeCells, hj, hm]
      refine ⟨fillP_len hrl (Nat.zero_le _), Nat.le_refl _, by unfold maxLen; omega, fun _ => rfl, fun _ => by rw [HS0.out]; omega, fun j u hj => ?_, fun j hj => ⟨?_, ?_⟩⟩
      · have hjl := entCs_lt hj
        rw [fillP_len hrl (Nat.zero_le _)] at hjl
        rw [Nat.zero_add, hc, hz j hjl]
        have hu : ∀ i, entAt (fillP t.2.reverse n 0) i = (⟨#[]⟩, ⟨#[]⟩) := fun i => by
          unfold entAt fillP
          rw [List.take_zero, List.nil_append, Nat.sub_zero, List.getD_eq_getElem?_getD, List.getElem?_replicate]
          split <;> rfl
        rcases entCs_get hj with ⟨_, rfl⟩ | ⟨_, rfl⟩ <;> rw [hu]
      · rw [Nat.zero_add, hc, hz j hj]
        rfl
      · rw [Nat.zero_add, ← hRR]
        exact World.frozen?_alloc_new w _ _ j
    have HB0 := Lib.hid ((((Below.refl w.heap.size w).alloc (Nat.le_refl _) (MadeO n)).alloc (by simp) (.cells #[.int .i64 M, .int .i64 S, .slice (some ⟨w.heap.size, 0, none⟩) n n] 80)).drew)
    have HRow := Lib.hid (hRow0.kept (w' := ((w.alloc (MadeO n)).alloc (.cells #[.int .i64 M, .int .i64 S, .slice (some ⟨w.heap.size, 0, none⟩) n n] 80)).drew) (by simp) (fun hl => heap_alloc_old (w.alloc (MadeO n)) _ hl))
    clear hRow0
    generalize ((w.alloc (MadeO n)).alloc (.cells #[.int .i64 M, .int .i64 S, .slice (some ⟨w.heap.size, 0, none⟩) n n] 80)).drew = W at *
    rw [hRR]
    have HRR := Lib.hid hRR
    have hgR := world_lt HG.out
    rw [hRR] at hgR HB0
    have HGW := Lib.hid ((HB0.out.block g hgR).trans HG.out)
    obtain ⟨a1, a2, a3, _, _, _⟩ := three_cells HGW.out
    clear hRR
    have HSM := Lib.hid hf.out.rev.1
    go_wp2_with fail
    go_loopw [27, 4, 5] (fun i u4 u5 wr => ∃ k : Nat, k ≤ n ∧ i = .int .i64 (k : Int) ∧ Hid (Row wr R (some ⟨R, 0, none⟩) 0 n n (fillP t.2.reverse n k)) ∧ Hid (wr.heap[R + 1]? = some (.cells #[.int .i64 M, .int .i64 S, .slice (some ⟨R, 0, none⟩) n n] 80 (0, 0))) ∧ Below R w wr) (fun i _ _ _ => n - (intOf i).toNat)
    case atStart => exact ⟨0, by omega, rfl, HRow, HG2, HB0.out⟩
    case round =>
      obtain ⟨k, hk, rfl, hRw, hGw, hBw⟩ := hrel
      by_cases hlt : k < n
      · have hli : (k : Int) < (n : Int) := by omega
        have hkl : k < t.2.reverse.length := by omega
        obtain ⟨rfl, hbl, hc1, hc2, _, _⟩ := HR.out.get hlt
        obtain ⟨hxs, hys⟩ := HSM.out.at hkl
        have hst := Lib.hid (fillP_step hrl hlt)
        obtain ⟨e, he⟩ : ∃ e, entAt t.2.reverse k = e := ⟨_, rfl⟩
        rw [he] at hc1 hc2 hxs hys hst
        obtain ⟨x, y⟩ := e
        obtain ⟨_, hRl, d1, d2, d3, d4⟩ := hRw.out.get hlt
        have hbR : b < R := by rw [← HRR.out]; exact hbl
        have s1 := (hBw.cell (p := ⟨b, off + k * 2, none⟩) hbR).trans hc1
        have s2 := (hBw.cell (p := ⟨b, off + k * 2 + 1, none⟩) hbR).trans hc2
        have hof := off_add_addr b off (k * 2)
        have hof2 := zero_add_addr R (k * 2)
        rw [Nat.zero_add] at d1 d2 d3 d4
        have hk0 : (0 : Int) ≤ (k : Int) := by omega
        have e2 : IntKind.i64.wrap ((k : Int) + 1) = ((k + 1 : Nat) : Int) := by rw [IntKind.wrap_i64]; omega
        have hA := (Below.refl wr.heap.size wr).alloc (Nat.le_refl _) (.cells #[.string x, .string y] 82)
        clear hc1 hc2 he hkl hof
        have hof := off_add_addr b off (k * 2)
        obtain ⟨W2, hW2⟩ : ∃ W2, wr.alloc (.cells #[.string x, .string y] 82) = W2 := ⟨_, rfl⟩
        rw [hW2] at hA
        have hrs := hA.size
        have hnE : W2.heap[wr.heap.size]? = some (.cells #[.string x, .string y] 82 (0, 0)) := by rw [← hW2]; exact heap_alloc_new wr _
        have hG3 := Lib.hid ((hA.block (R + 1) (world_lt hGw.out)).trans hGw.out)
        have hR3 := Lib.hid (hRw.out.kept hA.size (hA.block R))
        have hB3 := Lib.hid (hBw.trans (hA.mono (by omega)))
        go_upto_region 5 with fail
        obtain ⟨m1, m2, m3, m4⟩ := two_cells hnE
        obtain ⟨l1, l2, l3, l4⟩ := two_cells (w := W2.drew) hnE
        obtain ⟨n1, n2, n3, _, _, _⟩ := three_cells hG3.out
        obtain ⟨p1, p2, p3, _, _, _⟩ := three_cells (w := W2.drew) hG3.out
        obtain ⟨_, hRl3, d1, d2, d3, d4⟩ := hR3.out.get hlt
        rw [Nat.zero_add] at d1 d2 d3 d4
        have HGd : Hid (W2.drew.heap[R + 1]? = some (.cells #[.int .i64 M, .int .i64 S, .slice (some ⟨R, 0, none⟩) n n] 80 (0, 0))) := hG3
        have HRd : Hid (R < W2.drew.heap.size) := Lib.hid hRl3
        have HD : Hid (W2.drew.cell? ⟨R, k * 2, none⟩ = some (.string (entAt (fillP t.2.reverse n k) k).1) ∧ W2.drew.cell? ⟨R, k * 2 + 1, none⟩ = some (.string (entAt (fillP t.2.reverse n k) k).2) ∧ W2.drew.frozen? ⟨R, k * 2, none⟩ = false ∧ W2.drew.frozen? ⟨R, k * 2 + 1, none⟩ = false) := Lib.hid ⟨d1, d2, d3, d4⟩
        clear hnE s1 s2 hW2
        go_region_law (go_simp; go_at_call 35; (with_reducible refine (apart_at (R + 1) R (k * 2) _ _ _ _ _ _ x y _ hxs hys HGd.out HRd.out HD.out.1 HD.out.2.1 HD.out.2.2.1 HD.out.2.2.2).mono ?_); rintro e w5 ⟨rfl, z2, v0, v1, v2, v3, hB5⟩)
        all_goals
          have hR5 : Row w5 R (some ⟨R, 0, none⟩) 0 n n (fillP t.2.reverse n k) := (hR3.out.kept (w' := W2.drew) (Nat.le_refl _) (fun _ => rfl)).kept hB5.size (hB5.block R)
          have hG5 := (hB5.block (R + 1) (world_lt HGd.out)).trans HGd.out
          have R6 := hR5.set hlt x y
          rw [Nat.zero_add, hst.out] at R6
          have G6 := Lib.hid ((Below.heap_setCell (w5.setCell ⟨R, k * 2, none⟩ (.string x)) ⟨R, k * 2 + 1, none⟩ (.string y) (R + 1) (by show R + 1 ≠ R; omega)).trans ((Below.heap_setCell w5 ⟨R, k * 2, none⟩ (.string x) (R + 1) (by show R + 1 ≠ R; omega)).trans hG5))
          have B6 := Lib.hid (((hB3.out.drew.trans (hB5.mono (Nat.le_of_lt HRd.out))).setCell (p := ⟨R, k * 2, none⟩) (Nat.le_refl _) (.string x)).setCell (p := ⟨R, k * 2 + 1, none⟩) (Nat.le_refl _) (.string y))
          have HR6 := Lib.hid R6
          clear hR5 hG5 R6 hB5 z2 v0 v1 v2 v3
          go_wp2_with fail
          go_roundw
          case rel => exact ⟨k + 1, by omega, rfl, HR6, G6, B6.out⟩
          case measure => simp [intOf] <;> omega
      · have hli : ¬ (k : Int) < (n : Int) := by omega
        have hkn : k = n := by omega
        have hfl : fillP t.2.reverse n k = t.2.reverse := by
          unfold fillP
          rw [hkn, Nat.sub_self, List.take_of_length_le (by omega)]
          exact List.append_nil _
        have hr2 := hRw.out
        rw [hfl] at hr2
        have HFIN := Lib.hid (show ∃ b2, TAt wr (R + 1) b2 t ∧ R ≤ b2 from by
          refine ⟨if n = 0 then R + 1 else R, ⟨⟨some ⟨R, 0, none⟩, 0, n, ?_⟩, hok, hmx⟩, by split <;> omega⟩
          unfold TRaw
          rw [hrl, hM, hS]
          refine ⟨hGw.out, ?_, fun h0 => if_pos h0, fun h0 => by rw [if_neg (by omega)]; omega⟩
          by_cases h0 : n = 0
          · subst h0
            have hl : t.2.reverse = [] := List.length_eq_zero_iff.1 hrl
            rw [hl]
            exact Row.empty _ _ _ _
          · rw [if_neg h0]
            exact hr2)
        clear hr2 hfl
        go_wp2_with fail
        go_ret
        obtain ⟨b2, f1, f2⟩ := HFIN.out
        refine ⟨R + 1, rfl, ?_, ?_, b2, f1, ?_⟩
        · rw [HRR.out]; exact Nat.le_succ R
        · rw [HRR.out]; exact hBw
        · rw [HRR.out]; exact f2
end Go.Proofs.Ytamgnbjdeoklbaa

/- An encoder in memory: its blocks, what stands beside them; its New, Table and Limit; a writer's sizes. No condition. -/
namespace Go.Proofs.Ytamgnbjdeoklbaa
open Go Go.RowKit Bytes Pf Tb Pk Up

namespace Pk
/-- All blocks but three lie as they lay. -/
structure K3 (c g b : Nat) (w w' : World) : Prop where
  os : w'.os = w.os
  tape : w'.tape = w.tape
  output : w'.output = w.output
  size : w.heap.size ≤ w'.heap.size
  block : ∀ k, k < w.heap.size → k ≠ c → k ≠ g → k ≠ b → w'.heap[k]? = w.heap[k]?
/-- The flag that a size was given. -/
def chg (c : Enc) : Bool := !c.2.isEmpty
/-- An encoder in block c: its table in block g, its row in block b. -/
structure EnAt (w : World) (c g b : Nat) (E : Enc) : Prop where
  cells : ∃ y : Nat, w.heap[c]? = some (.cells #[.pointer (some ⟨g, 0, none⟩), .bool (chg E), .int .i64 (y : Int)] 61 (0, 0)) ∧ y ≤ 4096 ∧ (E.2 ≠ [] → ∀ k, E.2.foldl min k = min k y)
  tab : TAt w g b E.1
  ok4 : Ok4 E.1
  cg : c ≠ g
  cb : c ≠ b
section
variable {w w1 w2 : World} {B c u g b b' : Nat} {v : Value} {l : List UInt8} {t : Tab} {E E' : Enc}
theorem K3.refl (c g b : Nat) (w : World) : K3 c g b w w := ⟨rfl, rfl, rfl, Nat.le_refl _, fun _ _ _ _ _ => rfl⟩
theorem K3.trans (h : K3 c g b w w1) (k : K3 c g b' w1 w2) (hb : b' = b ∨ b' = g ∨ w.heap.size ≤ b') : K3 c g b w w2 :=
  ⟨k.os.trans h.os, k.tape.trans h.tape, k.output.trans h.output, Nat.le_trans h.size k.size, fun i hi h0 h1 h2 =>
    (k.block i (Nat.lt_of_lt_of_le hi h.size) h0 h1 (by rcases hb with rfl | rfl | hb; exact h2; exact h1; omega)).trans (h.block i hi h0 h1 h2)⟩
theorem K3.of_below (h : Below w.heap.size w w1) : K3 c g b w w1 := ⟨h.os, h.tape, h.output, h.size, fun i hi _ _ _ => h.block i hi⟩
theorem K3.of_kept2 (h : Kept2 g b w w1) : K3 c g b w w1 := ⟨h.os, h.tape, h.output, h.size, fun i hi _ h1 h2 => h.block i hi h1 h2⟩
theorem K3.set (h : K3 c g b w w1) (i : Nat) (x : Value) : K3 c g b w (w1.setCell ⟨c, i, none⟩ x) :=
  ⟨h.os, h.tape, h.output, by have := h.size; simpa using this, fun k hk h0 h1 h2 => (Below.heap_setCell w1 ⟨c, i, none⟩ x k h0).trans (h.block k hk h0 h1 h2)⟩
theorem K3.writer (h : K3 c g b w w1) (k : WrK w.heap.size u g b' w1 w2) (hu : w.heap.size ≤ u) (hb : b' = b ∨ b' = g ∨ w.heap.size ≤ b') : K3 c g b w w2 :=
  ⟨k.os.trans h.os, k.tape.trans h.tape, k.output.trans h.output, Nat.le_trans h.size k.size, fun i hi h0 h1 h2 => by
    have hi1 := Nat.lt_of_lt_of_le hi h.size
    refine (k.block i _ (Array.getElem?_eq_getElem hi1) (by omega) h1 (by rcases hb with rfl | rfl | hb; exact h2; exact h1; omega) (.inl hi)).trans ?_
    rw [← Array.getElem?_eq_getElem hi1]
    exact h.block i hi h0 h1 h2⟩
theorem K3.below {w0 : World} (h0 : Below B w0 w) (h : K3 c g b w w1) (hc : B ≤ c) (hg : B ≤ g) (hb : B ≤ b) (hB : B ≤ w.heap.size) : Below B w0 w1 :=
  ⟨h.os.trans h0.os, h.tape.trans h0.tape, h.output.trans h0.output, Nat.le_trans h0.size h.size, fun i hi => (h.block i (by omega) (by omega) (by omega) (by omega)).trans (h0.block i hi)⟩
theorem EnAt.lt (h : EnAt w c g b E) : c < w.heap.size ∧ g < w.heap.size ∧ b < w.heap.size := by
  obtain ⟨y, hc, _⟩ := h.cells
  exact ⟨world_lt hc, h.tab.lt⟩
theorem EnAt.kept (h : EnAt w c g b E) (hs : w.heap.size ≤ w1.heap.size) (hk : ∀ k, k < w.heap.size → k = c ∨ k = g ∨ k = b → w1.heap[k]? = w.heap[k]?) : EnAt w1 c g b E := by
  obtain ⟨y, hc, hy⟩ := h.cells
  have hl := h.lt
  exact ⟨⟨y, (hk c hl.1 (.inl rfl)).trans hc, hy⟩, h.tab.kept hs (hk g hl.2.1 (.inr (.inl rfl))) (fun hb => hk b hb (.inr (.inr rfl))), h.ok4, h.cg, h.cb⟩
theorem EnAt.below (h : EnAt w c g b E) (hB : Below w.heap.size w w1) : EnAt w1 c g b E := h.kept hB.size (fun k hk _ => hB.block k hk)
end
theorem fold_lim {S : List Nat} {y m : Nat} (h : S ≠ [] → ∀ k, S.foldl min k = min k y) (k : Nat) : (S ++ [m]).foldl min k = min k (if S = [] then m else min y m) := by
  rw [List.foldl_append, List.foldl_cons, List.foldl_nil]
  by_cases hS : S = []
  · subst hS
    rw [if_pos rfl]
    rfl
  · rw [if_neg hS, h hS k]
    omega
theorem heads_is {E : Enc} {y : Nat} (h : E.2 ≠ [] → ∀ k, E.2.foldl min k = min k y) : heads E = if E.2 = [] then [] else (if y < E.1.1 then putL 31 32 y else []) ++ putL 31 32 E.1.1 := by
  unfold heads leastS
  by_cases hS : E.2 = []
  · rw [hS, if_pos rfl, if_pos rfl]
    simp
  · rw [if_neg hS, if_neg hS, h hS]
    by_cases hy : y < E.1.1
    · rw [if_pos hy, if_pos (by omega), Nat.min_eq_right (Nat.le_of_lt hy)]
    · rw [if_neg hy, if_neg (by omega)]
end Pk

set_option maxHeartbeats 2000000 in
set_option maxRecDepth 100000 in
/-- A writer's sizes. -/
theorem wsizes_any (B u g b : Nat) (v : Value) (l r : List UInt8) (t : Tab) (y M : Nat) (w : World) (h : WrS w B u g b v l t) (hM : t.1 = M) (hy : y ≤ 4096) (hr : Hid ((if y < M then putL 31 32 y else []) ++ putL 31 32 M = r)) (hmn : l.length + r.length ≤ 2000000000) :
    Calls Try.prog 29 #[.pointer (some ⟨u, 0, none⟩), .int .i64 (y : Int)] w (WrTo w B u g b (l ++ r) t) := by
  have hM4 : M ≤ 4096 := by rw [← hM]; exact h.ok4.1
  have HM := Lib.hid (show (t.1 : Int) = (M : Int) by rw [hM])
  obtain ⟨p, _, hc⟩ := h.cells
  have c2 : w.cell? ⟨u, 2, none⟩ = some (.pointer (some ⟨g, 0, none⟩)) := cell_of_row w u 2 _ _ _ hc
  have H := Lib.hid h
  obtain ⟨m, hm⟩ : ∃ m, putL 31 32 M = m := ⟨_, rfl⟩
  have HPM := Lib.hid (show putL (fullN 5) 32 M = m from hm)
  have hrr := hr.out
  rw [hm] at hrr
  clear h hc hr hM hm
  by_cases hlt : y < M
  · obtain ⟨s, hs⟩ : ∃ s, putL 31 32 y = s := ⟨_, rfl⟩
    have HPS := Lib.hid (show putL (fullN 5) 32 y = s from hs)
    rw [if_pos hlt, hs] at hrr
    subst hrr
    rw [List.length_append] at hmn
    have hli : (y : Int) < (M : Int) := by omega
    clear hs
    go_enter Try.func29, Try.ntmps29
    go_wp2_with fail
    refine (most_t g b t (M : Int) w (Lib.hid H.out.tab) HM).mono ?_
    rintro e w1 ⟨rfl, rfl⟩
    go_wp2_with fail
    refine (wint_any B u g b v l s t 32 y 5 w1 H.out (by decide) (by omega) (by omega) (by omega) HPS (by omega)).mono ?_
    rintro e w2 ⟨rfl, v2, hS2, hK2⟩
    have H2 := Lib.hid hS2
    have K2 := Lib.hid hK2
    clear hS2 hK2
    go_wp2_with fail
    refine (wint_any B u g b v2 (l ++ s) m t 32 M 5 w2 H2.out (by decide) (by omega) (by omega) (by omega) HPM (by rw [List.length_append]; omega)).mono ?_
    rintro e w3 ⟨rfl, v3, hS3, hK3⟩
    have HE := Lib.hid (show ∃ v', WrS w3 B u g b v' (l ++ (s ++ m)) t ∧ WrK B u g b w1 w3 from ⟨v3, by rw [← List.append_assoc]; exact hS3, K2.out.trans hK3 (.inl rfl)⟩)
    clear hS3 hK3
    go_wp2_with fail
    go_end0
    exact ⟨rfl, HE.out⟩
  · rw [if_neg hlt, List.nil_append] at hrr
    subst hrr
    have hli : ¬ ((y : Int) < (M : Int)) := by omega
    have hld : decide ((y : Int) < (M : Int)) = false := decide_eq_false hli
    go_enter Try.func29, Try.ntmps29
    go_wp2_with fail
    refine (most_t g b t (M : Int) w (Lib.hid H.out.tab) HM).mono ?_
    rintro e w1 ⟨rfl, rfl⟩
    go_wp2_with fail
    refine (wint_any B u g b v l m t 32 M 5 w1 H.out (by decide) (by omega) (by omega) (by omega) HPM hmn).mono ?_
    intro e w2 hE
    obtain ⟨rfl, HE⟩ := hE
    go_wp2_with fail
    go_end0
    exact ⟨rfl, HE⟩

set_option maxRecDepth 100000 in
theorem penew_is (w : World) :
    Calls Try.prog 8 #[] w fun e w' => ∃ c g b, e = .returned (.pointer (some ⟨c, 0, none⟩)) ∧ EnAt w' c g b (newT 4096, []) ∧ Below w.heap.size w w' ∧ w.heap.size ≤ c ∧ w.heap.size ≤ g ∧ w.heap.size ≤ b := by
  have HN := Lib.hid (new_is 4096 w (by omega) (by omega))
  go_enter Try.func8, Try.ntmps8
  go_wp2_with fail
  refine HN.out.mono ?_
  rintro e w1 ⟨rfl, hT, hB⟩
  have hB1 := (Below.refl _ w1).alloc (Nat.le_refl _) (.cells #[.pointer (some ⟨w.heap.size, 0, none⟩), .bool false, .int .i64 0] 61)
  have hD := heap_alloc_new w1 (.cells #[.pointer (some ⟨w.heap.size, 0, none⟩), .bool false, .int .i64 0] 61)
  have hlt := hT.lt.1
  have HD := Lib.hid (show EnAt (w1.alloc (.cells #[.pointer (some ⟨w.heap.size, 0, none⟩), .bool false, .int .i64 0] 61)) w1.heap.size w.heap.size w.heap.size (newT 4096, []) from ⟨⟨0, hD, by omega, fun h => absurd rfl h⟩, hT.below hB1, ok4_new, by omega, by omega⟩)
  have HB := Lib.hid (hB.trans (hB1.mono hB.size))
  have hs := hB.size
  clear hT hB hB1 hD
  go_wp2_with fail
  go_ret
  exact ⟨w1.heap.size, w.heap.size, w.heap.size, rfl, HD.out, HB.out, hs, Nat.le_refl _, Nat.le_refl _⟩
theorem petable_any (c g b : Nat) (E : Enc) (w : World) (h : EnAt w c g b E) :
    Calls Try.prog 13 #[.pointer (some ⟨c, 0, none⟩)] w fun e w' => ∃ g2, e = .returned (.pointer (some ⟨g2, 0, none⟩)) ∧ w.heap.size ≤ g2 ∧ Below w.heap.size w w' ∧ ∃ b2, TAt w' g2 b2 E.1 ∧ w.heap.size ≤ b2 := by
  have HC := Lib.hid (copy_is g b E.1 w (Lib.hid h.tab) (Lib.hid (Ok4.fit h.ok4)))
  obtain ⟨y, hc, _⟩ := h.cells
  have c0 : w.cell? ⟨c, 0, none⟩ = some (.pointer (some ⟨g, 0, none⟩)) := cell_of_row _ c 0 _ _ _ hc
  clear h hc
  go_enter Try.func13, Try.ntmps13
  go_wp2_with fail
  refine HC.out.mono ?_
  rintro e w1 ⟨g2, rfl, h1, h2, b2, h3, h4⟩
  go_wp2_with fail
  go_ret
  exact ⟨g2, rfl, h1, h2, b2, h3, h4⟩
end Go.Proofs.Ytamgnbjdeoklbaa

/- An encoder's Limit. No condition. -/
namespace Go.Proofs.Ytamgnbjdeoklbaa
open Go Go.RowKit Bytes Pf Tb Pk Up

namespace Pk
theorem lim_same {E : Enc} {n : Nat} (h : min n 4096 = E.1.1) : lim E n = E := if_pos h
theorem EnAt.limited {w W w5 : World} {c g b b' n m y' : Nat} {E : Enc} (h : EnAt w c g b E) (hc : W.heap[c]? = some (.cells #[.pointer (some ⟨g, 0, none⟩), .bool true, .int .i64 (y' : Int)] 61 (0, 0))) (hO : Only c w W) (hT : TAt w5 g b' (resT E.1 (m : Nat))) (hK : Kept2 g b W w5) (hb : b' = b ∨ b' = g) (hm : min n 4096 = m) (hne : m ≠ E.1.1) (hy : ∃ y : Nat, y ≤ 4096 ∧ (E.2 ≠ [] → ∀ k, E.2.foldl min k = min k y) ∧ y' = if E.2 = [] then m else min y m) :
    EnAt w5 c g b' (lim E n) ∧ K3 c g b w w5 := by
  obtain ⟨y, hy4, hf, rfl⟩ := hy
  have hl : lim E n = (resT E.1 (m : Nat), E.2 ++ [m]) := by unfold lim; rw [hm, if_neg hne]
  have hm4 : m ≤ 4096 := by omega
  refine ⟨?_, ⟨hK.os.trans hO.os, hK.tape.trans hO.tape, hK.output.trans hO.output, by have := hK.size; have := hO.size; omega, fun k hk h0 h1 h2 => (hK.block k (by rw [hO.size]; exact hk) h1 h2).trans (hO.block k h0)⟩⟩
  rw [hl]
  refine ⟨⟨_, ?_, ?_, fun _ k => fold_lim hf k⟩, hT, Ok4.res hm4, h.cg, ?_⟩
  · have hcc := (hK.block c (world_lt hc) h.cg h.cb).trans hc
    rw [hcc]
    unfold chg
    simp
  · split <;> omega
  · rcases hb with e | e
    · rw [e]; exact h.cb
    · rw [e]; exact h.cg
end Pk
set_option maxHeartbeats 4000000 in
set_option maxRecDepth 100000 in
theorem limit_any (c g b n : Nat) (E : Pk.Enc) (w : World) (h : EnAt w c g b E) (hn : n ≤ 4294967295) :
    Calls Try.prog 10 #[.pointer (some ⟨c, 0, none⟩), .int .u32 (n : Int)] w fun e w' => e = .returned (.tuple #[]) ∧ ∃ b', EnAt w' c g b' (lim E n) ∧ K3 c g b w w' ∧ (b' = b ∨ b' = g) := by
  obtain ⟨m, hm⟩ : ∃ m, min n 4096 = m := ⟨_, rfl⟩
  have hmi : min (n : Int) 4096 = (m : Int) := by omega
  have hm4 : m ≤ 4096 := by omega
  obtain ⟨M, hM⟩ : ∃ M, E.1.1 = M := ⟨_, rfl⟩
  have hM4 : M ≤ 4096 := by rw [← hM]; exact h.ok4.1
  have HM := Lib.hid (show (E.1.1 : Int) = (M : Int) by rw [hM])
  obtain ⟨y, hc, hy4, hfold⟩ := h.cells
  have c0 : w.cell? ⟨c, 0, none⟩ = some (.pointer (some ⟨g, 0, none⟩)) := cell_of_row _ c 0 _ _ _ hc
  have c1 : w.cell? ⟨c, 1, none⟩ = some (.bool (chg E)) := cell_of_row _ c 1 _ _ _ hc
  have c2 : w.cell? ⟨c, 2, none⟩ = some (.int .i64 (y : Int)) := cell_of_row _ c 2 _ _ _ hc
  have f1 : w.frozen? ⟨c, 1, none⟩ = false := by simp [World.frozen?, hc]
  have f2 : w.frozen? ⟨c, 2, none⟩ = false := by simp [World.frozen?, hc]
  have H := Lib.hid h
  have HC := Lib.hid hc
  have HFOLD := Lib.hid hfold
  have HMM := Lib.hid hm
  have HMT := Lib.hid hM
  obtain ⟨q, hq⟩ : ∃ q, chg E = q := ⟨_, rfl⟩
  have HQ := Lib.hid hq
  rw [hq] at c1
  clear h hc hfold hm hM hq
  by_cases hs : m = M
  · have hsi : ((m : Int) == (M : Int)) = true := beq_iff_eq.2 (by omega)
    have hsd : decide ((m : Int) = (M : Int)) = true := decide_eq_true (by omega)
    go_enter Try.func10, Try.ntmps10
    go_wp2_with fail
    refine (most_t g b E.1 (M : Int) w (Lib.hid H.out.tab) HM).mono ?_
    rintro e w1 ⟨rfl, rfl⟩
    go_wp2_with fail
    refine bodyPost_ret (results_none (by rfl) _ _ _) (by rfl) ?_
    exact ⟨rfl, b, by rw [lim_same (by rw [HMM.out, HMT.out]; exact hs)]; exact H.out, K3.refl _ _ _ _, .inl rfl⟩
  · have hsi : ((m : Int) == (M : Int)) = false := beq_eq_false_iff_ne.2 (by omega)
    have hsd : decide ((m : Int) = (M : Int)) = false := decide_eq_false (by omega)
    have END : Hid (∀ (W : World) (y' : Nat), W.heap[c]? = some (.cells #[.pointer (some ⟨g, 0, none⟩), .bool true, .int .i64 (y' : Int)] 61 (0, 0)) → Only c w W → (y' = if E.2 = [] then m else min y m) →
      Calls Try.prog 26 #[.pointer (some ⟨g, 0, none⟩), .int .i64 (m : Int)] W fun e w5 => e = .returned (.tuple #[]) ∧ ∃ b', EnAt w5 c g b' (lim E n) ∧ K3 c g b w w5 ∧ (b' = b ∨ b' = g)) := Lib.hid fun W y' hcW hOW hyW =>
      (resize_is g b E.1 (m : Int) W (Lib.hid (H.out.tab.kept (Nat.le_of_eq hOW.size.symm) (hOW.block g (fun e => H.out.cg e.symm)) (fun _ => hOW.block b (fun e => H.out.cb e.symm)))) (Lib.hid (Ok4.fit H.out.ok4)) (by omega) (by omega)).mono
        fun e w5 ⟨he, b', hT, hK, hb⟩ =>
          have this := H.out.limited hcW hOW hT hK hb HMM.out (by rw [HMT.out]; exact hs) ⟨y, hy4, HFOLD.out, hyW⟩
          ⟨he, b', this.1, this.2, hb⟩
    cases q with
    | false =>
      have hE2 : E.2 = [] := by
        have := HQ.out
        unfold chg at this
        simpa using this
      have E1 := Lib.hid (END.out ((w.setCell ⟨c, 2, none⟩ (.int .i64 (m : Int))).setCell ⟨c, 1, none⟩ (.bool true)) m (by simp [World.setCell, Array.getElem?_modify, HC.out]) ⟨rfl, rfl, rfl, by simp, fun k hk => (Below.heap_setCell _ ⟨c, 1, none⟩ _ k hk).trans (Below.heap_setCell w ⟨c, 2, none⟩ _ k hk)⟩ (by rw [if_pos hE2]))
      clear END
      go_enter Try.func10, Try.ntmps10
      go_wp2_with fail
      refine (most_t g b E.1 (M : Int) w (Lib.hid H.out.tab) HM).mono ?_
      rintro e w1 ⟨rfl, rfl⟩
      go_wp2_with fail
      refine E1.out.mono ?_
      intro e w5 hE
      obtain ⟨rfl, hE⟩ := hE
      go_wp2_with fail
      go_end0
      exact ⟨rfl, hE⟩
    | true =>
      have hE2 : E.2 ≠ [] := by
        have := HQ.out
        unfold chg at this
        intro e
        rw [e] at this
        exact absurd this (by decide)
      by_cases hlt : m < y
      · have hli : (m : Int) < (y : Int) := by omega
        have E1 := Lib.hid (END.out ((w.setCell ⟨c, 2, none⟩ (.int .i64 (m : Int))).setCell ⟨c, 1, none⟩ (.bool true)) m (by simp [World.setCell, Array.getElem?_modify, HC.out]) ⟨rfl, rfl, rfl, by simp, fun k hk => (Below.heap_setCell _ ⟨c, 1, none⟩ _ k hk).trans (Below.heap_setCell w ⟨c, 2, none⟩ _ k hk)⟩ (by rw [if_neg hE2]; omega))
        clear END
        go_enter Try.func10, Try.ntmps10
        go_wp2_with fail
        refine (most_t g b E.1 (M : Int) w (Lib.hid H.out.tab) HM).mono ?_
        rintro e w1 ⟨rfl, rfl⟩
        go_wp2_with fail
        refine E1.out.mono ?_
        intro e w5 hE
        obtain ⟨rfl, hE⟩ := hE
        go_wp2_with fail
        go_end0
        exact ⟨rfl, hE⟩
      · have hli : ¬ ((m : Int) < (y : Int)) := by omega
        have hld : decide ((m : Int) < (y : Int)) = false := decide_eq_false hli
        have E1 := Lib.hid (END.out (w.setCell ⟨c, 1, none⟩ (.bool true)) y (by simp [World.setCell, Array.getElem?_modify, HC.out]) ⟨rfl, rfl, rfl, by simp, fun k hk => Below.heap_setCell w ⟨c, 1, none⟩ _ k hk⟩ (by rw [if_neg hE2]; omega))
        clear END
        go_enter Try.func10, Try.ntmps10
        go_wp2_with fail
        refine (most_t g b E.1 (M : Int) w (Lib.hid H.out.tab) HM).mono ?_
        rintro e w1 ⟨rfl, rfl⟩
        go_wp2_with fail
        refine E1.out.mono ?_
        intro e w5 hE
        obtain ⟨rfl, hE⟩ := hE
        go_wp2_with fail
        go_end0
        exact ⟨rfl, hE⟩
end Go.Proofs.Ytamgnbjdeoklbaa

/- A writer's next field. For names and values of at most 900000 bytes, blocks of at most 2 * 10^9. -/
namespace Go.Proofs.Ytamgnbjdeoklbaa
open Go Go.RowKit Bytes Pf Tb Pk Up

namespace Pk
/-- What a writer's call leaves that may work on the table. -/
def WrEnd (w : World) (B u g b : Nat) (L : List UInt8) (t : Tab) (e : Ending) (w' : World) : Prop := e = .returned (.tuple #[]) ∧ ∃ v' b', WrS w' B u g b' v' L t ∧ WrK B u g b w w' ∧ (b' = b ∨ b' = g ∨ w.heap.size ≤ b')
theorem WrTo.to {w w1 w' : World} {B u g b : Nat} {L : List UInt8} {t : Tab} {e : Ending} (h : WrTo w1 B u g b L t e w') (hk : WrK B u g b w w1) : WrEnd w B u g b L t e w' := by
  obtain ⟨he, v', hS, hK⟩ := h
  exact ⟨he, v', b, hS, hk.trans hK (.inl rfl), .inl rfl⟩
theorem WrK.of_kept2 {w w1 : World} {B u g b : Nat} (h : Kept2 g b w w1) : WrK B u g b w w1 := ⟨h.os, h.tape, h.output, h.size, fun k _ hk _ h2 h3 _ => (h.block k (world_lt hk) h2 h3).trans hk⟩
theorem WrS.turn {w w1 : World} {B u g b b' : Nat} {v : Value} {l : List UInt8} {t t' : Tab} (h : WrS w B u g b v l t) (hT : TAt w1 g b' t') (hK : Kept2 g b w w1) (hb : b' = b ∨ b' = g ∨ w.heap.size ≤ b') (h4 : Ok4 t') : WrS w1 B u g b' v l t' := by
  obtain ⟨p, hp, hc⟩ := h.cells
  have hu := h.ult
  refine ⟨h.le, ⟨p, hp, (hK.block u hu h.ug h.ub).trans hc⟩, own_keep h.own (fun k hv => hK.block k (h.vlt hv).1 (h.vu hv).2 (fun e => h.nb (by rw [hv, e]))), ?_, h.nil, hT, h4, h.ug, ?_⟩
  · rcases hb with e | e | e
    · rw [e]; exact h.nb
    · rw [e]; exact fun e2 => (h.vu e2).2 rfl
    · intro e2
      have := (h.vlt e2).1
      omega
  · rcases hb with e | e | e
    · rw [e]; exact h.ub
    · rw [e]; exact h.ug
    · omega
/-- What stands while a field is laid. -/
def FSt (w : World) (B u g b X : Nat) (v : Value) (l : List UInt8) (t : Tab) (x : Fld) (W : World) : Prop := WrS W B u g b v l t ∧ FBox W X x ∧ WrK B u g b w W
/-- The same, with what a walk asks of it. -/
def FSc (w : World) (B u g b X : Nat) (v : Value) (l : List UInt8) (t : Tab) (xn xv : ByteArray) (nv : Bool) (W : World) : Prop := W.cell? ⟨u, 2, none⟩ = some (.pointer (some ⟨g, 0, none⟩)) ∧ W.cell? ⟨X, 0, none⟩ = some (.string xn) ∧ W.cell? ⟨X, 1, none⟩ = some (.string xv) ∧ W.cell? ⟨X, 2, none⟩ = some (.bool nv) ∧ FSt w B u g b X v l t ⟨xn, xv, nv⟩ W
theorem FSt.sc {w W : World} {B u g b X : Nat} {v : Value} {l : List UInt8} {t : Tab} {xn xv : ByteArray} {nv : Bool} (h : FSt w B u g b X v l t ⟨xn, xv, nv⟩ W) : FSc w B u g b X v l t xn xv nv W := by
  obtain ⟨p, _, hc⟩ := h.1.cells
  obtain ⟨a0, a1, a2⟩ := h.2.1.c
  exact ⟨cell_of_row _ u 2 _ _ _ hc, a0, a1, a2, h⟩
theorem FSt.below {w W W' : World} {B u g b X : Nat} {v : Value} {l : List UInt8} {t : Tab} {x : Fld} (h : FSt w B u g b X v l t x W) (hB : Below W.heap.size W W') : FSt w B u g b X v l t x W' :=
  ⟨h.1.below hB, (hB.block X (world_lt h.2.1)).trans h.2.1, h.2.2.below hB⟩
end Pk
/-- A field's size. -/
theorem fsize_any (xn xv : ByteArray) (nv : Bool) (w : World) (h1 : xn.size ≤ 900000) (h2 : xv.size ≤ 900000) :
    Calls Try.prog 49 #[.agg #[.string xn, .string xv, .bool nv]] w fun e w' => e = .returned (.int .i64 ((xn.size : Int) + (xv.size : Int) + 32)) ∧ Below w.heap.size w w' := by
  go_enter Try.func49, Try.ntmps49
  go_wp2_with fail
  go_ret
  exact ⟨rfl, (Below.refl _ w).alloc (Nat.le_refl _) _⟩
theorem one_never {t : Tab} {x : Fld} {n : Nat} {q : Bool} (hf : findT x.name x.val (fixedT ++ t.2) = (n, q)) (h : x.never = true) : Pk.one t x = (layF 15 16 n x, t) := by unfold Pk.one; rw [hf, if_pos h]
theorem one_whole {t : Tab} {x : Fld} {n : Nat} (hf : findT x.name x.val (fixedT ++ t.2) = (n, true)) (h : x.never = false) : Pk.one t x = (putL 127 128 n, t) := by unfold Pk.one; rw [hf, h]; rfl
theorem one_added {t : Tab} {x : Fld} {n : Nat} (hf : findT x.name x.val (fixedT ++ t.2) = (n, false)) (h : x.never = false) (hs : sz (x.name, x.val) ≤ t.1) : Pk.one t x = (layF 63 64 n x, addT t (x.name, x.val)) := by unfold Pk.one; rw [hf, h]; simp only; rw [if_neg (by decide), if_neg (by decide), if_pos hs]
theorem one_other {t : Tab} {x : Fld} {n : Nat} (hf : findT x.name x.val (fixedT ++ t.2) = (n, false)) (h : x.never = false) (hs : ¬ sz (x.name, x.val) ≤ t.1) : Pk.one t x = (layF 15 0 n x, t) := by unfold Pk.one; rw [hf, h]; simp only; rw [if_neg (by decide), if_neg (by decide), if_neg hs]

set_option maxHeartbeats 8000000 in
set_option maxRecDepth 100000 in
theorem wfield_any (B u g b : Nat) (v : Value) (l r : List UInt8) (t t' : Tab) (xn xv : ByteArray) (nv : Bool) (w : World) (h : WrS w B u g b v l t) (hx1 : xn.size ≤ 900000) (hx2 : xv.size ≤ 900000) (hr : Hid (Pk.one t ⟨xn, xv, nv⟩ = (r, t'))) (hmn : l.length + r.length ≤ 2000000000) :
    Calls Try.prog 30 #[.pointer (some ⟨u, 0, none⟩), .agg #[.string xn, .string xv, .bool nv]] w (WrEnd w B u g b (l ++ r) t') := by
  have hB0 := (Below.refl _ w).alloc (Nat.le_refl _) (.cells #[.string xn, .string xv, .bool nv] 45)
  have H0d := Lib.hid (show FSc w B u g b w.heap.size v l t xn xv nv ((w.alloc (.cells #[.string xn, .string xv, .bool nv] 45)).drew) from FSt.sc ⟨h.below hB0.drew, heap_alloc_new w _, WrK.of_below hB0.drew⟩)
  have hXu : w.heap.size ≠ u := by have := h.ult; omega
  have hXg : w.heap.size ≠ g := by have := h.tab.lt; omega
  have hXb : w.heap.size ≠ b := by have := h.tab.lt; omega
  have h4 := h.ok4
  have hM : t.1 ≤ 4096 := h4.1
  obtain ⟨⟨n, q⟩, hf⟩ : ∃ z, findT xn xv (fixedT ++ t.2) = z := ⟨_, rfl⟩
  have hfew := table_few h4
  have hn : n ≤ 200 := by
    by_cases h0 : n = 0
    · omega
    · have := (find_name hf h0).2.1
      omega
  have HF := Lib.hid hf
  have HFI : Hid (∀ W : World, FSt w B u g b w.heap.size v l t ⟨xn, xv, nv⟩ W → Calls Try.prog 47 #[.pointer (some ⟨g, 0, none⟩), .string xn, .string xv] W fun e w' => e = .returned (.tuple #[.int .i64 (n : Int), .bool q]) ∧ FSc w B u g b w.heap.size v l t xn xv nv w') := Lib.hid fun W hW => (find_is g b t xn xv n q W (Lib.hid hW.1.tab) (Lib.hid (Ok4.fit h4)) HF).mono fun e w' ⟨he, hB⟩ => ⟨he, (hW.below hB).sc⟩
  have HSI : Hid (∀ W : World, FSt w B u g b w.heap.size v l t ⟨xn, xv, nv⟩ W → Calls Try.prog 49 #[.agg #[.string xn, .string xv, .bool nv]] W fun e w' => e = .returned (.int .i64 ((xn.size : Int) + (xv.size : Int) + 32)) ∧ FSc w B u g b w.heap.size v l t xn xv nv w') := Lib.hid fun W hW => (fsize_any xn xv nv W hx1 hx2).mono fun e w' ⟨he, hB⟩ => ⟨he, (hW.below hB).sc⟩
  have HMO : Hid (∀ W : World, FSt w B u g b w.heap.size v l t ⟨xn, xv, nv⟩ W → Calls Try.prog 18 #[.pointer (some ⟨g, 0, none⟩)] W fun e w' => e = .returned (.int .i64 (t.1 : Int)) ∧ FSc w B u g b w.heap.size v l t xn xv nv w') := Lib.hid fun W hW => (most_t g b t (t.1 : Int) W (Lib.hid hW.1.tab) (Lib.hid rfl)).mono fun e w' ⟨he, hB⟩ => ⟨he, by rw [hB]; exact hW.sc⟩
  obtain ⟨c0, c1, c2, c3, cst⟩ := H0d.out
  clear h hB0 hf
  go_enter Try.func30, Try.ntmps30
  go_upto_region 1 with fail
  go_cut [4, 5] from 1 to 2 (fun s4 s5 wx => s4 = .int .i64 (n : Int) ∧ s5 = .bool q ∧ Hid (FSc w B u g b w.heap.size v l t xn xv nv wx))
  case first =>
    go_region_held3 (fun W => W.cell? ⟨u, 2, none⟩ = some (.pointer (some ⟨g, 0, none⟩)) ∧ W.cell? ⟨w.heap.size, 0, none⟩ = some (.string xn) ∧ W.cell? ⟨w.heap.size, 1, none⟩ = some (.string xv) ∧ W.cell? ⟨w.heap.size, 2, none⟩ = some (.bool nv) ∧ FSt w B u g b w.heap.size v l t ⟨xn, xv, nv⟩ W) (first | exact H0d.out | (refine ⟨?_, ?_, ?_, ?_, ?_⟩ <;> assumption)) (first | (go_at_call 47; (with_reducible refine (HFI.out _ ?_).mono ?_); (first | exact cst | assumption); rintro e w5 ⟨rfl, c0, c1, c2, c3, cst⟩))
    go_wp2_with fail
    go_meet
    exact ⟨rfl, rfl, Lib.hid ⟨by assumption, by assumption, by assumption, by assumption, by assumption⟩⟩
  case rest =>
    obtain ⟨rfl, rfl, HS⟩ := hcut
    generalize wc = w1 at *
    clear c0 c1 c2 c3 cst H0d HFI
    obtain ⟨c0, c1, c2, c3, cst⟩ := HS.out
    have hO := cst.1
    have hK := cst.2.2
    have HO := Lib.hid hO
    have HK := Lib.hid hK
    clear hO hK
    cases nv with
    | true =>
      have hr2 := hr.out
      rw [one_never HF.out rfl] at hr2
      injection hr2 with hr2 ht2
      subst ht2
      have HR := Lib.hid hr2
      clear hr2 cst
      go_wp2_with fail
      refine (wspelt_any B u g b v l r t 15 16 n 4 ⟨xn, xv, true⟩ w1 HO.out full4 (by decide) (by omega) (by omega) (by omega) hx1 hx2 HR (by omega)).mono ?_
      intro e w2 hE
      have HE := hE.to HK.out
      obtain ⟨rfl, HE⟩ := HE
      go_wp2_with fail
      go_end0
      exact ⟨rfl, HE⟩
    | false =>
      cases q with
      | true =>
        have hr2 := hr.out
        rw [one_whole HF.out rfl] at hr2
        injection hr2 with hr2 ht2
        subst ht2
        have HR := Lib.hid (show putL (fullN 7) 128 n = r from hr2)
        clear hr2 cst
        go_wp2_with fail
        refine (wint_any B u g b v l r t 128 n 7 w1 HO.out (by decide) (by omega) (by omega) (by omega) HR (by omega)).mono ?_
        intro e w2 hE
        have HE := hE.to HK.out
        obtain ⟨rfl, HE⟩ := HE
        go_wp2_with fail
        go_end0
        exact ⟨rfl, HE⟩
      | false =>
        have hszz : sz (xn, xv) = xn.size + xv.size + 32 := rfl
        obtain ⟨d, hd⟩ : ∃ d, decide ((xn.size : Int) + (xv.size : Int) + 32 ≤ (t.1 : Int)) = d := ⟨_, rfl⟩
        have cst0 := cst
        have H1d := Lib.hid (show FSc w B u g b w.heap.size v l t xn xv false w1.drew from (cst.below (Below.refl _ w1).drew).sc)
        clear cst
        obtain ⟨c0, c1, c2, c3, cst⟩ := H1d.out
        go_upto_region 7 with fail
        go_cut [34] from 7 to 8 (fun s wx => s = .bool d ∧ Hid (FSc w B u g b w.heap.size v l t xn xv false wx))
        case first =>
          go_region_held3 (fun W => W.cell? ⟨u, 2, none⟩ = some (.pointer (some ⟨g, 0, none⟩)) ∧ W.cell? ⟨w.heap.size, 0, none⟩ = some (.string xn) ∧ W.cell? ⟨w.heap.size, 1, none⟩ = some (.string xv) ∧ W.cell? ⟨w.heap.size, 2, none⟩ = some (.bool false) ∧ FSt w B u g b w.heap.size v l t ⟨xn, xv, false⟩ W) (first | exact H1d.out | (refine ⟨?_, ?_, ?_, ?_, ?_⟩ <;> assumption))
            (first | (go_at_call 49; (with_reducible refine (HSI.out _ ?_).mono ?_); (first | exact cst | assumption); rintro e w5 ⟨rfl, c0, c1, c2, c3, cst⟩) | (go_at_call 18; (with_reducible refine (HMO.out _ ?_).mono ?_); (first | exact cst | assumption); rintro e w5 ⟨rfl, c0, c1, c2, c3, cst⟩))
          all_goals
            go_wp2_with fail
            go_meet
            exact ⟨rfl, Lib.hid ⟨by assumption, by assumption, by assumption, by assumption, by assumption⟩⟩
        case rest =>
          obtain ⟨rfl, HS2⟩ := hcut
          generalize wc = w2 at *
          clear c0 c1 c2 c3 cst H1d HSI HMO HS HO HK cst0
          obtain ⟨c0, c1, c2, c3, cst⟩ := HS2.out
          have hO := cst.1
          have hK := cst.2.2
          have hX := cst.2.1
          have HO := Lib.hid hO
          have HK := Lib.hid hK
          have HX := Lib.hid hX
          clear hO hK hX cst HS2
          cases d with
          | true =>
            have hle := of_decide_eq_true hd
            have hr2 := hr.out
            rw [one_added HF.out rfl (by show sz (xn, xv) ≤ t.1; omega)] at hr2
            injection hr2 with hr2 ht2
            subst ht2
            have HR := Lib.hid hr2
            clear hr2
            go_wp2_with fail
            refine (wspelt_any B u g b v l r t 63 64 n 6 ⟨xn, xv, false⟩ w2 HO.out full6 (by decide) (by omega) (by omega) (by omega) hx1 hx2 HR (by omega)).mono ?_
            rintro e w3 ⟨rfl, v3, hS3, hK3⟩
            have H3 := Lib.hid hS3.drew
            have HX3 := Lib.hid (HX.out.kept hK3 hXu hXg hXb)
            have HK3 := Lib.hid (HK.out.trans hK3 (.inl rfl))
            have h3 := H3.out.cells
            clear hS3 hK3 c0 c1 c2 c3
            obtain ⟨a0, a1, a2⟩ := HX3.out.c
            obtain ⟨p, _, hc⟩ := h3
            have b2 : w3.cell? ⟨u, 2, none⟩ = some (.pointer (some ⟨g, 0, none⟩)) := cell_of_row w3 u 2 _ _ _ hc
            have b2d : w3.drew.cell? ⟨u, 2, none⟩ = some (.pointer (some ⟨g, 0, none⟩)) := b2
            have a0d : w3.drew.cell? ⟨w.heap.size, 0, none⟩ = some (.string xn) := a0
            have a1d : w3.drew.cell? ⟨w.heap.size, 1, none⟩ = some (.string xv) := a1
            clear hc
            go_wp2_with fail
            go_still_tail 8, (by kernel_rfl)
            change wpList _ _ _ _ _ w3.drew
            have hK4 : WrK B u g b w w3.drew := HK3.out.below (Below.refl _ w3).drew
            have HK4 := Lib.hid hK4
            clear hK4 HK3 HX3 a0 a1 a2 b2
            generalize w3.drew = w4 at *
            go_wp2_with fail
            refine (add_is g b t xn xv w4 (Lib.hid H3.out.tab) (Lib.hid (Ok4.fit h4)) (by omega) (by omega)).mono ?_
            rintro e w5 ⟨rfl, b5, hT5, hK5, hb5⟩
            have HE := Lib.hid (show ∃ v' b', WrS w5 B u g b' v' (l ++ r) (addT t (xn, xv)) ∧ WrK B u g b w w5 ∧ (b' = b ∨ b' = g ∨ w.heap.size ≤ b') from
              ⟨v3, b5, H3.out.turn hT5 hK5 hb5 (h4.add _), HK4.out.trans (WrK.of_kept2 hK5) (.inl rfl), by have := HK4.out.size; omega⟩)
            clear hT5 hK5 hb5
            go_wp2_with fail
            go_end0
            exact ⟨rfl, HE.out⟩
          | false =>
            have hle := of_decide_eq_false hd
            have hr2 := hr.out
            rw [one_other HF.out rfl (by show ¬ sz (xn, xv) ≤ t.1; omega)] at hr2
            injection hr2 with hr2 ht2
            subst ht2
            have HR := Lib.hid hr2
            clear hr2
            go_wp2_with fail
            refine (wspelt_any B u g b v l r t 15 0 n 4 ⟨xn, xv, false⟩ w2 HO.out full4 (by decide) (by omega) (by omega) (by omega) hx1 hx2 HR (by omega)).mono ?_
            intro e w3 hE
            have HE := hE.to HK.out
            obtain ⟨rfl, HE⟩ := HE
            go_wp2_with fail
            go_end0
            exact ⟨rfl, HE⟩
end Go.Proofs.Ytamgnbjdeoklbaa

/- An encoder's Write. For few fields: their number, their names' and values' bytes together below 3000. -/
namespace Go.Proofs.Ytamgnbjdeoklbaa
open Go Go.RowKit Bytes Pf Tb Pk Up

namespace Pk
/-- What stands while a block is written: the encoder's row, the writer, all else below. -/
structure WSt (w0 : World) (c g b0 y : Nat) (u b : Nat) (v : Value) (l : List UInt8) (t : Tab) (w : World) : Prop where
  enc : w.heap[c]? = some (.cells #[.pointer (some ⟨g, 0, none⟩), .bool false, .int .i64 (y : Int)] 61 (0, 0))
  wr : WrS w w0.heap.size u g b v l t
  k3 : K3 c g b0 w0 w
  hb : b = b0 ∨ b = g ∨ w0.heap.size ≤ b
  clt : c < w0.heap.size
  cg : c ≠ g
  cb : c ≠ b
section
variable {w0 w w1 : World} {c g b0 y u b : Nat} {v : Value} {l : List UInt8} {t : Tab}
theorem WSt.cu (h : WSt w0 c g b0 y u b v l t w) : c ≠ u := by have := h.wr.le; have := h.clt; omega
theorem WSt.below (h : WSt w0 c g b0 y u b v l t w) (hB : Below w.heap.size w w1) : WSt w0 c g b0 y u b v l t w1 :=
  ⟨(hB.block c (world_lt h.enc)).trans h.enc, h.wr.below hB, h.k3.writer (WrK.of_below (u := u) (b := b) hB) h.wr.le h.hb, h.hb, h.clt, h.cg, h.cb⟩
theorem WSt.step {v' : Value} {l' : List UInt8} {t' : Tab} {b' : Nat} (h : WSt w0 c g b0 y u b v l t w) (hS : WrS w1 w0.heap.size u g b' v' l' t') (hK : WrK w0.heap.size u g b w w1) (hb : b' = b ∨ b' = g ∨ w.heap.size ≤ b') : WSt w0 c g b0 y u b' v' l' t' w1 := by
  have hs := h.k3.size
  have hc := world_lt h.enc
  have hcu := h.cu
  refine ⟨hK.block c _ h.enc hcu h.cg h.cb (.inl h.clt), hS, h.k3.writer hK h.wr.le h.hb, ?_, h.clt, h.cg, ?_⟩
  · rcases hb with e | e | e
    · rw [e]; exact h.hb
    · exact .inr (.inl e)
    · exact .inr (.inr (by omega))
  · rcases hb with e | e | e
    · rw [e]; exact h.cb
    · rw [e]; exact h.cg
    · omega
theorem WrS.far {B : Nat} (h : WrS w B u g b v l t) (hO : Only c w w1) (hc : c < B) (hg : c ≠ g) (hb : c ≠ b) : WrS w1 B u g b v l t := by
  obtain ⟨p, hp, hcc⟩ := h.cells
  have hle := h.le
  exact ⟨h.le, ⟨p, hp, (hO.block u (by omega)).trans hcc⟩, own_keep h.own (fun k hk => hO.block k (by have := (h.vlt hk).2; omega)), h.nb, h.nil, h.tab.kept (Nat.le_of_eq hO.size.symm) (hO.block g (fun e => hg e.symm)) (fun _ => hO.block b (fun e => hb e.symm)), h.ok4, h.ug, h.ub⟩
/-- Fields that came in, below the encoder. -/
theorem RdF.k3 {B : Nat} {a : Option Addr} {L : List Fld} (h : RdF w0 B a L) (hB : B ≤ w0.heap.size) (hc : B ≤ c) (hg : B ≤ g) (hb : B ≤ b0) (W : World) (hK : K3 c g b0 w0 W) : RdF W W.heap.size a L := h.on (K3.below (Below.refl B w0) hK hc hg hb hB) (Nat.le_trans hB hK.size)
/-- Fields in a block that is none of the encoder's. -/
theorem RdF.apart {k : Nat} {L : List Fld} (h : RdF w0 w0.heap.size (some ⟨k, 0, none⟩) L) (hc : k ≠ c) (hg : k ≠ g) (hb : k ≠ b0) (W : World) (hK : K3 c g b0 w0 W) : RdF W W.heap.size (some ⟨k, 0, none⟩) L := fun j hj => by
  obtain ⟨b, off, e, hlt, c0, c1, c2, r⟩ := h j hj
  injection e with e
  injection e with e1 e2
  subst e1 e2
  have hs := hK.block k hlt hc hg hb
  exact ⟨k, 0, rfl, Nat.lt_of_lt_of_le hlt hK.size, (World.cell?_of_block (a := ⟨k, 0 + j * 3, none⟩) hs).trans c0, (World.cell?_of_block (a := ⟨k, 0 + j * 3 + 1, none⟩) hs).trans c1, (World.cell?_of_block (a := ⟨k, 0 + j * 3 + 2, none⟩) hs).trans c2, r⟩
end
end Pk

set_option maxHeartbeats 8000000 in
set_option maxRecDepth 100000 in
theorem ewrite_any (c g b : Nat) (E : Pk.Enc) (L : List Fld) (a : Option Addr) (n cap : Nat) (r : ByteArray) (w : World) (h : EnAt w c g b E) (hF : Hid (∀ W, K3 c g b w W → RdF W W.heap.size a L)) (hL : Hid (L.length = n)) (hf : Hid (L.length + sumZ L < 3000)) (hr : Hid (mk (wrote E L) = r)) :
    Calls Try.prog 12 #[.pointer (some ⟨c, 0, none⟩), .slice a n cap] w fun e w' => e = .returned (.string r) ∧ ∃ b', EnAt w' c g b' (behind E L) ∧ K3 c g b w w' ∧ (b' = b ∨ b' = g ∨ w.heap.size ≤ b') := by
  have hlen := wrote_len h.ok4 hf.out
  have hn3 : n < 3000 := by have := hf.out; have := hL.out; omega
  have HLEN := Lib.hid hlen
  obtain ⟨y, hc, hy4, hfold⟩ := h.cells
  obtain ⟨q, hq⟩ : ∃ q, chg E = q := ⟨_, rfl⟩
  rw [hq] at hc
  have hM4 := h.ok4.1
  have hl := h.lt
  have hAl := (Below.refl _ w).alloc (Nat.le_refl _) (.cells #[.pointer none, .slice none 0 0, .pointer (some ⟨g, 0, none⟩)] 75)
  have H0 : Hid (WrS (w.alloc (.cells #[.pointer none, .slice none 0 0, .pointer (some ⟨g, 0, none⟩)] 75)) w.heap.size w.heap.size g b (.slice none 0 0) [] E.1) := Lib.hid
    ⟨Nat.le_refl _, ⟨_, .inl rfl, heap_alloc_new w _⟩, ⟨rfl, .inl ⟨rfl, rfl⟩⟩, fun e => by simp [Value.ownBlock] at e, fun _ => rfl, h.tab.below hAl, h.ok4, by omega, by omega⟩
  have HW0 : Hid ((w.alloc (.cells #[.pointer none, .slice none 0 0, .pointer (some ⟨g, 0, none⟩)] 75)).heap[c]? = some (.cells #[.pointer (some ⟨g, 0, none⟩), .bool q, .int .i64 (y : Int)] 61 (0, 0))) := Lib.hid ((hAl.block c hl.1).trans hc)
  have HK0 := Lib.hid (show K3 c g b w (w.alloc (.cells #[.pointer none, .slice none 0 0, .pointer (some ⟨g, 0, none⟩)] 75)) from K3.of_below hAl)
  have c0 : w.cell? ⟨c, 0, none⟩ = some (.pointer (some ⟨g, 0, none⟩)) := cell_of_row _ c 0 _ _ _ hc
  have HC := Lib.hid (And.intro hl.1 (And.intro h.cg h.cb))
  have HQ := Lib.hid hq
  have HH := Lib.hid (heads_is hfold)
  have h4 := Lib.hid h.ok4
  clear h hc hAl hfold hq hl hlen
  go_enter Try.func12, Try.ntmps12
  go_upto_region 2 with fail
  generalize (w.alloc (.cells #[.pointer none, .slice none 0 0, .pointer (some ⟨g, 0, none⟩)] 75)) = w1 at *
  have d1 : w1.cell? ⟨c, 1, none⟩ = some (.bool q) := cell_of_row _ c 1 _ _ _ HW0.out
  have d2 : w1.cell? ⟨c, 2, none⟩ = some (.int .i64 (y : Int)) := cell_of_row _ c 2 _ _ _ HW0.out
  clear c0
  go_upto_if 17 with fail
  go_cut [] from 18 to 26 (fun wx => ∃ v, Hid (WSt w c g b y w.heap.size b v (heads E) E.1 wx))
  case first =>
    cases q with
    | true =>
      have hE2 : E.2 ≠ [] := by
        have := HQ.out
        unfold chg at this
        intro e
        rw [e] at this
        exact absurd this (by decide)
      obtain ⟨s, hs⟩ : ∃ s, (if y < E.1.1 then putL 31 32 y else []) ++ putL 31 32 E.1.1 = s := ⟨_, rfl⟩
      have hh := HH.out
      rw [if_neg hE2, hs] at hh
      have HS := Lib.hid hs
      have hsl : s.length ≤ 22 := by
        rw [← hs, List.length_append]
        have h1 := putL_few 31 32 y (by omega)
        have h2 := putL_few 31 32 E.1.1 (by omega)
        split
        · omega
        · rw [List.length_nil]; omega
      have HHD := Lib.hid hh
      clear hh hs
      go_wp2_with fail
      refine (wsizes_any w.heap.size w.heap.size g b _ [] s E.1 y E.1.1 w1 H0.out rfl hy4 HS (by rw [List.length_nil]; omega)).mono ?_
      rintro e w2 ⟨rfl, v2, hS2, hK2⟩
      have hcl := HC.out
      have hc2 : w2.heap[c]? = some (.cells #[.pointer (some ⟨g, 0, none⟩), .bool true, .int .i64 (y : Int)] 61 (0, 0)) := hK2.block c _ HW0.out (by omega) hcl.2.1 hcl.2.2 (.inl hcl.1)
      have e1 : w2.cell? ⟨c, 1, none⟩ = some (.bool true) := cell_of_row _ c 1 _ _ _ hc2
      have f1 : w2.frozen? ⟨c, 1, none⟩ = false := by simp [World.frozen?, hc2]
      have HE := Lib.hid (show WSt w c g b y w.heap.size b v2 (heads E) E.1 (w2.setCell ⟨c, 1, none⟩ (.bool false)) from by
        rw [HHD.out]
        exact ⟨by simp [World.setCell, Array.getElem?_modify, hc2], hS2.far (Only.set c 1 w2 (.bool false)) hcl.1 hcl.2.1 hcl.2.2, (HK0.out.writer hK2 (Nat.le_refl _) (.inl rfl)).set 1 _, .inl rfl, hcl.1, hcl.2.1, hcl.2.2⟩)
      clear hS2 hK2 hc2
      go_wp2_with fail
      go_meet
      exact ⟨_, HE⟩
    | false =>
      have hE2 : E.2 = [] := by
        have := HQ.out
        unfold chg at this
        simpa using this
      have hh := HH.out
      rw [if_pos hE2] at hh
      have hcl := HC.out
      have HE := Lib.hid (show WSt w c g b y w.heap.size b (.slice none 0 0) (heads E) E.1 w1 from by
        rw [hh]
        exact ⟨HW0.out, H0.out, HK0.out, .inl rfl, hcl.1, hcl.2.1, hcl.2.2⟩)
      clear hh hE2
      go_wp2_with fail
      go_meet
      exact ⟨_, HE⟩
  case rest =>
    obtain ⟨v1, HS1⟩ := hcut
    generalize wc = w2 at *
    clear d1 d2 H0 HW0 HK0
    have HSUM := Lib.hid (show heads E ++ (all E.1 (L.drop 0)).1 = wrote E L by rw [List.drop_zero]; rfl)
    have HALL := Lib.hid (show (all E.1 (L.drop 0)).2 = (all E.1 L).2 by rw [List.drop_zero])
    have hni : (0 : Int) ≤ (n : Int) := by omega
    go_wp2_with fail
    go_loopw [29] (fun i wr => ∃ (j : Nat) (l : List UInt8) (t : Tab) (b' : Nat) (v : Value), j ≤ n ∧ i = .int .i64 (j : Int) ∧ Hid (WSt w c g b y w.heap.size b' v l t wr) ∧ Hid (l ++ (all t (L.drop j)).1 = wrote E L) ∧ Hid ((all t (L.drop j)).2 = (all E.1 L).2)) (fun i _ => n + 1 - (intOf i).toNat)
    case atStart => exact ⟨0, _, _, b, v1, Nat.zero_le _, rfl, HS1, HSUM, HALL⟩
    case round =>
      obtain ⟨j, l, t, b', v, hj, rfl, HS, HU, HA⟩ := hrel
      clear HSUM HALL HS1
      by_cases hlt : j < n
      · have hltL : j < L.length := by rw [hL.out]; exact hlt
        have hsm := small_few hf.out _ (fldAt_mem hltL)
        have hdr := fldAt_drop hltL
        obtain ⟨bb, off, rfl, hbb, x0, x1, x2, _⟩ := hF.out _ HS.out.k3 j hltL
        obtain ⟨⟨xn, xv, nv⟩, hx⟩ : ∃ x, fldAt L j = x := ⟨_, rfl⟩
        rw [hx] at x0 x1 x2 hdr hsm
        simp only at x0 x1 x2 hsm
        obtain ⟨⟨p, t'⟩, hone⟩ : ∃ z, Pk.one t ⟨xn, xv, nv⟩ = z := ⟨_, rfl⟩
        have hU := HU.out
        have hA := HA.out
        rw [hdr, all, hone] at hU hA
        simp only at hU hA
        have hlb : l.length + p.length ≤ 110000 := by
          have e := congrArg List.length hU
          rw [List.length_append, List.length_append] at e
          have := HLEN.out
          omega
        have HU2 := Lib.hid (show (l ++ p) ++ (all t' (L.drop (j + 1))).1 = wrote E L by rw [List.append_assoc]; exact hU)
        have HA2 := Lib.hid hA
        have HONE := Lib.hid hone
        have hji : (0 : Int) ≤ (j : Int) := by omega
        have hjl : (j : Int) < (n : Int) := by omega
        have ew : IntKind.i64.wrap ((j : Int) + 1) = ((j + 1 : Nat) : Int) := by rw [IntKind.wrap_i64]; omega
        obtain ⟨wa, hwa⟩ : ∃ wa, wr.alloc (.cells #[.string xn, .string xv, .bool nv] 45) = wa := ⟨_, rfl⟩
        have hBa : Below wr.heap.size wr wa := by rw [← hwa]; exact (Below.refl _ wr).alloc (Nat.le_refl _) _
        have HSA := Lib.hid (HS.out.below hBa)
        have hbx : wa.heap[wr.heap.size]? = some (.cells #[.string xn, .string xv, .bool nv] 45 (0, 0)) := by rw [← hwa]; exact heap_alloc_new wr _
        have k0 : wa.cell? ⟨wr.heap.size, 0, none⟩ = some (.string xn) := cell_of_row _ _ 0 _ _ _ hbx
        have k1 : wa.cell? ⟨wr.heap.size, 1, none⟩ = some (.string xv) := cell_of_row _ _ 1 _ _ _ hbx
        have k2 : wa.cell? ⟨wr.heap.size, 2, none⟩ = some (.bool nv) := cell_of_row _ _ 2 _ _ _ hbx
        clear hU hA hone hdr hx hltL hBa HU HA hbx
        go_upto_region 8 with fail
        clear hwa x0 x1 x2
        go_wp2_with fail
        refine (wfield_any w.heap.size w.heap.size g b' v l p t t' xn xv nv wa HSA.out.wr (by omega) (by omega) HONE (by omega)).mono ?_
        rintro e w3 ⟨rfl, v3, b3, hS3, hK3, hb3⟩
        have HS3 := Lib.hid (HSA.out.step hS3 hK3 hb3)
        clear hS3 hK3 hb3 k0 k1 k2
        go_wp2_with fail
        go_roundw
        case rel => first | exact ⟨j + 1, l ++ p, t', b3, v3, by omega, rfl, HS3, HU2, HA2⟩ | ((repeat apply Exists.intro); exact ⟨⟨by omega, by assumption, HS3, HU2, HA2⟩, rfl⟩)
        case measure => simp [intOf]; omega
      · have hjn : j = n := by omega
        subst hjn
        have hdn : L.drop j = [] := List.drop_eq_nil_of_le (by rw [hL.out]; exact Nat.le_refl _)
        have hU := HU.out
        have hA := HA.out
        rw [hdn, all, List.append_nil] at hU
        rw [hdn, all] at hA
        simp only at hU hA
        subst hU
        have hnj : ¬ ((j : Int) < (j : Int)) := by omega
        have hll := HLEN.out
        have HA2 := Lib.hid (show behind E L = (t, []) by unfold behind; rw [hA])
        clear hA HA HU hdn
        go_wp2_with fail
        refine (btext_any w.heap.size w.heap.size g b' v (wrote E L) r t wr HS.out.wr hr.out (by omega)).mono ?_
        rintro e w3 ⟨rfl, hK3, hT3⟩
        have HE := Lib.hid (show ∃ b', EnAt w3 c g b' (behind E L) ∧ K3 c g b w w3 ∧ (b' = b ∨ b' = g ∨ w.heap.size ≤ b') from by
          have hS := HS.out
          rw [HA2.out]
          exact ⟨b', ⟨⟨y, hK3.block c _ hS.enc hS.cu hS.cg hS.cb (.inl hS.clt), hy4, fun h => absurd rfl h⟩, hT3, hS.wr.ok4, hS.cg, hS.cb⟩, hS.k3.writer hK3 hS.wr.le hS.hb, hS.hb⟩)
        clear hK3 hT3
        go_wp2_with fail
        go_ret
        exact ⟨rfl, HE.out⟩
end Go.Proofs.Ytamgnbjdeoklbaa

/- Rows of fields of the call's own, read as fields that came in are. No condition. -/
namespace Go.Proofs.Ytamgnbjdeoklbaa
open Go Go.RowKit Tb Up

namespace Pk
theorem fldCs_get : ∀ {L : List Fld} {k : Nat}, k < L.length → (fldCs L)[k * 3]? = some (.string (fldAt L k).name) ∧ (fldCs L)[k * 3 + 1]? = some (.string (fldAt L k).val) ∧ (fldCs L)[k * 3 + 2]? = some (.bool (fldAt L k).never)
  | [], k, h => absurd h (Nat.not_lt_zero k)
  | x :: l, 0, _ => ⟨rfl, rfl, rfl⟩
  | x :: l, k + 1, h => by
    have ih := fldCs_get (L := l) (k := k) (by simpa using h)
    have e : fldCs (x :: l) = .string x.name :: .string x.val :: .bool x.never :: fldCs l := rfl
    have e1 : (k + 1) * 3 = k * 3 + 1 + 1 + 1 := by omega
    rw [e, e1]
    exact ih
theorem rdf_own {w : World} {base n : Nat} {v : Value} {L : List Fld} (h : w.ownsRow base 45 3 v n (fldCs L)) (hn : L.length = n) (hs : ∀ x ∈ L, x.name.size ≤ maxLen ∧ x.val.size ≤ maxLen) : ∃ A c, v = .slice A n c ∧ RdF w w.heap.size A L ∧ (∀ k, v.ownBlock = some k → A = some ⟨k, 0, none⟩) ∧ (v.ownBlock = none → L = []) := by
  rcases h.2 with ⟨rfl, rfl⟩ | ⟨g, cap, cur, rfl, hbg, hgg, hnc, hcm, hcs, htake⟩
  · exact ⟨_, _, rfl, fun k hk => by omega, fun k hk => by simp [Value.ownBlock] at hk, fun _ => List.length_eq_zero_iff.1 hn⟩
  · refine ⟨_, _, rfl, fun k hk => ?_, fun k hk => by simp [Value.ownBlock] at hk; rw [hk], fun e => by simp [Value.ownBlock] at e⟩
    have hc := h.cells (g := g) rfl
    obtain ⟨e0, e1, e2⟩ := fldCs_get hk
    have c0 := hc _ _ e0
    have c1 := hc _ _ e1
    have c2 := hc _ _ e2
    rw [zero_add_addr] at c0 c1 c2
    have hx := hs _ (fldAt_mem hk)
    refine ⟨g, 0, rfl, world_lt hgg, ?_, ?_, ?_, hx.1, hx.2⟩
    · rw [Nat.zero_add]; exact c0
    · rw [Nat.zero_add]; exact c1
    · rw [Nat.zero_add]; exact c2
end Pk
end Go.Proofs.Ytamgnbjdeoklbaa

/- An encoder and the document's beside each other. No condition. -/
namespace Go.Proofs.Ytamgnbjdeoklbaa.Pk
open Go Go.RowKit Tb Up Ints

theorem encE_same {w w' : World} {E : Enc} {A A' : Option Addr} {k k' : Nat} (h : EncE w w.heap.size E A k A' k') (hs : w.heap.size ≤ w'.heap.size) (h1 : ∀ b o, A = some ⟨b, o, none⟩ → b < w.heap.size → w'.heap[b]? = w.heap[b]?) (h2 : 0 < E.2.length → ∀ a, A' = some a → a.block < w.heap.size → w'.heap[a.block]? = w.heap[a.block]?) : EncE w' w'.heap.size E A k A' k' := by
  refine ⟨tabE_same h.tab hs (fun b o e => h1 b o e (tabE_lt h.tab b o e)), fun hp => ?_, h.cap⟩
  obtain ⟨a, e, hb, hc⟩ := h.szs hp
  refine ⟨a, e, Nat.lt_of_lt_of_le hb hs, fun j hj => ?_⟩
  have hbl : (a.add j).block = a.block := by unfold Addr.add; split <;> rfl
  exact (World.cell?_of_block (a := a.add j) (show w'.heap[(a.add j).block]? = w.heap[(a.add j).block]? by rw [hbl]; exact h2 (by omega) a e hb)).trans (hc j hj)
/-- What the walk has: the program's encoder; the document's in block m; a field's box in block x. -/
structure NV (w : World) (c g b m x : Nat) (E : Enc) (A : Option Addr) (k : Nat) (A' : Option Addr) (k' : Nat) (f : Fld) (W : World) : Prop where
  enc : EnAt W c g b E
  row : W.heap[m]? = some (.cells #[.int .i64 (E.1.1 : Int), .slice A E.1.2.length k, .slice A' E.2.length k'] 52 (0, 0))
  doc : EncE W W.heap.size E A k A' k'
  box : FBox W x f
  ec : w.heap.size ≤ c ∧ w.heap.size ≤ g ∧ w.heap.size ≤ b
  mc : w.heap.size ≤ m ∧ m ≠ c ∧ m ≠ g ∧ m ≠ b
  xc : w.heap.size ≤ x ∧ x ≠ c ∧ x ≠ g ∧ x ≠ b ∧ x ≠ m
  ap : ∀ i o, A = some ⟨i, o, none⟩ → i ≠ c ∧ i ≠ g ∧ i ≠ b ∧ i ≠ m ∧ i ≠ x
  ap' : 0 < E.2.length → ∀ a, A' = some a → a.block ≠ c ∧ a.block ≠ g ∧ a.block ≠ b ∧ a.block ≠ m ∧ a.block ≠ x
  bel : Below w.heap.size w W
section
variable {w W W' : World} {c g b m x b' k k' k2 k3 : Nat} {E E' : Enc} {A A' A2 A3 : Option Addr} {f f' : Fld}
theorem NV.below (h : NV w c g b m x E A k A' k' f W) (hB : Below W.heap.size W W') : NV w c g b m x E A k A' k' f W' :=
  ⟨h.enc.below hB, (hB.block m (world_lt h.row)).trans h.row, h.doc.on hB hB.size, (hB.block x (world_lt h.box)).trans h.box, h.ec, h.mc, h.xc, h.ap, h.ap', h.bel.trans (hB.mono h.bel.size)⟩
/-- The program's encoder worked; the document's call is still to come. -/
structure NW (w : World) (c g b m x : Nat) (E0 E : Enc) (A : Option Addr) (k : Nat) (A' : Option Addr) (k' : Nat) (f : Fld) (W : World) : Prop where
  enc : EnAt W c g b E
  row : W.heap[m]? = some (.cells #[.int .i64 (E0.1.1 : Int), .slice A E0.1.2.length k, .slice A' E0.2.length k'] 52 (0, 0))
  doc : EncE W W.heap.size E0 A k A' k'
  box : FBox W x f
  ec : w.heap.size ≤ c ∧ w.heap.size ≤ g ∧ w.heap.size ≤ b
  mc : w.heap.size ≤ m ∧ m ≠ c ∧ m ≠ g ∧ m ≠ b
  xc : w.heap.size ≤ x ∧ x ≠ c ∧ x ≠ g ∧ x ≠ b ∧ x ≠ m
  ap : ∀ i o, A = some ⟨i, o, none⟩ → i ≠ c ∧ i ≠ g ∧ i ≠ b ∧ i ≠ m ∧ i ≠ x
  ap' : 0 < E0.2.length → ∀ a, A' = some a → a.block ≠ c ∧ a.block ≠ g ∧ a.block ≠ b ∧ a.block ≠ m ∧ a.block ≠ x
  bel : Below w.heap.size w W
theorem NW.below {E0 : Enc} (h : NW w c g b m x E0 E A k A' k' f W) (hB : Below W.heap.size W W') : NW w c g b m x E0 E A k A' k' f W' :=
  ⟨h.enc.below hB, (hB.block m (world_lt h.row)).trans h.row, h.doc.on hB hB.size, (hB.block x (world_lt h.box)).trans h.box, h.ec, h.mc, h.xc, h.ap, h.ap', h.bel.trans (hB.mono h.bel.size)⟩
theorem NV.step (h : NV w c g b m x E A k A' k' f W) (hE : EnAt W' c g b' E') (hK : K3 c g b W W') (hb : b' = b ∨ b' = g ∨ W.heap.size ≤ b') : NW w c g b' m x E E' A k A' k' f W' := by
  have hm := world_lt h.row
  have hx := world_lt h.box
  have hec := h.ec
  have hmc := h.mc
  have hxc := h.xc
  have hs := h.bel.size
  have hap : ∀ i, i < W.heap.size → (i ≠ c ∧ i ≠ g ∧ i ≠ b ∧ i ≠ m ∧ i ≠ x) → i ≠ c ∧ i ≠ g ∧ i ≠ b' ∧ i ≠ m ∧ i ≠ x := fun i hi hh => by omega
  refine ⟨hE, (hK.block m hm hmc.2.1 hmc.2.2.1 hmc.2.2.2).trans h.row, ?_, (hK.block x hx hxc.2.1 hxc.2.2.1 hxc.2.2.2.1).trans h.box, ⟨hec.1, hec.2.1, by omega⟩, ⟨hmc.1, hmc.2.1, hmc.2.2.1, by omega⟩, ⟨hxc.1, hxc.2.1, hxc.2.2.1, by omega, hxc.2.2.2.2⟩, ?_, ?_, K3.below h.bel hK hec.1 hec.2.1 hec.2.2 hs⟩
  · exact encE_same h.doc hK.size (fun i o e hl => by have := h.ap i o e; exact hK.block i hl this.1 this.2.1 this.2.2.1) (fun hp a e hl => by have := h.ap' hp a e; exact hK.block _ hl this.1 this.2.1 this.2.2.1)
  · exact fun i o e => hap i (tabE_lt h.doc.tab i o e) (h.ap i o e)
  · intro hp a e
    obtain ⟨a2, e2, hl, _⟩ := h.doc.szs hp
    rw [e] at e2
    injection e2 with e2
    subst e2
    exact hap _ hl (h.ap' hp a e)
theorem put3m {y0 y1 y2 : Value} {W : World} {u0 u1 u2 : Value} {t : TypeId} (h : W.heap[m]? = some (.cells #[u0, u1, u2] t (0, 0))) : (((W.setCell ⟨m, 0, none⟩ y0).setCell ⟨m, 1, none⟩ y1).setCell ⟨m, 2, none⟩ y2).heap[m]? = some (.cells #[y0, y1, y2] t (0, 0)) := put3 h
/-- The document's call came back, and its encoder was laid into block m. -/
theorem NW.turn {E0 : Enc} (h : NW w c g b m x E0 E A k A' k' f W) (hE : EncE W' W'.heap.size E A2 k2 A3 k3) (hB : Below W.heap.size W W') (h1 : ∀ i o, A2 = some ⟨i, o, none⟩ → A = some ⟨i, o, none⟩ ∨ W.heap.size ≤ i) (h2 : ∀ a, A3 = some a → (A' = some a ∧ E0 = E) ∨ W.heap.size ≤ a.block) :
    NV w c g b m x E A2 k2 A3 k3 f (((W'.setCell ⟨m, 0, none⟩ (.int .i64 (E.1.1 : Int))).setCell ⟨m, 1, none⟩ (.slice A2 E.1.2.length k2)).setCell ⟨m, 2, none⟩ (.slice A3 E.2.length k3)) := by
  have hm := world_lt h.row
  have hx := world_lt h.box
  have hel := h.enc.lt
  have hs := hB.size
  have hr := (hB.block m hm).trans h.row
  have hmc := h.mc
  have hxc := h.xc
  have far : ∀ i, i ≠ m → (((W'.setCell ⟨m, 0, none⟩ (.int .i64 (E.1.1 : Int))).setCell ⟨m, 1, none⟩ (.slice A2 E.1.2.length k2)).setCell ⟨m, 2, none⟩ (.slice A3 E.2.length k3)).heap[i]? = W'.heap[i]? := fun i hi =>
    ((Below.heap_setCell _ ⟨m, 2, none⟩ _ i hi).trans (Below.heap_setCell _ ⟨m, 1, none⟩ _ i hi)).trans (Below.heap_setCell _ ⟨m, 0, none⟩ _ i hi)
  have hz : (((W'.setCell ⟨m, 0, none⟩ (.int .i64 (E.1.1 : Int))).setCell ⟨m, 1, none⟩ (.slice A2 E.1.2.length k2)).setCell ⟨m, 2, none⟩ (.slice A3 E.2.length k3)).heap.size = W'.heap.size := by simp
  have hap : ∀ i o, A2 = some ⟨i, o, none⟩ → i ≠ c ∧ i ≠ g ∧ i ≠ b ∧ i ≠ m ∧ i ≠ x := fun i o e => by
    rcases h1 i o e with e | e
    · exact h.ap i o e
    · omega
  have hap' : 0 < E.2.length → ∀ a, A3 = some a → a.block ≠ c ∧ a.block ≠ g ∧ a.block ≠ b ∧ a.block ≠ m ∧ a.block ≠ x := fun hp a e => by
    rcases h2 a e with ⟨e, e0⟩ | e
    · subst e0
      exact h.ap' hp a e
    · omega
  refine ⟨(h.enc.below hB).kept (Nat.le_of_eq hz.symm) (fun i _ hi => far i (by omega)), put3m hr, ?_, (far x hxc.2.2.2.2).trans ((hB.block x hx).trans h.box), h.ec, hmc, hxc, hap, hap', ?_⟩
  · exact encE_same hE (Nat.le_of_eq hz.symm) (fun i o e _ => far i (hap i o e).2.2.2.1) (fun hp a e _ => far _ (hap' hp a e).2.2.2.1)
  · exact (((h.bel.trans (hB.mono h.bel.size)).setCell (p := ⟨m, 0, none⟩) hmc.1 _).setCell (p := ⟨m, 1, none⟩) hmc.1 _).setCell (p := ⟨m, 2, none⟩) hmc.1 _
/-- The box turned. -/
theorem NV.boxed (h : NV w c g b m x E A k A' k' f W) (hW : W'.heap[x]? = some (.cells #[.string f'.name, .string f'.val, .bool f'.never] 45 (0, 0))) (hO : Only x W W') (hB : Below w.heap.size W W') : NV w c g b m x E A k A' k' f' W' := by
  have hxc := h.xc
  refine ⟨h.enc.kept (Nat.le_of_eq hO.size.symm) (fun i _ hi => hO.block i (by omega)), (hO.block m (by omega)).trans h.row, ?_, hW, h.ec, h.mc, hxc, h.ap, h.ap', h.bel.trans hB⟩
  exact encE_same h.doc (Nat.le_of_eq hO.size.symm) (fun i o e _ => hO.block i (h.ap i o e).2.2.2.2) (fun hp a e _ => hO.block _ (h.ap' hp a e).2.2.2.2)
end
end Go.Proofs.Ytamgnbjdeoklbaa.Pk

/- The law's awake: two blocks whose bytes are known. No condition. -/
namespace Go.Proofs.Ytamgnbjdeoklbaa
open Go Go.RowKit Bytes Tb Up Pk

namespace Pk
def awF : Fld := ⟨⟨#[99, 97, 99, 104, 101, 45, 99, 111, 110, 116, 114, 111, 108]⟩, ⟨#[110, 111, 45, 99, 97, 99, 104, 101]⟩, false⟩
def awL : List Fld := [⟨⟨#[58, 109, 101, 116, 104, 111, 100]⟩, ⟨#[71, 69, 84]⟩, false⟩, ⟨⟨#[58, 115, 99, 104, 101, 109, 101]⟩, ⟨#[104, 116, 116, 112]⟩, false⟩, ⟨⟨#[58, 112, 97, 116, 104]⟩, ⟨#[47]⟩, false⟩, ⟨⟨#[58, 97, 117, 116, 104, 111, 114, 105, 116, 121]⟩, ⟨#[119, 119, 119, 46, 101, 120, 97, 109, 112, 108, 101, 46, 99, 111, 109]⟩, false⟩]
def awM : List Fld := awL ++ [awF]
theorem aw1 : wrote (newT 4096, []) awL = [130, 134, 132, 65, 140, 241, 227, 194, 229, 242, 58, 107, 160, 171, 144, 244, 255] := by decide +kernel
theorem aw2 : wrote (behind (newT 4096, []) awL) awM = [130, 134, 132, 190, 88, 134, 168, 235, 16, 100, 156, 191] := by decide +kernel
end Pk

theorem cell_row {w : World} {b : Nat} {cs : Array Value} {T : TypeId} (hb : w.heap[b]? = some (.cells cs T (0, 0))) (j : Nat) : w.cell? ⟨b, j, none⟩ = cs[j]? := by simp [World.cell?, hb]
set_option maxHeartbeats 4000000 in
set_option maxRecDepth 100000 in
theorem awake_is (w : World) : Calls Try.prog 6 #[] w fun e w' => e = .returned (.bool true) ∧ Below w.heap.size w w' := by
  go_enter Try.func6, Try.ntmps6
  go_wp2_with fail
  refine (penew_is w).mono ?_
  rintro e w1 ⟨c, g, b, rfl, hE, hB, l1, l2, l3⟩
  have hl := hE.lt
  obtain ⟨w2, hw2⟩ : ∃ w2, w1.alloc (.cells #[.string ⟨#[58, 109, 101, 116, 104, 111, 100]⟩, .string ⟨#[71, 69, 84]⟩, .bool false, .string ⟨#[58, 115, 99, 104, 101, 109, 101]⟩, .string ⟨#[104, 116, 116, 112]⟩, .bool false, .string ⟨#[58, 112, 97, 116, 104]⟩, .string ⟨#[47]⟩, .bool false, .string ⟨#[58, 97, 117, 116, 104, 111, 114, 105, 116, 121]⟩, .string ⟨#[119, 119, 119, 46, 101, 120, 97, 109, 112, 108, 101, 46, 99, 111, 109]⟩, .bool false] 45) = w2 := ⟨_, rfl⟩
  have hB2 : Below w1.heap.size w1 w2 := by rw [← hw2]; exact (Below.refl _ w1).alloc (Nat.le_refl _) _
  have hO : w2.ownsRow w1.heap.size 45 3 (.slice (some ⟨w1.heap.size, 0, none⟩) 4 4) 4 (fldCs awL) :=
    ⟨rfl, .inr ⟨w1.heap.size, 4, #[.string ⟨#[58, 109, 101, 116, 104, 111, 100]⟩, .string ⟨#[71, 69, 84]⟩, .bool false, .string ⟨#[58, 115, 99, 104, 101, 109, 101]⟩, .string ⟨#[104, 116, 116, 112]⟩, .bool false, .string ⟨#[58, 112, 97, 116, 104]⟩, .string ⟨#[47]⟩, .bool false, .string ⟨#[58, 97, 117, 116, 104, 111, 114, 105, 116, 121]⟩, .string ⟨#[119, 119, 119, 46, 101, 120, 97, 109, 112, 108, 101, 46, 99, 111, 109]⟩, .bool false], rfl, Nat.le_refl _, by rw [← hw2]; exact heap_alloc_new w1 _, Nat.le_refl _, by decide, rfl, rfl⟩⟩
  have hz2 : w2.heap.size = w1.heap.size + 1 := by rw [← hw2]; simp
  obtain ⟨A0, c0, e0, hF, hA, _⟩ := rdf_own hO rfl (by decide)
  have hA0 := hA w1.heap.size rfl
  subst hA0
  have HR1 := Lib.hid (ewrite_any c g b (newT 4096, []) awL (some ⟨w1.heap.size, 0, none⟩) 4 4 _ w2 (hE.below hB2) (Lib.hid (hF.apart (by omega) (by omega) (by omega))) (Lib.hid rfl) (Lib.hid (by decide)) (Lib.hid (by rw [aw1])))
  have HO := Lib.hid hO
  have HB2 := Lib.hid (hB.trans (hB2.mono hB.size))
  have hws := hB.size
  clear hE hB hB2 hO hF hA e0
  go_wp2_with fail
  refine HR1.out.mono ?_
  rintro e w3 ⟨rfl, b1, hE1, hK1, hb1⟩
  have hO3 : w3.ownsRow w1.heap.size 45 3 (.slice (some ⟨w1.heap.size, 0, none⟩) 4 4) 4 (fldCs awL) := own_same HO.out (fun k hk => by
    have hk2 := HO.out.lt k hk
    exact hK1.block k hk2.2 (by omega) (by omega) (by omega))
  have hs3 := hK1.size
  have hB3 : Below w.heap.size w w3 := K3.below HB2.out hK1 l1 l2 l3 (by omega)
  have hl1 := hE1.lt
  obtain ⟨w4, hw4⟩ : ∃ w4, w3.alloc (.cells #[.string ⟨#[99, 97, 99, 104, 101, 45, 99, 111, 110, 116, 114, 111, 108]⟩, .string ⟨#[110, 111, 45, 99, 97, 99, 104, 101]⟩, .bool false] 45) = w4 := ⟨_, rfl⟩
  have hB4 : Below w3.heap.size w3 w4 := by rw [← hw4]; exact (Below.refl _ w3).alloc (Nat.le_refl _) _
  have hz4 : w4.heap.size = w3.heap.size + 1 := by rw [← hw4]; simp
  obtain ⟨k, cap, w5, hrun, hO5, hG5, hloc⟩ := run_append_fld (own_same hO3 (w' := w4) (fun k hk => hB4.block k (hO3.lt k hk).2)) (E := w3.heap.size) (x := awF) (by rw [← hw4]; exact heap_alloc_new w3 _) (by decide) (by omega) 30
  have hB5 : Below w1.heap.size w4 w5 := (Below.refl _ w4).grown hG5 (by omega) (fun k hk => by injection hk with hk; have hk2 : w1.heap.size = k := hk; omega)
  have hkne : k = w1.heap.size ∨ w4.heap.size ≤ k := by
    rcases hloc with e | e
    · injection e with e
      exact .inl e.symm
    · exact .inr e
  have hE5 : EnAt w5 c g b1 (behind (newT 4096, []) awL) := (hE1.below hB4).kept hG5.size (fun i hi hii => hG5.block i hi (fun e => by
    injection e with e
    have e2 : i = w1.heap.size := e
    omega))
  obtain ⟨A0, c0, e0, hF, hA, _⟩ := rdf_own hO5 rfl (by decide)
  have hA0 := hA k rfl
  subst hA0
  have HR2 := Lib.hid (ewrite_any c g b1 (behind (newT 4096, []) awL) awM (some ⟨k, 0, none⟩) 5 cap _ w5 hE5 (Lib.hid (hF.apart (by omega) (by omega) (by omega))) (Lib.hid rfl) (Lib.hid (by decide)) (Lib.hid (by rw [aw2])))
  have HB5 := Lib.hid (hB3.trans ((hB4.mono (by have := hB3.size; omega)).trans (hB5.mono (by omega))))
  have hn1 : w.heap.size ≤ b1 := by omega
  have hz5 := hB5.size
  have HRUN := Lib.hid hrun
  clear hE1 hK1 hO3 hB3 hB4 hO5 hG5 hloc hB5 hE5 hF hA e0 hrun HR1
  go_wp2_with (at_builtin; refine wpList_append_run rfl _ _ _ rfl _ _ _ rfl rfl HRUN.out ?_)
  refine HR2.out.mono ?_
  rintro e w6 ⟨rfl, b2, hE6, hK6, hb6⟩
  have HB6 := Lib.hid (K3.below HB5.out hK6 l1 l2 hn1 (by have := HB5.out.size; omega))
  clear hE6 hK6
  have q1 : ((mk [130, 134, 132, 65, 140, 241, 227, 194, 229, 242, 58, 107, 160, 171, 144, 244, 255]).toList == [130, 134, 132, 65, 140, 241, 227, 194, 229, 242, 58, 107, 160, 171, 144, 244, 255]) = true := by rw [Lib.toList_data]; exact beq_self_eq_true _
  have q2 : ((mk [130, 134, 132, 190, 88, 134, 168, 235, 16, 100, 156, 191]).toList == [130, 134, 132, 190, 88, 134, 168, 235, 16, 100, 156, 191]) = true := by rw [Lib.toList_data]; exact beq_self_eq_true _
  go_wp2_with fail
  go_ret
  exact ⟨rfl, HB6.out⟩
end Go.Proofs.Ytamgnbjdeoklbaa
