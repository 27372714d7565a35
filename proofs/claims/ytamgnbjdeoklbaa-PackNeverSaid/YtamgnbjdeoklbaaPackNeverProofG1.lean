/- Texts of one proof, one behind the other: PkFld, PkFrame, PkMath, PkBack, PkLen, PkFew, PkActs, Strs, Ints, TbNil. -/
import Derived.Test.YtamgnbjdeoklbaaProg
import Derived.Test.YtamgnbjdeoklbaaUpMath
import Derived.Test.YtamgnbjdeoklbaaBytes
import Derived.Test.YtamgnbjdeoklbaaPfMath
import Derived.Test.YtamgnbjdeoklbaaHfMath
import Derived.Test.YtamgnbjdeoklbaaTbMath
import Derived.Test.YtamgnbjdeoklbaaTbFix
import Derived.Test.YtamgnbjdeoklbaaTbAt
import Derived.Test.YtamgnbjdeoklbaaTbMem
import Derived.Test.YtamgnbjdeoklbaaTbLeast
import Derived.Test.YtamgnbjdeoklbaaTbRef
import Derived.Test.YtamgnbjdeoklbaaTbAll
import Derived.Deep.Slices
import Derived.Deep.Fields
import Derived.ChangeSame
import Derived.ChangeArms
import Derived.ProofKit
import Derived.OpenShut
import Derived.WalkKit
import Derived.Lib.Hide
import Derived.Below
import Derived.ChangeOld
import Derived.Outline
import Derived.IntWalk
import Derived.WalkSpells
import Derived.WalkLawsBesides
import Derived.Deep.QuietTactic
import Derived.BigQuiet
import Derived.OwnWalk
import Derived.Laws.OwnMore
import Derived.Laws.AppendOwn
import Derived.Laws.AppendOwnNone
import Derived.Deep.RegionHeld3
import Derived.Deep.AppendLies
import Derived.Deep.RegionLaw
import Derived.Laws.Rows
import Derived.Deep.CutRange

/- Fields that came in: a slice of them, nil or at an address. No condition. -/
namespace Go.Proofs.Ytamgnbjdeoklbaa
open Go.ChangeShapes Go.WideShapes Go.Deep Go.RowKit Tb Up

namespace Pk
section
variable {H : Type} {enc : TypeId × Value → H} {P : Program} {w : World} {base : Nat} {spare : Nat → Bool} {held : Bool}
theorem open_slice_flds {t e : TypeId} {fs : Array Field} {fuel : Nat} {cs : List Value} {x : DataW H × List MemPlace} (ht : P.underlying t = some (.slice e)) (he : P.underlying e = some (.struct fs))
    (hone : oneCellFields P fs = true) (hC : P.cellsOf e = fs.size) (h : DataW.trod enc P w base spare held fuel t cs = some x) :
    cs = [.slice none 0 0] ∨
    ∃ (a : Addr) (len cap m : Nat), cs = [.slice (some a) len cap] ∧ len ≤ m ∧ len ≤ maxLen ∧
      ∀ i, i < m → ∃ (n : Nat), ∀ (j : Nat) (f : Field), fs[j]? = some f → ∃ (v : Value) (y : DataW H × List MemPlace), w.cell? (a.add (i * fs.size + j)) = some v ∧ DataW.trod enc P w base spare held n f.type [v] = some y := by
  rcases open_slice ht h with h0 | ⟨a, len, cap, m, n, D, Pl, hcs, hb, hl, hm, hmm, hx, hi⟩
  · exact .inl h0.1
  · refine .inr ⟨a, len, cap, m, hcs, by rw [hmm]; split <;> omega, by omega, fun i him => ?_⟩
    obtain ⟨cs', hc, ht'⟩ := hi i him
    rw [hC] at hc
    obtain ⟨ys, n', hn', hy, hlen, hyl, hf⟩ := DataW.trod_struct he ht'
    obtain ⟨_, hcl, hat⟩ := World.cells?_some hc
    refine ⟨n', fun j f hj => ?_⟩
    obtain ⟨ho, hk⟩ := hone_of hone j f hj
    have hjl : j < fs.size := (Array.getElem?_eq_some_iff.1 hj).1
    have hcell := hat j hjl
    have hv : cs'[j]? = some (cs'[j]'(by omega)) := List.getElem?_eq_getElem (by omega)
    have h1 := hf j f hj
    rw [ho, hk] at h1
    have hone' : (cs'.drop j).take 1 = [cs'[j]'(by omega)] := by
      rw [List.drop_eq_getElem_cons (by omega)]
      rfl
    rw [hone'] at h1
    have hys : ys[j]? = some (ys[j]'(by omega)) := List.getElem?_eq_getElem (by omega)
    refine ⟨_, _, ?_, h1.trans hys⟩
    rw [← Go.Deep.add_add, hcell, hv]
end
def fldAt (L : List Fld) (k : Nat) : Fld := L.getD k ⟨⟨#[]⟩, ⟨#[]⟩, false⟩
/-- A slice of fields, below a block. -/
def RdF (w : World) (B : Nat) (a : Option Addr) (L : List Fld) : Prop :=
  ∀ k, k < L.length → ∃ (b off : Nat), a = some ⟨b, off, none⟩ ∧ b < B ∧ w.cell? ⟨b, off + k * 3, none⟩ = some (.string (fldAt L k).name) ∧ w.cell? ⟨b, off + k * 3 + 1, none⟩ = some (.string (fldAt L k).val) ∧ w.cell? ⟨b, off + k * 3 + 2, none⟩ = some (.bool (fldAt L k).never) ∧
    (fldAt L k).name.size ≤ maxLen ∧ (fldAt L k).val.size ≤ maxLen
theorem RdF.on {w w' : World} {B B' : Nat} {a : Option Addr} {L : List Fld} (h : RdF w B a L) (hb : Below B w w') (hB : B ≤ B') : RdF w' B' a L := fun k hk => by
  obtain ⟨b, off, e, hlt, c0, c1, c2, r⟩ := h k hk
  exact ⟨b, off, e, by omega, (hb.cell (p := ⟨b, off + k * 3, none⟩) hlt).trans c0, (hb.cell (p := ⟨b, off + k * 3 + 1, none⟩) hlt).trans c1, (hb.cell (p := ⟨b, off + k * 3 + 2, none⟩) hlt).trans c2, r⟩
theorem fldAt_drop {L : List Fld} {k : Nat} (h : k < L.length) : L.drop k = fldAt L k :: L.drop (k + 1) := by
  unfold fldAt
  rw [List.drop_eq_getElem_cons h, List.getD_eq_getElem?_getD, List.getElem?_eq_getElem h]
  rfl
theorem fldAt_mem {L : List Fld} {k : Nat} (h : k < L.length) : fldAt L k ∈ L := by
  unfold fldAt
  rw [List.getD_eq_getElem?_getD, List.getElem?_eq_getElem h]
  exact List.getElem_mem h
theorem rdf_of_trod {H : Type} {enc : TypeId × Value → H} {w : World} {base : Nat} {spare : Nat → Bool} {held : Bool} {fuel : Nat} {a : Option Addr} {len cap : Nat} {x : DataW H × List MemPlace}
    (h : DataW.trod enc Try.prog w base spare held fuel 30 [.slice a len cap] = some x) : len ≤ maxLen ∧ ∃ L : List Fld, L.length = len ∧ RdF w w.heap.size a L := by
  rcases open_slice_flds Try.underlying30 Try.underlying45 (by kernel_rfl) (by kernel_rfl) h with hcs | ⟨ad, l, c, m, hcs, hm, hmx, hf⟩
  · simp at hcs
    obtain ⟨rfl, rfl, rfl⟩ := hcs
    exact ⟨Nat.zero_le _, [], rfl, fun k hk => absurd hk (Nat.not_lt_zero k)⟩
  · simp at hcs
    obtain ⟨rfl, rfl, rfl⟩ := hcs
    refine ⟨hmx, ?_⟩
    have one : ∀ j, j < len → ∃ (e : Fld) (b off : Nat), ad = ⟨b, off, none⟩ ∧ b < w.heap.size ∧ w.cell? ⟨b, off + j * 3, none⟩ = some (.string e.name) ∧ w.cell? ⟨b, off + j * 3 + 1, none⟩ = some (.string e.val) ∧ w.cell? ⟨b, off + j * 3 + 2, none⟩ = some (.bool e.never) ∧ e.name.size ≤ maxLen ∧ e.val.size ≤ maxLen := fun j hj => by
      obtain ⟨n, hfj⟩ := hf j (by omega)
      obtain ⟨v0, y0, hc0, ht0⟩ := hfj 0 _ rfl
      obtain ⟨v1, y1, hc1, ht1⟩ := hfj 1 _ rfl
      obtain ⟨v2, y2, hc2, ht2⟩ := hfj 2 _ rfl
      obtain ⟨s0, hs0, _, hw0⟩ := DataW.trod_string Try.underlying9 ht0
      obtain ⟨s1, hs1, _, hw1⟩ := DataW.trod_string Try.underlying9 ht1
      obtain ⟨nn, hn, _⟩ := DataW.trod_bool Try.underlying4 ht2
      simp at hs0 hs1 hn
      subst hs0 hs1 hn
      obtain ⟨b, off, spot⟩ := ad
      obtain ⟨n', hf0⟩ := hf 0 (by omega)
      obtain ⟨u0, z0, hu0, _⟩ := hf0 0 _ rfl
      have hspot : spot = none := by simpa [Addr.add] using World.cell?_spot hu0
      clear hu0
      subst hspot
      rw [add_plain] at hc0 hc1 hc2
      refine ⟨⟨s0, s1, nn⟩, b, off, rfl, World.block_lt_of_cell? _ _ hc0, ?_, ?_, ?_, ?_, ?_⟩
      · simpa using hc0
      · simpa [Nat.add_assoc] using hc1
      · simpa [Nat.add_assoc] using hc2
      · exact hw0
      · exact hw1
    obtain ⟨f, hf2⟩ : ∃ f : Nat → Fld, ∀ j, j < len → ∃ (b off : Nat), ad = ⟨b, off, none⟩ ∧ b < w.heap.size ∧ w.cell? ⟨b, off + j * 3, none⟩ = some (.string (f j).name) ∧ w.cell? ⟨b, off + j * 3 + 1, none⟩ = some (.string (f j).val) ∧ w.cell? ⟨b, off + j * 3 + 2, none⟩ = some (.bool (f j).never) ∧ (f j).name.size ≤ maxLen ∧ (f j).val.size ≤ maxLen := by
      classical
      exact ⟨fun j => if h : j < len then (one j h).choose else ⟨⟨#[]⟩, ⟨#[]⟩, false⟩, fun j hj => by simp only [hj, dif_pos]; exact (one j hj).choose_spec⟩
    refine ⟨(List.range len).map f, by rw [List.length_map, List.length_range], fun k hk => ?_⟩
    rw [List.length_map, List.length_range] at hk
    have e : fldAt ((List.range len).map f) k = f k := by
      unfold fldAt
      rw [List.getD_eq_getElem?_getD, List.getElem?_map, List.getElem?_range hk]
      rfl
    rw [e]
    obtain ⟨b, off, h0, r⟩ := hf2 k hk
    exact ⟨b, off, by rw [h0], r⟩
end Pk
end Go.Proofs.Ytamgnbjdeoklbaa

/- A field that came in. No condition. -/
namespace Go.Proofs.Ytamgnbjdeoklbaa
open Go.ChangeShapes Go.WideShapes Go.ChangeAt Go.RowKit Up

namespace Pk
set_option maxRecDepth 100000 in
theorem came_fld {H : Type} {enc : TypeId × Value → H} {w : World} {base : Nat} {spare : Nat → Bool} {held : Bool} {r : Reach} {b0 : Nat} {v : Value} {d : DataW H} {p : List MemPlace}
    (hv : Value.okWide Try.prog w r b0 45 v) (h : DataW.Trod enc Try.prog w base spare held 45 v d p) :
    ∃ x : Fld, v = .agg #[.string x.name, .string x.val, .bool x.never] ∧ x.name.size ≤ maxLen ∧ x.val.size ≤ maxLen := by
  obtain ⟨cs, rfl, hsz⟩ := okWide_struct Try.underlying45 hv
  obtain ⟨lst⟩ := cs
  match lst, hsz.trans (show Try.prog.cellsOf 45 = 3 by kernel_rfl) with
  | [a0, a1, a2], _ =>
    obtain ⟨fuel, hf⟩ := h
    obtain ⟨xs, n, _, hx, _, hlen, hg⟩ := DataW.trod_struct Try.underlying45 hf
    match xs, hlen with
    | [y0, y1, y2], _ =>
      have cs1 : Try.prog.cellsOf 9 = 1 := by kernel_rfl
      have cs2 : Try.prog.cellsOf 4 = 1 := by kernel_rfl
      have g0 : DataW.trod enc Try.prog w base spare held n 9 [a0] = some y0 := by simpa [Value.cells, cs1] using hg 0 _ rfl
      have g1 : DataW.trod enc Try.prog w base spare held n 9 [a1] = some y1 := by simpa [Value.cells, cs1] using hg 1 _ rfl
      have g2 : DataW.trod enc Try.prog w base spare held n 4 [a2] = some y2 := by simpa [Value.cells, cs2] using hg 2 _ rfl
      obtain ⟨x, e0, _, h0⟩ := DataW.trod_string Try.underlying9 g0
      obtain ⟨z, e1, _, h1⟩ := DataW.trod_string Try.underlying9 g1
      obtain ⟨q, e2, _⟩ := DataW.trod_bool Try.underlying4 g2
      injection e0 with e0
      injection e1 with e1
      injection e2 with e2
      subst e0 e1 e2
      exact ⟨⟨x, z, q⟩, rfl, h0, h1⟩
end Pk
end Go.Proofs.Ytamgnbjdeoklbaa

/- Header blocks as they are sent, as mathematics: how a text is laid, a field, all fields; what is laid is read. No program but for what an entry is. -/
namespace Go.Proofs.Ytamgnbjdeoklbaa.Pk
open Go.RowKit Bytes Pf Tb Up

/-- A text, laid. -/
def layT (l : List UInt8) : List UInt8 := if (Hf.enc l).length < l.length then putL 127 128 (Hf.enc l).length ++ Hf.enc l else putL 127 0 l.length ++ l
/-- A field by texts: its index, the name if that is 0, the value. -/
def layF (f first n : Nat) (x : Fld) : List UInt8 := putL f first n ++ ((if n = 0 then layT x.name.data.toList else []) ++ layT x.val.data.toList)
/-- A field, laid by a table: the bytes, the table behind it. -/
def one (t : Tab) (x : Fld) : List UInt8 × Tab :=
  if x.never = true then (layF 15 16 (findT x.name x.val (fixedT ++ t.2)).1 x, t)
  else if (findT x.name x.val (fixedT ++ t.2)).2 = true then (putL 127 128 (findT x.name x.val (fixedT ++ t.2)).1, t)
  else if sz (x.name, x.val) ≤ t.1 then (layF 63 64 (findT x.name x.val (fixedT ++ t.2)).1 x, addT t (x.name, x.val))
  else (layF 15 0 (findT x.name x.val (fixedT ++ t.2)).1 x, t)
def all (t : Tab) : List Fld → List UInt8 × Tab
  | [] => ([], t)
  | x :: L => ((one t x).1 ++ (all (one t x).2 L).1, (all (one t x).2 L).2)
/-- An encoder: its table; the sizes since the last block. -/
abbrev Enc := Tab × List Nat
def leastS (c : Enc) : Nat := c.2.foldl min c.1.1
def lim (c : Enc) (n : Nat) : Enc := if min n 4096 = c.1.1 then c else (resT c.1 (min n 4096 : Nat), c.2 ++ [min n 4096])
def heads (c : Enc) : List UInt8 := (if leastS c < c.1.1 then putL 31 32 (leastS c) else []) ++ (if c.2 = [] then [] else putL 31 32 c.1.1)
def wrote (c : Enc) (L : List Fld) : List UInt8 := heads c ++ (all c.1 L).1
def behind (c : Enc) (L : List Fld) : Enc := ((all c.1 L).2, [])

theorem num_put {f first n : Nat} (A B : List UInt8) (k : Int) (hk : fullN k = f) (h : first < 256) (hn : n ≤ 4294967295) : num (A ++ putL f first n ++ B) A.length k = .ok (n, A.length + (putL f first n).length) := by
  have hf : isF f := by rw [← hk]; exact fullN_is k
  unfold num
  rw [hk, get_back A B hf h hn, List.length_append]
  rfl
theorem full7 : fullN 7 = 127 := by decide
theorem full6 : fullN 6 = 63 := by decide
theorem full5 : fullN 5 = 31 := by decide
theorem full4 : fullN 4 = 15 := by decide
/-- The first byte of what is put. -/
theorem head_put {f first n : Nat} (hf : isF f) (h : first < 256) (A B : List UInt8) : ∃ j, j ≤ f ∧ byteAt (A ++ putL f first n ++ B) A.length = first / (f + 1) * (f + 1) + j ∧ first / (f + 1) * (f + 1) + j < 256 := by
  have key : ∀ m, m ≤ f → ∀ r : List UInt8, byteAt (A ++ (UInt8.ofNat (first / (f + 1) * (f + 1) + m) :: r) ++ B) A.length = first / (f + 1) * (f + 1) + m ∧ first / (f + 1) * (f + 1) + m < 256 := fun m hm r => by
    have hb := (first_mod (n := m) hf h hm).2
    unfold byteAt
    rw [List.append_assoc, List.getD_eq_getElem?_getD, List.getElem?_append_right (Nat.le_refl _), Nat.sub_self]
    exact ⟨nat_of hb, hb⟩
  unfold putL
  split
  · rename_i hlt
    exact ⟨n, by omega, key n (by omega) []⟩
  · exact ⟨f, Nat.le_refl _, key f (Nat.le_refl _) _⟩
theorem size_mk (l : List UInt8) : (mk l).size = l.length := mk_size l
theorem list_mk (l : List UInt8) : (mk l).data.toList = l := mk_list l
theorem ext_mid (A X B : List UInt8) : (mk (A ++ X ++ B)).extract A.length (A.length + X.length) = mk X := by
  refine list_inj ?_
  rw [extract_list, list_mk, list_mk, ← List.length_append, List.take_left, List.drop_left]
theorem enc_nil_len (l : List UInt8) (h : l.length ≤ 1000000) : (Hf.enc l).length ≤ 4294967295 := by
  have h1 := Hf.enc_len l
  have h2 := (Hf.encB_len l).2
  omega
/-- A text that was laid is read. -/
theorem txt_lay (A B l : List UInt8) (h : l.length ≤ 1000000) : txt (mk (A ++ layT l ++ B)) A.length = .ok (mk l, A.length + (layT l).length) := by
  unfold layT
  split
  · rename_i hlt
    have hn := num_put A (Hf.enc l ++ B) 7 full7 (show 128 < 256 by decide) (enc_nil_len l h)
    obtain ⟨j, hj, hb, _⟩ := head_put (f := 127) (first := 128) (n := (Hf.enc l).length) (by unfold isF; omega) (by decide) A (Hf.enc l ++ B)
    have e : A ++ (putL 127 128 (Hf.enc l).length ++ Hf.enc l) ++ B = A ++ putL 127 128 (Hf.enc l).length ++ (Hf.enc l ++ B) := by simp [List.append_assoc]
    have ex := ext_mid (A ++ putL 127 128 (Hf.enc l).length) (Hf.enc l) B
    rw [List.length_append] at ex
    unfold txt
    rw [e, list_mk, hn]
    simp only
    rw [size_mk, if_pos (by simp only [List.length_append]; omega), if_neg (by rw [hb]; omega)]
    rw [show A ++ putL 127 128 (Hf.enc l).length ++ (Hf.enc l ++ B) = A ++ putL 127 128 (Hf.enc l).length ++ Hf.enc l ++ B by simp [List.append_assoc], ex]
    unfold unp
    rw [list_mk, Hf.decode_enc, List.length_append, Nat.add_assoc]
    rfl
  · have hn := num_put A (l ++ B) 7 full7 (show 0 < 256 by decide) (show l.length ≤ 4294967295 by omega)
    obtain ⟨j, hj, hb, _⟩ := head_put (f := 127) (first := 0) (n := l.length) (by unfold isF; omega) (by decide) A (l ++ B)
    have e : A ++ (putL 127 0 l.length ++ l) ++ B = A ++ putL 127 0 l.length ++ (l ++ B) := by simp [List.append_assoc]
    have ex := ext_mid (A ++ putL 127 0 l.length) l B
    rw [List.length_append] at ex
    unfold txt
    rw [e, list_mk, hn]
    simp only
    rw [size_mk, if_pos (by simp only [List.length_append]; omega), if_pos (by rw [hb]; omega)]
    rw [show A ++ putL 127 0 l.length ++ (l ++ B) = A ++ putL 127 0 l.length ++ l ++ B by simp [List.append_assoc], ex, List.length_append, Nat.add_assoc]
/-- What is found stands there. -/
theorem findW_at {n v : ByteArray} : ∀ {l : List Ent} {i k : Nat}, findW n v l i = some k → i < k ∧ k ≤ i + l.length ∧ entAt l (k - i - 1) = (n, v)
  | [], i, k, h => by rw [findW] at h; cases h
  | e :: l, i, k, h => by
    rw [findW] at h
    split at h
    · rename_i he
      injection h with h
      subst h
      rw [List.length_cons, show i + 1 - i - 1 = 0 by omega]
      refine ⟨by omega, by omega, ?_⟩
      show e = (n, v)
      rw [← he.1, ← he.2]
    · obtain ⟨h1, h2, h3⟩ := findW_at h
      rw [List.length_cons]
      refine ⟨by omega, by omega, ?_⟩
      rw [show k - i - 1 = k - (i + 1) - 1 + 1 by omega, entAt_cons]
      exact h3
theorem findN_at {n : ByteArray} : ∀ {l : List Ent} {i k : Nat}, findN n l i = some k → i < k ∧ k ≤ i + l.length ∧ (entAt l (k - i - 1)).1 = n
  | [], i, k, h => by rw [findN] at h; cases h
  | e :: l, i, k, h => by
    rw [findN] at h
    split at h
    · rename_i he
      injection h with h
      subst h
      rw [List.length_cons, show i + 1 - i - 1 = 0 by omega]
      exact ⟨by omega, by omega, he⟩
    · obtain ⟨h1, h2, h3⟩ := findN_at h
      rw [List.length_cons]
      refine ⟨by omega, by omega, ?_⟩
      rw [show k - i - 1 = k - (i + 1) - 1 + 1 by omega, entAt_cons]
      exact h3
theorem atR_in {l : List Ent} {k : Nat} (h1 : 1 ≤ k) (h2 : k ≤ l.length) : atR l (k : Int) = (entAt l (k - 1), true) := by
  unfold atR
  rw [if_neg (by omega), Int.toNat_natCast]
theorem find_whole {n v : ByteArray} {l : List Ent} {k : Nat} (h : findT n v l = (k, true)) : 1 ≤ k ∧ k ≤ l.length ∧ atR l (k : Int) = ((n, v), true) := by
  unfold findT at h
  split at h
  · rename_i k' hk
    injection h with h _
    subst h
    obtain ⟨h1, h2, h3⟩ := findW_at hk
    rw [Nat.zero_add] at h2
    rw [Nat.sub_zero] at h3
    exact ⟨by omega, h2, by rw [atR_in (by omega) h2, h3]⟩
  · split at h
    · injection h with _ h; cases h
    · injection h with _ h; cases h
theorem find_name {n v : ByteArray} {l : List Ent} {k : Nat} {q : Bool} (h : findT n v l = (k, q)) (hk : k ≠ 0) : 1 ≤ k ∧ k ≤ l.length ∧ ∃ y, atR l (k : Int) = ((n, y), true) := by
  unfold findT at h
  split at h
  · rename_i k' hk2
    injection h with h _
    subst h
    obtain ⟨h1, h2, h3⟩ := findW_at hk2
    rw [Nat.zero_add] at h2
    rw [Nat.sub_zero] at h3
    exact ⟨by omega, h2, v, by rw [atR_in (by omega) h2, h3]⟩
  · split at h
    · rename_i k' hk2
      injection h with h _
      subst h
      obtain ⟨h1, h2, h3⟩ := findN_at hk2
      rw [Nat.zero_add] at h2
      rw [Nat.sub_zero] at h3
      exact ⟨by omega, h2, (entAt l (k' - 1)).2, by rw [atR_in (by omega) h2, ← h3]⟩
    · injection h with h _
      omega
theorem ent_in {t : Tab} {k : Nat} {e : Ent} (h : atR (fixedT ++ t.2) (k : Int) = (e, true)) : ent t k = .ok e := by
  unfold ent
  rw [h]
  rfl
/-- A field that can be gone through. -/
def SmallF (x : Fld) : Prop := x.name.size ≤ 1000000 ∧ x.val.size ≤ 1000000
theorem table_few {t : Tab} (h : Ok4 t) : (fixedT ++ t.2).length ≤ 200 := by
  have h1 := sumL_ge t.2
  have h2 := h.1
  have h3 := h.2
  unfold OkT at h3
  rw [List.length_append, fixedT_len]
  omega
/-- A field that was laid by texts is read. -/
theorem spelt_lay {t : Tab} {x : Fld} (f first n : Nat) (b : Int) (A B : List UInt8) (hb : fullN b = f) (h1 : first < 256) (hx : SmallF x) (hn : n ≤ 4294967295) (hat : n = 0 ∨ ∃ y, atR (fixedT ++ t.2) (n : Int) = ((x.name, y), true)) :
    spelt (mk (A ++ layF f first n x ++ B)) t A.length b = .ok ((x.name, x.val), A.length + (layF f first n x).length) := by
  have hl1 : x.name.data.toList.length ≤ 1000000 := by rw [← size_list]; exact hx.1
  have hl2 : x.val.data.toList.length ≤ 1000000 := by rw [← size_list]; exact hx.2
  unfold spelt layF
  have e0 : A ++ (putL f first n ++ ((if n = 0 then layT x.name.data.toList else []) ++ layT x.val.data.toList)) ++ B = A ++ putL f first n ++ (((if n = 0 then layT x.name.data.toList else []) ++ layT x.val.data.toList) ++ B) := by simp [List.append_assoc]
  rw [list_mk, e0, num_put A _ b hb h1 hn]
  simp only
  by_cases h0 : n = 0
  · subst h0
    unfold nam
    rw [if_neg (by omega), if_pos rfl]
    have e1 : A ++ putL f first 0 ++ (layT x.name.data.toList ++ layT x.val.data.toList ++ B) = (A ++ putL f first 0) ++ layT x.name.data.toList ++ (layT x.val.data.toList ++ B) := by simp [List.append_assoc]
    have e2 : A ++ putL f first 0 ++ (layT x.name.data.toList ++ layT x.val.data.toList ++ B) = (A ++ putL f first 0 ++ layT x.name.data.toList) ++ layT x.val.data.toList ++ B := by simp [List.append_assoc]
    have t1 := txt_lay (A ++ putL f first 0) (layT x.val.data.toList ++ B) x.name.data.toList hl1
    have t2 := txt_lay (A ++ putL f first 0 ++ layT x.name.data.toList) B x.val.data.toList hl2
    rw [← e1, List.length_append] at t1
    rw [← e2, List.length_append, List.length_append] at t2
    rw [t1]
    simp only
    rw [t2, mk_data, mk_data]
    simp only [List.length_append, Nat.add_assoc]
  · obtain ⟨y, hy⟩ := hat.resolve_left h0
    unfold nam
    rw [if_pos (by omega), ent_in hy, if_neg h0, List.nil_append]
    simp only
    have e2 : A ++ putL f first n ++ (layT x.val.data.toList ++ B) = (A ++ putL f first n) ++ layT x.val.data.toList ++ B := by simp [List.append_assoc]
    have t2 := txt_lay (A ++ putL f first n) B x.val.data.toList hl2
    rw [← e2, List.length_append] at t2
    rw [t2, mk_data]
    simp only [List.length_append, Nat.add_assoc]
theorem byte_lay (f first n : Nat) (x : Fld) (A B : List UInt8) (hf : isF f) (h : first < 256) : ∃ j, j ≤ f ∧ byteAt (A ++ layF f first n x ++ B) A.length = first / (f + 1) * (f + 1) + j := by
  unfold layF
  have e0 : A ++ (putL f first n ++ ((if n = 0 then layT x.name.data.toList else []) ++ layT x.val.data.toList)) ++ B = A ++ putL f first n ++ (((if n = 0 then layT x.name.data.toList else []) ++ layT x.val.data.toList) ++ B) := by simp [List.append_assoc]
  rw [e0]
  obtain ⟨j, hj, hb, _⟩ := head_put (n := n) hf h A (((if n = 0 then layT x.name.data.toList else []) ++ layT x.val.data.toList) ++ B)
  exact ⟨j, hj, hb⟩
/-- A field that was laid is read, and the tables are one. -/
theorem one_read (t : Tab) (x : Fld) (A B : List UInt8) (hx : SmallF x) (h4 : Ok4 t) :
    fld (mk (A ++ (one t x).1 ++ B)) t A.length = .ok ((one t x).2, x, A.length + (one t x).1.length) ∧ ¬ isSize (mk (A ++ (one t x).1 ++ B)) A.length := by
  have hfew := table_few h4
  obtain ⟨⟨n, q⟩, hfind⟩ : ∃ r, findT x.name x.val (fixedT ++ t.2) = r := ⟨_, rfl⟩
  have hat : n = 0 ∨ ∃ y, atR (fixedT ++ t.2) (n : Int) = ((x.name, y), true) := by
    by_cases h0 : n = 0
    · exact .inl h0
    · exact .inr (find_name hfind h0).2.2
  have hn : n ≤ 4294967295 := by
    by_cases h0 : n = 0
    · omega
    · have := (find_name hfind h0).2.1
      omega
  unfold one
  rw [hfind]
  simp only
  by_cases hnv : x.never = true
  · rw [if_pos hnv]
    obtain ⟨j, hj, hb⟩ := byte_lay 15 16 n x A B (by unfold isF; omega) (by decide)
    have hs := spelt_lay (t := t) 15 16 n 4 A B full4 (by decide) hx hn hat
    refine ⟨?_, ?_⟩
    · unfold fld
      rw [list_mk, hb, if_neg (by omega), if_neg (by omega), hs]
      simp only
      rw [decide_eq_true (by omega), ← hnv]
    · unfold isSize
      rw [list_mk, hb]
      omega
  · rw [if_neg hnv]
    have hnf : x.never = false := by cases h : x.never with | true => exact absurd h hnv | false => rfl
    cases q with
    | true =>
      rw [if_pos rfl]
      obtain ⟨_, _, hw⟩ := find_whole hfind
      obtain ⟨j, hj, hb, _⟩ := head_put (f := 127) (first := 128) (n := n) (by unfold isF; omega) (by decide) A B
      refine ⟨?_, ?_⟩
      · unfold fld
        rw [list_mk, hb, if_pos (by omega), num_put A B 7 full7 (by decide) hn]
        simp only
        rw [ent_in hw]
        simp only
        rw [← hnf]
      · unfold isSize
        rw [list_mk, hb]
        omega
    | false =>
      rw [if_neg (by decide)]
      by_cases hsz : sz (x.name, x.val) ≤ t.1
      · rw [if_pos hsz]
        obtain ⟨j, hj, hb⟩ := byte_lay 63 64 n x A B (by unfold isF; omega) (by decide)
        have hs := spelt_lay (t := t) 63 64 n 6 A B full6 (by decide) hx hn hat
        refine ⟨?_, ?_⟩
        · unfold fld
          rw [list_mk, hb, if_neg (by omega), if_pos (by omega), hs]
          simp only
          rw [← hnf]
        · unfold isSize
          rw [list_mk, hb]
          omega
      · rw [if_neg hsz]
        obtain ⟨j, hj, hb⟩ := byte_lay 15 0 n x A B (by unfold isF; omega) (by decide)
        have hs := spelt_lay (t := t) 15 0 n 4 A B full4 (by decide) hx hn hat
        refine ⟨?_, ?_⟩
        · unfold fld
          rw [list_mk, hb, if_neg (by omega), if_neg (by omega), hs]
          simp only
          rw [decide_eq_false (by omega), ← hnf]
        · unfold isSize
          rw [list_mk, hb]
          omega
theorem one_pos (t : Tab) (x : Fld) : 1 ≤ (one t x).1.length := by
  unfold one layF
  split
  · have := putL_pos 15 16 (findT x.name x.val (fixedT ++ t.2)).1; simp only [List.length_append]; omega
  · split
    · exact putL_pos _ _ _
    · split
      · have := putL_pos 63 64 (findT x.name x.val (fixedT ++ t.2)).1; simp only [List.length_append]; omega
      · have := putL_pos 15 0 (findT x.name x.val (fixedT ++ t.2)).1; simp only [List.length_append]; omega
theorem one_ok4 {t : Tab} (x : Fld) (h : Ok4 t) : Ok4 (one t x).2 := by
  unfold one
  split
  · exact h
  · split
    · exact h
    · split
      · exact h.add _
      · exact h
theorem all_ok4 : ∀ (L : List Fld) {t : Tab}, Ok4 t → Ok4 (all t L).2
  | [], _, h => h
  | x :: L, _, h => all_ok4 L (one_ok4 x h)
/-- All fields that were laid are read. -/
theorem all_read : ∀ (L : List Fld) (t : Tab) (A B : List UInt8) (out : List Fld), (∀ x ∈ L, SmallF x) → Ok4 t → out.length + L.length ≤ 64 →
    go (mk (A ++ (all t L).1 ++ B)) t A.length out = go (mk (A ++ (all t L).1 ++ B)) (all t L).2 (A.length + (all t L).1.length) (out ++ L)
  | [], t, A, B, out, _, _, _ => by rw [List.append_nil]; rfl
  | x :: L, t, A, B, out, hs, h4, hl => by
    rw [List.length_cons] at hl
    have e : A ++ (all t (x :: L)).1 ++ B = A ++ (one t x).1 ++ ((all (one t x).2 L).1 ++ B) := by rw [all]; simp [List.append_assoc]
    have e2 : A ++ (all t (x :: L)).1 ++ B = (A ++ (one t x).1) ++ (all (one t x).2 L).1 ++ B := by rw [all]; simp [List.append_assoc]
    obtain ⟨h1, h2⟩ := one_read t x A ((all (one t x).2 L).1 ++ B) (hs x (List.mem_cons_self)) h4
    rw [← e] at h1 h2
    have hp := one_pos t x
    have hlt : A.length < (mk (A ++ (all t (x :: L)).1 ++ B)).size := by rw [size_mk, e]; simp only [List.length_append]; omega
    rw [go_fld hlt h2 (by omega) h1]
    have ih := all_read L (one t x).2 (A ++ (one t x).1) B (out ++ [x]) (fun y hy => hs y (List.mem_cons_of_mem _ hy)) (one_ok4 x h4) (by rw [List.length_append, List.length_singleton]; omega)
    rw [← e2, List.length_append] at ih
    rw [ih]
    have e3 : out ++ [x] ++ L = out ++ x :: L := by simp
    rw [e3]
    have e4 : (all t (x :: L)).2 = (all (one t x).2 L).2 := by rw [all]
    have e5 : A.length + (all t (x :: L)).1.length = A.length + (one t x).1.length + (all (one t x).2 L).1.length := by rw [all]; simp only [List.length_append, Nat.add_assoc]
    rw [e4, e5]
end Go.Proofs.Ytamgnbjdeoklbaa.Pk

/- Header blocks as they are sent, as mathematics: sizes that stand ahead; a decoder that reads all blocks tells their fields, and has the encoder's table. No program. -/
namespace Go.Proofs.Ytamgnbjdeoklbaa.Pk
open Go.RowKit Bytes Pf Tb Up

theorem fold_min (S : List Nat) : ∀ x y : Nat, S.foldl min (min x y) = min x (S.foldl min y) := by
  induction S with
  | nil => intro x y; rfl
  | cons a S ih =>
    intro x y
    rw [List.foldl_cons, List.foldl_cons, show min (min x y) a = min x (min y a) by omega, ih]
theorem fold_le (S : List Nat) (x : Nat) : S.foldl min x ≤ x := by
  have := fold_min S x x
  rw [Nat.min_self] at this
  omega
/-- The sizes, told one behind the other. -/
def resAll (t : Tab) (S : List Nat) : Tab := S.foldl (fun (t : Tab) (n : Nat) => resT t (n : Int)) t
theorem resT_fst (t : Tab) (n : Nat) : (resT t (n : Int)).1 = n := by unfold resT; simp only [Int.toNat_natCast]
theorem resT_snd (t : Tab) (n : Nat) : (resT t (n : Int)).2 = leastL t.2 n := by unfold resT; simp only [Int.toNat_natCast]
theorem least_min {t : Tab} (h : OkT t) (a : Nat) : leastL t.2 (min t.1 a) = leastL t.2 a := by
  unfold OkT at h
  by_cases ha : a ≤ t.1
  · rw [Nat.min_eq_right ha]
  · rw [Nat.min_eq_left (by omega), leastL_fits _ _ h, leastL_fits _ _ (by omega)]
theorem resAll_ok : ∀ (S : List Nat) {t : Tab}, OkT t → OkT (resAll t S)
  | [], _, h => h
  | a :: S, t, _ => resAll_ok S (t := resT t (a : Int)) (resT_ok t a)
/-- What they leave is what the least of them leaves. -/
theorem resAll_snd : ∀ (S : List Nat) {t : Tab}, OkT t → (resAll t S).2 = leastL t.2 (S.foldl min t.1)
  | [], t, h => (leastL_fits _ _ h).symm
  | a :: S, t, h => by
    have ih := resAll_snd S (t := resT t (a : Int)) (resT_ok t a)
    show (resAll (resT t (a : Int)) S).2 = _
    rw [ih, resT_snd, resT_fst, leastL_twice _ _ _ (fold_le S a), List.foldl_cons, fold_min, least_min h]
theorem resAll_last (t : Tab) (S : List Nat) (a : Nat) : resAll t (S ++ [a]) = resT (resAll t S) (a : Int) := by unfold resAll; rw [List.foldl_append]; rfl
/-- The encoder's table is the decoder's, behind the sizes that weren't told yet. -/
structure Rel (td : Tab) (c : Enc) : Prop where
  ok4 : Ok4 td
  tab : c.1 = resAll td c.2
  few : ∀ n ∈ c.2, n ≤ 4096
theorem Rel.new : Rel (newT 4096) (newT 4096, []) := ⟨ok4_new, rfl, fun n h => by cases h⟩
theorem Rel.enc4 {td : Tab} {c : Enc} (h : Rel td c) : Ok4 c.1 := by
  refine ⟨?_, by rw [h.tab]; exact resAll_ok _ h.ok4.2⟩
  rw [h.tab]
  rcases List.eq_nil_or_concat c.2 with e | ⟨S, a, e⟩
  · rw [e]; exact h.ok4.1
  · rw [List.concat_eq_append] at e
    rw [e, resAll_last, resT_fst]
    exact h.few a (by rw [e]; simp)
theorem Rel.lim {td : Tab} {c : Enc} (h : Rel td c) (n : Nat) : Rel td (lim c n) := by
  unfold Pk.lim
  split
  · exact h
  · refine ⟨h.ok4, ?_, fun k hk => ?_⟩
    · show resT c.1 ((min n 4096 : Nat) : Int) = _
      rw [resAll_last, ← h.tab]
    · rcases List.mem_append.1 hk with hk | hk
      · exact h.few k hk
      · rw [List.mem_singleton] at hk
        omega
/-- A size that was put is read. -/
theorem size_read (A B : List UInt8) (n : Nat) (t : Tab) (hn : n ≤ 4096) : siz (mk (A ++ putL 31 32 n ++ B)) t A.length 0 = .ok (resT t (n : Int), A.length + (putL 31 32 n).length) ∧ isSize (mk (A ++ putL 31 32 n ++ B)) A.length := by
  obtain ⟨j, hj, hb, _⟩ := head_put (f := 31) (first := 32) (n := n) (by unfold isF; omega) (by decide) A B
  refine ⟨?_, ?_⟩
  · unfold siz
    rw [list_mk, num_put A B 5 full5 (by decide) (by omega)]
    simp only
    rw [if_neg (by omega)]
  · unfold isSize
    rw [list_mk, hb]
    omega
theorem go_size (A B : List UInt8) (n : Nat) (t : Tab) (hn : n ≤ 4096) : go (mk (A ++ putL 31 32 n ++ B)) t A.length [] = go (mk (A ++ putL 31 32 n ++ B)) (resT t (n : Int)) (A ++ putL 31 32 n).length [] := by
  obtain ⟨h1, h2⟩ := size_read A B n t hn
  have hp := putL_pos 31 32 n
  rw [go_siz (by rw [size_mk]; simp only [List.length_append]; omega) h2 h1, List.length_append]
/-- What stands ahead of the fields brings the decoder's table to the encoder's. -/
theorem heads_read {td : Tab} {c : Enc} (h : Rel td c) (B : List UInt8) : go (mk (heads c ++ B)) td 0 [] = go (mk (heads c ++ B)) c.1 (heads c).length [] := by
  rcases List.eq_nil_or_concat c.2 with e | ⟨S, a, e⟩
  · have ht : c.1 = td := by rw [h.tab, e]; rfl
    have hl : heads c = [] := by
      unfold heads leastS
      rw [e, if_neg (by show ¬ c.1.1 < c.1.1; omega), if_pos rfl]
      rfl
    rw [hl, ht]
    rfl
  · rw [List.concat_eq_append] at e
    have hne : ¬ c.2 = [] := by rw [e]; simp
    have ha : a ≤ 4096 := h.few a (by rw [e]; simp)
    have h1 : c.1.1 = a := by rw [h.tab, e, resAll_last, resT_fst]
    have hls : leastS c = S.foldl min a := by
      unfold leastS
      rw [e, h1, List.foldl_append]
      have := fold_le S a
      show min (S.foldl min a) a = _
      omega
    have h2 : c.1.2 = leastL td.2 (S.foldl min a) := by
      rw [h.tab, e, resAll_snd _ h.ok4.2, List.foldl_append]
      show leastL td.2 (min (S.foldl min td.1) a) = _
      rw [Nat.min_comm, ← fold_min, Nat.min_comm, fold_min, least_min h.ok4.2]
    have hsum := leastL_sum td.2 (S.foldl min a)
    have hle := fold_le S a
    unfold heads
    rw [hls, h1, if_neg hne]
    by_cases hlt : S.foldl min a < a
    · rw [if_pos hlt]
      have g1 := go_size [] (putL 31 32 a ++ B) (S.foldl min a) td (by omega)
      have g2 := go_size (putL 31 32 (S.foldl min a)) B a (resT td ((S.foldl min a : Nat) : Int)) ha
      rw [List.nil_append] at g1
      have e1 : putL 31 32 (S.foldl min a) ++ (putL 31 32 a ++ B) = putL 31 32 (S.foldl min a) ++ putL 31 32 a ++ B := by simp [List.append_assoc]
      rw [e1] at g1
      have g1' : go (mk (putL 31 32 (S.foldl min a) ++ putL 31 32 a ++ B)) td 0 [] = go (mk (putL 31 32 (S.foldl min a) ++ putL 31 32 a ++ B)) (resT td ((S.foldl min a : Nat) : Int)) (putL 31 32 (S.foldl min a)).length [] := g1
      rw [g1', g2]
      have ht : resT (resT td ((S.foldl min a : Nat) : Int)) (a : Int) = c.1 := by
        refine Prod.ext ?_ ?_
        · rw [resT_fst, h1]
        · rw [resT_snd, resT_snd, h2, leastL_fits _ _ (by omega)]
      rw [ht]
    · rw [if_neg hlt, List.nil_append]
      have g1 := go_size [] B a td ha
      have g1' : go (mk (putL 31 32 a ++ B)) td 0 [] = go (mk (putL 31 32 a ++ B)) (resT td (a : Int)) (putL 31 32 a).length [] := g1
      rw [g1']
      have ht : resT td (a : Int) = c.1 := by
        refine Prod.ext ?_ ?_
        · rw [resT_fst, h1]
        · rw [resT_snd, h2]
          congr 1
          omega
      rw [ht]
/-- A block that was written is read: its fields, and the tables are one. -/
theorem wrote_read {td : Tab} {c : Enc} (h : Rel td c) (L : List Fld) (hs : ∀ x ∈ L, SmallF x) (hl : L.length ≤ 64) : Up.read (td, false) (mk (wrote c L)) = (((behind c L).1, false), L, 0) := by
  have g1 := heads_read h (all c.1 L).1
  have g2 := all_read L c.1 (heads c) [] [] hs h.enc4 (by simpa using hl)
  rw [List.append_nil, List.nil_append] at g2
  have g3 : go (mk (heads c ++ (all c.1 L).1)) (all c.1 L).2 ((heads c).length + (all c.1 L).1.length) L = ((all c.1 L).2, .ok L) := go_end (by rw [size_mk, List.length_append]; exact Nat.le_refl _)
  unfold Up.read
  rw [if_neg Bool.false_ne_true]
  unfold wrote behind
  rw [g1, g2, g3]
theorem Rel.behind {td : Tab} {c : Enc} (h : Rel td c) (L : List Fld) : Rel (behind c L).1 (behind c L) := ⟨all_ok4 L h.enc4, rfl, fun n hn => by cases hn⟩
end Go.Proofs.Ytamgnbjdeoklbaa.Pk

/- Header blocks as they are sent: how long what is laid may be. No program. -/
namespace Go.Proofs.Ytamgnbjdeoklbaa
open Go Go.RowKit Bytes Pf Tb Up Pk

namespace Pk
/-- The bytes of fields' names and values. -/
def sumZ : List Fld → Nat
  | [] => 0
  | x :: L => x.name.size + x.val.size + sumZ L
theorem sumZ_cat (A B : List Fld) : sumZ (A ++ B) = sumZ A + sumZ B := by
  induction A with
  | nil => exact (Nat.zero_add _).symm
  | cons x A ih => rw [List.cons_append, sumZ, sumZ, ih]; omega
theorem sumZ_mem {L : List Fld} {x : Fld} (h : x ∈ L) : x.name.size + x.val.size ≤ sumZ L := by
  obtain ⟨a, b, e⟩ := List.append_of_mem h
  rw [e, sumZ_cat, sumZ]
  omega
end Pk
theorem layT_len (l : List UInt8) (h : l.length ≤ 900000) : (Pk.layT l).length ≤ l.length + 11 := by
  unfold Pk.layT
  split
  · have := putL_few 127 128 (Hf.enc l).length (by omega)
    rw [List.length_append]; omega
  · have := putL_few 127 0 l.length (by omega)
    rw [List.length_append]; omega
theorem layF_len (f c n : Nat) (x : Fld) (hn : n ≤ 4294967295) (h1 : x.name.size ≤ 900000) (h2 : x.val.size ≤ 900000) : (layF f c n x).length ≤ 33 + x.name.size + x.val.size := by
  have a := putL_few f c n (by omega)
  have b := layT_len x.name.data.toList (by rw [← size_list]; exact h1)
  have d := layT_len x.val.data.toList (by rw [← size_list]; exact h2)
  rw [← size_list] at b d
  unfold layF
  rw [List.length_append, List.length_append]
  split
  · omega
  · rw [List.length_nil]; omega
theorem one_len {t : Tab} (x : Fld) (h4 : Up.Ok4 t) (h1 : x.name.size ≤ 900000) (h2 : x.val.size ≤ 900000) : (one t x).1.length ≤ 33 + x.name.size + x.val.size := by
  have hfew := table_few h4
  obtain ⟨⟨n, q⟩, hf⟩ : ∃ r, findT x.name x.val (fixedT ++ t.2) = r := ⟨_, rfl⟩
  have hn : n ≤ 4294967295 := by
    by_cases h0 : n = 0
    · omega
    · have := (find_name hf h0).2.1
      omega
  unfold one
  rw [hf]
  simp only
  split
  · exact layF_len _ _ _ _ hn h1 h2
  · split
    · have := putL_few 127 128 n (by omega)
      show (putL 127 128 n).length ≤ _
      omega
    · split
      · exact layF_len _ _ _ _ hn h1 h2
      · exact layF_len _ _ _ _ hn h1 h2
theorem all_len : ∀ (L : List Fld) (t : Tab), Up.Ok4 t → (∀ x ∈ L, x.name.size ≤ 900000 ∧ x.val.size ≤ 900000) → (all t L).1.length ≤ 33 * L.length + sumZ L
  | [], _, _, _ => Nat.zero_le _
  | x :: L, t, h4, h => by
    have hx := h x List.mem_cons_self
    have a := one_len x h4 hx.1 hx.2
    have b := all_len L (one t x).2 (one_ok4 x h4) (fun y hy => h y (List.mem_cons_of_mem _ hy))
    rw [all, sumZ, List.length_cons]
    show ((one t x).1 ++ (all (one t x).2 L).1).length ≤ _
    rw [List.length_append]
    omega
theorem small_few {L : List Fld} (h : L.length + sumZ L < 3000) : ∀ x ∈ L, x.name.size ≤ 3000 ∧ x.val.size ≤ 3000 := fun x hx => by
  have := sumZ_mem hx
  omega
theorem wrote_len {c : Enc} {L : List Fld} (h4 : Up.Ok4 c.1) (h : L.length + sumZ L < 3000) : (wrote c L).length ≤ 110000 := by
  have a := all_len L c.1 h4 (fun x hx => by have := small_few h x hx; omega)
  have hM := h4.1
  have b : (heads c).length ≤ 22 := by
    have h1 := putL_few 31 32 c.1.1 (by omega)
    have hl : leastS c ≤ c.1.1 := fold_le _ _
    have h2 := putL_few 31 32 (leastS c) (by omega)
    unfold heads
    rw [List.length_append]
    split <;> split <;> (try simp only [List.length_nil]) <;> omega
  unfold wrote
  rw [List.length_append]
  omega
end Go.Proofs.Ytamgnbjdeoklbaa

/- The law's FewFields and few: fields that are few and short. For any fields that came in. -/
namespace Go.Proofs.Ytamgnbjdeoklbaa
open Go Go.RowKit Bytes Up Pk

namespace Pk
theorem take_fld {L : List Fld} {k : Nat} (h : k < L.length) : L.take (k + 1) = L.take k ++ [fldAt L k] := by
  rw [List.take_succ_eq_append_getElem h]
  unfold fldAt
  rw [List.getD_eq_getElem?_getD, List.getElem?_eq_getElem h]
  rfl
theorem below_drewN {B : Nat} {a w : World} (h : Below B a w) (n : Nat) : Below B a (w.drewN n) := ⟨h.os, h.tape, h.output, h.size, h.block⟩
end Pk
set_option maxHeartbeats 4000000 in
set_option maxRecDepth 100000 in
theorem fewF_is (a : Option Addr) (c n : Nat) (L : List Fld) (w : World) (h : Hid (RdF w w.heap.size a L)) (hL : Hid (L.length = n)) (hn : n ≤ maxLen) :
    Calls Try.prog 20 #[.slice a n c] w fun e w' => (e = .returned (.bool true) ∧ Below w.heap.size w w' ∧ Hid (L.length + sumZ L < 3000)) ∨ (e = .returned (.bool false) ∧ Below w.heap.size w w') := by
  unfold maxLen at hn
  by_cases hbig : 3000 < n
  · have hbi : (3000 : Int) < (n : Int) := by omega
    have hni : (0 : Int) < (n : Int) := by omega
    clear hbig
    go_enter Try.func20, Try.ntmps20
    go_wp2_with fail
    go_loopw [3, 4] (fun x i wr => wr = w ∧ x = .int .i64 3000 ∧ i = .int .i64 0) (fun _ _ _ => 0)
    case atStart => exact ⟨rfl, rfl, rfl⟩
    case round =>
      obtain ⟨rfl, rfl, rfl⟩ := hrel
      go_wp2_with fail
      go_ret
      first | exact .inr ⟨rfl, Below.refl _ _⟩ | exact ⟨rfl, Below.refl _ _⟩ | exact Below.refl _ _
  have hle : ¬ (3000 : Int) < (n : Int) := by omega
  have HB0 := Lib.hid (Below.refl w.heap.size w)
  have HA0 := Lib.hid (show n < 3000 → n = n + sumZ (L.take 0) from fun _ => rfl)
  go_enter Try.func20, Try.ntmps20
  go_wp2_with fail
  go_loopw [3, 4] (fun x i wr => ∃ (k s : Nat), k ≤ n ∧ x = .int .i64 (s : Int) ∧ i = .int .i64 (k : Int) ∧ s ≤ 9000 ∧ Hid (Below w.heap.size w wr) ∧ Hid (s < 3000 → s = n + sumZ (L.take k))) (fun _ i _ => n - (intOf i).toNat)
  case atStart => exact ⟨0, n, Nat.zero_le _, rfl, rfl, by omega, HB0, HA0⟩
  case round =>
    obtain ⟨k, s, hk, rfl, rfl, hs9, HB, HA⟩ := hrel
    by_cases hlt : k < n
    · have hli : (k : Int) < (n : Int) := by omega
      by_cases hs3 : s < 3000
      · have hsi : (s : Int) < 3000 := by omega
        have hkl : k < L.length := by rw [hL.out]; exact hlt
        obtain ⟨b, off, rfl, hb, x0, x1, x2, hm1, hm2⟩ := (h.out.on HB.out (Nat.le_refl _)) k hkl
        have ht := take_fld hkl
        have hA1 := HA.out hs3
        obtain ⟨x, hx⟩ : ∃ x, fldAt L k = x := ⟨_, rfl⟩
        rw [hx] at x0 x1 x2 ht hm1 hm2
        have e3 : IntKind.i64.wrap ((k : Int) + 1) = ((k + 1 : Nat) : Int) := by rw [IntKind.wrap_i64]; omega
        have hk0 : (0 : Int) ≤ (k : Int) := by omega
        obtain ⟨y, hy⟩ : ∃ y, min x.name.size 3000 = y := ⟨_, rfl⟩
        obtain ⟨z, hz⟩ : ∃ z, min x.val.size 3000 = z := ⟨_, rfl⟩
        obtain ⟨p, hp⟩ : ∃ p, s + y = p := ⟨_, rfl⟩
        obtain ⟨t, htt⟩ : ∃ t, p + z = t := ⟨_, rfl⟩
        have HN := Lib.hid (show t < 3000 → t = n + sumZ (L.take (k + 1)) from fun h3 => by
          rw [ht, sumZ_cat, sumZ, sumZ]
          omega)
        have hyb : t ≤ 9000 := by omega
        clear ht hx hkl hA1
        go_wp2_with fail
        by_cases hx3 : (3000 : Int) < (x.name.size : Int)
        · by_cases hz3 : (3000 : Int) < (x.val.size : Int)
          · have e1 : IntKind.i64.wrap ((s : Int) + 3000) = (p : Int) := by rw [IntKind.wrap_i64]; omega
            have e2 : IntKind.i64.wrap ((p : Int) + 3000) = (t : Int) := by rw [IntKind.wrap_i64]; omega
            clear hp htt hy hz hm1 hm2
            go_quiet (fail)
            go_wp2_with fail
            go_roundw
            case rel => exact ⟨k + 1, t, by omega, rfl, rfl, hyb, Lib.hid (by first | exact HB.out | exact HB.out.drew | exact below_drewN HB.out _), HN⟩
            case measure => simp [intOf] <;> omega
          · have e1 : IntKind.i64.wrap ((s : Int) + 3000) = (p : Int) := by rw [IntKind.wrap_i64]; omega
            have e2 : IntKind.i64.wrap ((p : Int) + (x.val.size : Int)) = (t : Int) := by rw [IntKind.wrap_i64]; omega
            clear hp htt hy hz hm1 hm2
            go_quiet (fail)
            go_wp2_with fail
            go_roundw
            case rel => exact ⟨k + 1, t, by omega, rfl, rfl, hyb, Lib.hid (by first | exact HB.out | exact HB.out.drew | exact below_drewN HB.out _), HN⟩
            case measure => simp [intOf] <;> omega
        · by_cases hz3 : (3000 : Int) < (x.val.size : Int)
          · have e1 : IntKind.i64.wrap ((s : Int) + (x.name.size : Int)) = (p : Int) := by rw [IntKind.wrap_i64]; omega
            have e2 : IntKind.i64.wrap ((p : Int) + 3000) = (t : Int) := by rw [IntKind.wrap_i64]; omega
            clear hp htt hy hz hm1 hm2
            go_quiet (fail)
            go_wp2_with fail
            go_roundw
            case rel => exact ⟨k + 1, t, by omega, rfl, rfl, hyb, Lib.hid (by first | exact HB.out | exact HB.out.drew | exact below_drewN HB.out _), HN⟩
            case measure => simp [intOf] <;> omega
          · have e1 : IntKind.i64.wrap ((s : Int) + (x.name.size : Int)) = (p : Int) := by rw [IntKind.wrap_i64]; omega
            have e2 : IntKind.i64.wrap ((p : Int) + (x.val.size : Int)) = (t : Int) := by rw [IntKind.wrap_i64]; omega
            clear hp htt hy hz hm1 hm2
            go_quiet (fail)
            go_wp2_with fail
            go_roundw
            case rel => exact ⟨k + 1, t, by omega, rfl, rfl, hyb, Lib.hid (by first | exact HB.out | exact HB.out.drew | exact below_drewN HB.out _), HN⟩
            case measure => simp [intOf] <;> omega
      · have hsi : ¬ (s : Int) < 3000 := by omega
        go_wp2_with fail
        go_ret
        first | exact .inr ⟨rfl, HB.out⟩ | exact ⟨rfl, HB.out⟩ | exact HB.out
    · have hli : ¬ (k : Int) < (n : Int) := by omega
      have hkn : k = n := by omega
      by_cases hs3 : s < 3000
      · have hsi : (s : Int) < 3000 := by omega
        have hA1 := HA.out hs3
        rw [hkn, ← hL.out, List.take_length, hL.out] at hA1
        have HA1 := Lib.hid (show L.length + sumZ L < 3000 by rw [hL.out]; omega)
        clear hA1
        go_wp2_with fail
        go_ret
        first | exact .inl ⟨rfl, HB.out, HA1⟩ | exact .inl ⟨rfl, HB.out⟩ | exact ⟨rfl, HB.out, HA1⟩ | exact ⟨HB.out, HA1⟩
      · have hsi : ¬ (s : Int) < 3000 := by omega
        go_wp2_with fail
        go_ret
        first | exact .inr ⟨rfl, HB.out⟩ | exact ⟨rfl, HB.out⟩ | exact HB.out
end Go.Proofs.Ytamgnbjdeoklbaa

/- Acts that came in: sizes, and slices of fields; the law's few. No condition. -/
namespace Go.Proofs.Ytamgnbjdeoklbaa
open Go.ChangeShapes Go.WideShapes Go.Deep Go.RowKit Tb Up Pk

namespace Pk
/-- An act: whether it is a size; the size; the fields, and their slice. -/
structure ActP where
  lim : Bool
  n : Nat
  fs : List Fld
  A : Option Addr
  c : Nat
def actP (L : List ActP) (k : Nat) : ActP := L.getD k ⟨false, 0, [], none, 0⟩
theorem actP_mem {L : List ActP} {k : Nat} (h : k < L.length) : actP L k ∈ L := by
  unfold actP
  rw [List.getD_eq_getElem?_getD, List.getElem?_eq_getElem h]
  exact List.getElem_mem h
theorem actP_drop {L : List ActP} {k : Nat} (h : k < L.length) : L.drop k = actP L k :: L.drop (k + 1) := by
  unfold actP
  rw [List.drop_eq_getElem_cons h, List.getD_eq_getElem?_getD, List.getElem?_eq_getElem h]
  rfl
/-- A slice of acts, below a block. -/
def RdA (w : World) (B : Nat) (a : Option Addr) (L : List ActP) : Prop :=
  ∀ k, k < L.length → ∃ (b off : Nat), a = some ⟨b, off, none⟩ ∧ b < B ∧ w.cell? ⟨b, off + k * 3, none⟩ = some (.bool (actP L k).lim) ∧ w.cell? ⟨b, off + k * 3 + 1, none⟩ = some (.int .u32 ((actP L k).n : Int)) ∧ w.cell? ⟨b, off + k * 3 + 2, none⟩ = some (.slice (actP L k).A (actP L k).fs.length (actP L k).c) ∧
    (actP L k).n < 4294967296 ∧ (actP L k).fs.length ≤ maxLen ∧ RdF w B (actP L k).A (actP L k).fs
theorem RdA.on {w w' : World} {B B' : Nat} {a : Option Addr} {L : List ActP} (h : RdA w B a L) (hb : Below B w w') (hB : B ≤ B') : RdA w' B' a L := fun k hk => by
  obtain ⟨b, off, e, hlt, c0, c1, c2, r1, r2, r3⟩ := h k hk
  exact ⟨b, off, e, by omega, (hb.cell (p := ⟨b, off + k * 3, none⟩) hlt).trans c0, (hb.cell (p := ⟨b, off + k * 3 + 1, none⟩) hlt).trans c1, (hb.cell (p := ⟨b, off + k * 3 + 2, none⟩) hlt).trans c2, r1, r2, r3.on hb hB⟩
theorem rda_of_trod {H : Type} {enc : TypeId × Value → H} {w : World} {base : Nat} {spare : Nat → Bool} {held : Bool} {fuel : Nat} {a : Option Addr} {len cap : Nat} {x : DataW H × List MemPlace}
    (h : DataW.trod enc Try.prog w base spare held fuel 22 [.slice a len cap] = some x) : len ≤ maxLen ∧ ∃ L : List ActP, L.length = len ∧ RdA w w.heap.size a L := by
  rcases open_slice_flds Try.underlying22 Try.underlying32 (by kernel_rfl) (by kernel_rfl) h with hcs | ⟨ad, l, c, m, hcs, hm, hmx, hf⟩
  · simp at hcs
    obtain ⟨rfl, rfl, rfl⟩ := hcs
    exact ⟨Nat.zero_le _, [], rfl, fun k hk => absurd hk (Nat.not_lt_zero k)⟩
  · simp at hcs
    obtain ⟨rfl, rfl, rfl⟩ := hcs
    refine ⟨hmx, ?_⟩
    have one : ∀ j, j < len → ∃ (e : ActP) (b off : Nat), ad = ⟨b, off, none⟩ ∧ b < w.heap.size ∧ w.cell? ⟨b, off + j * 3, none⟩ = some (.bool e.lim) ∧ w.cell? ⟨b, off + j * 3 + 1, none⟩ = some (.int .u32 (e.n : Int)) ∧ w.cell? ⟨b, off + j * 3 + 2, none⟩ = some (.slice e.A e.fs.length e.c) ∧ e.n < 4294967296 ∧ e.fs.length ≤ maxLen ∧ RdF w w.heap.size e.A e.fs := fun j hj => by
      obtain ⟨n, hfj⟩ := hf j (by omega)
      obtain ⟨v0, y0, hc0, ht0⟩ := hfj 0 _ rfl
      obtain ⟨v1, y1, hc1, ht1⟩ := hfj 1 _ rfl
      obtain ⟨v2, y2, hc2, ht2⟩ := hfj 2 _ rfl
      obtain ⟨b0, hb0, _⟩ := DataW.trod_bool Try.underlying4 ht0
      obtain ⟨nn, hn, _, hwf⟩ := DataW.trod_int Try.underlying29 ht1
      have hsl : ∃ A n c, v2 = .slice A n c := by
        rcases open_slice_flds Try.underlying30 Try.underlying45 (by kernel_rfl) (by kernel_rfl) ht2 with hcs | ⟨ad, l, c, m, hcs, _⟩
        · simp at hcs
          exact ⟨_, _, _, hcs⟩
        · simp at hcs
          exact ⟨_, _, _, hcs⟩
      obtain ⟨A2, n2, c2, rfl⟩ := hsl
      obtain ⟨hl2, fs, hfs, hrd⟩ := rdf_of_trod ht2
      simp at hb0 hn
      subst hb0 hn
      obtain ⟨b, off, spot⟩ := ad
      obtain ⟨n', hf0⟩ := hf 0 (by omega)
      obtain ⟨u0, z0, hu0, _⟩ := hf0 0 _ rfl
      have hspot : spot = none := by simpa [Addr.add] using World.cell?_spot hu0
      clear hu0
      subst hspot
      rw [add_plain] at hc0 hc1 hc2
      have hbd := bounds_u32 hwf
      subst hfs
      refine ⟨⟨b0, nn.toNat, fs, A2, c2⟩, b, off, rfl, World.block_lt_of_cell? _ _ hc0, ?_, ?_, ?_, ?_, hl2, hrd⟩
      · simpa using hc0
      · rw [Int.toNat_of_nonneg hbd.1]
        simpa [Nat.add_assoc] using hc1
      · simpa [Nat.add_assoc] using hc2
      · show nn.toNat < 4294967296
        omega
    obtain ⟨f, hf2⟩ : ∃ f : Nat → ActP, ∀ j, j < len → ∃ (b off : Nat), ad = ⟨b, off, none⟩ ∧ b < w.heap.size ∧ w.cell? ⟨b, off + j * 3, none⟩ = some (.bool (f j).lim) ∧ w.cell? ⟨b, off + j * 3 + 1, none⟩ = some (.int .u32 ((f j).n : Int)) ∧ w.cell? ⟨b, off + j * 3 + 2, none⟩ = some (.slice (f j).A (f j).fs.length (f j).c) ∧ (f j).n < 4294967296 ∧ (f j).fs.length ≤ maxLen ∧ RdF w w.heap.size (f j).A (f j).fs := by
      classical
      exact ⟨fun j => if h : j < len then (one j h).choose else ⟨false, 0, [], none, 0⟩, fun j hj => by simp only [hj, dif_pos]; exact (one j hj).choose_spec⟩
    refine ⟨(List.range len).map f, by rw [List.length_map, List.length_range], fun k hk => ?_⟩
    rw [List.length_map, List.length_range] at hk
    have e : actP ((List.range len).map f) k = f k := by
      unfold actP
      rw [List.getD_eq_getElem?_getD, List.getElem?_map, List.getElem?_range hk]
      rfl
    rw [e]
    obtain ⟨b, off, h0, r⟩ := hf2 k hk
    exact ⟨b, off, by rw [h0], r⟩
/-- Acts that can be gone through. -/
def FewA (L : List ActP) : Prop := L.length ≤ 30 ∧ ∀ x ∈ L, x.fs.length + sumZ x.fs < 3000
end Pk
set_option maxHeartbeats 4000000 in
set_option maxRecDepth 100000 in
theorem fewA_is (a : Option Addr) (c n : Nat) (L : List ActP) (w : World) (h : Hid (RdA w w.heap.size a L)) (hL : Hid (L.length = n)) (hn : n ≤ maxLen) :
    Calls Try.prog 7 #[.slice a n c] w fun e w' => (e = .returned (.bool true) ∧ Below w.heap.size w w' ∧ Hid (FewA L)) ∨ (e = .returned (.bool false) ∧ Below w.heap.size w w') := by
  unfold maxLen at hn
  have HB0 := Lib.hid (Below.refl w.heap.size w)
  have HA0 := Lib.hid (show ∀ j, j < 0 → (actP L j).fs.length + sumZ (actP L j).fs < 3000 from fun j hj => absurd hj (Nat.not_lt_zero j))
  go_enter Try.func7, Try.ntmps7
  go_wp2_with fail
  go_loopw [3] (fun i wr => ∃ k : Nat, k ≤ n ∧ k ≤ 31 ∧ i = .int .i64 (k : Int) ∧ Hid (Below w.heap.size w wr) ∧ Hid (∀ j, j < k → (actP L j).fs.length + sumZ (actP L j).fs < 3000)) (fun i _ => n - (intOf i).toNat)
  case atStart => exact ⟨0, Nat.zero_le _, Nat.zero_le _, rfl, HB0, HA0⟩
  case round =>
    obtain ⟨k, hk, hk31, rfl, HB, HA⟩ := hrel
    by_cases hlt : k < n
    · have hli : (k : Int) < (n : Int) := by omega
      by_cases h30 : k ≤ 30
      · have h3i : (k : Int) ≤ 30 := by omega
        obtain ⟨b, off, rfl, hb, x0, x1, x2, hn4, hm, hrd⟩ := (h.out.on HB.out (Nat.le_refl _)) k (by rw [hL.out]; exact hlt)
        have hbx := HB.out.size
        have HF := Lib.hid (hrd.on (Below.refl _ wr) hbx)
        have e3 : IntKind.i64.wrap ((k : Int) + 1) = ((k + 1 : Nat) : Int) := by rw [IntKind.wrap_i64]; omega
        have hk0 : (0 : Int) ≤ (k : Int) := by omega
        clear hrd
        go_wp2_with fail
        refine (fewF_is (actP L k).A (actP L k).c (actP L k).fs.length (actP L k).fs wr HF (Lib.hid rfl) hm).mono ?_
        rintro e w2 (⟨rfl, hB2, hf⟩ | ⟨rfl, hB2⟩)
        · have HB2 := Lib.hid (HB.out.trans (hB2.mono hbx))
          have HA2 := Lib.hid (show ∀ j, j < k + 1 → (actP L j).fs.length + sumZ (actP L j).fs < 3000 from fun j hj => by
            by_cases hjk : j < k
            · exact HA.out j hjk
            · have : j = k := by omega
              subst this
              exact hf.out)
          go_wp2_with fail
          go_roundw
          case rel => exact ⟨k + 1, by omega, by omega, rfl, HB2, HA2⟩
          case measure => simp [intOf] <;> omega
        · have HB2 := Lib.hid (HB.out.trans (hB2.mono hbx))
          go_wp2_with fail
          go_ret
          first | exact .inr ⟨rfl, HB2.out⟩ | exact ⟨rfl, HB2.out⟩ | exact HB2.out
      · have h3i : ¬ (k : Int) ≤ 30 := by omega
        have hn30 : ¬ (n : Int) ≤ 30 := by omega
        go_wp2_with fail
        go_ret
        first | exact .inr ⟨rfl, HB.out⟩ | exact ⟨rfl, HB.out⟩ | exact HB.out
    · have hli : ¬ (k : Int) < (n : Int) := by omega
      have hkn : k = n := by omega
      by_cases hn3 : n ≤ 30
      · have hn30 : (n : Int) ≤ 30 := by omega
        have HF := Lib.hid (show FewA L from ⟨by rw [hL.out]; exact hn3, fun x hx => by
          obtain ⟨j, hj, rfl⟩ := List.getElem_of_mem hx
          have := HA.out j (by rw [hkn, ← hL.out]; exact hj)
          have e : actP L j = L[j] := by
            unfold actP
            rw [List.getD_eq_getElem?_getD, List.getElem?_eq_getElem hj]
            rfl
          rwa [e] at this⟩)
        go_wp2_with fail
        go_ret
        first | exact .inl ⟨rfl, HB.out, HF⟩ | exact .inl ⟨rfl, HB.out⟩ | exact ⟨rfl, HB.out, HF⟩ | exact ⟨HB.out, HF⟩
      · have hn30 : ¬ (n : Int) ≤ 30 := by omega
        go_wp2_with fail
        go_ret
        first | exact .inr ⟨rfl, HB.out⟩ | exact ⟨rfl, HB.out⟩ | exact HB.out
end Go.Proofs.Ytamgnbjdeoklbaa

/- Slices of texts: one that reads as a list of texts (nil let in), one that the call gathered itself. No condition. -/
namespace Go.Proofs.Ytamgnbjdeoklbaa.Strs
open Go Go.RowKit Bytes

theorem info9 : (Try.prog.info? 9).map (fun i => (i.zero, i.size, i.bytes)) = some (some (.string ⟨#[]⟩), 1, 16) := by kernel_rfl
/-- The texts as cells. -/
def strCs (L : List (List UInt8)) : List Value := L.map fun l => Value.string (mk l)
theorem strCs_cat (A B : List (List UInt8)) : strCs (A ++ B) = strCs A ++ strCs B := List.map_append ..
theorem strCs_one (l : List UInt8) : strCs [l] = [.string (mk l)] := rfl
theorem strCs_snoc (L : List (List UInt8)) (o : List UInt8) : strCs (L ++ [o]) = strCs L ++ [.string (mk o)] := by rw [strCs_cat, strCs_one]
theorem strCs_len (L : List (List UInt8)) : (strCs L).length = L.length := List.length_map ..
theorem strCs_at {L : List (List UInt8)} {k : Nat} (h : k < L.length) : (strCs L)[k]? = some (.string (mk (L.getD k []))) := by
  unfold strCs
  rw [List.getElem?_map, List.getElem?_eq_getElem h, List.getD_eq_getElem?_getD, List.getElem?_eq_getElem h]
  rfl
theorem add_block (a : Addr) (n : Nat) : (a.add n).block = a.block := by unfold Addr.add; split <;> rfl
theorem add_two (a : Addr) (i j : Nat) : (a.add i).add j = a.add (i + j) := by
  unfold Addr.add
  by_cases hi : i = 0 <;> by_cases hj : j = 0 <;> simp [hi, hj, Nat.add_assoc]

/-- The slice at this address, as long as L, reads as the texts L, below block B. -/
def RdS (w : World) (B : Nat) (A : Option Addr) (L : List (List UInt8)) : Prop :=
  0 < L.length → ∃ a, A = some a ∧ a.block < B ∧ ∀ k, k < L.length → w.cell? (a.add k) = some (.string (mk (L.getD k [])))
section
variable {w w' : World} {B B' : Nat} {A : Option Addr} {L : List (List UInt8)}
theorem RdS.void (w : World) (B : Nat) (A : Option Addr) : RdS w B A [] := fun h => absurd h (Nat.lt_irrefl 0)
theorem RdS.get (h : RdS w B A L) {k : Nat} (hk : k < L.length) : ∃ a, A = some a ∧ a.block < B ∧ w.cell? (a.add k) = some (.string (mk (L.getD k []))) := by
  obtain ⟨a, e, hb, hc⟩ := h (by omega)
  exact ⟨a, e, hb, hc k hk⟩
theorem RdS.below (h : RdS w B A L) (hb : Below B w w') : RdS w' B A L := fun hp => by
  obtain ⟨a, e, hB, hc⟩ := h hp
  exact ⟨a, e, hB, fun k hk => (hb.cell (by rw [add_block]; exact hB)).trans (hc k hk)⟩
theorem RdS.more (h : RdS w B A L) (hB : B ≤ B') : RdS w B' A L := fun hp => by
  obtain ⟨a, e, hb, hc⟩ := h hp
  exact ⟨a, e, by omega, hc⟩
theorem RdS.on (h : RdS w B A L) (hb : Below B w w') (hB : B ≤ B') : RdS w' B' A L := (h.below hb).more hB
/-- The rest of a slice, from k on. -/
theorem RdS.cut (h : RdS w B A L) {k : Nat} (cap : Nat) (hc : L.length ≤ cap) : RdS w B (if cap = k then A else A.map (·.add k)) (L.drop k) := fun hp => by
  rw [List.length_drop] at hp
  obtain ⟨a, rfl, hb, hcell⟩ := h (by omega)
  rw [if_neg (by omega)]
  refine ⟨a.add k, rfl, by rw [add_block]; exact hb, fun j hj => ?_⟩
  rw [List.length_drop] at hj
  rw [add_two, hcell _ (by omega), List.getD_eq_getElem?_getD, List.getD_eq_getElem?_getD, List.getElem?_drop]
end
theorem own_rds {w : World} {base n : Nat} {e : TypeId} {v : Value} {L : List (List UInt8)} (h : w.ownsRow base e 1 v n (strCs L)) (hn : n = L.length) :
    ∃ A c, v = .slice A n c ∧ n ≤ c ∧ RdS w w.heap.size A L ∧ (0 < L.length → ∀ a, A = some a → base ≤ a.block) := by
  rcases h.2 with ⟨rfl, h0⟩ | ⟨g, cap, cur, rfl, hb, hg, hcap, _⟩
  · have hl : L.length = 0 := by omega
    subst h0
    exact ⟨none, 0, rfl, Nat.le_refl _, fun hp => absurd hp (by omega), fun hp => absurd hp (by omega)⟩
  · refine ⟨some ⟨g, 0, none⟩, cap, rfl, hcap, fun hp => ⟨_, rfl, (h.lt g rfl).2, fun k hk => ?_⟩, fun _ a ha => ?_⟩
    · exact h.cells (g := g) rfl k _ (strCs_at hk)
    · injection ha with ha
      subst ha
      exact hb
/-- One append of one text to a row of one's own: what it leaves. -/
theorem own_str {wr w1 w : World} {g k : Nat} {u v' : Value} {o : Obj} {L : List (List UInt8)} {x : ByteArray} (hO : wr.ownsRow g 9 1 u k (strCs L)) (hB : Below g w wr) (hg : w.heap.size = g)
    (hown : w1.ownsRow g 9 1 v' (k + 1) (strCs L ++ [.string x])) (hgrow : (wr.alloc o).grownBy w1 u.ownBlock) :
    w1.ownsRow g 9 1 v' (k + 1) (strCs (L ++ [x.data.toList])) ∧ Below g w w1 := by
  refine ⟨?_, ?_⟩
  · rw [strCs_cat, strCs_one, mk_data]
    exact hown
  · have hle : g ≤ wr.heap.size := by have := hB.size; omega
    exact (hB.alloc hle o).grown hgrow (by have := (Below.refl 0 wr).alloc (Nat.zero_le _) o; have := this.size; omega) (fun b hb => (hO.lt b hb).1)
end Go.Proofs.Ytamgnbjdeoklbaa.Strs

/- Slices of int: one that reads as a list of numbers (nil let in), one that the call gathered itself. No condition. -/
namespace Go.Proofs.Ytamgnbjdeoklbaa.Ints
open Go Go.RowKit Strs

theorem info23 : (Try.prog.info? 3).map (fun i => (i.zero, i.size, i.bytes)) = some (some (.int .i64 0), 1, 8) := by kernel_rfl
/-- The numbers as cells. -/
def numCs (L : List Nat) : List Value := L.map fun (n : Nat) => Value.int .i64 (n : Int)
theorem numCs_snoc (L : List Nat) (x : Nat) : numCs (L ++ [x]) = numCs L ++ [.int .i64 (x : Int)] := by unfold numCs; rw [List.map_append]; rfl
theorem numCs_len (L : List Nat) : (numCs L).length = L.length := List.length_map ..
theorem numCs_at {L : List Nat} {k : Nat} (h : k < L.length) : (numCs L)[k]? = some (.int .i64 ((L.getD k 0 : Nat) : Int)) := by
  unfold numCs
  rw [List.getElem?_map, List.getElem?_eq_getElem h, List.getD_eq_getElem?_getD, List.getElem?_eq_getElem h]
  rfl
theorem num_take {L : List Nat} {k : Nat} (h : k < L.length) : L.take (k + 1) = L.take k ++ [L.getD k 0] := by
  rw [List.take_succ_eq_append_getElem h, List.getD_eq_getElem?_getD, List.getElem?_eq_getElem h]
  rfl
theorem num_drop {L : List Nat} {k : Nat} (h : k < L.length) : L.drop k = L.getD k 0 :: L.drop (k + 1) := by
  rw [List.drop_eq_getElem_cons h, List.getD_eq_getElem?_getD, List.getElem?_eq_getElem h]
  rfl

/-- The slice at this address, as long as L, reads as the numbers L, below block B. -/
def RdN (w : World) (B : Nat) (A : Option Addr) (L : List Nat) : Prop :=
  0 < L.length → ∃ a, A = some a ∧ a.block < B ∧ ∀ k, k < L.length → w.cell? (a.add k) = some (.int .i64 ((L.getD k 0 : Nat) : Int))
section
variable {w w' : World} {B B' : Nat} {A : Option Addr} {L : List Nat}
theorem RdN.void (w : World) (B : Nat) (A : Option Addr) : RdN w B A [] := fun h => absurd h (Nat.lt_irrefl 0)
theorem RdN.get (h : RdN w B A L) {k : Nat} (hk : k < L.length) : ∃ a, A = some a ∧ a.block < B ∧ w.cell? (a.add k) = some (.int .i64 ((L.getD k 0 : Nat) : Int)) := by
  obtain ⟨a, e, hb, hc⟩ := h (by omega)
  exact ⟨a, e, hb, hc k hk⟩
theorem RdN.below (h : RdN w B A L) (hb : Below B w w') : RdN w' B A L := fun hp => by
  obtain ⟨a, e, hB, hc⟩ := h hp
  exact ⟨a, e, hB, fun k hk => (hb.cell (by rw [add_block]; exact hB)).trans (hc k hk)⟩
theorem RdN.more (h : RdN w B A L) (hB : B ≤ B') : RdN w B' A L := fun hp => by
  obtain ⟨a, e, hb, hc⟩ := h hp
  exact ⟨a, e, by omega, hc⟩
theorem RdN.on (h : RdN w B A L) (hb : Below B w w') (hB : B ≤ B') : RdN w' B' A L := (h.below hb).more hB
end
theorem own_rdn {w : World} {base n : Nat} {e : TypeId} {v : Value} {L : List Nat} (h : w.ownsRow base e 1 v n (numCs L)) (hn : n = L.length) :
    ∃ A c, v = .slice A n c ∧ n ≤ c ∧ RdN w w.heap.size A L ∧ (0 < L.length → ∀ a, A = some a → base ≤ a.block) := by
  rcases h.2 with ⟨rfl, h0⟩ | ⟨g, cap, cur, rfl, hb, hg, hcap, _⟩
  · have hl : L.length = 0 := by omega
    subst h0
    exact ⟨none, 0, rfl, Nat.le_refl _, fun hp => absurd hp (by omega), fun hp => absurd hp (by omega)⟩
  · refine ⟨some ⟨g, 0, none⟩, cap, rfl, hcap, fun hp => ⟨_, rfl, (h.lt g rfl).2, fun k hk => ?_⟩, fun _ a ha => ?_⟩
    · exact h.cells (g := g) rfl k _ (numCs_at hk)
    · injection ha with ha
      subst ha
      exact hb
/-- A slice that is appended whole: nil, or at an address. -/
def SrcN (w : World) (v : Value) (n : Nat) (L : List Nat) : Prop :=
  (v = .slice none 0 0 ∧ n = 0 ∧ L = []) ∨ ∃ ad c, v = .slice (some ad) n c ∧ n = L.length ∧ ∀ k, k < L.length → w.cell? (ad.add k) = some (.int .i64 ((L.getD k 0 : Nat) : Int))
set_option maxRecDepth 100000 in
theorem nums_of {w : World} {B : Nat} {A : Option Addr} {n c : Nat} {L : List Nat} (hr : RdN w B A L) (hl : L.length = n) (hc : A = none → c = 0) : SrcN w (.slice A n c) n L := by
  cases A with
  | none =>
    have h0 : L.length = 0 := by
      rcases Nat.eq_zero_or_pos L.length with h | h
      · exact h
      · obtain ⟨a, e, _⟩ := hr h
        cases e
    exact Or.inl ⟨by rw [hc rfl, ← hl, h0], by rw [← hl, h0], List.length_eq_zero_iff.1 h0⟩
  | some ad =>
    refine Or.inr ⟨ad, c, rfl, hl.symm, fun k hk => ?_⟩
    obtain ⟨a, e, _, hcell⟩ := hr.get hk
    injection e with e
    subst e
    exact hcell
set_option maxRecDepth 100000 in
theorem nums_below {w w' : World} {v : Value} {n : Nat} {L : List Nat} (h : SrcN w v n L) (hb : Below w.heap.size w w') : SrcN w' v n L := by
  rcases h with h | ⟨ad, c, hx, hn, hc⟩
  · exact Or.inl h
  · exact Or.inr ⟨ad, c, hx, hn, fun k hk => (hb.cell (World.block_lt_of_cell? _ _ (hc k hk))).trans (hc k hk)⟩
set_option maxRecDepth 100000 in
theorem run_append_nums {w : World} (ty : TypeId) (base : Nat) (v : Value) (m : Nat) (xs : List Value) (hown : w.ownsRow base 3 1 v m xs) (x : Value) (n : Nat) (L : List Nat) (hsrc : SrcN w x n L) (hmn : m + n ≤ 1000000) (hbase : base ≤ w.heap.size) :
    ∃ v' w', (Builtin.append_ #[50, 50] ty #[v, x]).run Try.prog w = .ok v' w' ∧ w'.ownsRow base 3 1 v' (m + n) (xs ++ numCs L) ∧ w.grownBy w' v.ownBlock := by
  obtain ⟨i0, hi, hz0, hz1, hz2⟩ := info_parts info23
  rcases hsrc with ⟨rfl, rfl, rfl⟩ | ⟨ad, c, rfl, hn, hc⟩
  · exact ⟨v, w, run_append_owned_none w base 50 ty 3 i0 1 Try.underlying50 hi v m xs hown, by simpa [numCs] using hown, World.grownBy.refl w _⟩
  · obtain ⟨v', w', hr, h2, h3, _⟩ := run_append_own (P := Try.prog) w base 50 ty 3 i0 (.int .i64 0) 1 8 Try.underlying50 hi hz0 hz1 hz2 rfl (by decide) v m xs hown ad n c (numCs L) (by rw [numCs_len]; omega) (fun j u hj => by
      have hjl : j < L.length := by
        rcases Nat.lt_or_ge j L.length with h | h
        · exact h
        · rw [List.getElem?_eq_none (by rw [numCs_len]; exact h)] at hj; cases hj
      rw [numCs_at hjl] at hj
      injection hj with hj
      rw [← hj]
      exact hc j hjl) (fun u hu => by
      unfold numCs at hu
      obtain ⟨l, _, rfl⟩ := List.mem_map.1 hu
      rfl) (by unfold maxLen; omega) (by omega) hbase
    exact ⟨v', w', hr, h2, h3⟩
set_option maxRecDepth 100000 in
theorem wpList_append_nums {w : World} {ops : Array Oper} {rest : List Oper} {o : Oper} {a : Act} {Q : Exit → Act → World → Prop} (hgd : o.guard = none) (s x : Operand)
    (ho : o.op = .call { callee := .builtin .append, args := #[s, x], argTypes := #[50, 50] })
    (base : Nat) (v : Value) (m : Nat) (xs : List Value) (hs : a.eval s = v) (hown : w.ownsRow base 3 1 v m xs) (n : Nat) (L : List Nat) (hsrc : SrcN w (a.eval x) n L)
    (hmn : m + n ≤ 1000000) (hbase : base ≤ w.heap.size)
    (h : ∀ v' w', w'.ownsRow base 3 1 v' (m + n) (xs ++ numCs L) → w.grownBy w' v.ownBlock → wpList Try.prog ops Q rest (a.put o.dst v') w') : wpList Try.prog ops Q (o :: rest) a w := by
  obtain ⟨v', w', hr, h2, h3⟩ := run_append_nums o.type base v m xs hown (a.eval x) n L hsrc hmn hbase
  refine wpList_plain hgd fun K hK => ?_
  unfold Oper.wp
  simp [execOp, ho, resolve, invoke, builtin, hs, hr, Result.andThen]
  exact hK _ _ (h v' w' h2 h3)
set_option maxRecDepth 100000 in
theorem step_append_nums {w : World} {ops : Array Oper} {o : Oper} {a : Act} {K : Act → World → Prop} {Q : Exit → Act → World → Prop} {E : Prop} (hgd : o.guard = none) (s x : Operand)
    (ho : o.op = .call { callee := .builtin .append, args := #[s, x], argTypes := #[50, 50] })
    (base : Nat) (v : Value) (m : Nat) (xs : List Value) (hs : a.eval s = v) (hown : w.ownsRow base 3 1 v m xs) (xv : Value) (hx : a.eval x = xv) (n : Nat) (L : List Nat) (hsrc : SrcN w xv n L)
    (hmn : m + n ≤ 1000000) (hbase : base ≤ w.heap.size)
    (h : ∀ v' w', w'.ownsRow base 3 1 v' (m + n) (xs ++ numCs L) → w.grownBy w' v.ownBlock → K (a.put o.dst v') w') : if Region.wanted o (yielded ops a.tmps) = true then Oper.wp Try.prog o a w K Q else E := by
  have hw : Region.wanted o (yielded ops a.tmps) = true := by simp [Region.wanted, hgd]
  rw [if_pos hw]
  obtain ⟨v', w', hr, h2, h3⟩ := run_append_nums o.type base v m xs hown xv n L hsrc hmn hbase
  unfold Oper.wp
  simp [execOp, ho, resolve, invoke, builtin, hs, hx, hr, Result.andThen]
  exact h v' w' h2 h3
end Go.Proofs.Ytamgnbjdeoklbaa.Ints

/- The document's least, Resize, Add, and that the slice is nil where nothing stays. For entries of at most 10^9 bytes together, and at most 30000 of them. -/
namespace Go.Proofs.Ytamgnbjdeoklbaa
open Go.RowKit Tb

set_option maxHeartbeats 4000000 in
set_option maxRecDepth 100000 in
theorem leastN_is (A : Option Addr) (n c : Nat) (L R : List Ent) (most : Int) (w : World) (hn : Hid (L.length = n)) (hr : Hid (RdE w w.heap.size A L)) (hs : Hid (sumL L ≤ 1000000000)) (hb1 : -9223372036854775808 ≤ most) (hb2 : most ≤ 9223372036854775807) (hR : Hid (leastL L most.toNat = R)) :
    Calls Try.prog 53 #[.slice A n c, .int .i64 most] w fun e w' => ∃ v, e = .returned v ∧ w'.ownsRow w.heap.size 95 2 v R.length (entCs R) ∧ Below w.heap.size w w' ∧ Hid (R = [] → v = .slice none 0 0) := by
  obtain ⟨i0, hi, hz0, hz1, hz2⟩ := info_parts infoE
  have HI := Lib.hid hi; clear hi
  have HZ0 := Lib.hid hz0; clear hz0
  have HZ1 := Lib.hid hz1; clear hz1
  have HZ2 := Lib.hid hz2; clear hz2
  obtain ⟨m, hm⟩ : ∃ m, most.toNat = m := ⟨_, rfl⟩
  rw [hm] at hR
  have hlen := sumL_ge L
  have hnb : n ≤ 31250000 := by have := hs.out; have := hn.out; omega
  clear hlen
  generalize hg : w.heap.size = g at *
  have G := Lib.hid hg; clear hg
  go_enter Try.func53, Try.ntmps53
  go_wp2_with fail
  go_loopw [5, 6, 7] (fun o x i wr => ∃ (k S : Nat), k ≤ n ∧ x = .int .i64 (S : Int) ∧ i = .int .i64 (k : Int) ∧ Hid (S = sumL (L.take k)) ∧ S ≤ m ∧ Hid (wr.ownsRow g 95 2 o k (entCs (L.take k))) ∧ Hid (L.take k ++ leastL (L.drop k) (m - S) = R) ∧ Below g w wr ∧ Hid (k = 0 → o = .slice none 0 0)) (fun _ _ i _ => n - (intOf i).toNat)
  case atStart => exact ⟨0, 0, by omega, rfl, rfl, Lib.hid rfl, by omega, Lib.hid (World.ownsRow_nil _ _ _ _), hR, Below.refl _ _, Lib.hid (fun _ => rfl)⟩
  case round =>
    obtain ⟨k, S, hk, rfl, rfl, hS, hSm, hO, hF, hB, hN⟩ := hrel
    have hSb : S ≤ 1000000000 := by rw [hS.out]; exact Nat.le_trans (sum_take_le _ _) hs.out
    by_cases hlt : k < n
    · have hkl : k < L.length := by rw [hn.out]; exact hlt
      obtain ⟨b, o, rfl, hab, hc1, hc2⟩ := hr.out.get hkl
      have hs2 := Nat.le_trans (sum_take_le L (k + 1)) hs.out
      have hst := sum_take hkl
      rw [← hS.out] at hst
      rw [hst] at hs2
      have hF1 := hF.out
      rw [entAt_drop hkl, leastL] at hF1
      have htk := entAt_take hkl
      obtain ⟨e, he⟩ : ∃ e, entAt L k = e := ⟨_, rfl⟩
      rw [he] at hc1 hc2 hs2 hst hF1 htk
      obtain ⟨x, y⟩ := e
      have hsz : sz (x, y) = x.size + y.size + 32 := rfl
      rw [hsz] at hs2 hst hF1
      have hd1 := (hB.cell (p := ⟨b, o + k * 2, none⟩) hab).trans hc1
      have hd2 := (hB.cell (p := ⟨b, o + k * 2 + 1, none⟩) hab).trans hc2
      have hof := off_add_addr b o (k * 2)
      have HST := Lib.hid hst
      have HTK := Lib.hid htk
      have HE := Lib.hid he
      clear hc1 hc2 hst htk he hsz hF
      have hk1 : (0 : Int) ≤ (k : Int) := by omega
      have hk2 : (k : Int) < (n : Int) := by omega
      have e1 : IntKind.i64.wrap ((S : Int) + (x.size : Int)) = (S : Int) + (x.size : Int) := by rw [IntKind.wrap_i64]; omega
      have e2 : IntKind.i64.wrap ((S : Int) + (x.size : Int) + (y.size : Int)) = (S : Int) + (x.size : Int) + (y.size : Int) := by rw [IntKind.wrap_i64]; omega
      obtain ⟨S2, hS2⟩ : ∃ S2, S + (x.size + y.size + 32) = S2 := ⟨_, rfl⟩
      have e3 : IntKind.i64.wrap ((S : Int) + (x.size : Int) + (y.size : Int) + 32) = (S2 : Int) := by rw [IntKind.wrap_i64]; omega
      have hdk : decide ((k : Int) < (n : Int)) = true := by rw [decide_eq_true_eq]; omega
      go_wp2_with fail
      go_quiet (fail)
      by_cases hgo : S2 ≤ m
      · have hgi : (S2 : Int) ≤ most := by omega
        rw [if_pos (by omega)] at hF1
        have HS2 := Lib.hid (show S2 = sumL (L.take (k + 1)) by rw [HST.out, hS2])
        have HF1 := Lib.hid (show L.take (k + 1) ++ leastL (L.drop (k + 1)) (m - S2) = R by
          rw [HTK.out, List.append_assoc, ← hF1, show m - S2 = m - S - (x.size + y.size + 32) by omega]
          rfl)
        clear hF1
        go_wp2_with (at_builtin; refine wpList_append_own _ rfl _ _ 47 rfl g 95 i0 (.agg #[.string ⟨#[]⟩, .string ⟨#[]⟩]) 2 32 Try.underlying47 HI.out HZ0.out HZ1.out HZ2.out rfl (by decide) _ _ _ rfl ((own_drewN hO.out _).alloc _) ⟨wr.heap.size, 0, none⟩ 1 1 [.string x, .string y] rfl rfl ?d1 ?d2 ?d3 ?d4 ?d5 ?_)
        case d1 =>
          intro j u hj
          match j, hj with
          | 0, hj => simp at hj; subst hj; rw [zero_add_addr]; exact cell_of_row _ wr.heap.size 0 #[.string x, .string y] _ _ (heap_alloc_new (wr.drewN _) _)
          | 1, hj => simp at hj; subst hj; rw [zero_add_addr]; exact cell_of_row _ wr.heap.size 1 #[.string x, .string y] _ _ (heap_alloc_new (wr.drewN _) _)
        case d2 =>
          intro u hu
          simp at hu
          rcases hu with rfl | rfl <;> rfl
        case d3 => unfold maxLen; omega
        case d4 => omega
        case d5 => have := hB.size; have := G.out; simp; omega
        intro v' w2 hown hgrow _
        have RS := own_ent (e := (x, y)) (own_drewN hO.out _) (below_drewN hB _) G.out hown hgrow
        have R1 := Lib.hid RS.1
        have R2 := RS.2
        clear RS hown hgrow
        rw [← HTK.out] at R1
        go_wp2_with fail
        go_roundw
        case rel => exact ⟨k + 1, S2, by omega, rfl, rfl, HS2, hgo, R1, HF1, R2, Lib.hid (fun h => by omega)⟩
        case measure => simp [intOf] <;> omega
      · have hgi : ¬ (S2 : Int) ≤ most := by omega
        rw [if_neg (by omega), List.append_nil] at hF1
        have hl : R.length = k := by rw [← hF1, List.length_take]; omega
        have hO2 := hO.out
        rw [hF1] at hO2
        go_wp2_with fail
        go_ret
        exact ⟨_, rfl, hO2, below_drewN hB _, Lib.hid (fun h => hN.out (by rw [← hl, h]; rfl))⟩
    · have e : k = n := by omega
      have hF1 := hF.out
      rw [List.drop_of_length_le (by rw [hn.out]; omega), leastL, List.append_nil] at hF1
      have hl : R.length = k := by rw [← hF1, List.length_take, hn.out]; omega
      have hO2 := hO.out
      rw [hF1] at hO2
      clear hF hF1
      go_wp2_with fail
      go_ret
      exact ⟨_, rfl, by first | exact hO2 | (rw [hl]; exact hO2), hB, Lib.hid (fun h => hN.out (by rw [← hl, h]; rfl))⟩

set_option maxHeartbeats 4000000 in
set_option maxRecDepth 100000 in
theorem refResizeN_is (M most : Int) (A : Option Addr) (n c : Nat) (L R : List Ent) (w : World) (hn : Hid (L.length = n)) (hr : Hid (RdE w w.heap.size A L)) (hs : Hid (sumL L ≤ 1000000000)) (hb1 : -9223372036854775808 ≤ most) (hb2 : most ≤ 9223372036854775807) (hR : Hid (leastL L most.toNat = R)) :
    Calls Try.prog 37 #[.agg #[.int .i64 M, .slice A n c], .int .i64 most] w fun e w' => ∃ v, e = .returned (.agg #[.int .i64 (most.toNat : Int), v]) ∧ w'.ownsRow w.heap.size 95 2 v R.length (entCs R) ∧ Below w.heap.size w w' ∧ Hid (R = [] → v = .slice none 0 0) := by
  by_cases hneg : most < 0
  · have HL := Lib.hid (show leastL L (0 : Int).toNat = R by rw [← hR.out]; first | done | (congr 1; omega))
    have eq1 : (most.toNat : Int) = 0 := by omega
    rw [eq1]
    have K0 := Lib.hid (heap_alloc2_old w (.cells #[.int .i64 0, .slice A n c] 49) (.cells #[.int .i64 0, .slice none 0 0] 49))
    have K1 := Lib.hid (heap_alloc2_new w (.cells #[.int .i64 0, .slice A n c] 49) (.cells #[.int .i64 0, .slice none 0 0] 49))
    have HS2 := Lib.hid (show ((w.alloc (.cells #[.int .i64 0, .slice A n c] 49)).alloc (.cells #[.int .i64 0, .slice none 0 0] 49)).heap.size = w.heap.size + 2 by simp)
    have HB0 := Lib.hid (((Below.refl w.heap.size w).alloc (Nat.le_refl _) (.cells #[.int .i64 0, .slice A n c] 49)).alloc (by simp) (.cells #[.int .i64 0, .slice none 0 0] 49))
    clear eq1
    go_enter Try.func37, Try.ntmps37
    go_wp2_with fail
    generalize ((w.alloc (.cells #[.int .i64 0, .slice A n c] 49)).alloc (.cells #[.int .i64 0, .slice none 0 0] 49)) = W at *
    refine (leastN_is A n c L R 0 W hn (Lib.hid (hr.out.on HB0.out HB0.out.size)) hs (by omega) (by omega) HL).mono ?_
    rintro e w3 ⟨v, rfl, hO, hB, hNL⟩
    obtain ⟨A2, c2, rfl, _, _, _⟩ := own_rde hO rfl
    have hW := HS2.out
    have r0 := (hB.block w.heap.size (by omega)).trans K0.out
    have r1 := (hB.block (w.heap.size + 1) (by omega)).trans K1.out
    have r0' := one_set (y := .slice A2 R.length c2) r0
    have r1' := (heap_setCell_other w3 ⟨w.heap.size, 1, none⟩ (w.heap.size + 1) (.slice A2 R.length c2) (by show w.heap.size + 1 ≠ w.heap.size; omega)).trans r1
    have r1'' := zero_set (y := .int .i64 0) r1'
    have hn3 := ((HB0.out.trans (hB.mono HB0.out.size)).setCell (p := ⟨w.heap.size, 1, none⟩) (Nat.le_refl _) (.slice A2 R.length c2)).setCell (p := ⟨w.heap.size + 1, 0, none⟩) (by show w.heap.size ≤ w.heap.size + 1; omega) (.int .i64 0)
    have hO3 := own_lower (own_rest3 (own_rest3 (own_rest3 hO (p := ⟨w.heap.size, 1, none⟩) (by rw [hW]; show w.heap.size < w.heap.size + 2; omega) (.slice A2 R.length c2)) (p := ⟨w.heap.size + 1, 0, none⟩) (by rw [hW]; show w.heap.size + 1 < w.heap.size + 2; omega) (.int .i64 0)) (p := ⟨w.heap.size + 1, 1, none⟩) (by rw [hW]; show w.heap.size + 1 < w.heap.size + 2; omega) (.slice A2 R.length c2)) (g' := w.heap.size) (by omega)
    have R3 := Lib.hid (one_set (y := .slice A2 R.length c2) r1'')
    have HN3 := Lib.hid (hn3.setCell (p := ⟨w.heap.size + 1, 1, none⟩) (by show w.heap.size ≤ w.heap.size + 1; omega) (.slice A2 R.length c2))
    have HO3 := Lib.hid hO3
    obtain ⟨a1, a2, a3, a4⟩ := two_cells r0
    obtain ⟨b1, b2, b3, b4⟩ := two_cells r0'
    obtain ⟨d1, d2, d3, d4⟩ := two_cells r1'
    obtain ⟨f1, f2, f3, f4⟩ := two_cells r1''
    clear r0 r1 r0' r1' r1'' hn3 hO3 hO hB hW
    go_wp2_with fail
    exact bodyPost_ret (v := .agg #[.int .i64 0, .slice A2 R.length c2]) (results_cell_row rfl _ _ (w.heap.size + 1) 49 #[.int .i64 0, .slice A2 R.length c2] (0, 0) _ rfl R3.out Try.underlying49 rfl tabInfo) rfl ⟨_, rfl, HO3.out, HN3.out, hNL⟩
  · have HL := Lib.hid (show leastL L (most : Int).toNat = R by rw [← hR.out]; first | done | (congr 1; omega))
    have eq1 : (most.toNat : Int) = most := by omega
    rw [eq1]
    have K0 := Lib.hid (heap_alloc2_old w (.cells #[.int .i64 most, .slice A n c] 49) (.cells #[.int .i64 0, .slice none 0 0] 49))
    have K1 := Lib.hid (heap_alloc2_new w (.cells #[.int .i64 most, .slice A n c] 49) (.cells #[.int .i64 0, .slice none 0 0] 49))
    have HS2 := Lib.hid (show ((w.alloc (.cells #[.int .i64 most, .slice A n c] 49)).alloc (.cells #[.int .i64 0, .slice none 0 0] 49)).heap.size = w.heap.size + 2 by simp)
    have HB0 := Lib.hid (((Below.refl w.heap.size w).alloc (Nat.le_refl _) (.cells #[.int .i64 most, .slice A n c] 49)).alloc (by simp) (.cells #[.int .i64 0, .slice none 0 0] 49))
    clear eq1
    go_enter Try.func37, Try.ntmps37
    go_wp2_with fail
    generalize ((w.alloc (.cells #[.int .i64 most, .slice A n c] 49)).alloc (.cells #[.int .i64 0, .slice none 0 0] 49)) = W at *
    refine (leastN_is A n c L R most W hn (Lib.hid (hr.out.on HB0.out HB0.out.size)) hs (by omega) (by omega) HL).mono ?_
    rintro e w3 ⟨v, rfl, hO, hB, hNL⟩
    obtain ⟨A2, c2, rfl, _, _, _⟩ := own_rde hO rfl
    have hW := HS2.out
    have r0 := (hB.block w.heap.size (by omega)).trans K0.out
    have r1 := (hB.block (w.heap.size + 1) (by omega)).trans K1.out
    have r0' := one_set (y := .slice A2 R.length c2) r0
    have r1' := (heap_setCell_other w3 ⟨w.heap.size, 1, none⟩ (w.heap.size + 1) (.slice A2 R.length c2) (by show w.heap.size + 1 ≠ w.heap.size; omega)).trans r1
    have r1'' := zero_set (y := .int .i64 most) r1'
    have hn3 := ((HB0.out.trans (hB.mono HB0.out.size)).setCell (p := ⟨w.heap.size, 1, none⟩) (Nat.le_refl _) (.slice A2 R.length c2)).setCell (p := ⟨w.heap.size + 1, 0, none⟩) (by show w.heap.size ≤ w.heap.size + 1; omega) (.int .i64 most)
    have hO3 := own_lower (own_rest3 (own_rest3 (own_rest3 hO (p := ⟨w.heap.size, 1, none⟩) (by rw [hW]; show w.heap.size < w.heap.size + 2; omega) (.slice A2 R.length c2)) (p := ⟨w.heap.size + 1, 0, none⟩) (by rw [hW]; show w.heap.size + 1 < w.heap.size + 2; omega) (.int .i64 most)) (p := ⟨w.heap.size + 1, 1, none⟩) (by rw [hW]; show w.heap.size + 1 < w.heap.size + 2; omega) (.slice A2 R.length c2)) (g' := w.heap.size) (by omega)
    have R3 := Lib.hid (one_set (y := .slice A2 R.length c2) r1'')
    have HN3 := Lib.hid (hn3.setCell (p := ⟨w.heap.size + 1, 1, none⟩) (by show w.heap.size ≤ w.heap.size + 1; omega) (.slice A2 R.length c2))
    have HO3 := Lib.hid hO3
    obtain ⟨a1, a2, a3, a4⟩ := two_cells r0
    obtain ⟨b1, b2, b3, b4⟩ := two_cells r0'
    obtain ⟨d1, d2, d3, d4⟩ := two_cells r1'
    obtain ⟨f1, f2, f3, f4⟩ := two_cells r1''
    clear r0 r1 r0' r1' r1'' hn3 hO3 hO hB hW
    go_wp2_with fail
    exact bodyPost_ret (v := .agg #[.int .i64 most, .slice A2 R.length c2]) (results_cell_row rfl _ _ (w.heap.size + 1) 49 #[.int .i64 most, .slice A2 R.length c2] (0, 0) _ rfl R3.out Try.underlying49 rfl tabInfo) rfl ⟨_, rfl, HO3.out, HN3.out, hNL⟩

theorem entCs_cons (e : Ent) (L : List Ent) : [Value.string e.1, .string e.2] ++ entCs L = entCs (e :: L) := rfl
theorem lit_own (W : World) (x y : ByteArray) : (W.alloc (.cells #[.string x, .string y] 95)).ownsRow W.heap.size 95 2 (.slice (some ⟨W.heap.size, 0, none⟩) 1 1) 1 [.string x, .string y] :=
  ⟨rfl, .inr ⟨W.heap.size, 1, #[.string x, .string y], rfl, Nat.le_refl _, heap_alloc_new W _, Nat.le_refl _, by unfold maxLen; omega, rfl, rfl⟩⟩
/-- least of a row of one's own, beside a block that stays. -/
theorem leastN_held (g base : Nat) (u0 u1 : Value) (t : TypeId) (v : Value) (n : Nat) (L R : List Ent) (most : Int) (w0 w : World) (hg : g < base) (hrow : w.heap[g]? = some (.cells #[u0, u1] t (0, 0))) (hO : w.ownsRow base 95 2 v n (entCs L)) (hn : n = L.length) (hs : sumL L ≤ 1000000000) (hb1 : -9223372036854775808 ≤ most) (hb2 : most ≤ 9223372036854775807) (hR : Hid (leastL L most.toNat = R)) (hB : Below base w0 w) (hbase : base ≤ w.heap.size) :
    Calls Try.prog 53 #[v, .int .i64 most] w fun e w' => ∃ A2 c2, e = .returned (.slice A2 R.length c2) ∧ w'.ownsRow base 95 2 (.slice A2 R.length c2) R.length (entCs R) ∧ w'.heap[g]? = some (.cells #[u0, u1] t (0, 0)) ∧ w'.cell? ⟨g, 0, none⟩ = some u0 ∧ w'.cell? ⟨g, 1, none⟩ = some u1 ∧ w'.frozen? ⟨g, 1, none⟩ = false ∧ Below base w0 w' ∧ Hid (R = [] → Value.slice A2 R.length c2 = .slice none 0 0) := by
  obtain ⟨A, c, rfl, _, hr, _⟩ := own_rde hO hn
  refine (leastN_is A n c L R most w (Lib.hid hn.symm) (Lib.hid hr) (Lib.hid hs) hb1 hb2 hR).mono ?_
  rintro e w' ⟨v', he, hO', hB', hNL⟩
  obtain ⟨A2, c2, rfl, _, _, _⟩ := own_rde hO' rfl
  have h1 := (hB'.block g (by omega)).trans hrow
  obtain ⟨k0, k1, _, k3⟩ := two_cells h1
  exact ⟨A2, c2, he, own_lower hO' hbase, h1, k0, k1, k3, hB.trans (hB'.mono hbase), hNL⟩

set_option maxHeartbeats 4000000 in
set_option maxRecDepth 100000 in
theorem refAddN_nil (M : Int) (x y : ByteArray) (R : List Ent) (w : World) (hs : sumL [(x, y)] ≤ 1000000000) (hb1 : -9223372036854775808 ≤ M) (hb2 : M ≤ 9223372036854775807) (hR : Hid (leastL [(x, y)] M.toNat = R)) :
    Calls Try.prog 41 #[.agg #[.int .i64 M, .slice none 0 0], .string x, .string y] w fun e w' => ∃ v, e = .returned (.agg #[.int .i64 M, v]) ∧ w'.ownsRow w.heap.size 95 2 v R.length (entCs R) ∧ Below w.heap.size w w' ∧ Hid (R = [] → v = .slice none 0 0) := by
  obtain ⟨i0, hi, hz0, hz1, hz2⟩ := info_parts infoE
  have HI := Lib.hid hi; clear hi
  have HZ0 := Lib.hid hz0; clear hz0
  have HZ1 := Lib.hid hz1; clear hz1
  have HZ2 := Lib.hid hz2; clear hz2
  have K0 := Lib.hid (heap_alloc2_old w (.cells #[.int .i64 M, .slice none 0 0] 49) (.cells #[.int .i64 0, .slice none 0 0] 49))
  have K1 := Lib.hid (heap_alloc2_new w (.cells #[.int .i64 M, .slice none 0 0] 49) (.cells #[.int .i64 0, .slice none 0 0] 49))
  have HS2 := Lib.hid (show ((w.alloc (.cells #[.int .i64 M, .slice none 0 0] 49)).alloc (.cells #[.int .i64 0, .slice none 0 0] 49)).heap.size = w.heap.size + 2 by simp)
  have HB0 := Lib.hid (((Below.refl w.heap.size w).alloc (Nat.le_refl _) (.cells #[.int .i64 M, .slice none 0 0] 49)).alloc (by simp) (.cells #[.int .i64 0, .slice none 0 0] 49))
  go_enter Try.func41, Try.ntmps41
  go_wp2_with fail
  generalize ((w.alloc (.cells #[.int .i64 M, .slice none 0 0] 49)).alloc (.cells #[.int .i64 0, .slice none 0 0] 49)) = W at *
  generalize hg : w.heap.size = g at *
  have hgW := Lib.hid (show g < W.heap.size by have := HS2.out; omega)
  obtain ⟨a0, a1, a2, a3⟩ := two_cells K0.out
  obtain ⟨q0, q1, q2, q3⟩ := two_cells (w := W.drew) K0.out
  have hBd : Below W.heap.size W W.drew := (Below.refl _ _).drew
  have L0 : ((W.alloc (.cells #[.string x, .string y] 95)).drew).heap[g]? = _ := (heap_alloc_old W (.cells #[.string x, .string y] 95) (by exact hgW.out)).trans K0.out
  obtain ⟨l0, l1, l2, l3⟩ := two_cells L0
  have hBl : Below W.heap.size W ((W.alloc (.cells #[.string x, .string y] 95)).drew) := ((Below.refl W.heap.size W).alloc (Nat.le_refl _) _).drew
  have LO := Lib.hid (show ((W.alloc (.cells #[.string x, .string y] 95)).drew).ownsRow W.heap.size 95 2 (.slice (some ⟨W.heap.size, 0, none⟩) 1 1) 1 [.string x, .string y] from lit_own W x y)
  have LO2 := Lib.hid (show ((W.alloc (.cells #[.string x, .string y] 95)).drew).ownsRow W.heap.size 95 2 (.slice (some ⟨W.heap.size, 0, none⟩) 1 1) 1 (entCs [(x, y)]) from LO.out)
  have HL0 := Lib.hid L0
  have HBL := Lib.hid hBl
  have hble : W.heap.size ≤ ((W.alloc (.cells #[.string x, .string y] 95)).drew).heap.size := hBl.size
  have HBE := Lib.hid hble
  have z0 : (W.alloc (.cells #[.string x, .string y] 95)).cell? ⟨g, 0, none⟩ = some (.int .i64 M) := l0
  have z1 : (W.alloc (.cells #[.string x, .string y] 95)).cell? ⟨g, 1, none⟩ = some (.slice none 0 0) := l1
  clear L0 hBl hble
  go_region_law (first | (refine step_append_none (by rfl) _ _ _ (by rfl) W.heap.size 95 i0 2 Try.underlying47 HI.out _ 1 [.string x, .string y] (by rfl) LO.out (by rfl) ?_) | (go_simp; go_at_call 53; (with_reducible refine (leastN_held g W.heap.size (.int .i64 M) (.slice none 0 0) 49 (.slice (some ⟨W.heap.size, 0, none⟩) 1 1) 1 [(x, y)] R M W _ hgW.out HL0.out LO2.out rfl hs hb1 hb2 hR HBL.out HBE.out).mono ?_); rintro e w6 ⟨A2, c2, rfl, hO6, h6, k0, k1, k3, hB6, hNL⟩))
  all_goals
    have hW := HS2.out
    have r0' := one_set (y := .slice A2 R.length c2) h6
    have hgn : g + 1 ≠ g := by omega
    have h7 : w6.heap[g + 1]? = _ := (hB6.block (g + 1) (by omega)).trans K1.out
    have r1' := (heap_setCell_other w6 ⟨g, 1, none⟩ (g + 1) (.slice A2 R.length c2) hgn).trans h7
    have r1'' := zero_set (y := .int .i64 M) r1'
    have hgg : g ≤ W.heap.size := Nat.le_of_lt hgW.out
    have hn3 := (((HB0.out.trans (hB6.mono hgg)).setCell (p := ⟨g, 1, none⟩) (Nat.le_refl _) (.slice A2 R.length c2)).setCell (p := ⟨g + 1, 0, none⟩) (Nat.le_succ g) (.int .i64 M)).setCell (p := ⟨g + 1, 1, none⟩) (Nat.le_succ g) (.slice A2 R.length c2)
    have hO3 := own_lower (own_rest3 (own_rest3 (own_rest3 hO6 (p := ⟨g, 1, none⟩) hgW.out (.slice A2 R.length c2)) (p := ⟨g + 1, 0, none⟩) (by show g + 1 < W.heap.size; omega) (.int .i64 M)) (p := ⟨g + 1, 1, none⟩) (by show g + 1 < W.heap.size; omega) (.slice A2 R.length c2)) (g' := g) hgg
    have R3 := Lib.hid (one_set (y := .slice A2 R.length c2) r1'')
    have HN3 := Lib.hid hn3
    have HO3 := Lib.hid hO3
    obtain ⟨b1, b2, b3, b4⟩ := two_cells r0'
    obtain ⟨d1, d2, d3, d4⟩ := two_cells r1'
    obtain ⟨f1, f2, f3, f4⟩ := two_cells r1''
    clear r0' r1' r1'' hn3 hO3 hO6 hB6 hW h6 h7
    go_wp2_with fail
    exact bodyPost_ret (v := .agg #[.int .i64 M, .slice A2 R.length c2]) (results_cell_row rfl _ _ (g + 1) 49 #[.int .i64 M, .slice A2 R.length c2] (0, 0) _ rfl R3.out Try.underlying49 rfl tabInfo) rfl ⟨_, rfl, by first | exact HO3.out | (rw [hg]; exact HO3.out), by first | exact HN3.out | (rw [hg]; exact HN3.out), hNL⟩
theorem add_row {w : World} {base m : Nat} {v : Value} {x y : ByteArray} {L : List Ent} (h : w.ownsRow base 95 2 v m ([.string x, .string y] ++ entCs L)) : w.ownsRow base 95 2 v m (entCs ((x, y) :: L)) := h

set_option maxHeartbeats 4000000 in
set_option maxRecDepth 100000 in
theorem refAddN_some (M : Int) (b o n c : Nat) (L : List Ent) (x y : ByteArray) (R : List Ent) (w : World) (hn : Hid (L.length = n)) (hr : Hid (RdE w w.heap.size (some ⟨b, o, none⟩) L)) (hn0 : 0 < n) (hnb : n ≤ 30000) (hs : sumL ((x, y) :: L) ≤ 1000000000) (hb1 : -9223372036854775808 ≤ M) (hb2 : M ≤ 9223372036854775807) (hR : Hid (leastL ((x, y) :: L) M.toNat = R)) :
    Calls Try.prog 41 #[.agg #[.int .i64 M, .slice (some ⟨b, o, none⟩) n c], .string x, .string y] w fun e w' => ∃ v, e = .returned (.agg #[.int .i64 M, v]) ∧ w'.ownsRow w.heap.size 95 2 v R.length (entCs R) ∧ Below w.heap.size w w' ∧ Hid (R = [] → v = .slice none 0 0) := by
  obtain ⟨i0, hi, hz0, hz1, hz2⟩ := info_parts infoE
  have HI := Lib.hid hi; clear hi
  have HZ0 := Lib.hid hz0; clear hz0
  have HZ1 := Lib.hid hz1; clear hz1
  have HZ2 := Lib.hid hz2; clear hz2
  have K0 := Lib.hid (heap_alloc2_old w (.cells #[.int .i64 M, .slice (some ⟨b, o, none⟩) n c] 49) (.cells #[.int .i64 0, .slice none 0 0] 49))
  have K1 := Lib.hid (heap_alloc2_new w (.cells #[.int .i64 M, .slice (some ⟨b, o, none⟩) n c] 49) (.cells #[.int .i64 0, .slice none 0 0] 49))
  have HS2 := Lib.hid (show ((w.alloc (.cells #[.int .i64 M, .slice (some ⟨b, o, none⟩) n c] 49)).alloc (.cells #[.int .i64 0, .slice none 0 0] 49)).heap.size = w.heap.size + 2 by simp)
  have HB0 := Lib.hid (((Below.refl w.heap.size w).alloc (Nat.le_refl _) (.cells #[.int .i64 M, .slice (some ⟨b, o, none⟩) n c] 49)).alloc (by simp) (.cells #[.int .i64 0, .slice none 0 0] 49))
  go_enter Try.func41, Try.ntmps41
  go_wp2_with fail
  generalize ((w.alloc (.cells #[.int .i64 M, .slice (some ⟨b, o, none⟩) n c] 49)).alloc (.cells #[.int .i64 0, .slice none 0 0] 49)) = W at *
  generalize hg : w.heap.size = g at *
  have hgW := Lib.hid (show g < W.heap.size by have := HS2.out; omega)
  obtain ⟨a0, a1, a2, a3⟩ := two_cells K0.out
  obtain ⟨q0, q1, q2, q3⟩ := two_cells (w := W.drew) K0.out
  have hBd : Below W.heap.size W W.drew := (Below.refl _ _).drew
  have L0 : ((W.alloc (.cells #[.string x, .string y] 95)).drew).heap[g]? = _ := (heap_alloc_old W (.cells #[.string x, .string y] 95) (by exact hgW.out)).trans K0.out
  obtain ⟨l0, l1, l2, l3⟩ := two_cells L0
  have hBl : Below W.heap.size W ((W.alloc (.cells #[.string x, .string y] 95)).drew) := ((Below.refl W.heap.size W).alloc (Nat.le_refl _) _).drew
  have LO := Lib.hid (show ((W.alloc (.cells #[.string x, .string y] 95)).drew).ownsRow W.heap.size 95 2 (.slice (some ⟨W.heap.size, 0, none⟩) 1 1) 1 [.string x, .string y] from lit_own W x y)
  have LO2 := Lib.hid (show ((W.alloc (.cells #[.string x, .string y] 95)).drew).ownsRow W.heap.size 95 2 (.slice (some ⟨W.heap.size, 0, none⟩) 1 1) 1 (entCs [(x, y)]) from LO.out)
  have HL0 := Lib.hid L0
  have HBL := Lib.hid hBl
  have hble : W.heap.size ≤ ((W.alloc (.cells #[.string x, .string y] 95)).drew).heap.size := hBl.size
  have HBE := Lib.hid hble
  have z0 : (W.alloc (.cells #[.string x, .string y] 95)).cell? ⟨g, 0, none⟩ = some (.int .i64 M) := l0
  have z1 : (W.alloc (.cells #[.string x, .string y] 95)).cell? ⟨g, 1, none⟩ = some (.slice (some ⟨b, o, none⟩) n c) := l1
  have HRD := Lib.hid (hr.out.below (HB0.out.trans (HBL.out.mono (Nat.le_of_lt hgW.out))))
  have hel : (entCs L).length = n * 2 := by rw [entCs_len, hn.out]
  have hm63 : 1 + n ≤ maxLen := by unfold maxLen; omega
  have hm47 : (1 + n) * 32 ≤ 140737488355328 := by omega
  have hln := Lib.hid (show 1 + n = ((x, y) :: L).length by rw [List.length_cons, hn.out]; omega)
  clear L0 hBl hble
  go_region_law (first | ((refine step_append_lies _ (by rfl) _ _ _ (by rfl) W.heap.size 95 i0 (.agg #[.string ⟨#[]⟩, .string ⟨#[]⟩]) 2 32 Try.underlying47 HI.out HZ0.out HZ1.out HZ2.out rfl (by decide) _ 1 [.string x, .string y] (by rfl) LO.out ⟨b, o, none⟩ n c (entCs L) (by rfl) hel (news_of HRD.out) entCs_one_cell hn0 hm63 hm47 HBE.out _ rfl ?_); intro gg cap w5 hown hgrow hat hlt; have hx5 := below_grown hgrow LO.out HBE.out (Nat.le_refl _); have m5 := (hx5.block g hgW.out).trans HL0.out; obtain ⟨m0, m1, m2, m3⟩ := two_cells m5; have M5 := Lib.hid m5; have B5 := Lib.hid (HBL.out.trans hx5); have O5 := Lib.hid (add_row hown); have S5 := Lib.hid (Nat.le_trans HBE.out hx5.size); clear m5 hx5 hown hgrow hat hlt) | (go_simp; go_at_call 53; (with_reducible refine (leastN_held g W.heap.size (.int .i64 M) (.slice (some ⟨b, o, none⟩) n c) 49 _ (1 + n) ((x, y) :: L) R M W _ hgW.out M5.out O5.out hln.out hs hb1 hb2 hR B5.out S5.out).mono ?_); rintro e w6 ⟨A2, c2, rfl, hO6, h6, k0, k1, k3, hB6, hNL⟩))
  all_goals
    have hW := HS2.out
    have r0' := one_set (y := .slice A2 R.length c2) h6
    have hgn : g + 1 ≠ g := by omega
    have h7 : w6.heap[g + 1]? = _ := (hB6.block (g + 1) (by omega)).trans K1.out
    have r1' := (heap_setCell_other w6 ⟨g, 1, none⟩ (g + 1) (.slice A2 R.length c2) hgn).trans h7
    have r1'' := zero_set (y := .int .i64 M) r1'
    have hgg : g ≤ W.heap.size := Nat.le_of_lt hgW.out
    have hn3 := (((HB0.out.trans (hB6.mono hgg)).setCell (p := ⟨g, 1, none⟩) (Nat.le_refl _) (.slice A2 R.length c2)).setCell (p := ⟨g + 1, 0, none⟩) (Nat.le_succ g) (.int .i64 M)).setCell (p := ⟨g + 1, 1, none⟩) (Nat.le_succ g) (.slice A2 R.length c2)
    have hO3 := own_lower (own_rest3 (own_rest3 (own_rest3 hO6 (p := ⟨g, 1, none⟩) hgW.out (.slice A2 R.length c2)) (p := ⟨g + 1, 0, none⟩) (by show g + 1 < W.heap.size; omega) (.int .i64 M)) (p := ⟨g + 1, 1, none⟩) (by show g + 1 < W.heap.size; omega) (.slice A2 R.length c2)) (g' := g) hgg
    have R3 := Lib.hid (one_set (y := .slice A2 R.length c2) r1'')
    have HN3 := Lib.hid hn3
    have HO3 := Lib.hid hO3
    obtain ⟨b1, b2, b3, b4⟩ := two_cells r0'
    obtain ⟨d1, d2, d3, d4⟩ := two_cells r1'
    obtain ⟨f1, f2, f3, f4⟩ := two_cells r1''
    clear r0' r1' r1'' hn3 hO3 hO6 hB6 hW h6 h7
    go_wp2_with fail
    exact bodyPost_ret (v := .agg #[.int .i64 M, .slice A2 R.length c2]) (results_cell_row rfl _ _ (g + 1) 49 #[.int .i64 M, .slice A2 R.length c2] (0, 0) _ rfl R3.out Try.underlying49 rfl tabInfo) rfl ⟨_, rfl, by first | exact HO3.out | (rw [hg]; exact HO3.out), by first | exact HN3.out | (rw [hg]; exact HN3.out), hNL⟩
end Go.Proofs.Ytamgnbjdeoklbaa
